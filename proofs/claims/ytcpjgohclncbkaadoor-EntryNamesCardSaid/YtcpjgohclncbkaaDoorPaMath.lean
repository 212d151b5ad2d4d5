/-
  Paths: numbers and tags, parts, what any text is split to. Mathematics alone.
-/
import Derived.Test.YtcpjgohclncbkaaDoorNameMath
import Derived.Lib.IndexBytes
import Derived.Lib.ParseIntB
import Derived.Lib.SplitLaws
import Derived.Lib.ItoaNum
import Derived.Lib.Join
namespace Go.Proofs.YtcpjgohclncbkaaDoor
set_option maxRecDepth 100000

/-! ### The first place of a byte -/
theorem index_sep {c : UInt8} {p : List UInt8} (r : List UInt8) (h : ∀ b, b ∈ p → b ≠ c) : Lib.index (p ++ c :: r) [c] = (p.length : Int) := by
  refine Lib.index_first (by simp) ?_ ?_
  · unfold Lib.occAt
    rw [List.drop_left]
    simp
  · intro j hj
    cases ho : Lib.occAt (p ++ c :: r) [c] j with
    | false => rfl
    | true =>
      have h1 := Lib.occAt_head rfl ho
      rw [List.getElem?_append_left hj, List.getElem?_eq_getElem hj] at h1
      exact absurd (Option.some.inj h1) (h _ (List.getElem_mem hj))
theorem cut_sep {c : UInt8} {p : List UInt8} (r : List UInt8) (h : ∀ b, b ∈ p → b ≠ c) : Lib.cut (p ++ c :: r) [c] = (p, r, true) := by
  unfold Lib.cut
  rw [index_sep r h, if_pos (by omega), Int.toNat_natCast, List.take_left]
  have : (p ++ c :: r).drop (p.length + [c].length) = r := by
    rw [← List.drop_drop, List.drop_left]
    rfl
  rw [this]
/-! ### Numbers in digits -/
def digitC (c : UInt8) : Bool := decide (48 ≤ c.toNat) && decide (c.toNat ≤ 57)
theorem digitC_iff {c : UInt8} : digitC c = true ↔ 48 ≤ c.toNat ∧ c.toNat ≤ 57 := by unfold digitC; simp
def valD (n : Nat) : List UInt8 → Nat
  | [] => n
  | c :: r => valD (10 * n + (c.toNat - 48)) r
theorem valD_append (a b : List UInt8) (n : Nat) : valD n (a ++ b) = valD (valD n a) b := by
  induction a generalizing n with
  | nil => rfl
  | cons c r ih => exact ih _
theorem digit_toNat {d : Nat} (h : d < 10) : (UInt8.ofNat (48 + d)).toNat = 48 + d := by
  rw [UInt8.toNat_ofNat']; omega
theorem digits_mem (u : Nat) : ∀ b, b ∈ Lib.decDigits u → digitC b = true := by
  induction u using Nat.strongRecOn with
  | _ u ih =>
    intro b hb
    rw [Lib.decDigits] at hb
    split at hb
    · obtain rfl := List.mem_singleton.1 hb
      rw [digitC_iff, digit_toNat (by omega)]
      omega
    · rcases List.mem_append.1 hb with h | h
      · exact ih (u / 10) (by omega) b h
      · obtain rfl := List.mem_singleton.1 h
        rw [digitC_iff, digit_toNat (by omega)]
        omega
theorem digits_val (m : Nat) : valD 0 (Lib.decDigits m) = m := by
  induction m using Nat.strongRecOn with
  | _ m ih =>
    rw [Lib.decDigits]
    split
    · show 10 * 0 + ((UInt8.ofNat (48 + m)).toNat - 48) = m
      rw [digit_toNat (by omega)]; omega
    · rw [valD_append, ih (m / 10) (by omega)]
      show 10 * (m / 10) + ((UInt8.ofNat (48 + m % 10)).toNat - 48) = m
      rw [digit_toNat (by omega)]; omega
/-! ### Parts -/
/-- A tag, and the name with it. -/
def tagB (r q : Nat) : List UInt8 := Lib.decDigits r ++ 46 :: Lib.decDigits q
def tagT (name : List UInt8) (r q : Nat) : List UInt8 := name ++ 126 :: tagB r q
theorem digits_46 (u : Nat) : ∀ b, b ∈ Lib.decDigits u → b ≠ 46 := fun b hb e => by have := digits_mem u b hb; subst e; cases this
theorem digits_inj {a b : Nat} (h : Lib.decDigits a = Lib.decDigits b) : a = b := by
  have := congrArg (valD 0) h
  rwa [digits_val, digits_val] at this
theorem tag_inj {name : List UInt8} {r q r' q' : Nat} : tagT name r q = tagT name r' q' ↔ r = r' ∧ q = q' := by
  constructor
  · intro h
    unfold tagT at h
    have h2 : tagB r q = tagB r' q' := by simpa using h
    unfold tagB at h2
    have h3 := congrArg (fun l => Lib.cut l [46]) h2
    simp only [cut_sep _ (digits_46 r), cut_sep _ (digits_46 r')] at h3
    injection h3 with h4 h5
    injection h5 with h6 h7
    exact ⟨digits_inj h4, digits_inj h6⟩
  · rintro ⟨rfl, rfl⟩; rfl

/-! ### Splitting -/
end Go.Proofs.YtcpjgohclncbkaaDoor
