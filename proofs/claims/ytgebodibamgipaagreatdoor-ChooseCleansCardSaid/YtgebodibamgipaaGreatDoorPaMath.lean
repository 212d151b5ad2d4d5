/-
  Paths: numbers and tags, parts, what any text is split to. Mathematics alone.
-/
import Derived.Test.YtgebodibamgipaaGreatDoorNameMath
import Derived.Lib.IndexBytes
import Derived.Lib.ParseIntB
import Derived.Lib.SplitLaws
import Derived.Lib.ItoaNum
import Derived.Lib.Join
namespace Go.Proofs.YtgebodibamgipaaGreatDoor
set_option maxRecDepth 100000

/-! ### The first place of a byte -/
theorem index_sep {c : UInt8} {p : List UInt8} (r : List UInt8) (h : ∀ b, b ∈ p → b ≠ c) : Lib.index (p ++ c :: r) [c] = (p.length : Int) := by
  refine Lib.index_first (by simp) ?_ ?_
  · unfold Lib.occAt
    rw [List.drop_left]
    simp
  · intro j hj
    cases ho : Lib.occAt (p ++ c :: r) [c] j with
    | false => rfl
    | true =>
      have h1 := Lib.occAt_head rfl ho
      rw [List.getElem?_append_left hj, List.getElem?_eq_getElem hj] at h1
      exact absurd (Option.some.inj h1) (h _ (List.getElem_mem hj))
theorem index_nosep {c : UInt8} {p : List UInt8} (h : ∀ b, b ∈ p → b ≠ c) : Lib.index p [c] = -1 := by
  refine Lib.index_none ?_
  intro j _
  cases ho : Lib.occAt p [c] j with
  | false => rfl
  | true =>
    have h1 := Lib.occAt_head rfl ho
    obtain ⟨hj, h2⟩ := List.getElem?_eq_some_iff.1 h1
    exact absurd h2 (h _ (List.getElem_mem hj))
theorem cut_sep {c : UInt8} {p : List UInt8} (r : List UInt8) (h : ∀ b, b ∈ p → b ≠ c) : Lib.cut (p ++ c :: r) [c] = (p, r, true) := by
  unfold Lib.cut
  rw [index_sep r h, if_pos (by omega), Int.toNat_natCast, List.take_left]
  have : (p ++ c :: r).drop (p.length + [c].length) = r := by
    rw [← List.drop_drop, List.drop_left]
    rfl
  rw [this]
theorem cut_nosep {c : UInt8} {p : List UInt8} (h : ∀ b, b ∈ p → b ≠ c) : Lib.cut p [c] = (p, [], false) := by
  unfold Lib.cut
  rw [index_nosep h, if_neg (by omega)]
/-- Any text: no c in it, or what comes ahead of the first one, and what comes behind. -/
theorem first_byte (c : UInt8) (s : List UInt8) : (∀ b, b ∈ s → b ≠ c) ∨ ∃ p r, s = p ++ c :: r ∧ ∀ b, b ∈ p → b ≠ c := by
  induction s with
  | nil => exact .inl fun b hb => by cases hb
  | cons x t ih =>
    by_cases hx : x = c
    · subst hx; exact .inr ⟨[], t, rfl, fun b hb => by cases hb⟩
    · rcases ih with h | ⟨p, r, rfl, h⟩
      · refine .inl fun b hb => ?_
        rcases List.mem_cons.1 hb with rfl | hb
        · exact hx
        · exact h b hb
      · refine .inr ⟨x :: p, r, rfl, fun b hb => ?_⟩
        rcases List.mem_cons.1 hb with rfl | hb
        · exact hx
        · exact h b hb
theorem cut_left_le {c : UInt8} (p : List UInt8) : (Lib.cut p [c]).1.length ≤ p.length := by
  rcases first_byte c p with h | ⟨a, r, rfl, h⟩
  · rw [cut_nosep h]; exact Nat.le_refl _
  · rw [cut_sep r h]; simp
theorem cut_right_le {c : UInt8} (p : List UInt8) : (Lib.cut p [c]).2.1.length ≤ p.length := by
  rcases first_byte c p with h | ⟨a, r, rfl, h⟩
  · rw [cut_nosep h]; exact Nat.zero_le _
  · rw [cut_sep r h]; simp; omega

/-! ### Numbers in digits -/
def digitC (c : UInt8) : Bool := decide (48 ≤ c.toNat) && decide (c.toNat ≤ 57)
theorem digitC_iff {c : UInt8} : digitC c = true ↔ 48 ≤ c.toNat ∧ c.toNat ≤ 57 := by unfold digitC; simp
def valD (n : Nat) : List UInt8 → Nat
  | [] => n
  | c :: r => valD (10 * n + (c.toNat - 48)) r
theorem valD_ge (l : List UInt8) (n : Nat) : n ≤ valD n l := by
  induction l generalizing n with
  | nil => exact Nat.le_refl _
  | cons c r ih => exact Nat.le_trans (by omega) (ih _)
theorem valD_append (a b : List UInt8) (n : Nat) : valD n (a ++ b) = valD (valD n a) b := by
  induction a generalizing n with
  | nil => rfl
  | cons c r ih => exact ih _
/-- What the program asks of a number: it is read, and written so. -/
def numOk (s : List UInt8) : Bool := match Lib.parseUintB 32 s with
  | .ok u => Lib.decDigits u == s
  | _ => false
theorem digit_toNat {d : Nat} (h : d < 10) : (UInt8.ofNat (48 + d)).toNat = 48 + d := by
  rw [UInt8.toNat_ofNat']; omega
theorem byte_of (c : UInt8) {n : Nat} (h : c.toNat = n) : c = UInt8.ofNat n := by rw [← h]; exact (UInt8.ofNat_toNat).symm
theorem digits_mem (u : Nat) : ∀ b, b ∈ Lib.decDigits u → digitC b = true := by
  induction u using Nat.strongRecOn with
  | _ u ih =>
    intro b hb
    rw [Lib.decDigits] at hb
    split at hb
    · obtain rfl := List.mem_singleton.1 hb
      rw [digitC_iff, digit_toNat (by omega)]
      omega
    · rcases List.mem_append.1 hb with h | h
      · exact ih (u / 10) (by omega) b h
      · obtain rfl := List.mem_singleton.1 h
        rw [digitC_iff, digit_toNat (by omega)]
        omega
theorem digits_ne (m : Nat) : Lib.decDigits m ≠ [] := by
  rw [Lib.decDigits]
  split <;> simp
theorem digits_val (m : Nat) : valD 0 (Lib.decDigits m) = m := by
  induction m using Nat.strongRecOn with
  | _ m ih =>
    rw [Lib.decDigits]
    split
    · show 10 * 0 + ((UInt8.ofNat (48 + m)).toNat - 48) = m
      rw [digit_toNat (by omega)]; omega
    · rw [valD_append, ih (m / 10) (by omega)]
      show 10 * (m / 10) + ((UInt8.ofNat (48 + m % 10)).toNat - 48) = m
      rw [digit_toNat (by omega)]; omega
theorem digits_head (m : Nat) (h : (Lib.decDigits m).head? = some 48) : m = 0 := by
  induction m using Nat.strongRecOn with
  | _ m ih =>
    rw [Lib.decDigits] at h
    split at h
    · have := congrArg UInt8.toNat (Option.some.inj h)
      rw [digit_toNat (by omega)] at this
      have h48 : (48 : UInt8).toNat = 48 := rfl
      omega
    · have hne := digits_ne (m / 10)
      have h2 : (Lib.decDigits (m / 10)).head? = some 48 := by
        cases hd : Lib.decDigits (m / 10) with
        | nil => exact absurd hd hne
        | cons a r => rw [hd] at h; exact h
      have := ih (m / 10) (by omega) h2
      omega
theorem digits_one_zero {m : Nat} (h : 2 ≤ (Lib.decDigits m).length) : (Lib.decDigits m).head? ≠ some 48 := fun hh => by
  have := digits_head m hh
  subst this
  rw [Lib.decDigits] at h
  simp at h
/-- Digits without a needless zero ahead are the number's own. -/
theorem digits_own (l : List UInt8) (h0 : l ≠ []) (hd : ∀ b, b ∈ l → digitC b = true) (hz : ¬ (l.head? = some 48 ∧ 2 ≤ l.length)) : Lib.decDigits (valD 0 l) = l := by
  induction hn : l.length generalizing l with
  | zero => exact absurd (List.length_eq_zero_iff.1 hn) h0
  | succ n ih =>
    obtain ⟨t, x, rfl⟩ : ∃ t x, l = t ++ [x] := ⟨l.dropLast, l.getLast h0, (List.dropLast_concat_getLast h0).symm⟩
    have hx := digitC_iff.1 (hd x (by simp))
    have hxe : x = UInt8.ofNat (48 + (x.toNat - 48)) := byte_of x (by omega)
    rw [valD_append]
    show Lib.decDigits (10 * valD 0 t + (x.toNat - 48)) = t ++ [x]
    by_cases ht : t = []
    · subst ht
      show Lib.decDigits (10 * 0 + (x.toNat - 48)) = [x]
      rw [Nat.mul_zero, Nat.zero_add, Lib.decDigits_one (by omega), ← hxe]
    · have hlen : t.length = n := by simpa using hn
      have hpos : 0 < t.length := List.length_pos_iff.2 ht
      have hhead : (t ++ [x]).head? = t.head? := by cases t with
        | nil => exact absurd rfl ht
        | cons a r => rfl
      have h48 : t.head? ≠ some 48 := fun e => hz ⟨by rw [hhead]; exact e, by simp; omega⟩
      have iht := ih t ht (fun b hb => hd b (by simp [hb])) (fun h => h48 h.1) hlen
      have hv : 1 ≤ valD 0 t := by
        rcases Nat.eq_zero_or_pos (valD 0 t) with h | h
        · rw [h] at iht
          rw [← iht] at h48
          exact absurd (by rw [Lib.decDigits_one (by omega)]; rfl) h48
        · exact h
      rw [Lib.decDigits, dif_neg (by omega)]
      have e1 : (10 * valD 0 t + (x.toNat - 48)) / 10 = valD 0 t := by omega
      have e2 : (10 * valD 0 t + (x.toNat - 48)) % 10 = x.toNat - 48 := by omega
      rw [e1, e2, iht, ← hxe]
theorem parse_digits (l : List UInt8) (acc : Nat) (ha : acc ≤ 4294967295) (hd : ∀ b, b ∈ l → digitC b = true) : Lib.parseUintM 4294967295 acc l = if valD acc l ≤ 4294967295 then .ok (valD acc l) else .range := by
  induction l generalizing acc with
  | nil => rw [Lib.parseUintM]; exact (if_pos ha).symm
  | cons c r ih =>
    have hc := digitC_iff.1 (hd c (by simp))
    rw [Lib.parseUintM, if_pos hc, if_neg (by omega)]
    show _ = if valD (10 * acc + (c.toNat - 48)) r ≤ 4294967295 then _ else _
    have e : acc * 10 + (c.toNat - 48) = 10 * acc + (c.toNat - 48) := by omega
    rw [e]
    by_cases hb : 4294967295 < 10 * acc + (c.toNat - 48)
    · rw [if_pos hb, if_neg (by have := valD_ge r (10 * acc + (c.toNat - 48)); omega)]
    · rw [if_neg hb, ih _ (by omega) (fun b hb => hd b (by simp [hb]))]
      rfl
theorem parse_bad (l : List UInt8) (acc : Nat) (x : UInt8) (hx : x ∈ l) (hd : digitC x = false) : ∀ u, Lib.parseUintM 4294967295 acc l ≠ .ok u := by
  induction l generalizing acc with
  | nil => cases hx
  | cons c r ih =>
    intro u h
    rw [Lib.parseUintM] at h
    split at h
    · rename_i hc
      split at h
      · cases h
      · split at h
        · cases h
        · rcases List.mem_cons.1 hx with rfl | hx
          · rw [digitC_iff.2 hc] at hd; cases hd
          · exact ih _ hx u h
    · cases h
/-- A number, in plain words. -/
theorem numOk_iff (s : List UInt8) : numOk s = true ↔ s ≠ [] ∧ (∀ b, b ∈ s → digitC b = true) ∧ valD 0 s ≤ 4294967295 ∧ ¬ (s.head? = some 48 ∧ 2 ≤ s.length) := by
  unfold numOk Lib.parseUintB
  by_cases h0 : s = []
  · subst h0; simp
  · rw [if_neg h0]
    by_cases hd : ∀ b, b ∈ s → digitC b = true
    · have hp : Lib.parseUintM (2 ^ 32 - 1) 0 s = if valD 0 s ≤ 4294967295 then .ok (valD 0 s) else .range := parse_digits s 0 (by omega) hd
      rw [hp]
      by_cases hv : valD 0 s ≤ 4294967295
      · rw [if_pos hv]
        show (Lib.decDigits (valD 0 s) == s) = true ↔ _
        rw [beq_iff_eq]
        refine ⟨fun h => ⟨h0, hd, hv, fun hz => ?_⟩, fun h => digits_own s h0 hd h.2.2.2⟩
        rw [← h] at hz
        exact digits_one_zero hz.2 hz.1
      · rw [if_neg hv]
        exact ⟨fun h => (by cases h), fun h => absurd h.2.2.1 hv⟩
    · obtain ⟨x, hx, hxd⟩ : ∃ x, x ∈ s ∧ digitC x = false := by
        have := Classical.not_forall.1 hd
        obtain ⟨x, hx⟩ := this
        have hx2 := Classical.not_imp.1 hx
        exact ⟨x, hx2.1, by simpa using hx2.2⟩
      have hb := parse_bad s 0 x hx hxd
      have hb' : ∀ u, Lib.parseUintM (2 ^ 32 - 1) 0 s ≠ .ok u := hb
      refine ⟨fun h => ?_, fun h => absurd h.2.1 hd⟩
      rcases hp : Lib.parseUintM (2 ^ 32 - 1) 0 s with u | _ | _
      · exact absurd hp (hb' u)
      · rw [hp] at h; cases h
      · rw [hp] at h; cases h
theorem numOk_digits {u : Nat} (h : u < 4294967296) : numOk (Lib.decDigits u) = true := (numOk_iff _).2 ⟨digits_ne u, digits_mem u, by rw [digits_val]; omega, fun hz => digits_one_zero hz.2 hz.1⟩
theorem numOk_mem {s : List UInt8} (h : numOk s = true) {b : UInt8} (hb : b ∈ s) : digitC b = true := ((numOk_iff s).1 h).2.1 b hb
theorem numOk_no {s : List UInt8} {b : UInt8} (hb : b ∈ s) (hd : digitC b = false) : numOk s = false := by
  cases h : numOk s with
  | false => rfl
  | true => rw [numOk_mem h hb] at hd; cases hd

/-- The document's reading of a number: how many digits it has; h: it begins with a zero. -/
def scanN (h : Bool) : Nat → Nat → List UInt8 → Option Nat
  | _, k, [] => if k = 0 then none else some k
  | n, k, c :: r => if digitC c = true then (if 4294967295 < 10 * n + (c.toNat - 48) ∨ (0 < k ∧ h = true) then none else scanN h (10 * n + (c.toNat - 48)) (k + 1) r) else (if k = 0 then none else some k)
def numE (t : List UInt8) : Option Nat := scanN (t.head? == some 48) 0 0 t
theorem scan_run (h : Bool) (D t : List UInt8) (n k : Nat) (hD : ∀ b, b ∈ D → digitC b = true) (ht : ∀ c r, t = c :: r → digitC c = false) (hn : n ≤ 4294967295) :
    scanN h n k (D ++ t) = if valD n D ≤ 4294967295 ∧ ¬ (h = true ∧ D ≠ [] ∧ 2 ≤ k + D.length) ∧ k + D.length ≠ 0 then some (k + D.length) else none := by
  induction D generalizing n k with
  | nil =>
    have e : scanN h n k t = if k = 0 then none else some k := by
      cases t with
      | nil => rfl
      | cons c r => rw [scanN, ht c r rfl]; simp
    rw [List.nil_append, e]
    by_cases hk : k = 0
    · rw [if_pos hk, if_neg (fun hh => hh.2.2 (by simp [hk]))]
    · rw [if_neg hk, if_pos ⟨hn, fun hh => hh.2.1 rfl, by simp [hk]⟩]
      rfl
  | cons c r ih =>
    have hc : digitC c = true := hD c (by simp)
    rw [List.cons_append, scanN, if_pos hc]
    have e0 : valD n (c :: r) = valD (10 * n + (c.toNat - 48)) r := rfl
    rw [e0]
    by_cases hx : 4294967295 < 10 * n + (c.toNat - 48) ∨ (0 < k ∧ h = true)
    · rw [if_pos hx, if_neg]
      rintro ⟨h1, h2, _⟩
      rcases hx with hx | ⟨hx, hx2⟩
      · have := valD_ge r (10 * n + (c.toNat - 48)); omega
      · exact h2 ⟨hx2, by simp, by simp; omega⟩
    · rw [if_neg hx, ih _ _ (fun b hb => hD b (by simp [hb])) (by have := fun hh => hx (.inl hh); omega)]
      have e1 : k + 1 + r.length = k + (c :: r).length := by simp; omega
      rw [e1]
      have e2 : (h = true ∧ r ≠ [] ∧ 2 ≤ k + (c :: r).length) ↔ (h = true ∧ c :: r ≠ [] ∧ 2 ≤ k + (c :: r).length) := by
        constructor
        · exact fun hh => ⟨hh.1, by simp, hh.2.2⟩
        · rintro ⟨h1, _, h3⟩
          refine ⟨h1, ?_, h3⟩
          intro e
          subst e
          have : k = 0 := by
            rcases Nat.eq_zero_or_pos k with h | h
            · exact h
            · exact absurd (.inr ⟨h, h1⟩) hx
          subst this
          simp at h3
      exact ite_congr (propext (and_congr_right fun _ => and_congr_left fun _ => not_congr e2)) (fun _ => rfl) (fun _ => rfl)
theorem numE_eq {D t : List UInt8} (hD : ∀ b, b ∈ D → digitC b = true) (ht : ∀ c r, t = c :: r → digitC c = false) : numE (D ++ t) = if numOk D = true then some D.length else none := by
  unfold numE
  rw [scan_run _ D t 0 0 hD ht (by omega), Nat.zero_add]
  have e : (valD 0 D ≤ 4294967295 ∧ ¬ (((D ++ t).head? == some 48) = true ∧ D ≠ [] ∧ 2 ≤ D.length) ∧ D.length ≠ 0) ↔ numOk D = true := by
    rw [numOk_iff]
    cases D with
    | nil => simp
    | cons a r =>
      simp only [List.cons_append, List.head?_cons, beq_iff_eq]
      constructor
      · rintro ⟨h1, h2, _⟩
        exact ⟨by simp, hD, h1, fun h => h2 ⟨h.1, by simp, h.2⟩⟩
      · rintro ⟨_, _, h1, h2⟩
        exact ⟨h1, fun h => h2 ⟨h.1, h.2.2⟩, by simp⟩
  by_cases hh : numOk D = true
  · rw [if_pos hh, if_pos (e.2 hh)]
  · rw [if_neg hh, if_neg (fun h => hh (e.1 h))]
theorem digits_parts (t : List UInt8) : ∃ D r, t = D ++ r ∧ (∀ b, b ∈ D → digitC b = true) ∧ ∀ c q, r = c :: q → digitC c = false := by
  induction t with
  | nil => exact ⟨[], [], rfl, fun b hb => (by cases hb), fun c q h => (by cases h)⟩
  | cons x t ih =>
    by_cases hx : digitC x = true
    · obtain ⟨D, r, rfl, h1, h2⟩ := ih
      refine ⟨x :: D, r, rfl, fun b hb => ?_, h2⟩
      rcases List.mem_cons.1 hb with rfl | hb
      · exact hx
      · exact h1 b hb
    · refine ⟨[], x :: t, rfl, fun b hb => (by cases hb), fun c q h => ?_⟩
      cases h
      simpa using hx
theorem numE_all (s : List UInt8) : (numE s == some s.length) = numOk s := by
  obtain ⟨D, r, rfl, h1, h2⟩ := digits_parts s
  rw [numE_eq h1 h2]
  cases r with
  | nil =>
    rw [List.append_nil]
    by_cases h : numOk D = true
    · rw [if_pos h, h]; simp
    · rw [if_neg h]; simp at h; rw [h]; rfl
  | cons c q =>
    have hc := h2 c q rfl
    rw [numOk_no (s := D ++ c :: q) (b := c) (by simp) hc]
    by_cases h : numOk D = true
    · rw [if_pos h]
      simp
    · rw [if_neg h]; rfl

/-! ### Parts -/
def lostT : List UInt8 := [108, 111, 115, 116, 43, 102, 111, 117, 110, 100]
/-- Two numbers with a point between them. -/
def numsOk (t : List UInt8) : Bool := (Lib.cut t [46]).2.2 && numOk (Lib.cut t [46]).1 && numOk (Lib.cut t [46]).2.1
/-- As the program has it. -/
def partB (s : List UInt8) : Bool := (s == lostT) || (nameB (Lib.cut s [126]).1 && (!(Lib.cut s [126]).2.2 || numsOk (Lib.cut s [126]).2.1))
/-- As the document has it: the numbers behind a ~. -/
def numsE (t : List UInt8) : Bool := match numE t with
  | none => false
  | some k => t[k]? == some 46 && numE (t.drop (k + 1)) == some (t.drop (k + 1)).length
theorem numsE_eq (t : List UInt8) : numsE t = numsOk t := by
  obtain ⟨D, r, rfl, h1, h2⟩ := digits_parts t
  have hD46 : ∀ b, b ∈ D → b ≠ 46 := fun b hb e => by have := h1 b hb; subst e; cases this
  unfold numsE
  rw [numE_eq h1 h2]
  cases r with
  | nil =>
    unfold numsOk
    rw [List.append_nil, cut_nosep hD46]
    by_cases h : numOk D = true
    · rw [if_pos h]; simp
    · rw [if_neg h]; rfl
  | cons c q =>
    by_cases hc : c = 46
    · subst hc
      unfold numsOk
      rw [cut_sep q hD46]
      by_cases h : numOk D = true
      · rw [if_pos h]
        have e1 : (D ++ (46 : UInt8) :: q)[D.length]? = some 46 := by simp
        have e2 : (D ++ (46 : UInt8) :: q).drop (D.length + 1) = q := by rw [← List.drop_drop, List.drop_left]; rfl
        show ((D ++ (46 : UInt8) :: q)[D.length]? == some 46 && numE ((D ++ (46 : UInt8) :: q).drop (D.length + 1)) == some ((D ++ (46 : UInt8) :: q).drop (D.length + 1)).length) = (true && numOk D && numOk q)
        rw [e1, e2, h, numE_all]
        rfl
      · rw [if_neg h]; simp at h; simp [h]
    · have hcd := h2 c q rfl
      have hl : numOk (Lib.cut (D ++ c :: q) [46]).1 = false := by
        rcases first_byte 46 (D ++ c :: q) with hn | ⟨p, r, hp, hn⟩
        · rw [cut_nosep hn]
          exact numOk_no (b := c) (by simp) hcd
        · rw [hp, cut_sep r hn]
          refine numOk_no (b := c) ?_ hcd
          have hlen : D.length < p.length := by
            rcases Nat.lt_or_ge D.length p.length with h | h
            · exact h
            · have e1 : (D ++ c :: q)[p.length]? = some 46 := by rw [hp]; simp
              rcases Nat.lt_or_ge p.length D.length with h' | h'
              · rw [List.getElem?_append_left h'] at e1
                have := List.mem_of_getElem? e1
                exact absurd rfl (hD46 46 this)
              · have he : p.length = D.length := by omega
                rw [he] at e1
                simp at e1
                exact absurd e1 hc
          have e3 : (D ++ c :: q)[D.length]? = some c := by simp
          rw [hp, List.getElem?_append_left hlen] at e3
          exact List.mem_of_getElem? e3
      unfold numsOk
      rw [hl, Bool.and_false, Bool.false_and]
      by_cases h : numOk D = true
      · rw [if_pos h]
        have e1 : (D ++ c :: q)[D.length]? = some c := by simp
        show ((D ++ c :: q)[D.length]? == some 46 && _) = false
        rw [e1]
        have : ((some c : Option UInt8) == some 46) = false := by simpa using hc
        rw [this, Bool.false_and]
      · rw [if_neg h]
theorem name_tilde {s : List UInt8} (h : (126 : UInt8) ∈ s) : nameB s = false := by
  unfold nameB
  have : (s.all fun c => letterN c.toNat) = false := by
    rw [List.all_eq_false]
    exact ⟨126, h, by decide⟩
  rw [this, Bool.and_false]
theorem lost_tilde : (126 : UInt8) ∉ lostT := by decide
theorem part_plain {s : List UInt8} (h : ∀ b, b ∈ s → b ≠ 126) : partB s = ((s == lostT) || nameB s) := by
  unfold partB
  rw [cut_nosep h]
  simp
theorem part_tagged {p r : List UInt8} (h : ∀ b, b ∈ p → b ≠ 126) : partB (p ++ 126 :: r) = (nameB p && numsOk r) := by
  unfold partB
  rw [cut_sep r h]
  have : (p ++ (126 : UInt8) :: r == lostT) = false := by
    rw [beq_eq_false_iff_ne]
    intro e
    exact lost_tilde (by rw [← e]; simp)
  rw [this]
  simp
theorem digit_tilde {s : List UInt8} (h : (126 : UInt8) ∈ s) : numOk s = false := numOk_no h rfl
/-- A tag, and the name with it. -/
def tagB (r q : Nat) : List UInt8 := Lib.decDigits r ++ 46 :: Lib.decDigits q
def tagT (name : List UInt8) (r q : Nat) : List UInt8 := name ++ 126 :: tagB r q
theorem digits_46 (u : Nat) : ∀ b, b ∈ Lib.decDigits u → b ≠ 46 := fun b hb e => by have := digits_mem u b hb; subst e; cases this
theorem digits_126 (u : Nat) : ∀ b, b ∈ Lib.decDigits u → b ≠ 126 := fun b hb e => by have := digits_mem u b hb; subst e; cases this
theorem nums_tag {r q : Nat} (hr : r < 4294967296) (hq : q < 4294967296) : numsOk (tagB r q) = true := by
  unfold numsOk tagB
  rw [cut_sep _ (digits_46 r), numOk_digits hr, numOk_digits hq]
  rfl
theorem nums_tilde {t : List UInt8} (h : (126 : UInt8) ∈ t) : numsOk t = false := by
  unfold numsOk
  rcases first_byte 46 t with hn | ⟨p, r, rfl, hn⟩
  · rw [cut_nosep hn]; rfl
  · rw [cut_sep r hn]
    rcases List.mem_append.1 h with h | h
    · show (true && numOk p && numOk r) = false
      rw [digit_tilde h]; rfl
    · rcases List.mem_cons.1 h with h | h
      · cases h
      · show (true && numOk p && numOk r) = false
        rw [digit_tilde h, Bool.and_false]
/-- A name with a tag is a part just if it is a name. -/
theorem part_tag (name : List UInt8) {r q : Nat} (hr : r < 4294967296) (hq : q < 4294967296) : partB (tagT name r q) = nameB name := by
  unfold tagT
  rcases first_byte 126 name with hn | ⟨p, t, rfl, hn⟩
  · rw [part_tagged hn, nums_tag hr hq, Bool.and_true]
  · have e : p ++ 126 :: t ++ 126 :: tagB r q = p ++ 126 :: (t ++ 126 :: tagB r q) := by simp
    rw [e, part_tagged hn, nums_tilde (by simp), Bool.and_false, name_tilde (by simp)]
theorem name_tag (name : List UInt8) (r q : Nat) : nameB (tagT name r q) = false := name_tilde (by unfold tagT; simp)
theorem digits_inj {a b : Nat} (h : Lib.decDigits a = Lib.decDigits b) : a = b := by
  have := congrArg (valD 0) h
  rwa [digits_val, digits_val] at this
theorem tag_inj {name : List UInt8} {r q r' q' : Nat} : tagT name r q = tagT name r' q' ↔ r = r' ∧ q = q' := by
  constructor
  · intro h
    unfold tagT at h
    have h2 : tagB r q = tagB r' q' := by simpa using h
    unfold tagB at h2
    have h3 := congrArg (fun l => Lib.cut l [46]) h2
    simp only [cut_sep _ (digits_46 r), cut_sep _ (digits_46 r')] at h3
    injection h3 with h4 h5
    injection h5 with h6 h7
    exact ⟨digits_inj h4, digits_inj h6⟩
  · rintro ⟨rfl, rfl⟩; rfl

/-! ### Splitting -/
def spl (s : List UInt8) : List (List UInt8) := Lib.split s [47]
theorem spl_one {s : List UInt8} (h : ∀ b, b ∈ s → b ≠ 47) : spl s = [s] := by
  unfold spl Lib.split
  rw [Lib.count_one, List.count_eq_zero.2 (fun hm => h _ hm rfl)]
  rfl
theorem spl_more {p : List UInt8} (r : List UInt8) (h : ∀ b, b ∈ p → b ≠ 47) : spl (p ++ 47 :: r) = p :: spl r := by
  unfold spl Lib.split
  rw [Lib.count_one, Lib.count_one, List.count_append, List.count_eq_zero.2 (fun hm => h _ hm rfl), List.count_cons_self]
  rw [Nat.zero_add, Lib.splitK, index_sep r h]
  rw [if_neg (by simp)]
  have e1 : ((p.length : Int)).toNat = p.length := by omega
  have e2 : (p ++ (47 : UInt8) :: r).drop (p.length + [(47 : UInt8)].length) = r := by rw [← List.drop_drop, List.drop_left]; rfl
  rw [e1, e2, Nat.add_zero, List.take_left]
theorem spl_ne (s : List UInt8) : spl s ≠ [] := by
  rcases first_byte 47 s with h | ⟨p, r, rfl, h⟩
  · rw [spl_one h]; simp
  · rw [spl_more r h]; simp
theorem spl_split (n : Nat) : ∀ s : List UInt8, s.length ≤ n → (∀ p, p ∈ spl s → ∀ b, b ∈ p → b ≠ 47) ∧ Lib.join (spl s) [47] = s := by
  induction n with
  | zero =>
    intro s hs
    have : s = [] := List.length_eq_zero_iff.1 (by omega)
    subst this
    rw [spl_one (fun b hb => by cases hb)]
    exact ⟨fun p hp b hb => (by rw [List.mem_singleton.1 hp] at hb; cases hb), Lib.join_one _ _⟩
  | succ n ih =>
    intro s hs
    rcases first_byte 47 s with h | ⟨p, r, rfl, h⟩
    · rw [spl_one h]
      exact ⟨fun q hq b hb => (by rw [List.mem_singleton.1 hq] at hb; exact h b hb), Lib.join_one _ _⟩
    · rw [spl_more r h]
      obtain ⟨h1, h2⟩ := ih r (by simp at hs; omega)
      refine ⟨fun q hq => ?_, ?_⟩
      · rcases List.mem_cons.1 hq with rfl | hq
        · exact h
        · exact h1 q hq
      · rw [Lib.join_cons]
        cases hr : spl r with
        | nil => exact absurd hr (spl_ne r)
        | cons a q =>
          rw [hr, Lib.join_cons] at h2
          show p ++ (([47] ++ a) ++ Lib.joinTail [47] q) = _
          rw [List.append_assoc, h2]
          rfl
theorem join_spl (s : List UInt8) : Lib.join (spl s) [47] = s := (spl_split s.length s (Nat.le_refl _)).2
theorem spl_join (L : List (List UInt8)) (h0 : L ≠ []) (h : ∀ p, p ∈ L → ∀ b, b ∈ p → b ≠ 47) : spl (Lib.join L [47]) = L := by
  induction L with
  | nil => exact absurd rfl h0
  | cons p r ih =>
    rw [Lib.join_cons]
    cases r with
    | nil =>
      show spl (p ++ []) = _
      rw [List.append_nil, spl_one (h p (by simp))]
    | cons a q =>
      have e : p ++ Lib.joinTail [47] (a :: q) = p ++ 47 :: Lib.join (a :: q) [47] := by
        rw [Lib.join_cons]
        show p ++ (([47] ++ a) ++ Lib.joinTail [47] q) = _
        simp
      rw [e, spl_more _ (h p (by simp)), ih (by simp) (fun x hx => h x (by simp [hx]))]
theorem name_slash {s : List UInt8} (h : (47 : UInt8) ∈ s) : nameB s = false := by
  unfold nameB
  have : (s.all fun c => letterN c.toNat) = false := by
    rw [List.all_eq_false]
    exact ⟨47, h, by decide⟩
  rw [this, Bool.and_false]
theorem part_slash {s : List UInt8} (h : partB s = true) : ∀ b, b ∈ s → b ≠ 47 := by
  intro b hb e
  subst e
  rcases first_byte 126 s with hn | ⟨p, r, rfl, hn⟩
  · rw [part_plain hn, name_slash hb, Bool.or_false, beq_iff_eq] at h
    subst h
    exact absurd hb (by decide)
  · rw [part_tagged hn] at h
    simp only [Bool.and_eq_true] at h
    rcases List.mem_append.1 hb with hb | hb
    · rw [name_slash hb] at h; cases h.1
    · rcases List.mem_cons.1 hb with hb | hb
      · cases hb
      · have h2 := h.2
        unfold numsOk at h2
        rcases first_byte 46 r with hq | ⟨x, y, rfl, hq⟩
        · rw [cut_nosep hq] at h2; cases h2
        · rw [cut_sep y hq] at h2
          simp only [Bool.true_and, Bool.and_eq_true] at h2
          rcases List.mem_append.1 hb with hb | hb
          · have := numOk_mem h2.1 hb; cases this
          · rcases List.mem_cons.1 hb with hb | hb
            · cases hb
            · have := numOk_mem h2.2 hb; cases this
theorem part_empty : partB [] = false := by rw [part_plain (fun b hb => by cases hb)]; rfl

/-- The parts of a path, or that a text is none. -/
def splitV (s : List UInt8) : Option (List (List UInt8)) :=
  if s = [47] then some []
  else if s.length ≤ 120 ∧ s.head? = some 47 ∧ (spl s.tail).length ≤ 10 ∧ (spl s.tail).all partB = true then some (spl s.tail) else none
def pathT (L : List (List UInt8)) : List UInt8 := 47 :: Lib.join L [47]
theorem split_path {s : List UInt8} {L : List (List UInt8)} (h : splitV s = some L) : s = pathT L ∧ L.length ≤ 10 ∧ s.length ≤ 120 ∧ ∀ p, p ∈ L → partB p = true := by
  unfold splitV at h
  split at h
  · rename_i h1
    cases h
    exact ⟨h1, by simp, by rw [h1]; simp, fun p hp => by cases hp⟩
  · split at h
    · rename_i h2
      cases h
      refine ⟨?_, h2.2.2.1, h2.1, fun p hp => List.all_eq_true.1 h2.2.2.2 p hp⟩
      unfold pathT
      rw [join_spl]
      cases s with
      | nil => cases h2.2.1
      | cons a r => rw [Option.some.inj h2.2.1]; rfl
    · cases h
theorem path_split {L : List (List UInt8)} (h1 : L.length ≤ 10) (h2 : (pathT L).length ≤ 120) (h3 : ∀ p, p ∈ L → partB p = true) : splitV (pathT L) = some L := by
  cases L with
  | nil => rfl
  | cons a r =>
    have hs : spl (Lib.join (a :: r) [47]) = a :: r := spl_join _ (by simp) (fun p hp => part_slash (h3 p hp))
    unfold splitV
    rw [if_neg]
    · rw [if_pos]
      · exact congrArg some hs
      · refine ⟨h2, rfl, ?_, ?_⟩
        · show (spl (Lib.join (a :: r) [47])).length ≤ 10
          rw [hs]; exact h1
        · show (spl (Lib.join (a :: r) [47])).all partB = true
          rw [hs]; exact List.all_eq_true.2 h3
    · intro e
      have e2 : Lib.join (a :: r) [47] = [] := List.tail_eq_of_cons_eq e
      rw [Lib.join_cons] at e2
      have e3 := (List.append_eq_nil_iff.1 e2).1
      have := h3 a (by simp)
      rw [e3, part_empty] at this
      cases this
theorem split_inj {a b : List UInt8} {L : List (List UInt8)} (ha : splitV a = some L) (hb : splitV b = some L) : a = b := by rw [(split_path ha).1, (split_path hb).1]
/-- At or below. -/
def withinV (a b : List UInt8) : Bool := match splitV a, splitV b with
  | some x, some y => y.isPrefixOf x
  | _, _ => false
theorem within_refl (a : List UInt8) : withinV a a = (splitV a).isSome := by
  unfold withinV
  cases splitV a with
  | none => rfl
  | some x =>
    show x.isPrefixOf x = true
    rw [List.isPrefixOf_iff_prefix]
    exact List.prefix_refl x
theorem within_root (a : List UInt8) : withinV a [47] = (splitV a).isSome := by
  unfold withinV
  have : splitV [47] = some [] := rfl
  rw [this]
  cases splitV a with
  | none => rfl
  | some x => rfl
theorem within_iff {a b : List UInt8} : withinV a b = true ↔ ∃ x y, splitV a = some x ∧ splitV b = some y ∧ y <+: x := by
  unfold withinV
  cases ha : splitV a with
  | none => simp
  | some x =>
    cases hb : splitV b with
    | none => simp
    | some y => simp
theorem within_trans {a b c : List UInt8} (h1 : withinV a b = true) (h2 : withinV b c = true) : withinV a c = true := by
  obtain ⟨x, y, ha, hb, hp⟩ := within_iff.1 h1
  obtain ⟨y', z, hb', hc, hq⟩ := within_iff.1 h2
  rw [hb] at hb'
  cases hb'
  exact within_iff.2 ⟨x, z, ha, hc, hq.trans hp⟩
theorem within_both {a b : List UInt8} (h1 : withinV a b = true) (h2 : withinV b a = true) : a = b := by
  obtain ⟨x, y, ha, hb, hp⟩ := within_iff.1 h1
  obtain ⟨y', z, hb', ha', hq⟩ := within_iff.1 h2
  rw [hb] at hb'
  cases hb'
  rw [ha] at ha'
  cases ha'
  have := hp.eq_of_length_le hq.length_le
  subst this
  exact split_inj ha hb
theorem path_prefix {L M : List (List UInt8)} (h : M <+: L) : pathT M <+: pathT L := by
  obtain ⟨t, rfl⟩ := h
  unfold pathT
  cases M with
  | nil => exact ⟨Lib.join t [47], rfl⟩
  | cons a r =>
    rw [List.cons_append, Lib.join_cons, Lib.join_cons]
    refine ⟨Lib.joinTail [47] t, ?_⟩
    simp [Lib.joinTail]
theorem within_begins {a b : List UInt8} (h : withinV a b = true) : ∃ x y, splitV a = some x ∧ splitV b = some y ∧ y.length ≤ x.length ∧ b.length ≤ a.length ∧ a.take b.length = b := by
  obtain ⟨x, y, ha, hb, hp⟩ := within_iff.1 h
  have e1 := (split_path ha).1
  have e2 := (split_path hb).1
  have hq : b <+: a := by rw [e1, e2]; exact path_prefix hp
  exact ⟨x, y, ha, hb, hp.length_le, hq.length_le, (List.prefix_iff_eq_take.1 hq).symm⟩
end Go.Proofs.YtgebodibamgipaaGreatDoor
