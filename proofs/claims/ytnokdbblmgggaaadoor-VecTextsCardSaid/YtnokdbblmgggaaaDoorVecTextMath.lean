/-
  A text as a vector: the mathematics of both readings.
-/
import Derived.Test.YtnokdbblmgggaaaDoorVecText
import Derived.Lib.IndexBytes
namespace Go.Proofs.YtnokdbblmgggaaaDoor
open Go.RowKit
set_option maxRecDepth 100000

/-! ### The document's reading: byte by byte. -/
structure PSt where
  V : Nat → Nat
  rep : Nat
  n : Nat
def PSt.fin (p : PSt) : Nat → Nat := if 1 ≤ p.rep ∧ p.rep ≤ 8 then updV p.V (p.rep - 1) p.n else p.V
def PSt.ok (p : PSt) : Prop := okV p.V ∧ p.rep ≤ 4294967295 ∧ p.n ≤ 4294967295
def pst0 : PSt := ⟨zeroV, 0, 0⟩
def pstep (p : PSt) (c : UInt8) : Option PSt :=
  if 48 ≤ c.toNat ∧ c.toNat ≤ 57 then (if 10 * p.n + (c.toNat - 48) ≤ 4294967295 then some ⟨p.V, p.rep, 10 * p.n + (c.toNat - 48)⟩ else none)
  else if c.toNat = 58 then some ⟨p.V, p.n, 0⟩
  else if c.toNat = 32 then some ⟨p.fin, 0, 0⟩
  else some p
def pfold : PSt → List UInt8 → Option PSt
  | p, [] => some p
  | p, c :: r => (pstep p c).bind fun q => pfold q r
theorem pfold_append (a b : List UInt8) (p : PSt) : pfold p (a ++ b) = (pfold p a).bind fun q => pfold q b := by
  induction a generalizing p with
  | nil => rfl
  | cons c r ih =>
    show (pstep p c).bind (fun q => pfold q (r ++ b)) = ((pstep p c).bind fun q => pfold q r).bind fun q => pfold q b
    cases pstep p c with
    | none => rfl
    | some q => exact ih q
theorem pfold_one (p : PSt) (c : UInt8) : pfold p [c] = pstep p c := by
  show (pstep p c).bind (fun q => some q) = _
  cases pstep p c <;> rfl
theorem PSt.ok_fin {p : PSt} (h : p.ok) : okV p.fin := by
  unfold PSt.fin
  split
  · exact okV_upd h.1 _ (by have := h.2.2; omega)
  · exact h.1
theorem pstep_ok {p q : PSt} {c : UInt8} (h : p.ok) (hq : pstep p c = some q) : q.ok := by
  unfold pstep at hq
  split at hq
  · split at hq
    · cases hq; exact ⟨h.1, h.2.1, by assumption⟩
    · cases hq
  · split at hq
    · cases hq; exact ⟨h.1, h.2.2, by show 0 ≤ _; omega⟩
    · split at hq
      · cases hq; exact ⟨PSt.ok_fin h, by show 0 ≤ _; omega, by show 0 ≤ _; omega⟩
      · cases hq; exact h
theorem pst0_ok : pst0.ok := ⟨okV_zero, by show 0 ≤ _; omega, by show 0 ≤ _; omega⟩
theorem digit_toNat {d : Nat} (h : d < 10) : (UInt8.ofNat (48 + d)).toNat = 48 + d := by
  rw [UInt8.toNat_ofNat']; omega
theorem pstep_digit {p : PSt} {d : Nat} (h : d < 10) (hn : 10 * p.n + d ≤ 4294967295) : pstep p (UInt8.ofNat (48 + d)) = some ⟨p.V, p.rep, 10 * p.n + d⟩ := by
  unfold pstep
  rw [digit_toNat h, if_pos (by omega), if_pos (by omega)]
  have : 48 + d - 48 = d := by omega
  rw [this]
theorem pfold_digits (V : Nat → Nat) (r m : Nat) (hm : m < 4294967296) : pfold ⟨V, r, 0⟩ (Lib.decDigits m) = some ⟨V, r, m⟩ := by
  induction m using Nat.strongRecOn with
  | _ m ih =>
    rw [Lib.decDigits]
    split
    · rw [pfold_one, pstep_digit (by omega) (by show 10 * 0 + m ≤ _; omega)]
      show some (PSt.mk V r (10 * 0 + m)) = _
      rw [Nat.mul_zero, Nat.zero_add]
    · rw [pfold_append, ih (m / 10) (by omega) (by omega)]
      show pfold ⟨V, r, m / 10⟩ [UInt8.ofNat (48 + m % 10)] = _
      rw [pfold_one, pstep_digit (by omega) (by show 10 * (m / 10) + m % 10 ≤ _; omega)]
      show some (PSt.mk V r (10 * (m / 10) + m % 10)) = _
      rw [Nat.div_add_mod]
theorem pfold_part {V : Nat → Nat} (hV : okV V) {j : Nat} (hj : j < 8) (U : Nat → Nat) (r : Nat) : pfold ⟨U, r, 0⟩ (partT V j) = some ⟨U, j + 1, V j⟩ := by
  unfold partT
  rw [pfold_append, pfold_append, pfold_digits U r (j + 1) (by omega)]
  show (pfold ⟨U, r, j + 1⟩ [58]).bind _ = _
  rw [pfold_one]
  show pfold ⟨U, j + 1, 0⟩ (Lib.decDigits (V j)) = _
  exact pfold_digits U (j + 1) (V j) (hV j hj)
theorem pfold_write {V : Nat → Nat} (hV : okV V) (k : Nat) (hk : k ≤ 8) : ∃ p, pfold pst0 (writeK V k) = some p ∧ ∀ i, i < 8 → p.fin i = if i < k then V i else 0 := by
  induction k with
  | zero => exact ⟨pst0, rfl, fun i _ => rfl⟩
  | succ k ih =>
    obtain ⟨p, hp, hfin⟩ := ih (by omega)
    by_cases h0 : V k = 0
    · rw [writeK_zero h0]
      refine ⟨p, hp, fun i hi => ?_⟩
      rw [hfin i hi]
      by_cases h1 : i < k
      · rw [if_pos h1, if_pos (by omega)]
      · rw [if_neg h1]
        by_cases h2 : i = k
        · subst h2; rw [if_pos (by omega), h0]
        · rw [if_neg (by omega)]
    · rw [writeK_more h0]
      have hfk : ∀ U : Nat → Nat, (PSt.mk U (k + 1) (V k)).fin = updV U k (V k) := fun U => by
        unfold PSt.fin
        rw [if_pos ⟨by show 1 ≤ k + 1; omega, by show k + 1 ≤ 8; omega⟩]
        rfl
      have hlast : ∀ U : Nat → Nat, (∀ i, i < 8 → U i = if i < k then V i else 0) → ∀ i, i < 8 → updV U k (V k) i = if i < k + 1 then V i else 0 := fun U hU i hi => by
        unfold updV
        by_cases h2 : i = k
        · subst h2; rw [if_pos rfl, if_pos (by omega)]
        · rw [if_neg h2, hU i hi]
          by_cases h1 : i < k
          · rw [if_pos h1, if_pos (by omega)]
          · rw [if_neg h1, if_neg (by omega)]
      by_cases hw : writeK V k = []
      · rw [if_pos hw]
        rw [hw] at hp
        cases hp
        refine ⟨_, pfold_part hV (by omega) zeroV 0, ?_⟩
        rw [hfk]
        exact hlast _ hfin
      · rw [if_neg hw, pfold_append, pfold_append, hp]
        refine ⟨⟨p.fin, k + 1, V k⟩, ?_, ?_⟩
        · show (pfold p [32]).bind _ = _
          rw [pfold_one]
          show pfold ⟨p.fin, 0, 0⟩ (partT V k) = _
          exact pfold_part hV (by omega) p.fin 0
        · rw [hfk]
          exact hlast _ hfin
theorem pfold_writeT {V : Nat → Nat} (hV : okV V) : ∃ p, pfold pst0 (writeT V) = some p ∧ ∀ i, i < 8 → p.fin i = V i := by
  obtain ⟨p, h1, h2⟩ := pfold_write hV 8 (Nat.le_refl 8)
  exact ⟨p, h1, fun i hi => by rw [h2 i hi, if_pos hi]⟩
theorem pfold_prefix {s : List UInt8} {k : Nat} {p : PSt} (h : pfold p (s.take k) = none) : pfold p s = none := by
  have : s = s.take k ++ s.drop k := (List.take_append_drop k s).symm
  rw [this, pfold_append, h]
  rfl

theorem partT_congr {A B : Nat → Nat} {j : Nat} (h : A j = B j) : partT A j = partT B j := by unfold partT; rw [h]
theorem partsT_congr {A B : Nat → Nat} (k : Nat) (h : ∀ i, i < k → A i = B i) : partsT A k = partsT B k := by
  induction k with
  | zero => rfl
  | succ k ih =>
    show (if A k = 0 then partsT A k else partsT A k ++ [partT A k]) = (if B k = 0 then partsT B k else partsT B k ++ [partT B k])
    rw [ih (fun i hi => h i (by omega)), h k (by omega), partT_congr (h k (by omega))]
theorem writeT_congr {A B : Nat → Nat} (h : ∀ i, i < 8 → A i = B i) : writeT A = writeT B := by
  unfold writeT writeK
  rw [partsT_congr 8 h]
theorem writeT_inj {A B : Nat → Nat} (hA : okV A) (hB : okV B) (h : writeT A = writeT B) : ∀ i, i < 8 → A i = B i := fun i hi => by
  obtain ⟨p, h1, h2⟩ := pfold_writeT hA
  obtain ⟨q, h3, h4⟩ := pfold_writeT hB
  rw [h, h3] at h1
  cases h1
  rw [← h2 i hi, ← h4 i hi]

/-- What a reading answers. -/
def ReadIs (s : List UInt8) (U : Nat → Nat) (e : Int) : Prop := (okV U ∧ writeT U = s ∧ e = 0) ∨ ((∀ V, okV V → writeT V ≠ s) ∧ U = zeroV ∧ e = 7)
theorem ReadIs.same {s : List UInt8} {U U' : Nat → Nat} {e e' : Int} (h : ReadIs s U e) (h' : ReadIs s U' e') : e = e' ∧ av U = av U' := by
  rcases h with ⟨h1, h2, rfl⟩ | ⟨h1, rfl, rfl⟩
  · rcases h' with ⟨h3, h4, rfl⟩ | ⟨h3, rfl, rfl⟩
    · exact ⟨rfl, av_congr (writeT_inj h1 h3 (h2.trans h4.symm))⟩
    · exact absurd h2 (h3 U h1)
  · rcases h' with ⟨h3, h4, rfl⟩ | ⟨h3, rfl, rfl⟩
    · exact absurd h4 (h1 U' h3)
    · exact ⟨rfl, rfl⟩
theorem ReadIs.own {V U : Nat → Nat} {e : Int} (hV : okV V) (h : ReadIs (writeT V) U e) : e = 0 ∧ av U = av V := by
  have := h.same (Or.inl ⟨hV, rfl, rfl⟩)
  exact this

/-! ### The program's reading: part by part. -/
theorem index_sep {c : UInt8} {p : List UInt8} (r : List UInt8) (h : ∀ b, b ∈ p → b ≠ c) : Lib.index (p ++ c :: r) [c] = (p.length : Int) := by
  refine Lib.index_first (by simp) ?_ ?_
  · unfold Lib.occAt
    rw [List.drop_left]
    simp
  · intro j hj
    cases ho : Lib.occAt (p ++ c :: r) [c] j with
    | false => rfl
    | true =>
      have h1 := Lib.occAt_head rfl ho
      rw [List.getElem?_append_left hj, List.getElem?_eq_getElem hj] at h1
      exact absurd (Option.some.inj h1) (h _ (List.getElem_mem hj))
theorem index_nosep {c : UInt8} {p : List UInt8} (h : ∀ b, b ∈ p → b ≠ c) : Lib.index p [c] = -1 := by
  refine Lib.index_none ?_
  intro j _
  cases ho : Lib.occAt p [c] j with
  | false => rfl
  | true =>
    have h1 := Lib.occAt_head rfl ho
    obtain ⟨hj, h2⟩ := List.getElem?_eq_some_iff.1 h1
    exact absurd h2 (h _ (List.getElem_mem hj))
theorem cut_sep {c : UInt8} {p : List UInt8} (r : List UInt8) (h : ∀ b, b ∈ p → b ≠ c) : Lib.cut (p ++ c :: r) [c] = (p, r, true) := by
  unfold Lib.cut
  rw [index_sep r h, if_pos (by omega), Int.toNat_natCast, List.take_left]
  have : (p ++ c :: r).drop (p.length + [c].length) = r := by
    rw [← List.drop_drop, List.drop_left]
    rfl
  rw [this]
theorem cut_nosep {c : UInt8} {p : List UInt8} (h : ∀ b, b ∈ p → b ≠ c) : Lib.cut p [c] = (p, [], false) := by
  unfold Lib.cut
  rw [index_nosep h, if_neg (by omega)]
theorem cut_shorter {c : UInt8} {p : List UInt8} (h : p ≠ []) : (Lib.cut p [c]).2.1.length < p.length := by
  have : 0 < p.length := List.length_pos_iff.2 h
  unfold Lib.cut
  split
  · show (p.drop _).length < _
    rw [List.length_drop]
    simp
    omega
  · show 0 < _
    omega
theorem cut_left_le {c : UInt8} (p : List UInt8) : (Lib.cut p [c]).1.length ≤ p.length := by
  unfold Lib.cut
  split
  · show (p.take _).length ≤ _
    rw [List.length_take]
    omega
  · exact Nat.le_refl _
theorem cut_right_le {c : UInt8} (p : List UInt8) : (Lib.cut p [c]).2.1.length ≤ p.length := by
  by_cases h : p = []
  · subst h
    unfold Lib.cut
    split
    · show ([].drop _).length ≤ _
      simp
    · exact Nat.le_refl _
  · exact Nat.le_of_lt (cut_shorter h)
theorem digits_mem (u : Nat) : ∀ b, b ∈ Lib.decDigits u → 48 ≤ b.toNat ∧ b.toNat ≤ 57 := by
  induction u using Nat.strongRecOn with
  | _ u ih =>
    intro b hb
    rw [Lib.decDigits] at hb
    split at hb
    · obtain rfl := List.mem_singleton.1 hb
      rw [digit_toNat (by omega)]
      omega
    · rcases List.mem_append.1 hb with h | h
      · exact ih (u / 10) (by omega) b h
      · obtain rfl := List.mem_singleton.1 h
        rw [digit_toNat (by omega)]
        omega
theorem parseUintM_append (M : Nat) (a b : List UInt8) (acc u : Nat) (h : Lib.parseUintM M acc a = .ok u) : Lib.parseUintM M acc (a ++ b) = Lib.parseUintM M u b := by
  induction a generalizing acc with
  | nil => cases h; rfl
  | cons c r ih =>
    rw [Lib.parseUintM] at h
    rw [List.cons_append, Lib.parseUintM]
    split at h
    · split at h
      · cases h
      · split at h
        · cases h
        · rw [if_pos (by assumption), if_neg (by assumption), if_neg (by assumption)]
          exact ih _ h
    · cases h
theorem parseUintM_digits (m : Nat) (h : m < 4294967296) : Lib.parseUintM 4294967295 0 (Lib.decDigits m) = .ok m := by
  induction m using Nat.strongRecOn with
  | _ m ih =>
    rw [Lib.decDigits]
    split
    · rw [Lib.parseUintM, digit_toNat (by omega), if_pos (by omega), if_neg (by omega), if_neg (by omega), Lib.parseUintM]
      congr 1
      omega
    · rw [parseUintM_append _ _ _ _ _ (ih (m / 10) (by omega) (by omega)), Lib.parseUintM, digit_toNat (by omega), if_pos (by omega), if_neg (by omega), if_neg (by omega), Lib.parseUintM]
      congr 1
      omega
theorem digits_ne (m : Nat) : Lib.decDigits m ≠ [] := by
  rw [Lib.decDigits]
  split <;> simp
theorem parseUintB_digits (m : Nat) (h : m < 4294967296) : Lib.parseUintB 32 (Lib.decDigits m) = .ok m := by
  unfold Lib.parseUintB
  rw [if_neg (digits_ne m)]
  exact parseUintM_digits m h
theorem atoi_digit (j : Nat) (h : j < 8) : Lib.atoiAll (Lib.decDigits (j + 1)) = .ok ((j : Int) + 1) := by
  rw [Lib.decDigits_one (by omega)]
  rcases lt8 h with rfl | rfl | rfl | rfl | rfl | rfl | rfl | rfl <;> rfl

/-- What a part tells. -/
def rpart (p : List UInt8) : Option (Int × Nat) :=
  match Lib.atoiAll (Lib.cut p [58]).1 with
  | .ok v => (match Lib.parseUintB 32 (Lib.cut p [58]).2.1 with
    | .ok u => some (v, u)
    | _ => none)
  | _ => none
theorem rpart_part {V : Nat → Nat} (hV : okV V) {j : Nat} (h : j < 8) : rpart (partT V j) = some ((j : Int) + 1, V j) := by
  have hc : Lib.cut (partT V j) [58] = (Lib.decDigits (j + 1), Lib.decDigits (V j), true) := by
    have e : partT V j = Lib.decDigits (j + 1) ++ 58 :: Lib.decDigits (V j) := by unfold partT; simp
    rw [e]
    exact cut_sep _ fun b hb hx => by have := digits_mem _ b hb; rw [hx] at this; simp at this
  unfold rpart
  rw [hc]
  show (match Lib.atoiAll (Lib.decDigits (j + 1)) with | .ok v => (match Lib.parseUintB 32 (Lib.decDigits (V j)) with | .ok u => some (v, u) | _ => none) | _ => none) = _
  rw [atoi_digit j h, parseUintB_digits _ (hV j h)]
theorem part_mem {V : Nat → Nat} (j : Nat) : ∀ b, b ∈ partT V j → b ≠ 32 := fun b hb hx => by
  unfold partT at hb
  subst hx
  rcases List.mem_append.1 hb with h | h
  · rcases List.mem_append.1 h with h | h
    · have := digits_mem _ _ h; simp at this
    · have := List.mem_singleton.1 h; simp at this
  · have := digits_mem _ _ h; simp at this
def idx (V : Nat → Nat) (k : Nat) : List Nat := (List.range k).filter fun j => decide (V j ≠ 0)
theorem parts_idx (V : Nat → Nat) (k : Nat) : partsT V k = (idx V k).map (partT V) := by
  induction k with
  | zero => rfl
  | succ k ih =>
    show (if V k = 0 then partsT V k else partsT V k ++ [partT V k]) = _
    unfold idx
    rw [List.range_succ, List.filter_append, List.map_append]
    by_cases h : V k = 0
    · rw [if_pos h, ih]
      simp [h, idx]
    · rw [if_neg h, ih]
      simp [h, idx]
theorem idx_lt {V : Nat → Nat} {k j : Nat} (h : j ∈ idx V k) : j < k ∧ V j ≠ 0 := by
  unfold idx at h
  rw [List.mem_filter, List.mem_range] at h
  exact ⟨h.1, by simpa using h.2⟩
theorem idx_mem {V : Nat → Nat} {k j : Nat} (h : j < k) (h0 : V j ≠ 0) : j ∈ idx V k := by
  unfold idx
  rw [List.mem_filter, List.mem_range]
  exact ⟨h, by simpa using h0⟩
/-- The text that is left, and what has been read. -/
def Good (V : Nat → Nat) (R : List UInt8) (U : Nat → Nat) : Prop := ∃ l1 l2, idx V 8 = l1 ++ l2 ∧ R = Lib.join (l2.map (partT V)) [32] ∧ ∀ i, i < 8 → U i = if i ∈ l1 then V i else 0
theorem good_start (V : Nat → Nat) : Good V (writeT V) zeroV := ⟨[], idx V 8, rfl, by unfold writeT writeK; rw [parts_idx], fun i _ => by simp [zeroV]⟩
theorem good_step {V : Nat → Nat} {R : List UInt8} {U : Nat → Nat} (h : Good V R U) (hR : R ≠ []) : ∃ j, j < 8 ∧ (Lib.cut R [32]).1 = partT V j ∧ Good V (Lib.cut R [32]).2.1 (withV U ((j : Int) + 1) (V j)) := by
  obtain ⟨l1, l2, hl, rfl, hU⟩ := h
  cases l2 with
  | nil => exact absurd rfl hR
  | cons j r =>
    have hj : j < 8 := (idx_lt (V := V) (k := 8) (j := j) (by rw [hl]; simp)).1
    have hc : Lib.cut (Lib.join ((j :: r).map (partT V)) [32]) [32] = (partT V j, Lib.join (r.map (partT V)) [32], !r.isEmpty) := by
      rw [List.map_cons, Lib.join_cons]
      cases r with
      | nil =>
        unfold Lib.joinTail
        simp only [List.map_nil, List.flatten_nil, List.append_nil]
        rw [cut_nosep (part_mem j)]
        rfl
      | cons a q =>
        have e : partT V j ++ Lib.joinTail [32] (List.map (partT V) (a :: q)) = partT V j ++ ((32 : UInt8) :: Lib.join (List.map (partT V) (a :: q)) [32]) := by
          rw [List.map_cons, Lib.join_cons]
          unfold Lib.joinTail
          simp
        rw [e, cut_sep _ (part_mem j)]
        rfl
    refine ⟨j, hj, by rw [hc], l1 ++ [j], r, by rw [hl]; simp, by rw [hc], fun i hi => ?_⟩
    have hrep : repV ((j : Int) + 1) = true := repV_iff.2 (by omega)
    have ht : ((j : Int) + 1 - 1).toNat = j := by omega
    unfold withV
    rw [if_pos hrep, ht]
    unfold updV
    by_cases hij : i = j
    · subst hij
      have hm : i ∈ l1 ++ [i] := by simp
      rw [if_pos rfl, hU i hi, if_pos hm]
      split <;> omega
    · rw [if_neg hij, hU i hi]
      by_cases hm : i ∈ l1
      · rw [if_pos hm, if_pos (by simp [hm])]
      · rw [if_neg hm, if_neg (by simp [hm, hij])]
theorem good_end {V : Nat → Nat} {U : Nat → Nat} (h : Good V [] U) : ∀ i, i < 8 → U i = V i := fun i hi => by
  obtain ⟨l1, l2, hl, hR, hU⟩ := h
  have h2 : l2 = [] := by
    cases l2 with
    | nil => rfl
    | cons j r =>
      rw [List.map_cons, Lib.join_cons] at hR
      exact absurd (List.append_eq_nil_iff.1 hR.symm).1 (partT_ne V j)
  subst h2
  rw [List.append_nil] at hl
  rw [hU i hi]
  by_cases hm : i ∈ l1
  · rw [if_pos hm]
  · rw [if_neg hm]
    by_cases h0 : V i = 0
    · exact h0.symm
    · exact absurd (hl ▸ idx_mem hi h0) hm
end Go.Proofs.YtnokdbblmgggaaaDoor
