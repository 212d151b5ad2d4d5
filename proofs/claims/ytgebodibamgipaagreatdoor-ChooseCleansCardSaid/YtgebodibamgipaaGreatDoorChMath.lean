/-
  Choices: which paths are chosen; cleaned lists. Mathematics alone.
-/
import Derived.Test.YtgebodibamgipaaGreatDoorPaMath
namespace Go.Proofs.YtgebodibamgipaaGreatDoor
set_option maxRecDepth 100000

abbrev Txt := List UInt8
/-! ### Order -/
theorem snoc_ind {α : Type} {P : List α → Prop} (S : List α) (h0 : P []) (h1 : ∀ S x, P S → P (S ++ [x])) : P S := by
  have : ∀ R : List α, P R.reverse := fun R => by
    induction R with
    | nil => exact h0
    | cons x R ih => rw [List.reverse_cons]; exact h1 _ _ ih
  rw [← List.reverse_reverse S]
  exact this _
theorem txt_antisymm {a b : Txt} (h1 : a ≤ b) (h2 : b ≤ a) : a = b := List.le_antisymm h1 h2
theorem txt_lt_of {a b : Txt} (h1 : a ≤ b) (h2 : a ≠ b) : a < b := by
  by_cases h : a < b
  · exact h
  · exact absurd (txt_antisymm h1 (List.not_lt.1 h)) h2
theorem txt_lt_ne {a b : Txt} (h : a < b) : a ≠ b := fun e => by
  subst e
  exact List.lt_irrefl a h
theorem txt_prefix_le {a b : Txt} (h : a <+: b) : a ≤ b := by
  obtain ⟨t, rfl⟩ := h
  induction a with
  | nil => exact List.nil_le _
  | cons x a ih =>
    rw [List.cons_append, List.cons_le_cons_iff]
    exact .inr ⟨rfl, ih⟩
theorem strict_ext {a b : List Txt} (ha : a.Pairwise (· < ·)) (hb : b.Pairwise (· < ·)) (h : ∀ x, x ∈ a ↔ x ∈ b) : a = b := by
  have na : a.Nodup := ha.imp txt_lt_ne
  have nb : b.Nodup := hb.imp txt_lt_ne
  have hp : a.Perm b := (List.perm_ext_iff_of_nodup na nb).2 h
  exact hp.eq_of_pairwise (fun x y _ _ h1 h2 => absurd (List.lt_trans h1 h2) (List.lt_irrefl x)) ha hb

/-! ### Chosen -/
def pathB (s : Txt) : Bool := (splitV s).isSome
def chHas (l : List Txt) (s : Txt) : Bool := l.isEmpty || l.any fun t => withinV s t
def chLeads (l : List Txt) (s : Txt) : Bool := chHas l s || l.any fun t => withinV t s
def underB (l : List Txt) (s : Txt) : Bool := l.any fun t => (t != s) && withinV s t
theorem pathB_iff {s : Txt} : pathB s = true ↔ ∃ L, splitV s = some L := by unfold pathB; exact Option.isSome_iff_exists
theorem within_path {a b : Txt} (h : withinV a b = true) : pathB a = true ∧ pathB b = true := by
  obtain ⟨x, y, ha, hb, _⟩ := within_iff.1 h
  exact ⟨pathB_iff.2 ⟨x, ha⟩, pathB_iff.2 ⟨y, hb⟩⟩
theorem within_self {a : Txt} (h : pathB a = true) : withinV a a = true := (within_refl a).trans h
/-- What lies below two, of these one lies below the other one. -/
theorem within_line {a b c : Txt} (h1 : withinV c a = true) (h2 : withinV c b = true) : withinV a b = true ∨ withinV b a = true := by
  obtain ⟨x, y, hc, ha, hp⟩ := within_iff.1 h1
  obtain ⟨x', z, hc', hb, hq⟩ := within_iff.1 h2
  rw [hc] at hc'
  cases hc'
  rcases List.prefix_or_prefix_of_prefix hp hq with h | h
  · exact .inr (within_iff.2 ⟨z, y, hb, ha, h⟩)
  · exact .inl (within_iff.2 ⟨y, z, ha, hb, h⟩)
theorem within_le {a b : Txt} (h : withinV a b = true) : b ≤ a := by
  obtain ⟨x, y, ha, hb, hp⟩ := within_iff.1 h
  rw [(split_path ha).1, (split_path hb).1]
  exact txt_prefix_le (path_prefix hp)

/-! ### Cleaned -/
/-- A cleaned list of texts: rising, of them, none below another one, and all lie at or below one. -/
structure Tops (l T : List Txt) : Prop where
  rise : T.Pairwise (· < ·)
  sub : ∀ t, t ∈ T → t ∈ l
  apart : ∀ s t, s ∈ T → t ∈ T → withinV s t = true → s = t
  all : ∀ s, s ∈ l → ∃ t, t ∈ T ∧ withinV s t = true
theorem Tops.mem {l T : List Txt} (h : Tops l T) (x : Txt) : x ∈ T ↔ x ∈ l ∧ underB l x = false := by
  constructor
  · intro hx
    refine ⟨h.sub x hx, ?_⟩
    unfold underB
    rw [List.any_eq_false]
    intro y hy hc
    simp only [Bool.and_eq_true, bne_iff_ne, ne_eq] at hc
    obtain ⟨t, ht, hw⟩ := h.all y hy
    have := h.apart x t hx ht (within_trans hc.2 hw)
    subst this
    exact hc.1 (within_both hw hc.2)
  · rintro ⟨hx, hu⟩
    obtain ⟨t, ht, hw⟩ := h.all x hx
    have : t = x := by
      refine Classical.byContradiction fun hne => ?_
      unfold underB at hu
      rw [List.any_eq_false] at hu
      exact hu t (h.sub t ht) (by simp [hne, hw])
    exact this ▸ ht
theorem Tops.unique {l T : List Txt} (h : Tops l T) {U : List Txt} (hr : U.Pairwise (· < ·)) (hU : ∀ x, x ∈ U ↔ x ∈ l ∧ underB l x = false) : U = T :=
  strict_ext hr h.rise fun x => (hU x).trans (h.mem x).symm

def topStep (T : List Txt) (x : Txt) : List Txt := if (T.any fun t => withinV x t) = true then T else T ++ [x]
def topsF (S : List Txt) : List Txt := S.foldl topStep []
theorem topsF_snoc (S : List Txt) (x : Txt) : topsF (S ++ [x]) = topStep (topsF S) x := by unfold topsF; rw [List.foldl_append]; rfl
theorem topStep_le (T : List Txt) (x : Txt) : T.length ≤ (topStep T x).length := by
  unfold topStep
  split
  · exact Nat.le_refl _
  · simp
theorem topsF_le (S : List Txt) (R : List Txt) : (topsF S).length ≤ (topsF (S ++ R)).length := by
  induction R generalizing S with
  | nil => simp
  | cons x R ih =>
    have := ih (S ++ [x])
    rw [topsF_snoc, List.append_assoc] at this
    exact Nat.le_trans (topStep_le _ _) this
theorem topsF_len (S : List Txt) : (topsF S).length ≤ S.length := by
  refine snoc_ind (P := fun S => (topsF S).length ≤ S.length) S (Nat.le_refl _) ?_
  · intro S x ih
    rw [topsF_snoc]
    unfold topStep
    split
    · simp; omega
    · simp; omega
theorem topsF_tops (S : List Txt) (hs : S.Pairwise (· ≤ ·)) (hp : ∀ s, s ∈ S → pathB s = true) : Tops S (topsF S) := by
  revert hs hp
  refine snoc_ind (P := fun S : List Txt => S.Pairwise (· ≤ ·) → (∀ s, s ∈ S → pathB s = true) → Tops S (topsF S)) S (fun _ _ => ⟨.nil, fun t h => (by cases h), fun s t h => (by cases h), fun s h => (by cases h)⟩) ?_
  · intro S x ih hs hp
    rw [List.pairwise_append] at hs
    obtain ⟨hs1, _, hs2⟩ := hs
    have h := ih hs1 (fun s hs => hp s (by simp [hs]))
    have hx : pathB x = true := hp x (by simp)
    rw [topsF_snoc]
    unfold topStep
    split
    · rename_i hc
      rw [List.any_eq_true] at hc
      obtain ⟨t, ht, hw⟩ := hc
      refine ⟨h.rise, fun t ht => by simp [h.sub t ht], h.apart, fun s hs => ?_⟩
      rcases List.mem_append.1 hs with hs | hs
      · exact h.all s hs
      · rw [List.mem_singleton.1 hs]; exact ⟨t, ht, hw⟩
    · rename_i hc
      have hno : ∀ t, t ∈ topsF S → withinV x t = false := fun t ht => by
        cases hw : withinV x t with
        | false => rfl
        | true => exact absurd (List.any_eq_true.2 ⟨t, ht, hw⟩) hc
      have hle : ∀ t, t ∈ topsF S → t ≤ x := fun t ht => hs2 t (h.sub t ht) x (by simp)
      refine ⟨?_, ?_, ?_, ?_⟩
      · rw [List.pairwise_append]
        refine ⟨h.rise, List.pairwise_singleton _ _, fun t ht y hy => ?_⟩
        rw [List.mem_singleton.1 hy]
        refine txt_lt_of (hle t ht) fun e => ?_
        subst e
        have := hno t ht
        rw [within_self hx] at this
        cases this
      · intro t ht
        rcases List.mem_append.1 ht with ht | ht
        · simp [h.sub t ht]
        · simp [List.mem_singleton.1 ht]
      · intro s t hs ht hw
        rcases List.mem_append.1 hs with hs | hs
        · rcases List.mem_append.1 ht with ht | ht
          · exact h.apart s t hs ht hw
          · rw [List.mem_singleton.1 ht] at hw ⊢
            exact txt_antisymm (hle s hs) (within_le hw)
        · rw [List.mem_singleton.1 hs] at hw ⊢
          rcases List.mem_append.1 ht with ht | ht
          · rw [hno t ht] at hw; cases hw
          · rw [List.mem_singleton.1 ht]
      · intro s hs
        rcases List.mem_append.1 hs with hs | hs
        · obtain ⟨t, ht, hw⟩ := h.all s hs
          exact ⟨t, by simp [ht], hw⟩
        · rw [List.mem_singleton.1 hs]
          exact ⟨x, by simp, within_self hx⟩
theorem Tops.of_mem {l l' T : List Txt} (h : Tops l T) (hm : ∀ x, x ∈ l ↔ x ∈ l') : Tops l' T :=
  ⟨h.rise, fun t ht => (hm t).1 (h.sub t ht), h.apart, fun s hs => h.all s ((hm s).2 hs)⟩

def sortT (l : List Txt) : List Txt := l.mergeSort fun x y => decide (x ≤ y)
theorem sortT_perm (l : List Txt) : (sortT l).Perm l := List.mergeSort_perm _ _
theorem sortT_rise (l : List Txt) : (sortT l).Pairwise (· ≤ ·) := by
  have h := List.pairwise_mergeSort (le := fun x y : Txt => decide (x ≤ y)) (fun a b c h1 h2 => by simp at *; exact List.le_trans h1 h2) (fun a b => by simp; exact List.le_total a b) l
  exact h.imp fun h => by simpa using h
def cleanT (l : List Txt) : List Txt := topsF (sortT l)
theorem cleanT_tops {l : List Txt} (hp : ∀ s, s ∈ l → pathB s = true) : Tops l (cleanT l) :=
  (topsF_tops _ (sortT_rise l) fun s hs => hp s ((sortT_perm l).mem_iff.1 hs)).of_mem fun _ => (sortT_perm l).mem_iff
/-- Clean's answer: the list, and the error. -/
def cleanV (l : List Txt) : List Txt × Int := if l.all pathB = true then if 8 < (cleanT l).length then ([], 4) else (cleanT l, 0) else ([], 20)
theorem cleanV_ok {l : List Txt} (h : (cleanV l).2 = 0) : (∀ s, s ∈ l → pathB s = true) ∧ (cleanT l).length ≤ 8 ∧ (cleanV l).1 = cleanT l := by
  unfold cleanV at *
  split at h
  · rename_i hp
    rw [if_pos hp]
    split at h
    · cases h
    · rename_i hl
      rw [if_neg hl]
      exact ⟨List.all_eq_true.1 hp, by omega, rfl⟩
  · cases h
theorem cleanV_no {l : List Txt} (h : (cleanV l).2 ≠ 0) : (cleanV l).1 = [] := by
  unfold cleanV at *
  split at h
  · rename_i hp
    rw [if_pos hp]
    split at h
    · rename_i hl; rw [if_pos hl]
    · exact absurd rfl h
  · rename_i hp; rw [if_neg hp]
theorem Tops.has {l T : List Txt} (h : Tops l T) (s : Txt) : chHas T s = chHas l s := by
  cases hl : l with
  | nil =>
    have : T = [] := List.eq_nil_iff_forall_not_mem.2 fun t ht => by have := h.sub t ht; rw [hl] at this; cases this
    rw [this]
  | cons a r =>
    have hT : T ≠ [] := fun e => by
      obtain ⟨t, ht, _⟩ := h.all a (by rw [hl]; simp)
      rw [e] at ht; cases ht
    rw [← hl]
    unfold chHas
    have e1 : T.isEmpty = false := by cases T with
      | nil => exact absurd rfl hT
      | cons _ _ => rfl
    have e2 : l.isEmpty = false := by rw [hl]; rfl
    rw [e1, e2, Bool.false_or, Bool.false_or, Bool.eq_iff_iff, List.any_eq_true, List.any_eq_true]
    constructor
    · rintro ⟨t, ht, hw⟩
      exact ⟨t, h.sub t ht, hw⟩
    · rintro ⟨y, hy, hw⟩
      obtain ⟨t, ht, hw2⟩ := h.all y hy
      exact ⟨t, ht, within_trans hw hw2⟩
theorem Tops.leads {l T : List Txt} (h : Tops l T) (s : Txt) : chLeads T s = chLeads l s := by
  unfold chLeads
  rw [h.has]
  cases hh : chHas l s with
  | true => rfl
  | false =>
    rw [Bool.false_or, Bool.false_or, Bool.eq_iff_iff, List.any_eq_true, List.any_eq_true]
    constructor
    · rintro ⟨t, ht, hw⟩
      exact ⟨t, h.sub t ht, hw⟩
    · rintro ⟨y, hy, hw⟩
      obtain ⟨t, ht, hw2⟩ := h.all y hy
      rcases within_line hw hw2 with h3 | h3
      · rw [← h.has] at hh
        unfold chHas at hh
        rw [Bool.or_eq_false_iff, List.any_eq_false] at hh
        exact absurd h3 (hh.2 t ht)
      · exact ⟨t, ht, h3⟩

/-! ### Why a list is no choice -/
def chAt (l : List Txt) (i : Nat) : Int := if pathB (l.getD i []) = false then 20 else if (0 < i ∧ l.getD i [] ≤ l.getD (i - 1) []) ∨ underB l (l.getD i []) = true then 7 else 0
def chFrom (l : List Txt) (i : Nat) : Nat → Int
  | 0 => 0
  | n + 1 => if chAt l i ≠ 0 then chAt l i else chFrom l (i + 1) n
def chCheck (l : List Txt) : Int := if 8 < l.length then 4 else chFrom l 0 l.length
theorem chFrom_zero {l : List Txt} : ∀ n i, (∀ k, i ≤ k → k < i + n → chAt l k = 0) → chFrom l i n = 0 := by
  intro n
  induction n with
  | zero => exact fun i _ => rfl
  | succ n ih =>
    intro i h
    unfold chFrom
    rw [if_neg (by rw [h i (Nat.le_refl _) (by omega)]; simp), ih (i + 1) fun k h1 h2 => h k (by omega) (by omega)]
theorem chFrom_at {l : List Txt} : ∀ n i m, (∀ k, i ≤ k → k < i + m → chAt l k = 0) → m < n → chAt l (i + m) ≠ 0 → chFrom l i n = chAt l (i + m) := by
  intro n
  induction n with
  | zero => exact fun i m _ h => by omega
  | succ n ih =>
    intro i m h hm hne
    unfold chFrom
    by_cases h0 : m = 0
    · subst h0
      rw [Nat.add_zero] at hne
      rw [if_pos hne, Nat.add_zero]
    · rw [if_neg (by rw [h i (Nat.le_refl _) (by omega)]; simp), ih (i + 1) (m - 1) (fun k h1 h2 => h k (by omega) (by omega)) (by omega) (by rw [show i + 1 + (m - 1) = i + m by omega]; exact hne), show i + 1 + (m - 1) = i + m by omega]
theorem Tops.check {l T : List Txt} (h : Tops l T) (hp : ∀ s, s ∈ l → pathB s = true) (hn : T.length ≤ 8) : chCheck T = 0 := by
  unfold chCheck
  rw [if_neg (by omega)]
  refine chFrom_zero _ _ fun k _ hk => ?_
  have hk' : k < T.length := by omega
  have hm : T.getD k [] = T[k] := by simp [hk']
  unfold chAt
  rw [hm, if_neg (by rw [hp _ (h.sub _ (List.getElem_mem hk'))]; simp), if_neg]
  rintro (⟨h1, h2⟩ | h1)
  · have hm2 : T.getD (k - 1) [] = T[k - 1] := by simp; rw [List.getElem?_eq_getElem (by omega)]; rfl
    rw [hm2] at h2
    have := List.pairwise_iff_getElem.1 h.rise (k - 1) k (by omega) hk' (by omega)
    exact List.not_lt.2 h2 this
  · unfold underB at h1
    rw [List.any_eq_true] at h1
    obtain ⟨t, ht, h2⟩ := h1
    simp only [Bool.and_eq_true, bne_iff_ne, ne_eq] at h2
    exact h2.1 (h.apart _ t (List.getElem_mem hk') ht h2.2).symm

/-! ### Up -/
theorem take_path {s : Txt} {L : List Txt} (h : splitV s = some L) (k : Nat) : splitV (pathT (L.take k)) = some (L.take k) := by
  obtain ⟨h1, h2, h3, h4⟩ := split_path h
  have hpre : L.take k <+: L := List.take_prefix k L
  refine path_split (Nat.le_trans hpre.length_le h2) ?_ fun p hp => h4 p (List.mem_of_mem_take hp)
  have := (path_prefix hpre).length_le
  rw [← h1] at this
  omega
theorem leads_up {l : List Txt} {s : Txt} {L : List Txt} (h : splitV s = some L) (k : Nat) (hl : chLeads l s = true) : chLeads l (pathT (L.take k)) = true := by
  have hw : withinV s (pathT (L.take k)) = true := within_iff.2 ⟨L, L.take k, h, take_path h k, List.take_prefix k L⟩
  unfold chLeads chHas at *
  simp only [Bool.or_eq_true, List.any_eq_true] at *
  rcases hl with (hl | ⟨t, ht, h1⟩) | ⟨t, ht, h1⟩
  · exact .inl (.inl hl)
  · rcases within_line h1 hw with h2 | h2
    · exact .inr ⟨t, ht, h2⟩
    · exact .inl (.inr ⟨t, ht, h2⟩)
  · exact .inr ⟨t, ht, within_trans h1 hw⟩
theorem leads_none {l : List Txt} {s : Txt} (h : splitV s = none) (hl : chLeads l s = true) : l = [] := by
  unfold chLeads chHas at hl
  simp only [Bool.or_eq_true, List.any_eq_true] at hl
  rcases hl with (hl | ⟨t, ht, h1⟩) | ⟨t, ht, h1⟩
  · exact List.isEmpty_iff.1 hl
  · obtain ⟨x, y, ha, _⟩ := within_iff.1 h1
    rw [h] at ha; cases ha
  · obtain ⟨x, y, _, ha, _⟩ := within_iff.1 h1
    rw [h] at ha; cases ha

/-! ### Twice -/
theorem Tops.self {l T : List Txt} (h : Tops l T) (hp : ∀ s, s ∈ l → pathB s = true) {U : List Txt} (hU : ∀ x, x ∈ U ↔ x ∈ T) : cleanT U = T := by
  have hpU : ∀ s, s ∈ U → pathB s = true := fun s hs => hp s (h.sub s ((hU s).1 hs))
  have h1 : Tops U T := ⟨h.rise, fun t ht => (hU t).2 ht, h.apart, fun s hs => ⟨s, (hU s).1 hs, within_self (hpU s hs)⟩⟩
  exact h1.unique (cleanT_tops hpU).rise (cleanT_tops hpU).mem

/-! ### The document's Clean -/
/-- Ahead of how many of a rising list a text comes, counted from the end. -/
def insAt (out : List Txt) (x : Txt) : Nat := out.length - (out.reverse.takeWhile fun y => decide (x ≤ y)).length
theorem insAt_eq {out : List Txt} {x : Txt} {k : Nat} (hk : k ≤ out.length) (h1 : ∀ j, k ≤ j → (hj : j < out.length) → x ≤ out[j]) (h2 : k = 0 ∨ ∃ h : k - 1 < out.length, ¬ x ≤ out[k - 1]) : insAt out x = k := by
  have e : out = out.take k ++ out.drop k := (List.take_append_drop k out).symm
  have hd : ∀ y, y ∈ (out.drop k).reverse → decide (x ≤ y) = true := fun y hy => by
    rw [List.mem_reverse] at hy
    obtain ⟨j, hj, rfl⟩ := List.getElem_of_mem hy
    rw [List.length_drop] at hj
    rw [List.getElem_drop, decide_eq_true_eq]
    exact h1 (k + j) (by omega) (by omega)
  have ht : ((out.take k).reverse.takeWhile fun y => decide (x ≤ y)) = [] := by
    rcases h2 with rfl | ⟨h3, h4⟩
    · simp
    · have hk0 : k ≠ 0 ∨ k = 0 := by omega
      rcases hk0 with hk0 | rfl
      · have hlast : (out.take k).reverse = out[k - 1] :: (out.take (k - 1)).reverse := by
          have : out.take k = out.take (k - 1) ++ [out[k - 1]] := by
            have := List.take_succ_eq_append_getElem h3
            rwa [show k - 1 + 1 = k by omega] at this
          rw [this, List.reverse_append]
          rfl
        rw [hlast, List.takeWhile_cons, if_neg (by simpa using h4)]
      · simp
  unfold insAt
  have : (out.reverse.takeWhile fun y => decide (x ≤ y)).length = out.length - k := by
    conv => lhs; rw [e, List.reverse_append]
    rw [List.takeWhile_append_of_pos hd, ht, List.append_nil, List.length_reverse, List.length_drop]
  omega
theorem insAt_le (out : List Txt) (x : Txt) : insAt out x ≤ out.length := by unfold insAt; omega
def insT (out : List Txt) (x : Txt) : List Txt := out.take (insAt out x) ++ x :: out.drop (insAt out x)
def refStep (l : List Txt) (out : List Txt) (x : Txt) : List Txt := if (underB l x || (out[insAt out x]? == some x)) = true then out else insT out x
def refOut (l : List Txt) (n : Nat) : List Txt := (l.take n).foldl (refStep l) []
theorem refOut_succ {l : List Txt} {n : Nat} (h : n < l.length) : refOut l (n + 1) = refStep l (refOut l n) l[n] := by
  unfold refOut
  rw [List.take_succ_eq_append_getElem h, List.foldl_append]
  rfl
theorem refStep_le (l out : List Txt) (x : Txt) : (refStep l out x).length ≤ out.length + 1 := by
  unfold refStep
  split
  · omega
  · unfold insT
    have := insAt_le out x
    simp
    omega
theorem refOut_le (l : List Txt) (n : Nat) (h : n ≤ l.length) : (refOut l n).length ≤ n := by
  induction n with
  | zero => exact Nat.le_refl _
  | succ n ih =>
    rw [refOut_succ (by omega)]
    have := ih (by omega)
    have := refStep_le l (refOut l n) l[n]
    omega
/-- In a rising list all ahead of that place come first, all from it on do not. -/
theorem insAt_parts {out : List Txt} {x : Txt} (h : out.Pairwise (· < ·)) : (∀ y, y ∈ out.take (insAt out x) → y < x) ∧ ∀ y, y ∈ out.drop (insAt out x) → x ≤ y := by
  obtain ⟨k, hk, h1, h2⟩ : ∃ k, k ≤ out.length ∧ (∀ j, k ≤ j → (hj : j < out.length) → x ≤ out[j]) ∧ (k = 0 ∨ ∃ h : k - 1 < out.length, ¬ x ≤ out[k - 1]) := by
    have : ∀ m, m ≤ out.length → (∀ j, m ≤ j → (hj : j < out.length) → x ≤ out[j]) → ∃ k, k ≤ out.length ∧ (∀ j, k ≤ j → (hj : j < out.length) → x ≤ out[j]) ∧ (k = 0 ∨ ∃ h : k - 1 < out.length, ¬ x ≤ out[k - 1]) := by
      intro m
      induction m with
      | zero => exact fun hm h => ⟨0, hm, h, .inl rfl⟩
      | succ m ih =>
        intro hm h
        by_cases hx : x ≤ out[m]
        · refine ih (by omega) fun j hj hjl => ?_
          by_cases e : j = m
          · subst e; exact hx
          · exact h j (by omega) hjl
        · exact ⟨m + 1, hm, h, .inr ⟨by omega, hx⟩⟩
    exact this out.length (Nat.le_refl _) fun j h1 h2 => by omega
  rw [insAt_eq hk h1 h2]
  constructor
  · intro y hy
    rcases h2 with rfl | ⟨h3, h4⟩
    · simp at hy
    · obtain ⟨j, hj, rfl⟩ := List.getElem_of_mem hy
      rw [List.length_take] at hj
      rw [List.getElem_take]
      have hlast : out[k - 1] < x := List.not_le.1 h4
      by_cases e : j = k - 1
      · subst e; exact hlast
      · exact List.lt_trans (List.pairwise_iff_getElem.1 h j (k - 1) (by omega) h3 (by omega)) hlast
  · intro y hy
    obtain ⟨j, hj, rfl⟩ := List.getElem_of_mem hy
    rw [List.length_drop] at hj
    rw [List.getElem_drop]
    exact h1 _ (by omega) (by omega)
theorem refStep_rise {l out : List Txt} {x : Txt} (h : out.Pairwise (· < ·)) : (refStep l out x).Pairwise (· < ·) ∧ ∀ y, y ∈ refStep l out x ↔ y ∈ out ∨ (y = x ∧ underB l x = false) := by
  obtain ⟨h1, h2⟩ := insAt_parts (x := x) h
  unfold refStep
  split
  · rename_i hc
    refine ⟨h, fun y => ⟨.inl, ?_⟩⟩
    rintro (hy | ⟨rfl, hy⟩)
    · exact hy
    · rw [hy, Bool.false_or, beq_iff_eq] at hc
      exact List.mem_of_getElem? hc
  · rename_i hc
    rw [Bool.or_eq_true, not_or, beq_iff_eq] at hc
    have hu : underB l x = false := by simpa using hc.1
    have hlt : ∀ y, y ∈ out.drop (insAt out x) → x < y := fun y hy => by
      refine txt_lt_of (h2 y hy) fun e => ?_
      subst e
      cases hd : out.drop (insAt out x) with
      | nil => rw [hd] at hy; cases hy
      | cons z r =>
        have hz : out[insAt out x]? = some z := by
          have := congrArg (·[0]?) hd
          simpa using this
        rw [hd] at hy
        rcases List.mem_cons.1 hy with rfl | hy
        · exact hc.2 hz
        · have hp := h.sublist (List.drop_sublist (insAt out x) out)
          rw [hd, List.pairwise_cons] at hp
          have h3 := hp.1 x hy
          have h4 := h2 z (by rw [hd]; simp)
          exact List.not_lt.2 h4 h3
    constructor
    · unfold insT
      rw [List.pairwise_append]
      refine ⟨h.sublist (List.take_sublist _ _), ?_, fun y hy z hz => ?_⟩
      · rw [List.pairwise_cons]
        exact ⟨hlt, h.sublist (List.drop_sublist _ _)⟩
      · rcases List.mem_cons.1 hz with rfl | hz
        · exact h1 y hy
        · exact List.lt_trans (h1 y hy) (hlt z hz)
    · intro y
      unfold insT
      rw [List.mem_append, List.mem_cons]
      have e : y ∈ out ↔ y ∈ out.take (insAt out x) ∨ y ∈ out.drop (insAt out x) := by
        rw [← List.mem_append, List.take_append_drop]
      rw [e]
      constructor
      · rintro (h | rfl | h)
        · exact .inl (.inl h)
        · exact .inr ⟨rfl, hu⟩
        · exact .inl (.inr h)
      · rintro ((h | h) | ⟨rfl, _⟩)
        · exact .inl h
        · exact .inr (.inr h)
        · exact .inr (.inl rfl)
theorem refOut_all (l : List Txt) (n : Nat) (hn : n ≤ l.length) : (refOut l n).Pairwise (· < ·) ∧ ∀ y, y ∈ refOut l n ↔ y ∈ l.take n ∧ underB l y = false := by
  induction n with
  | zero => exact ⟨.nil, fun y => by simp [refOut]⟩
  | succ n ih =>
    obtain ⟨h1, h2⟩ := ih (by omega)
    have hlt : n < l.length := by omega
    rw [refOut_succ hlt]
    obtain ⟨h3, h4⟩ := refStep_rise (l := l) (x := l[n]) h1
    refine ⟨h3, fun y => ?_⟩
    rw [h4, h2, List.take_succ_eq_append_getElem hlt, List.mem_append, List.mem_singleton]
    constructor
    · rintro (⟨h, hu⟩ | ⟨rfl, hu⟩)
      · exact ⟨.inl h, hu⟩
      · exact ⟨.inr rfl, hu⟩
    · rintro ⟨h | rfl, hu⟩
      · exact .inl ⟨h, hu⟩
      · exact .inr ⟨rfl, hu⟩
theorem refOut_clean {l : List Txt} (hp : ∀ s, s ∈ l → pathB s = true) : refOut l l.length = cleanT l := by
  obtain ⟨h1, h2⟩ := refOut_all l l.length (Nat.le_refl _)
  rw [List.take_length] at h2
  exact (cleanT_tops hp).unique h1 h2
end Go.Proofs.YtgebodibamgipaaGreatDoor
