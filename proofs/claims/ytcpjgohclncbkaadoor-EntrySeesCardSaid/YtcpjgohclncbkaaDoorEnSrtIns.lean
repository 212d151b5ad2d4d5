/-
  Entries in the order of their names, and of one name in that of their numbers: mathematics of a stable sort.
  A region that draws its order and in which two entries change their places.
  slices.swapRangeCmpFunc of entries; slices.rotateCmpFunc.
  slices.insertionSortCmpFunc of entries by their names.
-/
import Derived.Test.YtcpjgohclncbkaaDoorEnMaths
import Derived.Lib.Bytealg
import Derived.Test.YtcpjgohclncbkaaDoorEnJoins
namespace Go.Proofs.YtcpjgohclncbkaaDoor
open Go.RowKit
set_option maxRecDepth 100000

theorem u8_tri (x y : UInt8) (h1 : ¬ x < y) (h2 : ¬ y < x) : x = y := by
  rw [UInt8.lt_iff_toNat_lt] at h1 h2
  exact UInt8.toNat_inj.1 (by omega)
theorem u8_asymm {x y : UInt8} (h : x < y) : ¬ y < x := by rw [UInt8.lt_iff_toNat_lt] at h ⊢; omega
theorem cmpB_swap : ∀ a b : List UInt8, Lib.compareBytes b a = - Lib.compareBytes a b
  | [], [] => rfl
  | [], _ :: _ => rfl
  | _ :: _, [] => rfl
  | x :: a, y :: b => by
    have ih := cmpB_swap a b
    unfold Lib.compareBytes
    by_cases h1 : x < y
    · rw [if_neg (u8_asymm h1), if_pos h1, if_pos h1]; rfl
    · by_cases h2 : y < x
      · rw [if_pos h2, if_neg h1, if_pos h2]
      · rw [if_neg h2, if_neg h1, if_neg h1, if_neg h2, ih]
theorem cmpB_zero : ∀ a b : List UInt8, Lib.compareBytes a b = 0 → a = b
  | [], [], _ => rfl
  | [], _ :: _, h => by cases h
  | _ :: _, [], h => by cases h
  | x :: a, y :: b, h => by
    unfold Lib.compareBytes at h
    by_cases h1 : x < y
    · rw [if_pos h1] at h; cases h
    · rw [if_neg h1] at h
      by_cases h2 : y < x
      · rw [if_pos h2] at h; cases h
      · rw [if_neg h2] at h
        rw [u8_tri x y h1 h2, cmpB_zero a b h]
theorem cmpB_self (a : List UInt8) : Lib.compareBytes a a = 0 := by have := cmpB_swap a a; omega
theorem cmpB_trans : ∀ a b c : List UInt8, Lib.compareBytes a b < 0 → Lib.compareBytes b c < 0 → Lib.compareBytes a c < 0
  | [], [], _, h, _ => by simp [Lib.compareBytes] at h
  | [], _ :: _, [], _, h => by simp [Lib.compareBytes] at h
  | [], _ :: _, _ :: _, _, _ => by simp [Lib.compareBytes]
  | _ :: _, [], _, h, _ => by simp [Lib.compareBytes] at h
  | _ :: _, _ :: _, [], _, h => by simp [Lib.compareBytes] at h
  | x :: a, y :: b, z :: c, h1, h2 => by
    unfold Lib.compareBytes at h1 h2 ⊢
    by_cases xy : x < y
    · by_cases yz : y < z
      · rw [if_pos (show x < z by rw [UInt8.lt_iff_toNat_lt] at *; omega)]; decide
      · rw [if_neg yz] at h2
        by_cases zy : z < y
        · rw [if_pos zy] at h2; omega
        · rw [if_pos (show x < z by rw [← u8_tri y z yz zy]; exact xy)]; decide
    · rw [if_neg xy] at h1
      by_cases yx : y < x
      · rw [if_pos yx] at h1; omega
      · rw [if_neg yx] at h1
        obtain rfl := u8_tri x y xy yx
        by_cases yz : x < z
        · rw [if_pos yz]; decide
        · rw [if_neg yz] at h2 ⊢
          by_cases zy : z < x
          · rw [if_pos zy] at h2; omega
          · rw [if_neg zy] at h2 ⊢
            exact cmpB_trans a b c h1 h2
/-- By their names. -/
def nlt (x y : Ent) : Bool := decide (Lib.compareBytes x.data y.data < 0)
/-- By their numbers. -/
def prec (x y : Ent) : Prop := lessV x.rep x.seq y.rep y.seq = true
/-- By their names, and of one name by their numbers. -/
def ltE (x y : Ent) : Prop := nlt x y = true ∨ (x.data = y.data ∧ prec x y)
theorem nlt_iff {x y : Ent} : nlt x y = true ↔ Lib.compareBytes x.data y.data < 0 := by unfold nlt; simp
theorem nlt_not {x y : Ent} : nlt x y = false ↔ 0 ≤ Lib.compareBytes x.data y.data := by unfold nlt; simp
theorem ltE_of_not {x y : Ent} (h : nlt y x = false) (hp : prec x y) : ltE x y := by
  rw [nlt_not] at h
  have := cmpB_swap x.data y.data
  by_cases e : Lib.compareBytes x.data y.data = 0
  · exact .inr ⟨cmpB_zero _ _ e, hp⟩
  · exact .inl (nlt_iff.2 (by omega))
theorem ltE_trans {x y z : Ent} (h : ltE x y) (g : ltE y z) : ltE x z := by
  rcases h with h | ⟨h1, h2⟩
  · rcases g with g | ⟨g1, g2⟩
    · exact .inl (nlt_iff.2 (cmpB_trans _ _ _ (nlt_iff.1 h) (nlt_iff.1 g)))
    · exact .inl (nlt_iff.2 (by rw [← g1]; exact nlt_iff.1 h))
  · rcases g with g | ⟨g1, g2⟩
    · exact .inl (nlt_iff.2 (by rw [h1]; exact nlt_iff.1 g))
    · exact .inr ⟨h1.trans g1, lessV_trans h2 g2⟩
theorem ltE_asymm {x y : Ent} (h : ltE x y) (g : ltE y x) : False := by
  have := ltE_trans h g
  rcases this with h | ⟨_, h⟩
  · rw [nlt_iff, cmpB_self] at h; omega
  · unfold prec at h
    rw [lessV_self] at h
    cases h
/-- A sorted list is known by what is in it. -/
theorem srt_unique {L M : List Ent} (hp : L.Perm M) (hl : L.Pairwise ltE) (hm : M.Pairwise ltE) : L = M := hp.eq_of_pairwise (fun _ _ _ _ h g => (ltE_asymm h g).elim) hl hm
/-- One more in its place. -/
theorem ins_mid {C1 C2 : List Ent} {x : Ent} (hC : (C1 ++ C2).Pairwise ltE) (h1 : ∀ C y, C1 = C ++ [y] → nlt x y = false) (hp : ∀ y ∈ C1, prec y x) (h2 : ∀ y ∈ C2, nlt x y = true) : (C1 ++ x :: C2).Pairwise ltE := by
  obtain ⟨hc1, hc2, hc3⟩ := List.pairwise_append.1 hC
  refine List.pairwise_append.2 ⟨hc1, List.pairwise_cons.2 ⟨fun y hy => .inl (h2 y hy), hc2⟩, fun y hy z hz => ?_⟩
  rcases List.mem_cons.1 hz with rfl | hz
  · rcases List.eq_nil_or_concat C1 with e | ⟨C, t, e⟩
    · rw [e] at hy; simp at hy
    · have e' : C1 = C ++ [t] := by rw [e]; simp
      have ht := ltE_of_not (h1 C t e') (hp t (by rw [e']; simp))
      rw [e'] at hy hc1
      rcases List.mem_append.1 hy with hy | hy
      · exact ltE_trans ((List.pairwise_append.1 hc1).2.2 y hy t (by simp)) ht
      · rw [List.mem_singleton] at hy; rw [hy]; exact ht
  · exact hc3 y hy z hz
theorem pair_le {A : List Ent} (hA : A.Pairwise ltE) {i k : Nat} (hi : i < A.length) (hk : k < A.length) (h : i ≤ k) : A[i] = A[k] ∨ ltE A[i] A[k] := by
  rcases Nat.lt_or_eq_of_le h with h | h
  · exact .inr (List.pairwise_iff_getElem.1 hA i k hi hk h)
  · subst h; exact .inl rfl
theorem ltE_left {x y z : Ent} (h : x = y ∨ ltE x y) (g : ltE y z) : ltE x z := by
  rcases h with rfl | h
  · exact g
  · exact ltE_trans h g
theorem ltE_right {x y z : Ent} (g : ltE x y) (h : y = z ∨ ltE y z) : ltE x z := by
  rcases h with rfl | h
  · exact g
  · exact ltE_trans g h
/-- What stands ahead of a cut through two sorted lists stands ahead of what is behind it. -/
theorem cut_less {A B : List Ent} (hA : A.Pairwise ltE) (hB : B.Pairwise ltE) (hp : ∀ x ∈ A, ∀ y ∈ B, prec x y) {i j : Nat} (hi : i ≤ A.length) (hj : j ≤ B.length)
    (h1 : ∀ (h : i - 1 < A.length) (h' : j < B.length), 0 < i → nlt B[j] A[i - 1] = false) (h2 : ∀ (h : i < A.length) (h' : j - 1 < B.length), 0 < j → nlt B[j - 1] A[i] = true) :
    ∀ x ∈ A.take i ++ B.take j, ∀ y ∈ A.drop i ++ B.drop j, ltE x y := by
  intro x hx y hy
  rcases List.mem_append.1 hx with hx | hx
  · obtain ⟨p, hp1, rfl⟩ := List.getElem_of_mem hx
    rw [List.length_take] at hp1
    rw [List.getElem_take]
    rcases List.mem_append.1 hy with hy | hy
    · obtain ⟨q, hq1, rfl⟩ := List.getElem_of_mem hy
      rw [List.length_drop] at hq1
      rw [List.getElem_drop]
      exact List.pairwise_iff_getElem.1 hA _ _ _ _ (by omega)
    · obtain ⟨q, hq1, rfl⟩ := List.getElem_of_mem hy
      rw [List.length_drop] at hq1
      rw [List.getElem_drop]
      have hm : ltE A[i - 1] B[j] := ltE_of_not (h1 (by omega) (by omega) (by omega)) (hp _ (List.getElem_mem _) _ (List.getElem_mem _))
      exact ltE_right (ltE_left (pair_le hA (by omega) (by omega) (by omega)) hm) (pair_le hB (by omega) (by omega) (by omega))
  · obtain ⟨p, hp1, rfl⟩ := List.getElem_of_mem hx
    rw [List.length_take] at hp1
    rw [List.getElem_take]
    rcases List.mem_append.1 hy with hy | hy
    · obtain ⟨q, hq1, rfl⟩ := List.getElem_of_mem hy
      rw [List.length_drop] at hq1
      rw [List.getElem_drop]
      have hm : ltE B[j - 1] A[i] := .inl (h2 (by omega) (by omega) (by omega))
      exact ltE_right (ltE_left (pair_le hB (by omega) (by omega) (by omega)) hm) (pair_le hA (by omega) (by omega) (by omega))
    · obtain ⟨q, hq1, rfl⟩ := List.getElem_of_mem hy
      rw [List.length_drop] at hq1
      rw [List.getElem_drop]
      exact List.pairwise_iff_getElem.1 hB _ _ _ _ (by omega)
/-- Two places change. -/
def swapL (L : List Ent) (x y : Nat) : List Ent := match L[x]?, L[y]? with | some u, some v => (L.set x v).set y u | _, _ => L
theorem swapL_at {L : List Ent} {x y : Nat} (hx : x < L.length) (hy : y < L.length) : swapL L x y = (L.set x L[y]).set y L[x] := by
  unfold swapL
  rw [List.getElem?_eq_getElem hx, List.getElem?_eq_getElem hy]
theorem swapL_length (L : List Ent) (x y : Nat) : (swapL L x y).length = L.length := by
  unfold swapL
  split <;> simp
theorem swap_next {P Q : List Ent} {x y : Ent} : swapL (P ++ y :: x :: Q) (P.length + 1) P.length = P ++ x :: y :: Q ∧ swapL (P ++ y :: x :: Q) P.length (P.length + 1) = P ++ x :: y :: Q := by
  have e1 : (P ++ y :: x :: Q)[P.length]? = some y := by rw [List.getElem?_append_right (Nat.le_refl _), Nat.sub_self]; rfl
  have e2 : (P ++ y :: x :: Q)[P.length + 1]? = some x := by rw [List.getElem?_append_right (by omega), Nat.add_sub_cancel_left]; rfl
  constructor
  · unfold swapL
    rw [e1, e2]
    dsimp only
    rw [List.set_append_right _ _ (by omega), Nat.add_sub_cancel_left, List.set_append_right _ _ (Nat.le_refl _), Nat.sub_self]
    rfl
  · unfold swapL
    rw [e1, e2]
    dsimp only
    rw [List.set_append_right _ _ (Nat.le_refl _), Nat.sub_self, List.set_append_right _ _ (by omega), Nat.add_sub_cancel_left]
    rfl
/-- n places from a on change with those from b on. -/
def swapR (L : List Ent) (a b : Nat) : Nat → List Ent
  | 0 => L
  | n + 1 => swapL (swapR L a b n) (a + n) (b + n)
theorem swapR_length (L : List Ent) (a b : Nat) : ∀ n, (swapR L a b n).length = L.length
  | 0 => rfl
  | n + 1 => by unfold swapR; rw [swapL_length, swapR_length L a b n]
theorem swapL_get {L : List Ent} {x y t : Nat} (hx : x < L.length) (hy : y < L.length) : (swapL L x y)[t]? = if t = y then L[x]? else if t = x then L[y]? else L[t]? := by
  rw [swapL_at hx hy, List.getElem?_set]
  by_cases e : y = t
  · rw [if_pos e, if_pos e.symm, if_pos (by rw [List.length_set]; exact hy), List.getElem?_eq_getElem hx]
  · rw [if_neg e, if_neg (fun h => e h.symm), List.getElem?_set]
    by_cases e2 : x = t
    · rw [if_pos e2, if_pos e2.symm, if_pos hx, List.getElem?_eq_getElem hy]
    · rw [if_neg e2, if_neg (fun h => e2 h.symm)]
theorem swapR_get {L : List Ent} {a b : Nat} (t : Nat) : ∀ n, a + n ≤ b → b + n ≤ L.length → (swapR L a b n)[t]? = if a ≤ t ∧ t < a + n then L[t - a + b]? else if b ≤ t ∧ t < b + n then L[t - b + a]? else L[t]?
  | 0, _, _ => by
    rw [if_neg (by omega), if_neg (by omega)]
    rfl
  | n + 1, h1, h2 => by
    have ih := fun t => swapR_get (L := L) (a := a) (b := b) t n (by omega) (by omega)
    unfold swapR
    rw [swapL_get (by rw [swapR_length]; omega) (by rw [swapR_length]; omega), ih, ih, ih]
    by_cases e1 : t = b + n
    · subst e1
      rw [if_pos rfl, if_neg (by omega), if_neg (by omega), if_neg (by omega), if_pos (by omega)]
      congr 1; omega
    · rw [if_neg e1]
      by_cases e2 : t = a + n
      · subst e2
        rw [if_pos rfl, if_neg (by omega), if_neg (by omega), if_pos (by omega)]
        congr 1; omega
      · rw [if_neg e2]
        by_cases e3 : a ≤ t ∧ t < a + n
        · rw [if_pos e3, if_pos (by omega)]
        · rw [if_neg e3, if_neg (show ¬ (a ≤ t ∧ t < a + (n + 1)) by omega)]
          by_cases e4 : b ≤ t ∧ t < b + n
          · rw [if_pos e4, if_pos (by omega)]
          · rw [if_neg e4, if_neg (by omega)]
/-- What lies from a to m comes behind what lies from m to b. -/
def rotL (L : List Ent) (a m b : Nat) : List Ent := L.take a ++ ((L.drop m).take (b - m) ++ ((L.drop a).take (m - a) ++ L.drop b))
theorem rotL_get {L : List Ent} {a m b : Nat} (t : Nat) (h1 : a ≤ m) (h2 : m ≤ b) (h3 : b ≤ L.length) : (rotL L a m b)[t]? = if a ≤ t ∧ t < a + (b - m) then L[t + (m - a)]? else if a + (b - m) ≤ t ∧ t < b then L[t - (b - m)]? else L[t]? := by
  unfold rotL
  by_cases c1 : t < a
  · rw [List.getElem?_append_left (by rw [List.length_take]; omega), List.getElem?_take_of_lt c1, if_neg (by omega), if_neg (by omega)]
  · rw [List.getElem?_append_right (by rw [List.length_take]; omega), List.length_take, Nat.min_eq_left (by omega)]
    by_cases c2 : t < a + (b - m)
    · rw [List.getElem?_append_left (by rw [List.length_take, List.length_drop]; omega), List.getElem?_take_of_lt (by omega), List.getElem?_drop, if_pos (by omega)]
      congr 1; omega
    · rw [List.getElem?_append_right (by rw [List.length_take, List.length_drop]; omega), List.length_take, List.length_drop, Nat.min_eq_left (by omega), if_neg (by omega)]
      by_cases c3 : t < b
      · rw [List.getElem?_append_left (by rw [List.length_take, List.length_drop]; omega), List.getElem?_take_of_lt (by omega), List.getElem?_drop, if_pos (by omega)]
        congr 1; omega
      · rw [List.getElem?_append_right (by rw [List.length_take, List.length_drop]; omega), List.length_take, List.length_drop, Nat.min_eq_left (by omega), List.getElem?_drop, if_neg (by omega)]
        congr 1; omega
theorem rot_left {L : List Ent} {i j m : Nat} (hi : j < i) (him : i ≤ m) (hm : m + j ≤ L.length) : rotL (swapR L (m - i) m j) (m - (i - j)) m (m + j) = rotL L (m - i) m (m + j) := by
  apply List.ext_getElem?
  intro t
  rw [rotL_get t (by omega) (by omega) (by rw [swapR_length]; omega), rotL_get t (by omega) (by omega) hm, swapR_get _ j (by omega) hm, swapR_get _ j (by omega) hm, swapR_get _ j (by omega) hm]
  repeat' split
  all_goals first | (exfalso; omega) | rfl | (congr 1; omega)
theorem rot_right {L : List Ent} {i j m : Nat} (hi : i < j) (him : i ≤ m) (hm : m + j ≤ L.length) : rotL (swapR L (m - i) (m + j - i) i) (m - i) m (m + (j - i)) = rotL L (m - i) m (m + j) := by
  apply List.ext_getElem?
  intro t
  rw [rotL_get t (by omega) (by omega) (by rw [swapR_length]; omega), rotL_get t (by omega) (by omega) hm, swapR_get _ i (by omega) (by omega), swapR_get _ i (by omega) (by omega), swapR_get _ i (by omega) (by omega)]
  repeat' split
  all_goals first | (exfalso; omega) | rfl | (congr 1; omega)
theorem rot_both {L : List Ent} {i m : Nat} (him : i ≤ m) (hm : m + i ≤ L.length) : swapR L (m - i) m i = rotL L (m - i) m (m + i) := by
  apply List.ext_getElem?
  intro t
  rw [rotL_get t (by omega) (by omega) hm, swapR_get _ i (by omega) hm]
  repeat' split
  all_goals first | (exfalso; omega) | rfl | (congr 1; omega)
theorem rotL_parts {P X Y S : List Ent} : rotL (P ++ (X ++ (Y ++ S))) P.length (P.length + X.length) (P.length + X.length + Y.length) = P ++ (Y ++ (X ++ S)) := by
  unfold rotL
  have e1 : (P ++ (X ++ (Y ++ S))).take P.length = P := by simp
  have e2 : (P ++ (X ++ (Y ++ S))).drop (P.length + X.length) = Y ++ S := by rw [← List.drop_drop]; simp
  have e3 : (P ++ (X ++ (Y ++ S))).drop P.length = X ++ (Y ++ S) := by simp
  have e4 : (P ++ (X ++ (Y ++ S))).drop (P.length + X.length + Y.length) = S := by rw [← List.drop_drop, e2]; simp
  rw [e1, e2, e3, e4, Nat.add_sub_cancel_left, Nat.add_sub_cancel_left]
  simp
end Go.Proofs.YtcpjgohclncbkaaDoor

namespace Go.Proofs.YtcpjgohclncbkaaDoor
open Go.RowKit
set_option maxRecDepth 100000

def depE (l : Array Oper) (i j : Nat) : Bool := ((l[i]?).map fun o => o.after.any fun e => decide (e.on = j) && Region.binds .any e).getD false
theorem depE_at {l : Array Oper} {i j : Nat} {o : Oper} {d : Nat → Bool} (h : depE l i j = true) (hi : l[i]? = some o) (hpre : ∀ e ∈ o.after, Region.binds .any e = true → d e.on = true) : d j = true := by
  unfold depE at h
  rw [hi] at h
  simp only [Option.map_some, Option.getD_some, Array.any_eq_true] at h
  obtain ⟨k, hk, h2⟩ := h
  rw [Bool.and_eq_true, decide_eq_true_iff] at h2
  rw [← h2.1]
  exact hpre _ (Array.getElem_mem hk) h2.2
/-- A region that draws its order: operation s1 turns the world, then s2; what l1 and l2 read is read ahead of both. -/
theorem wp_region_sw {P : Program} {id : Nat} {Q : Exit → Act → World → Prop} {a0 : Act} {w0 : World} {l : Array Oper} (V : Nat → Value) (W1 W2 : World) (s1 s2 l1 l2 N : Nat) (hm : P.follows .mixedOrders = true) (ho : inOrder l = true) (hg : fixRegion l N = true)
    (hs : a0.tmps.size = N) (hdep : (depE l s1 l1 && depE l s1 l2 && depE l s2 s1) = true) (hne : (decide (s1 ≠ s2) && decide (s1 < l.size) && decide (s2 < l.size)) = true)
    (hop : ∀ (i : Nat) (o : Oper), l[i]? = some o → ∀ (a : Act) (x : World), (i = l1 → x = w0.drew) → (i = l2 → x = w0.drew) → (i = s1 → x = w0.drew) → (i = s2 → x = W1) →
      (∀ s, (∀ j, slotO l j ≠ some s) → a.tmps[s]?.getD undef = a0.tmps[s]?.getD undef) → (∀ e ∈ o.after, Region.binds .any e = true → ∀ s, slotO l e.on = some s → a.tmps[s]?.getD undef = V s) →
      ∀ K : Act → World → Prop, (∀ v x', (∀ s, o.dst = some s → v = V s) → (i ≠ s1 → i ≠ s2 → x' = x) → (i = s1 → x' = W1) → (i = s2 → x' = W2) → K (a.put o.dst v) x') → o.wp P a x K Q)
    (hend : ∀ (a : Act), (∀ s, (∀ j, slotO l j ≠ some s) → a.tmps[s]?.getD undef = a0.tmps[s]?.getD undef) → (∀ j s, j < l.size → slotO l j = some s → a.tmps[s]?.getD undef = V s) → a.tmps.size = N → a.defers = a0.defers → Q .normal a W2) :
    (Code.region id l true).wp P Q a0 w0 := by
  simp only [Bool.and_eq_true, decide_eq_true_iff] at hdep hne
  obtain ⟨⟨d1, d2⟩, d3⟩ := hdep
  obtain ⟨⟨n1, n2⟩, n3⟩ := hne
  refine wp_region_fix2 V (Ch2 s1 s2 w0.drew W1 W2) N hm ho hg hs Ch2.start ?_ ?_
  · intro i o hi d a x hJ hd hpre hcl hsame hV K hK
    have hld : ∀ k, depE l s1 k = true → d k = false → x = w0.drew := by
      intro k hk hdk
      rcases hJ with ⟨e, _, _⟩ | ⟨_, e, _⟩ | ⟨_, e, _⟩
      · exact e
      · have := depE_at hk (Array.getElem?_eq_getElem n2) (fun e he hb => hcl s1 _ (Array.getElem?_eq_getElem n2) (by assumption) e he hb)
        rw [hdk] at this; cases this
      · have := depE_at hk (Array.getElem?_eq_getElem n2) (fun e he hb => hcl s1 _ (Array.getElem?_eq_getElem n2) (by assumption) e he hb)
        rw [hdk] at this; cases this
    refine hop i o hi a x (fun e => hld l1 d1 (e ▸ hd)) (fun e => hld l2 d2 (e ▸ hd)) (fun e => by subst e; exact (hJ.first hd n1).1) (fun e => by subst e; exact (hJ.second (depE_at d3 hi hpre) hd (fun h => n1 h.symm)).1)
      (fun s h => hsame s fun j hj => absurd hj (h j)) (fun e he hb s hs' => hV e.on s (hpre e he hb) hs') K (fun v x' h1 h2 h3 h4 => hK v x' h1 ?_)
    by_cases e1 : i = s1
    · subst e1
      rw [h3 rfl]
      exact (hJ.first hd n1).2
    · by_cases e2 : i = s2
      · subst e2
        rw [h4 rfl]
        exact (hJ.second (depE_at d3 hi hpre) hd (fun h => n1 h.symm)).2
      · rw [h2 e1 e2]
        exact hJ.more e1 e2
  · intro d a x hall hJ hsame hV hsz hde
    rw [hJ.done (hall s2 n3)]
    exact hend a hsame hV hsz hde
/-- An own entry, by its place. -/
theorem OwnE.look {w : World} {base g m c : Nat} {L : List Ent} (h : OwnE w base (.slice (some ⟨g, 0, none⟩) m c) L) {k : Nat} {x : Ent} (hk : L[k]? = some x) : w.rangeAt g (k * 15) (entC x).toList ∧ w.there g (k * 15) 15 := by
  obtain ⟨hl, e⟩ := List.getElem?_eq_some_iff.1 hk
  rw [← e]
  exact h.at_ hl
theorem OwnE.put {w : World} {base g c : Nat} {L : List Ent} (h : OwnE w base (.slice (some ⟨g, 0, none⟩) L.length c) L) {k : Nat} (hk : k < L.length) {X : Ent} (hX : EntOk X) : OwnE (w.setCells g (k * 15) (entC X).toList) base (.slice (some ⟨g, 0, none⟩) L.length c) (L.set k X) :=
  h.store hk X hX 0 (entC X).toList (by show 0 + 15 ≤ 15; omega) (splice_all _ _ (by rfl))
/-- What is wanted where entries at x and y change their places. -/
theorem swap_facts {w : World} {base g n c : Nat} {L : List Ent} (h : OwnE w base (.slice (some ⟨g, 0, none⟩) n c) L) (hn : n = L.length) {x y : Nat} (hx : x < n) (hy : y < n) (hb : base ≤ w.heap.size) :
    ∃ (CX CY : Array Value) (W1 W2 : World), W1 = w.drew.setCells g (x * 15) CY.toList ∧ W2 = W1.setCells g (y * 15) CX.toList ∧ w.drew.rangeAt g (x * 15) CX.toList ∧ w.drew.rangeAt g (y * 15) CY.toList ∧ w.drew.there g (x * 15) CY.size ∧ W1.there g (y * 15) CX.size ∧
      (Tryd.prog.info? 29).map (·.size) = some CX.toList.length ∧ (Tryd.prog.info? 29).map (·.size) = some CY.toList.length ∧ (Tryd.prog.info? 29).map (·.size) = some CX.size ∧ (Tryd.prog.info? 29).map (·.size) = some CY.size ∧ CX.all (·.oneCell') = true ∧ CY.all (·.oneCell') = true ∧
      OwnE W2 base (.slice (some ⟨g, 0, none⟩) n c) (swapL L x y) ∧ Below base w W2 := by
  subst hn
  have h0 : OwnE w.drew base (.slice (some ⟨g, 0, none⟩) L.length c) L := ⟨OwnK.drew h.1, h.2⟩
  have h1 := h0.put hx (h.2 _ (List.getElem_mem hy))
  have h1' : OwnE (w.drew.setCells g (x * 15) (entC L[y]).toList) base (.slice (some ⟨g, 0, none⟩) (L.set x L[y]).length c) (L.set x L[y]) := by rw [List.length_set]; exact h1
  have hy' : y < (L.set x L[y]).length := by rw [List.length_set]; exact hy
  have h2 := h1'.put hy' (X := L[x]) (h.2 _ (List.getElem_mem hx))
  obtain ⟨_, _, e, _, _, hbg, _, _, _⟩ := h.elem hx
  injection e with e
  injection e with e
  injection e with e _ _
  subst e
  refine ⟨entC L[x], entC L[y], _, _, rfl, rfl, (h0.at_ hx).1, (h0.at_ hy).1, (h0.at_ hx).2, (h1'.at_ hy').2, ent_info, ent_info, ent_info, ent_info, entC_one _, entC_one _, ?_, ?_⟩
  · rw [swapL_at hx hy]
    rw [List.length_set] at h2
    exact h2
  · have hbd : Below base w w.drew := (Below.refl base w).drew
    have h1b := below_setCells hbd hbg hb (x * 15) (entC L[y]).toList
    exact below_setCells h1b hbg (Nat.le_trans hb h1b.size) _ _
end Go.Proofs.YtcpjgohclncbkaaDoor

namespace Go.Proofs.YtcpjgohclncbkaaDoor
open Go.RowKit
set_option maxRecDepth 100000

def SrInv (w : World) (base : Nat) (v : Value) (L : List Ent) (p q n : Nat) (m : Nat) (a : Act) (x : World) : Prop :=
  ∃ i : Nat, Hid (a.tmps.size = 38) ∧ Hid (a.defers = []) ∧ a.tmps[0]?.getD undef = v ∧ a.tmps[1]?.getD undef = .int .i64 ((p : Nat) : Int) ∧ a.tmps[2]?.getD undef = .int .i64 ((q : Nat) : Int) ∧ a.tmps[3]?.getD undef = .int .i64 ((n : Nat) : Int) ∧ a.tmps[10]?.getD undef = .int .i64 ((i : Nat) : Int) ∧ Hid (i ≤ n) ∧ Hid (OwnE x base v (swapR L p q i)) ∧ Hid (Below base w x) ∧ m = n - i

set_option maxHeartbeats 8000000 in
theorem swaprange_any (base : Nat) (v : Value) (L : List Ent) (p q n : Nat) (fv : Value) (w : World) (hown : OwnE w base v L) (h1 : p + n ≤ q) (h2 : q + n ≤ L.length) (hl : L.length ≤ 1000) (hb : base ≤ w.heap.size) :
    Calls Tryd.prog 84 #[v, .int .i64 ((p : Nat) : Int), .int .i64 ((q : Nat) : Int), .int .i64 ((n : Nat) : Int), fv] w fun e w' => e = .returned (.tuple #[]) ∧ OwnE w' base v (swapR L p q n) ∧ Below base w w' := by
  have Hown0 := Lib.hid hown
  have Hb := Lib.hid hb
  have Hl := Lib.hid hl
  have H2 := Lib.hid h2
  clear hown hb
  go_enter Tryd.func84, Tryd.ntmps84
  refine enter_abs (N := 38) rfl rfl fun a0 hsz0 hde0 hk => ?_
  have f0 : a0.tmps[0]?.getD undef = v := hk 0
  have f1 : a0.tmps[1]?.getD undef = .int .i64 ((p : Nat) : Int) := hk 1
  have f2 : a0.tmps[2]?.getD undef = .int .i64 ((q : Nat) : Int) := hk 2
  have f3 : a0.tmps[3]?.getD undef = .int .i64 ((n : Nat) : Int) := hk 3
  clear hk
  repeat with_reducible refine wp_seq ?_
  refine wp_region_lit ?_
  refine wpList_next rfl hsz0 hde0 10 rfl (by decide) fun K hK => ?_
  go_simp
  refine hK _ _ fun a1 hsz1 hde1 f10 hk => ?_
  clear hK K
  replace f0 := (hk 0 (by decide)).trans f0
  replace f1 := (hk 1 (by decide)).trans f1
  replace f2 := (hk 2 (by decide)).trans f2
  replace f3 := (hk 3 (by decide)).trans f3
  replace f10 : a1.tmps[10]?.getD undef = .int .i64 ((0 : Nat) : Int) := f10
  clear hk hsz0 hde0
  refine wpList_nil ?_
  refine then_go ?_
  repeat with_reducible refine wp_seq ?_
  refine wp_block ?_
  refine wp_loop_ghost (SrInv w base v L p q n) (n - 0) ?_ ?_
  · exact ⟨0, hsz1, hde1, f0, f1, f2, f3, f10, Lib.hid (Nat.zero_le _), Hown0, Lib.hid (Below.refl _ _), rfl⟩
  clear hsz1 hde1 f0 f1 f2 f3 f10 Hown0
  intro n2 a19 wr hI
  obtain ⟨i, hsz19, hde19, f0, f1, f2, f3, f10, Hi, Hown, Hbw, hn2⟩ := hI
  have Hn2 := Lib.hid hn2
  clear hn2
  repeat with_reducible refine wp_seq ?_
  by_cases hlt : i < n
  · skip
    refine wp_region_lit ?_
    refine wpList_next rfl hsz19 hde19 11 rfl (by decide) fun K hK => ?_
    go_simp
    refine hK _ _ fun a20 hsz20 hde20 f11 hk => ?_
    clear hK K
    replace f0 := (hk 0 (by decide)).trans f0
    replace f1 := (hk 1 (by decide)).trans f1
    replace f2 := (hk 2 (by decide)).trans f2
    replace f3 := (hk 3 (by decide)).trans f3
    replace f10 := (hk 10 (by decide)).trans f10
    replace f11 : a20.tmps[11]?.getD undef = .int .i64 ((i : Nat) : Int) := f11
    clear hk hsz19 hde19
    refine wpList_next rfl hsz20 hde20 12 rfl (by decide) fun K hK => ?_
    go_simp
    refine hK _ _ fun a21 hsz21 hde21 f12 hk => ?_
    clear hK K
    replace f0 := (hk 0 (by decide)).trans f0
    replace f1 := (hk 1 (by decide)).trans f1
    replace f2 := (hk 2 (by decide)).trans f2
    replace f3 := (hk 3 (by decide)).trans f3
    replace f10 := (hk 10 (by decide)).trans f10
    replace f11 := (hk 11 (by decide)).trans f11
    replace f12 : a21.tmps[12]?.getD undef = .int .i64 ((n : Nat) : Int) := f12
    clear hk hsz20 hde20
    refine wpList_next rfl hsz21 hde21 13 rfl (by decide) fun K hK => ?_
    go_simp
    refine hK _ _ fun a22 hsz22 hde22 f13 hk => ?_
    clear hK K
    replace f0 := (hk 0 (by decide)).trans f0
    replace f1 := (hk 1 (by decide)).trans f1
    replace f2 := (hk 2 (by decide)).trans f2
    replace f3 := (hk 3 (by decide)).trans f3
    replace f10 := (hk 10 (by decide)).trans f10
    clear hk hsz21 hde21 f11 f12
    replace f13 : a22.tmps[13]?.getD undef = .bool true := f13.trans (by first | rfl | (congr 1; first | exact decide_eq_true (by omega) | exact decide_eq_false (by omega)) | (simp; omega))
    refine wpList_nil ?_
    refine then_go ?_
    repeat with_reducible refine wp_seq ?_
    refine wp_cond_true (eval_at f13) ?_
    refine wp_skip ?_
    refine then_go ?_
    clear f13
    repeat with_reducible refine wp_seq ?_
    refine wp_block ?_
    obtain ⟨M, hM⟩ : ∃ M, M = swapR L p q i := ⟨_, rfl⟩
    have HM := Lib.hid hM
    have hMl : M.length = L.length := by rw [hM]; exact swapR_length L p q i
    rw [← hM] at Hown
    have hl := Hl.out
    have h0 : 0 < M.length := by omega
    obtain ⟨g, cap, rfl, _, _, _, _, _, _⟩ := Hown.out.elem h0
    obtain ⟨x, hxe⟩ : ∃ x, x = p + i := ⟨_, rfl⟩
    obtain ⟨y, hye⟩ : ∃ y, y = q + i := ⟨_, rfl⟩
    obtain ⟨n0, hn0⟩ : ∃ n0, n0 = M.length := ⟨_, rfl⟩
    rw [← hn0] at Hown f0
    have Hn0 := Lib.hid hn0
    have hx : x < n0 := by omega
    have hy : y < n0 := by omega
    have Hxe := Lib.hid hxe
    have Hye := Lib.hid hye
    have hx0 : (0 : Int) ≤ (x : Int) := by omega
    have hx1 : (x : Int) < (n0 : Int) := by omega
    have hy0 : (0 : Int) ≤ (y : Int) := by omega
    have hy1 : (y : Int) < (n0 : Int) := by omega
    have Hq := Lib.hid (Nat.le_trans Hb.out Hbw.out.size)
    have HB := Lib.hid (show x ≤ 1000 ∧ y ≤ 1000 by omega)
    clear hM hMl hn0 hxe hye
    obtain ⟨CX, CY, W1, W2, hW1, hW2, hrX, hrY, htX, htY, hi1, hi2, hi3, hi4, hc1, hc2, hown2, hbl2⟩ := swap_facts Hown.out Hn0.out hx hy Hq.out
    have ZW1 := Lib.hid hW1
    have ZW2 := Lib.hid hW2
    have ZrX := Lib.hid hrX
    have ZrY := Lib.hid hrY
    have ZtX := Lib.hid htX
    have ZtY := Lib.hid htY
    have Zi1 := Lib.hid hi1
    have Zi2 := Lib.hid hi2
    have Zi3 := Lib.hid hi3
    have Zi4 := Lib.hid hi4
    have Zc1 := Lib.hid hc1
    have Zc2 := Lib.hid hc2
    have Zown2 := Lib.hid hown2
    have Zbl2 := Lib.hid hbl2
    clear hW1 hW2 hrX hrY htX htY hi1 hi2 hi3 hi4 hc1 hc2 hown2 hbl2
    refine wp_region_sw (fun s => match s with | 16 => .slice (some ⟨g, 0, none⟩) n0 cap | 17 => .int .i64 ((p : Nat) : Int) | 18 => .int .i64 ((i : Nat) : Int) | 19 => .int .i64 ((x : Nat) : Int) | 20 => .slice (some ⟨g, 0, none⟩) n0 cap | 21 => .int .i64 ((q : Nat) : Int) | 22 => .int .i64 ((i : Nat) : Int) | 23 => .int .i64 ((y : Nat) : Int) | 24 => .slice (some ⟨g, 0, none⟩) n0 cap | 25 => .int .i64 ((q : Nat) : Int) | 26 => .int .i64 ((i : Nat) : Int) | 27 => .int .i64 ((y : Nat) : Int) | 28 => .pointer (some ⟨g, y * 15, none⟩) | 29 => .agg CY | 30 => .slice (some ⟨g, 0, none⟩) n0 cap | 31 => .int .i64 ((p : Nat) : Int) | 32 => .int .i64 ((i : Nat) : Int) | 33 => .int .i64 ((x : Nat) : Int) | 34 => .pointer (some ⟨g, x * 15, none⟩) | 35 => .agg CX | 36 => .pointer (some ⟨g, x * 15, none⟩) | 37 => .pointer (some ⟨g, y * 15, none⟩) | _ => undef) W1 W2 21 23 13 19 38 (by kernel_rfl) (by kernel_rfl) (by kernel_rfl) hsz22.out (by decide +kernel) (by decide +kernel) ?_ ?_
    · intro i0 o0 hi0 a x0 hl1 hl2 hw1 hw2 hsame hV K hK
      have hlt0 : i0 < 24 := (Array.getElem?_eq_some_iff.1 hi0).1
      rcases (show i0 = 0 ∨ i0 = 1 ∨ i0 = 2 ∨ i0 = 3 ∨ i0 = 4 ∨ i0 = 5 ∨ i0 = 6 ∨ i0 = 7 ∨ i0 = 8 ∨ i0 = 9 ∨ i0 = 10 ∨ i0 = 11 ∨ i0 = 12 ∨ i0 = 13 ∨ i0 = 14 ∨ i0 = 15 ∨ i0 = 16 ∨ i0 = 17 ∨ i0 = 18 ∨ i0 = 19 ∨ i0 = 20 ∨ i0 = 21 ∨ i0 = 22 ∨ i0 = 23 by omega) with rfl | rfl | rfl | rfl | rfl | rfl | rfl | rfl | rfl | rfl | rfl | rfl | rfl | rfl | rfl | rfl | rfl | rfl | rfl | rfl | rfl | rfl | rfl | rfl
      all_goals (have ho0 := Option.some.inj hi0; subst ho0; clear hi0 hlt0)
      · have q0 : a.tmps[0]?.getD undef = .slice (some ⟨g, 0, none⟩) n0 cap := (hsame 0 (slot_free (by decide +kernel))).trans f0
        have hk := Lib.hid (fun v (h : v = .slice (some ⟨g, 0, none⟩) n0 cap) => hK v x0 (fun s hs => by cases hs; exact h) (fun _ _ => rfl) (fun h => absurd h (by decide)) (fun h => absurd h (by decide)))
        clear hsame hV hK hl1 hl2 hw1 hw2
        go_simp
        exact hk.out _ rfl
      · have q1 : a.tmps[1]?.getD undef = .int .i64 ((p : Nat) : Int) := (hsame 1 (slot_free (by decide +kernel))).trans f1
        have hk := Lib.hid (fun v (h : v = .int .i64 ((p : Nat) : Int)) => hK v x0 (fun s hs => by cases hs; exact h) (fun _ _ => rfl) (fun h => absurd h (by decide)) (fun h => absurd h (by decide)))
        clear hsame hV hK hl1 hl2 hw1 hw2
        go_simp
        exact hk.out _ rfl
      · have q10 : a.tmps[10]?.getD undef = .int .i64 ((i : Nat) : Int) := (hsame 10 (slot_free (by decide +kernel))).trans f10
        have hk := Lib.hid (fun v (h : v = .int .i64 ((i : Nat) : Int)) => hK v x0 (fun s hs => by cases hs; exact h) (fun _ _ => rfl) (fun h => absurd h (by decide)) (fun h => absurd h (by decide)))
        clear hsame hV hK hl1 hl2 hw1 hw2
        go_simp
        exact hk.out _ rfl
      · have q17 : a.tmps[17]?.getD undef = .int .i64 ((p : Nat) : Int) := hV ⟨1, .data⟩ (by simp) rfl 17 rfl
        have q18 : a.tmps[18]?.getD undef = .int .i64 ((i : Nat) : Int) := hV ⟨2, .data⟩ (by simp) rfl 18 rfl
        have hk := Lib.hid (fun v (h : v = .int .i64 ((x : Nat) : Int)) => hK v x0 (fun s hs => by cases hs; exact h) (fun _ _ => rfl) (fun h => absurd h (by decide)) (fun h => absurd h (by decide)))
        clear hsame hV hK hl1 hl2 hw1 hw2
        go_simp
        exact hk.out _ (by have h7 := Hxe.out; have h8 := Hye.out; have h9 := HB.out; first | (congr 1; done) | (congr 1; omega) | (congr 1; rw [IntKind.wrap_i64] <;> omega))
      · have q0 : a.tmps[0]?.getD undef = .slice (some ⟨g, 0, none⟩) n0 cap := (hsame 0 (slot_free (by decide +kernel))).trans f0
        have hk := Lib.hid (fun v (h : v = .slice (some ⟨g, 0, none⟩) n0 cap) => hK v x0 (fun s hs => by cases hs; exact h) (fun _ _ => rfl) (fun h => absurd h (by decide)) (fun h => absurd h (by decide)))
        clear hsame hV hK hl1 hl2 hw1 hw2
        go_simp
        exact hk.out _ rfl
      · have q2 : a.tmps[2]?.getD undef = .int .i64 ((q : Nat) : Int) := (hsame 2 (slot_free (by decide +kernel))).trans f2
        have hk := Lib.hid (fun v (h : v = .int .i64 ((q : Nat) : Int)) => hK v x0 (fun s hs => by cases hs; exact h) (fun _ _ => rfl) (fun h => absurd h (by decide)) (fun h => absurd h (by decide)))
        clear hsame hV hK hl1 hl2 hw1 hw2
        go_simp
        exact hk.out _ rfl
      · have q10 : a.tmps[10]?.getD undef = .int .i64 ((i : Nat) : Int) := (hsame 10 (slot_free (by decide +kernel))).trans f10
        have hk := Lib.hid (fun v (h : v = .int .i64 ((i : Nat) : Int)) => hK v x0 (fun s hs => by cases hs; exact h) (fun _ _ => rfl) (fun h => absurd h (by decide)) (fun h => absurd h (by decide)))
        clear hsame hV hK hl1 hl2 hw1 hw2
        go_simp
        exact hk.out _ rfl
      · have q21 : a.tmps[21]?.getD undef = .int .i64 ((q : Nat) : Int) := hV ⟨5, .data⟩ (by simp) rfl 21 rfl
        have q22 : a.tmps[22]?.getD undef = .int .i64 ((i : Nat) : Int) := hV ⟨6, .data⟩ (by simp) rfl 22 rfl
        have hk := Lib.hid (fun v (h : v = .int .i64 ((y : Nat) : Int)) => hK v x0 (fun s hs => by cases hs; exact h) (fun _ _ => rfl) (fun h => absurd h (by decide)) (fun h => absurd h (by decide)))
        clear hsame hV hK hl1 hl2 hw1 hw2
        go_simp
        exact hk.out _ (by have h7 := Hxe.out; have h8 := Hye.out; have h9 := HB.out; first | (congr 1; done) | (congr 1; omega) | (congr 1; rw [IntKind.wrap_i64] <;> omega))
      · have q0 : a.tmps[0]?.getD undef = .slice (some ⟨g, 0, none⟩) n0 cap := (hsame 0 (slot_free (by decide +kernel))).trans f0
        have hk := Lib.hid (fun v (h : v = .slice (some ⟨g, 0, none⟩) n0 cap) => hK v x0 (fun s hs => by cases hs; exact h) (fun _ _ => rfl) (fun h => absurd h (by decide)) (fun h => absurd h (by decide)))
        clear hsame hV hK hl1 hl2 hw1 hw2
        go_simp
        exact hk.out _ rfl
      · have q2 : a.tmps[2]?.getD undef = .int .i64 ((q : Nat) : Int) := (hsame 2 (slot_free (by decide +kernel))).trans f2
        have hk := Lib.hid (fun v (h : v = .int .i64 ((q : Nat) : Int)) => hK v x0 (fun s hs => by cases hs; exact h) (fun _ _ => rfl) (fun h => absurd h (by decide)) (fun h => absurd h (by decide)))
        clear hsame hV hK hl1 hl2 hw1 hw2
        go_simp
        exact hk.out _ rfl
      · have q10 : a.tmps[10]?.getD undef = .int .i64 ((i : Nat) : Int) := (hsame 10 (slot_free (by decide +kernel))).trans f10
        have hk := Lib.hid (fun v (h : v = .int .i64 ((i : Nat) : Int)) => hK v x0 (fun s hs => by cases hs; exact h) (fun _ _ => rfl) (fun h => absurd h (by decide)) (fun h => absurd h (by decide)))
        clear hsame hV hK hl1 hl2 hw1 hw2
        go_simp
        exact hk.out _ rfl
      · have q25 : a.tmps[25]?.getD undef = .int .i64 ((q : Nat) : Int) := hV ⟨9, .data⟩ (by simp) rfl 25 rfl
        have q26 : a.tmps[26]?.getD undef = .int .i64 ((i : Nat) : Int) := hV ⟨10, .data⟩ (by simp) rfl 26 rfl
        have hk := Lib.hid (fun v (h : v = .int .i64 ((y : Nat) : Int)) => hK v x0 (fun s hs => by cases hs; exact h) (fun _ _ => rfl) (fun h => absurd h (by decide)) (fun h => absurd h (by decide)))
        clear hsame hV hK hl1 hl2 hw1 hw2
        go_simp
        exact hk.out _ (by have h7 := Hxe.out; have h8 := Hye.out; have h9 := HB.out; first | (congr 1; done) | (congr 1; omega) | (congr 1; rw [IntKind.wrap_i64] <;> omega))
      · have q24 : a.tmps[24]?.getD undef = .slice (some ⟨g, 0, none⟩) n0 cap := hV ⟨8, .data⟩ (by simp) rfl 24 rfl
        have q27 : a.tmps[27]?.getD undef = .int .i64 ((y : Nat) : Int) := hV ⟨11, .data⟩ (by simp) rfl 27 rfl
        have hk := Lib.hid (fun v (h : v = .pointer (some ⟨g, y * 15, none⟩)) => hK v x0 (fun s hs => by cases hs; exact h) (fun _ _ => rfl) (fun h => absurd h (by decide)) (fun h => absurd h (by decide)))
        clear hsame hV hK hl1 hl2 hw1 hw2
        go_simp
        exact hk.out _ rfl
      · have q28 : a.tmps[28]?.getD undef = .pointer (some ⟨g, y * 15, none⟩) := hV ⟨12, .data⟩ (by simp) rfl 28 rfl
        have e0 := hl1 rfl
        refine wp_load_mid 29 (.tmp 28) rfl g (y * 15) (eval_at q28) CY.toList _ (by rw [e0]; exact ZrY.out) Tryd.underlying29 rfl Zi2.out ?_
        exact hK _ x0 (fun s hs => by cases hs; rfl) (fun _ _ => rfl) (fun h => absurd h (by decide)) (fun h => absurd h (by decide))
      · have q0 : a.tmps[0]?.getD undef = .slice (some ⟨g, 0, none⟩) n0 cap := (hsame 0 (slot_free (by decide +kernel))).trans f0
        have hk := Lib.hid (fun v (h : v = .slice (some ⟨g, 0, none⟩) n0 cap) => hK v x0 (fun s hs => by cases hs; exact h) (fun _ _ => rfl) (fun h => absurd h (by decide)) (fun h => absurd h (by decide)))
        clear hsame hV hK hl1 hl2 hw1 hw2
        go_simp
        exact hk.out _ rfl
      · have q1 : a.tmps[1]?.getD undef = .int .i64 ((p : Nat) : Int) := (hsame 1 (slot_free (by decide +kernel))).trans f1
        have hk := Lib.hid (fun v (h : v = .int .i64 ((p : Nat) : Int)) => hK v x0 (fun s hs => by cases hs; exact h) (fun _ _ => rfl) (fun h => absurd h (by decide)) (fun h => absurd h (by decide)))
        clear hsame hV hK hl1 hl2 hw1 hw2
        go_simp
        exact hk.out _ rfl
      · have q10 : a.tmps[10]?.getD undef = .int .i64 ((i : Nat) : Int) := (hsame 10 (slot_free (by decide +kernel))).trans f10
        have hk := Lib.hid (fun v (h : v = .int .i64 ((i : Nat) : Int)) => hK v x0 (fun s hs => by cases hs; exact h) (fun _ _ => rfl) (fun h => absurd h (by decide)) (fun h => absurd h (by decide)))
        clear hsame hV hK hl1 hl2 hw1 hw2
        go_simp
        exact hk.out _ rfl
      · have q31 : a.tmps[31]?.getD undef = .int .i64 ((p : Nat) : Int) := hV ⟨15, .data⟩ (by simp) rfl 31 rfl
        have q32 : a.tmps[32]?.getD undef = .int .i64 ((i : Nat) : Int) := hV ⟨16, .data⟩ (by simp) rfl 32 rfl
        have hk := Lib.hid (fun v (h : v = .int .i64 ((x : Nat) : Int)) => hK v x0 (fun s hs => by cases hs; exact h) (fun _ _ => rfl) (fun h => absurd h (by decide)) (fun h => absurd h (by decide)))
        clear hsame hV hK hl1 hl2 hw1 hw2
        go_simp
        exact hk.out _ (by have h7 := Hxe.out; have h8 := Hye.out; have h9 := HB.out; first | (congr 1; done) | (congr 1; omega) | (congr 1; rw [IntKind.wrap_i64] <;> omega))
      · have q30 : a.tmps[30]?.getD undef = .slice (some ⟨g, 0, none⟩) n0 cap := hV ⟨14, .data⟩ (by simp) rfl 30 rfl
        have q33 : a.tmps[33]?.getD undef = .int .i64 ((x : Nat) : Int) := hV ⟨17, .data⟩ (by simp) rfl 33 rfl
        have hk := Lib.hid (fun v (h : v = .pointer (some ⟨g, x * 15, none⟩)) => hK v x0 (fun s hs => by cases hs; exact h) (fun _ _ => rfl) (fun h => absurd h (by decide)) (fun h => absurd h (by decide)))
        clear hsame hV hK hl1 hl2 hw1 hw2
        go_simp
        exact hk.out _ rfl
      · have q34 : a.tmps[34]?.getD undef = .pointer (some ⟨g, x * 15, none⟩) := hV ⟨18, .data⟩ (by simp) rfl 34 rfl
        have e0 := hl2 rfl
        refine wp_load_mid 29 (.tmp 34) rfl g (x * 15) (eval_at q34) CX.toList _ (by rw [e0]; exact ZrX.out) Tryd.underlying29 rfl Zi1.out ?_
        exact hK _ x0 (fun s hs => by cases hs; rfl) (fun _ _ => rfl) (fun h => absurd h (by decide)) (fun h => absurd h (by decide))
      · have q16 : a.tmps[16]?.getD undef = .slice (some ⟨g, 0, none⟩) n0 cap := hV ⟨0, .data⟩ (by simp) rfl 16 rfl
        have q19 : a.tmps[19]?.getD undef = .int .i64 ((x : Nat) : Int) := hV ⟨3, .data⟩ (by simp) rfl 19 rfl
        have hk := Lib.hid (fun v (h : v = .pointer (some ⟨g, x * 15, none⟩)) => hK v x0 (fun s hs => by cases hs; exact h) (fun _ _ => rfl) (fun h => absurd h (by decide)) (fun h => absurd h (by decide)))
        clear hsame hV hK hl1 hl2 hw1 hw2
        go_simp
        exact hk.out _ rfl
      · have q36 : a.tmps[36]?.getD undef = .pointer (some ⟨g, x * 15, none⟩) := hV ⟨20, .data⟩ (by simp) rfl 36 rfl
        have q29 : a.tmps[29]?.getD undef = .agg CY := hV ⟨13, .data⟩ (by simp) rfl 29 rfl
        have e0 := hw1 rfl
        refine wp_store_mid 29 (.tmp 36) (.tmp 29) rfl g (x * 15) CY (eval_at q36) (eval_at q29) (by rw [e0]; exact ZtX.out) Zi4.out Zc2.out ?_
        exact hK _ _ (fun s hs => by cases hs) (fun h => absurd rfl h) (fun _ => by rw [e0]; exact ZW1.out.symm) (fun h => absurd h (by decide))
      · have q20 : a.tmps[20]?.getD undef = .slice (some ⟨g, 0, none⟩) n0 cap := hV ⟨4, .data⟩ (by simp) rfl 20 rfl
        have q23 : a.tmps[23]?.getD undef = .int .i64 ((y : Nat) : Int) := hV ⟨7, .data⟩ (by simp) rfl 23 rfl
        have hk := Lib.hid (fun v (h : v = .pointer (some ⟨g, y * 15, none⟩)) => hK v x0 (fun s hs => by cases hs; exact h) (fun _ _ => rfl) (fun h => absurd h (by decide)) (fun h => absurd h (by decide)))
        clear hsame hV hK hl1 hl2 hw1 hw2
        go_simp
        exact hk.out _ rfl
      · have q37 : a.tmps[37]?.getD undef = .pointer (some ⟨g, y * 15, none⟩) := hV ⟨22, .data⟩ (by simp) rfl 37 rfl
        have q35 : a.tmps[35]?.getD undef = .agg CX := hV ⟨19, .data⟩ (by simp) rfl 35 rfl
        have e0 := hw2 rfl
        refine wp_store_mid 29 (.tmp 37) (.tmp 35) rfl g (y * 15) CX (eval_at q37) (eval_at q35) (by rw [e0]; exact ZtY.out) Zi3.out Zc1.out ?_
        exact hK _ _ (fun s hs => by cases hs) (fun _ h => absurd rfl h) (fun h => absurd h (by decide)) (fun _ => by rw [e0]; exact ZW2.out.symm)
    intro a23 hsame hV hsz23 hde23
    replace f0 := (hsame 0 (slot_free (by decide +kernel))).trans f0
    replace f1 := (hsame 1 (slot_free (by decide +kernel))).trans f1
    replace f2 := (hsame 2 (slot_free (by decide +kernel))).trans f2
    replace f3 := (hsame 3 (slot_free (by decide +kernel))).trans f3
    replace f10 := (hsame 10 (slot_free (by decide +kernel))).trans f10
    have hsz23h := Lib.hid hsz23
    have hde23h := Lib.hid (hde23.trans hde22.out)
    clear hsame hV hsz23 hde23 hsz22 hde22 ZW1 ZW2 ZrX ZrY ZtX ZtY Zi1 Zi2 Zi3 Zi4 Zc1 Zc2
    have HownN := Lib.hid (show OwnE W2 base (.slice (some ⟨g, 0, none⟩) n0 cap) (swapR L p q (i + 1)) by
      have h7 := Zown2.out
      rw [HM.out, Hxe.out, Hye.out] at h7
      exact h7)
    have HbN := Lib.hid (Hbw.out.trans Zbl2.out)
    clear Zown2 Zbl2
    refine block_go ?_
    refine then_go ?_
    repeat with_reducible refine wp_seq ?_
    refine wp_region_lit ?_
    refine wpList_next rfl hsz23h hde23h 14 rfl (by decide) fun K hK => ?_
    go_simp
    refine hK _ _ fun a24 hsz24 hde24 f14 hk => ?_
    clear hK K
    replace f0 := (hk 0 (by decide)).trans f0
    replace f1 := (hk 1 (by decide)).trans f1
    replace f2 := (hk 2 (by decide)).trans f2
    replace f3 := (hk 3 (by decide)).trans f3
    replace f10 := (hk 10 (by decide)).trans f10
    replace f14 : a24.tmps[14]?.getD undef = .int .i64 ((i : Nat) : Int) := f14
    clear hk hsz23h hde23h
    refine wpList_next rfl hsz24 hde24 15 rfl (by decide) fun K hK => ?_
    go_simp
    refine hK _ _ fun a25 hsz25 hde25 f15 hk => ?_
    clear hK K
    replace f0 := (hk 0 (by decide)).trans f0
    replace f1 := (hk 1 (by decide)).trans f1
    replace f2 := (hk 2 (by decide)).trans f2
    replace f3 := (hk 3 (by decide)).trans f3
    replace f10 := (hk 10 (by decide)).trans f10
    clear hk hsz24 hde24 f14
    replace f15 : a25.tmps[15]?.getD undef = .int .i64 (((i + 1 : Nat) : Int)) := f15.trans (by first | rfl | (congr 1; done) | (congr 1; omega) | (congr 1; rw [IntKind.wrap_i64] <;> omega))
    refine wpList_next rfl hsz25 hde25 10 rfl (by decide) fun K hK => ?_
    go_simp
    refine hK _ _ fun a26 hsz26 hde26 f10 hk => ?_
    clear hK K
    replace f0 := (hk 0 (by decide)).trans f0
    replace f1 := (hk 1 (by decide)).trans f1
    replace f2 := (hk 2 (by decide)).trans f2
    replace f3 := (hk 3 (by decide)).trans f3
    replace f10 : a26.tmps[10]?.getD undef = .int .i64 ((i + 1 : Nat) : Int) := f10
    clear hk hsz25 hde25 f15
    refine wpList_nil ?_
    refine then_go ?_
    rw [Hn0.out] at f0 HownN
    exact ⟨n - (i + 1), by rw [Hn2.out]; omega, i + 1, hsz26, hde26, f0, f1, f2, f3, f10, Lib.hid (by omega), HownN, HbN, rfl⟩
  refine wp_region_lit ?_
  refine wpList_next rfl hsz19 hde19 11 rfl (by decide) fun K hK => ?_
  go_simp
  refine hK _ _ fun a20 hsz20 hde20 f11 hk => ?_
  clear hK K
  replace f0 := (hk 0 (by decide)).trans f0
  replace f1 := (hk 1 (by decide)).trans f1
  replace f2 := (hk 2 (by decide)).trans f2
  replace f3 := (hk 3 (by decide)).trans f3
  replace f10 := (hk 10 (by decide)).trans f10
  replace f11 : a20.tmps[11]?.getD undef = .int .i64 ((i : Nat) : Int) := f11
  clear hk hsz19 hde19
  refine wpList_next rfl hsz20 hde20 12 rfl (by decide) fun K hK => ?_
  go_simp
  refine hK _ _ fun a21 hsz21 hde21 f12 hk => ?_
  clear hK K
  replace f0 := (hk 0 (by decide)).trans f0
  replace f1 := (hk 1 (by decide)).trans f1
  replace f2 := (hk 2 (by decide)).trans f2
  replace f3 := (hk 3 (by decide)).trans f3
  replace f10 := (hk 10 (by decide)).trans f10
  replace f11 := (hk 11 (by decide)).trans f11
  replace f12 : a21.tmps[12]?.getD undef = .int .i64 ((n : Nat) : Int) := f12
  clear hk hsz20 hde20
  refine wpList_next rfl hsz21 hde21 13 rfl (by decide) fun K hK => ?_
  go_simp
  refine hK _ _ fun a22 hsz22 hde22 f13 hk => ?_
  clear hK K
  replace f0 := (hk 0 (by decide)).trans f0
  replace f1 := (hk 1 (by decide)).trans f1
  replace f2 := (hk 2 (by decide)).trans f2
  replace f3 := (hk 3 (by decide)).trans f3
  replace f10 := (hk 10 (by decide)).trans f10
  clear hk hsz21 hde21 f11 f12
  replace f13 : a22.tmps[13]?.getD undef = .bool false := f13.trans (by first | rfl | (congr 1; first | exact decide_eq_true (by omega) | exact decide_eq_false (by omega)) | (simp; omega))
  refine wpList_nil ?_
  refine then_go ?_
  repeat with_reducible refine wp_seq ?_
  refine wp_cond_false (eval_at f13) ?_
  refine wp_exit ?_
  repeat with_reducible refine then_exit ?_
  refine block_exit ?_
  have hin : i = n := by have := Hi.out; omega
  subst hin
  refine end_none Tryd.results84 hde22 ⟨rfl, Hown.out, Hbw.out⟩

def RtInv (w : World) (base : Nat) (v fv : Value) (R : List Ent) (m : Nat) (k : Nat) (a : Act) (x : World) : Prop :=
  ∃ (i j : Nat) (M : List Ent), Hid (a.tmps.size = 58) ∧ Hid (a.defers = []) ∧ a.tmps[0]?.getD undef = v ∧ a.tmps[2]?.getD undef = .int .i64 ((m : Nat) : Int) ∧ a.tmps[4]?.getD undef = fv ∧ a.tmps[10]?.getD undef = .int .i64 ((i : Nat) : Int) ∧ a.tmps[11]?.getD undef = .int .i64 ((j : Nat) : Int) ∧ Hid (0 < i ∧ 0 < j ∧ i ≤ m ∧ m + j ≤ M.length ∧ M.length ≤ 1000) ∧ Hid (OwnE x base v M) ∧ Hid (rotL M (m - i) m (m + j) = R) ∧ Hid (Below base w x) ∧ k = i + j

set_option maxHeartbeats 8000000 in
theorem rotate_any (base : Nat) (v : Value) (L : List Ent) (p m q : Nat) (fv : Value) (w : World) (hown : OwnE w base v L) (h1 : p < m) (h2 : m < q) (h3 : q ≤ L.length) (hl : L.length ≤ 1000) (hb : base ≤ w.heap.size) :
    Calls Tryd.prog 78 #[v, .int .i64 ((p : Nat) : Int), .int .i64 ((m : Nat) : Int), .int .i64 ((q : Nat) : Int), fv] w fun e w' => e = .returned (.tuple #[]) ∧ OwnE w' base v (rotL L p m q) ∧ Below base w w' := by
  obtain ⟨R, hR⟩ : ∃ R, R = rotL L p m q := ⟨_, rfl⟩
  rw [← hR]
  have Hown0 := Lib.hid hown
  have Hb := Lib.hid hb
  have Hl := Lib.hid hl
  have HR := Lib.hid hR
  clear hown hb hR
  go_enter Tryd.func78, Tryd.ntmps78
  refine enter_abs (N := 58) rfl rfl fun a0 hsz0 hde0 hk => ?_
  have f0 : a0.tmps[0]?.getD undef = v := hk 0
  have f1 : a0.tmps[1]?.getD undef = .int .i64 ((p : Nat) : Int) := hk 1
  have f2 : a0.tmps[2]?.getD undef = .int .i64 ((m : Nat) : Int) := hk 2
  have f3 : a0.tmps[3]?.getD undef = .int .i64 ((q : Nat) : Int) := hk 3
  have f4 : a0.tmps[4]?.getD undef = fv := hk 4
  clear hk
  have hlc := Hl.out
  repeat with_reducible refine wp_seq ?_
  refine wp_region_lit ?_
  refine wpList_next rfl hsz0 hde0 12 rfl (by decide) fun K hK => ?_
  go_simp
  refine hK _ _ fun a1 hsz1 hde1 f12 hk => ?_
  clear hK K
  replace f0 := (hk 0 (by decide)).trans f0
  replace f1 := (hk 1 (by decide)).trans f1
  replace f2 := (hk 2 (by decide)).trans f2
  replace f3 := (hk 3 (by decide)).trans f3
  replace f4 := (hk 4 (by decide)).trans f4
  replace f12 : a1.tmps[12]?.getD undef = .int .i64 ((m : Nat) : Int) := f12
  clear hk hsz0 hde0
  refine wpList_next rfl hsz1 hde1 13 rfl (by decide) fun K hK => ?_
  go_simp
  refine hK _ _ fun a2 hsz2 hde2 f13 hk => ?_
  clear hK K
  replace f0 := (hk 0 (by decide)).trans f0
  replace f1 := (hk 1 (by decide)).trans f1
  replace f2 := (hk 2 (by decide)).trans f2
  replace f3 := (hk 3 (by decide)).trans f3
  replace f4 := (hk 4 (by decide)).trans f4
  replace f12 := (hk 12 (by decide)).trans f12
  replace f13 : a2.tmps[13]?.getD undef = .int .i64 ((p : Nat) : Int) := f13
  clear hk hsz1 hde1
  refine wpList_next rfl hsz2 hde2 14 rfl (by decide) fun K hK => ?_
  go_simp
  refine hK _ _ fun a3 hsz3 hde3 f14 hk => ?_
  clear hK K
  replace f0 := (hk 0 (by decide)).trans f0
  replace f1 := (hk 1 (by decide)).trans f1
  replace f2 := (hk 2 (by decide)).trans f2
  replace f3 := (hk 3 (by decide)).trans f3
  replace f4 := (hk 4 (by decide)).trans f4
  clear hk hsz2 hde2 f12 f13
  replace f14 : a3.tmps[14]?.getD undef = .int .i64 (((m - p : Nat) : Int)) := f14.trans (by first | rfl | (congr 1; done) | (congr 1; omega) | (congr 1; rw [IntKind.wrap_i64] <;> omega))
  refine wpList_next rfl hsz3 hde3 10 rfl (by decide) fun K hK => ?_
  go_simp
  refine hK _ _ fun a4 hsz4 hde4 f10 hk => ?_
  clear hK K
  replace f0 := (hk 0 (by decide)).trans f0
  replace f1 := (hk 1 (by decide)).trans f1
  replace f2 := (hk 2 (by decide)).trans f2
  replace f3 := (hk 3 (by decide)).trans f3
  replace f4 := (hk 4 (by decide)).trans f4
  replace f10 : a4.tmps[10]?.getD undef = .int .i64 ((m - p : Nat) : Int) := f10
  clear hk hsz3 hde3 f14
  refine wpList_nil ?_
  refine then_go ?_
  repeat with_reducible refine wp_seq ?_
  refine wp_region_lit ?_
  refine wpList_next rfl hsz4 hde4 15 rfl (by decide) fun K hK => ?_
  go_simp
  refine hK _ _ fun a5 hsz5 hde5 f15 hk => ?_
  clear hK K
  replace f0 := (hk 0 (by decide)).trans f0
  replace f1 := (hk 1 (by decide)).trans f1
  replace f2 := (hk 2 (by decide)).trans f2
  replace f3 := (hk 3 (by decide)).trans f3
  replace f4 := (hk 4 (by decide)).trans f4
  replace f10 := (hk 10 (by decide)).trans f10
  replace f15 : a5.tmps[15]?.getD undef = .int .i64 ((q : Nat) : Int) := f15
  clear hk hsz4 hde4
  refine wpList_next rfl hsz5 hde5 16 rfl (by decide) fun K hK => ?_
  go_simp
  refine hK _ _ fun a6 hsz6 hde6 f16 hk => ?_
  clear hK K
  replace f0 := (hk 0 (by decide)).trans f0
  replace f1 := (hk 1 (by decide)).trans f1
  replace f2 := (hk 2 (by decide)).trans f2
  replace f3 := (hk 3 (by decide)).trans f3
  replace f4 := (hk 4 (by decide)).trans f4
  replace f10 := (hk 10 (by decide)).trans f10
  replace f15 := (hk 15 (by decide)).trans f15
  replace f16 : a6.tmps[16]?.getD undef = .int .i64 ((m : Nat) : Int) := f16
  clear hk hsz5 hde5
  refine wpList_next rfl hsz6 hde6 17 rfl (by decide) fun K hK => ?_
  go_simp
  refine hK _ _ fun a7 hsz7 hde7 f17 hk => ?_
  clear hK K
  replace f0 := (hk 0 (by decide)).trans f0
  replace f1 := (hk 1 (by decide)).trans f1
  replace f2 := (hk 2 (by decide)).trans f2
  replace f3 := (hk 3 (by decide)).trans f3
  replace f4 := (hk 4 (by decide)).trans f4
  replace f10 := (hk 10 (by decide)).trans f10
  clear hk hsz6 hde6 f15 f16
  replace f17 : a7.tmps[17]?.getD undef = .int .i64 (((q - m : Nat) : Int)) := f17.trans (by first | rfl | (congr 1; done) | (congr 1; omega) | (congr 1; rw [IntKind.wrap_i64] <;> omega))
  refine wpList_next rfl hsz7 hde7 11 rfl (by decide) fun K hK => ?_
  go_simp
  refine hK _ _ fun a8 hsz8 hde8 f11 hk => ?_
  clear hK K
  replace f0 := (hk 0 (by decide)).trans f0
  replace f1 := (hk 1 (by decide)).trans f1
  replace f2 := (hk 2 (by decide)).trans f2
  replace f3 := (hk 3 (by decide)).trans f3
  replace f4 := (hk 4 (by decide)).trans f4
  replace f10 := (hk 10 (by decide)).trans f10
  replace f11 : a8.tmps[11]?.getD undef = .int .i64 ((q - m : Nat) : Int) := f11
  clear hk hsz7 hde7 f17
  refine wpList_nil ?_
  refine then_go ?_
  repeat with_reducible refine wp_seq ?_
  clear f1 f3
  refine wp_block ?_
  refine wp_loop_ghost (RtInv w base v fv R m) (m - p + (q - m)) ?_ ?_
  · exact ⟨m - p, q - m, L, hsz8, hde8, f0, f2, f4, f10, f11, Lib.hid (by omega), Hown0, Lib.hid (by rw [HR.out]; congr 1 <;> omega), Lib.hid (Below.refl _ _), rfl⟩
  clear hsz8 hde8 f0 f2 f4 f10 f11 Hown0 HR hlc h1 h2 h3
  intro n2 a19 wr hI
  obtain ⟨i, j, M, hsz19, hde19, f0, f2, f4, f10, f11, Hi, Hown, Hrot, Hbw, hn2⟩ := hI
  have Hn2 := Lib.hid hn2
  clear hn2
  obtain ⟨hi1, hi2, hi3, hi4, hi5⟩ := Hi.out
  have Hq := Lib.hid (Nat.le_trans Hb.out Hbw.out.size)
  repeat with_reducible refine wp_seq ?_
  by_cases hne : i = j
  · skip
    subst hne
    refine wp_region_lit ?_
    refine wpList_next rfl hsz19 hde19 18 rfl (by decide) fun K hK => ?_
    go_simp
    refine hK _ _ fun a20 hsz20 hde20 f18 hk => ?_
    clear hK K
    replace f0 := (hk 0 (by decide)).trans f0
    replace f2 := (hk 2 (by decide)).trans f2
    replace f4 := (hk 4 (by decide)).trans f4
    replace f10 := (hk 10 (by decide)).trans f10
    replace f11 := (hk 11 (by decide)).trans f11
    replace f18 : a20.tmps[18]?.getD undef = .int .i64 ((i : Nat) : Int) := f18
    clear hk hsz19 hde19
    refine wpList_next rfl hsz20 hde20 19 rfl (by decide) fun K hK => ?_
    go_simp
    refine hK _ _ fun a21 hsz21 hde21 f19 hk => ?_
    clear hK K
    replace f0 := (hk 0 (by decide)).trans f0
    replace f2 := (hk 2 (by decide)).trans f2
    replace f4 := (hk 4 (by decide)).trans f4
    replace f10 := (hk 10 (by decide)).trans f10
    replace f11 := (hk 11 (by decide)).trans f11
    replace f18 := (hk 18 (by decide)).trans f18
    replace f19 : a21.tmps[19]?.getD undef = .int .i64 ((i : Nat) : Int) := f19
    clear hk hsz20 hde20
    refine wpList_next rfl hsz21 hde21 20 rfl (by decide) fun K hK => ?_
    go_simp
    refine hK _ _ fun a22 hsz22 hde22 f20 hk => ?_
    clear hK K
    replace f0 := (hk 0 (by decide)).trans f0
    replace f2 := (hk 2 (by decide)).trans f2
    replace f4 := (hk 4 (by decide)).trans f4
    replace f10 := (hk 10 (by decide)).trans f10
    replace f11 := (hk 11 (by decide)).trans f11
    clear hk hsz21 hde21 f18 f19
    replace f20 : a22.tmps[20]?.getD undef = .bool false := f20.trans (by first | rfl | simp)
    refine wpList_nil ?_
    refine then_go ?_
    repeat with_reducible refine wp_seq ?_
    refine wp_cond_false (eval_at f20) ?_
    refine wp_exit ?_
    repeat with_reducible refine then_exit ?_
    refine block_exit ?_
    refine then_go ?_
    clear f20
    refine wp_region_lit ?_
    refine wpList_next rfl hsz22 hde22 50 rfl (by decide) fun K hK => ?_
    go_simp
    refine hK _ _ fun a23 hsz23 hde23 f50 hk => ?_
    clear hK K
    replace f0 := (hk 0 (by decide)).trans f0
    replace f2 := (hk 2 (by decide)).trans f2
    replace f4 := (hk 4 (by decide)).trans f4
    replace f10 := (hk 10 (by decide)).trans f10
    replace f11 := (hk 11 (by decide)).trans f11
    replace f50 : a23.tmps[50]?.getD undef = v := f50
    clear hk hsz22 hde22
    refine wpList_next rfl hsz23 hde23 51 rfl (by decide) fun K hK => ?_
    go_simp
    refine hK _ _ fun a24 hsz24 hde24 f51 hk => ?_
    clear hK K
    replace f0 := (hk 0 (by decide)).trans f0
    replace f2 := (hk 2 (by decide)).trans f2
    replace f4 := (hk 4 (by decide)).trans f4
    replace f10 := (hk 10 (by decide)).trans f10
    replace f11 := (hk 11 (by decide)).trans f11
    replace f50 := (hk 50 (by decide)).trans f50
    replace f51 : a24.tmps[51]?.getD undef = .int .i64 ((m : Nat) : Int) := f51
    clear hk hsz23 hde23
    refine wpList_next rfl hsz24 hde24 52 rfl (by decide) fun K hK => ?_
    go_simp
    refine hK _ _ fun a25 hsz25 hde25 f52 hk => ?_
    clear hK K
    replace f0 := (hk 0 (by decide)).trans f0
    replace f2 := (hk 2 (by decide)).trans f2
    replace f4 := (hk 4 (by decide)).trans f4
    replace f10 := (hk 10 (by decide)).trans f10
    replace f11 := (hk 11 (by decide)).trans f11
    replace f50 := (hk 50 (by decide)).trans f50
    replace f51 := (hk 51 (by decide)).trans f51
    replace f52 : a25.tmps[52]?.getD undef = .int .i64 ((i : Nat) : Int) := f52
    clear hk hsz24 hde24
    refine wpList_next rfl hsz25 hde25 53 rfl (by decide) fun K hK => ?_
    go_simp
    refine hK _ _ fun a26 hsz26 hde26 f53 hk => ?_
    clear hK K
    replace f0 := (hk 0 (by decide)).trans f0
    replace f2 := (hk 2 (by decide)).trans f2
    replace f4 := (hk 4 (by decide)).trans f4
    replace f10 := (hk 10 (by decide)).trans f10
    replace f11 := (hk 11 (by decide)).trans f11
    replace f50 := (hk 50 (by decide)).trans f50
    clear hk hsz25 hde25 f51 f52
    replace f53 : a26.tmps[53]?.getD undef = .int .i64 (((m - i : Nat) : Int)) := f53.trans (by first | rfl | (congr 1; done) | (congr 1; omega) | (congr 1; rw [IntKind.wrap_i64] <;> omega))
    refine wpList_next rfl hsz26 hde26 54 rfl (by decide) fun K hK => ?_
    go_simp
    refine hK _ _ fun a27 hsz27 hde27 f54 hk => ?_
    clear hK K
    replace f0 := (hk 0 (by decide)).trans f0
    replace f2 := (hk 2 (by decide)).trans f2
    replace f4 := (hk 4 (by decide)).trans f4
    replace f10 := (hk 10 (by decide)).trans f10
    replace f11 := (hk 11 (by decide)).trans f11
    replace f50 := (hk 50 (by decide)).trans f50
    replace f53 := (hk 53 (by decide)).trans f53
    replace f54 : a27.tmps[54]?.getD undef = .int .i64 ((m : Nat) : Int) := f54
    clear hk hsz26 hde26
    refine wpList_next rfl hsz27 hde27 55 rfl (by decide) fun K hK => ?_
    go_simp
    refine hK _ _ fun a28 hsz28 hde28 f55 hk => ?_
    clear hK K
    replace f0 := (hk 0 (by decide)).trans f0
    replace f2 := (hk 2 (by decide)).trans f2
    replace f4 := (hk 4 (by decide)).trans f4
    replace f10 := (hk 10 (by decide)).trans f10
    replace f11 := (hk 11 (by decide)).trans f11
    replace f50 := (hk 50 (by decide)).trans f50
    replace f53 := (hk 53 (by decide)).trans f53
    replace f54 := (hk 54 (by decide)).trans f54
    replace f55 : a28.tmps[55]?.getD undef = .int .i64 ((i : Nat) : Int) := f55
    clear hk hsz27 hde27
    refine wpList_next rfl hsz28 hde28 56 rfl (by decide) fun K hK => ?_
    go_simp
    refine hK _ _ fun a29 hsz29 hde29 f56 hk => ?_
    clear hK K
    replace f0 := (hk 0 (by decide)).trans f0
    replace f2 := (hk 2 (by decide)).trans f2
    replace f4 := (hk 4 (by decide)).trans f4
    replace f10 := (hk 10 (by decide)).trans f10
    replace f11 := (hk 11 (by decide)).trans f11
    replace f50 := (hk 50 (by decide)).trans f50
    replace f53 := (hk 53 (by decide)).trans f53
    replace f54 := (hk 54 (by decide)).trans f54
    replace f55 := (hk 55 (by decide)).trans f55
    replace f56 : a29.tmps[56]?.getD undef = fv := f56
    clear hk hsz28 hde28
    refine wpList_next rfl hsz29 hde29 57 rfl (by decide) fun K hK => ?_
    go_simp
    refine (swaprange_any base v M (m - i) m i fv wr Hown.out (by omega) (by omega) hi5 Hq.out).mono ?_
    rintro e7 w7 ⟨rfl, hown7, hb7⟩
    go_simp
    refine hK _ _ fun a30 hsz30 hde30 f57 hk => ?_
    clear hK K
    replace f0 := (hk 0 (by decide)).trans f0
    replace f2 := (hk 2 (by decide)).trans f2
    replace f4 := (hk 4 (by decide)).trans f4
    replace f10 := (hk 10 (by decide)).trans f10
    replace f11 := (hk 11 (by decide)).trans f11
    clear hk hsz29 hde29 f50 f53 f54 f55 f56
    have Hown7 := Lib.hid hown7
    have Hb7 := Lib.hid (Hbw.out.trans hb7)
    clear hown7 hb7
    clear f57
    refine wpList_nil ?_
    have hfin := Hown7.out
    rw [rot_both hi3 hi4, Hrot.out] at hfin
    refine end_none Tryd.results78 hde30 ⟨rfl, hfin, Hb7.out⟩
  refine wp_region_lit ?_
  refine wpList_next rfl hsz19 hde19 18 rfl (by decide) fun K hK => ?_
  go_simp
  refine hK _ _ fun a20 hsz20 hde20 f18 hk => ?_
  clear hK K
  replace f0 := (hk 0 (by decide)).trans f0
  replace f2 := (hk 2 (by decide)).trans f2
  replace f4 := (hk 4 (by decide)).trans f4
  replace f10 := (hk 10 (by decide)).trans f10
  replace f11 := (hk 11 (by decide)).trans f11
  replace f18 : a20.tmps[18]?.getD undef = .int .i64 ((i : Nat) : Int) := f18
  clear hk hsz19 hde19
  refine wpList_next rfl hsz20 hde20 19 rfl (by decide) fun K hK => ?_
  go_simp
  refine hK _ _ fun a21 hsz21 hde21 f19 hk => ?_
  clear hK K
  replace f0 := (hk 0 (by decide)).trans f0
  replace f2 := (hk 2 (by decide)).trans f2
  replace f4 := (hk 4 (by decide)).trans f4
  replace f10 := (hk 10 (by decide)).trans f10
  replace f11 := (hk 11 (by decide)).trans f11
  replace f18 := (hk 18 (by decide)).trans f18
  replace f19 : a21.tmps[19]?.getD undef = .int .i64 ((j : Nat) : Int) := f19
  clear hk hsz20 hde20
  refine wpList_next rfl hsz21 hde21 20 rfl (by decide) fun K hK => ?_
  go_simp
  refine hK _ _ fun a22 hsz22 hde22 f20 hk => ?_
  clear hK K
  replace f0 := (hk 0 (by decide)).trans f0
  replace f2 := (hk 2 (by decide)).trans f2
  replace f4 := (hk 4 (by decide)).trans f4
  replace f10 := (hk 10 (by decide)).trans f10
  replace f11 := (hk 11 (by decide)).trans f11
  clear hk hsz21 hde21 f18 f19
  replace f20 : a22.tmps[20]?.getD undef = .bool true := f20.trans (by first | rfl | (congr 1; first | exact decide_eq_true (by omega) | exact decide_eq_false (by omega)) | (simp; omega))
  refine wpList_nil ?_
  refine then_go ?_
  repeat with_reducible refine wp_seq ?_
  refine wp_cond_true (eval_at f20) ?_
  refine wp_skip ?_
  refine then_go ?_
  clear f20
  repeat with_reducible refine wp_seq ?_
  refine wp_block ?_
  repeat with_reducible refine wp_seq ?_
  by_cases hgt : j < i
  · skip
    refine wp_region_lit ?_
    refine wpList_next rfl hsz22 hde22 21 rfl (by decide) fun K hK => ?_
    go_simp
    refine hK _ _ fun a23 hsz23 hde23 f21 hk => ?_
    clear hK K
    replace f0 := (hk 0 (by decide)).trans f0
    replace f2 := (hk 2 (by decide)).trans f2
    replace f4 := (hk 4 (by decide)).trans f4
    replace f10 := (hk 10 (by decide)).trans f10
    replace f11 := (hk 11 (by decide)).trans f11
    replace f21 : a23.tmps[21]?.getD undef = .int .i64 ((i : Nat) : Int) := f21
    clear hk hsz22 hde22
    refine wpList_next rfl hsz23 hde23 22 rfl (by decide) fun K hK => ?_
    go_simp
    refine hK _ _ fun a24 hsz24 hde24 f22 hk => ?_
    clear hK K
    replace f0 := (hk 0 (by decide)).trans f0
    replace f2 := (hk 2 (by decide)).trans f2
    replace f4 := (hk 4 (by decide)).trans f4
    replace f10 := (hk 10 (by decide)).trans f10
    replace f11 := (hk 11 (by decide)).trans f11
    replace f21 := (hk 21 (by decide)).trans f21
    replace f22 : a24.tmps[22]?.getD undef = .int .i64 ((j : Nat) : Int) := f22
    clear hk hsz23 hde23
    refine wpList_next rfl hsz24 hde24 23 rfl (by decide) fun K hK => ?_
    go_simp
    refine hK _ _ fun a25 hsz25 hde25 f23 hk => ?_
    clear hK K
    replace f0 := (hk 0 (by decide)).trans f0
    replace f2 := (hk 2 (by decide)).trans f2
    replace f4 := (hk 4 (by decide)).trans f4
    replace f10 := (hk 10 (by decide)).trans f10
    replace f11 := (hk 11 (by decide)).trans f11
    clear hk hsz24 hde24 f21 f22
    replace f23 : a25.tmps[23]?.getD undef = .bool true := f23.trans (by first | rfl | (congr 1; first | exact decide_eq_true (by omega) | exact decide_eq_false (by omega)) | (simp; omega))
    refine wpList_nil ?_
    refine then_go ?_
    repeat with_reducible refine wp_seq ?_
    refine wp_cond_true (eval_at f23) ?_
    clear f23
    repeat with_reducible refine wp_seq ?_
    refine wp_region_lit ?_
    refine wpList_next rfl hsz25 hde25 24 rfl (by decide) fun K hK => ?_
    go_simp
    refine hK _ _ fun a26 hsz26 hde26 f24 hk => ?_
    clear hK K
    replace f0 := (hk 0 (by decide)).trans f0
    replace f2 := (hk 2 (by decide)).trans f2
    replace f4 := (hk 4 (by decide)).trans f4
    replace f10 := (hk 10 (by decide)).trans f10
    replace f11 := (hk 11 (by decide)).trans f11
    replace f24 : a26.tmps[24]?.getD undef = v := f24
    clear hk hsz25 hde25
    refine wpList_next rfl hsz26 hde26 25 rfl (by decide) fun K hK => ?_
    go_simp
    refine hK _ _ fun a27 hsz27 hde27 f25 hk => ?_
    clear hK K
    replace f0 := (hk 0 (by decide)).trans f0
    replace f2 := (hk 2 (by decide)).trans f2
    replace f4 := (hk 4 (by decide)).trans f4
    replace f10 := (hk 10 (by decide)).trans f10
    replace f11 := (hk 11 (by decide)).trans f11
    replace f24 := (hk 24 (by decide)).trans f24
    replace f25 : a27.tmps[25]?.getD undef = .int .i64 ((m : Nat) : Int) := f25
    clear hk hsz26 hde26
    refine wpList_next rfl hsz27 hde27 26 rfl (by decide) fun K hK => ?_
    go_simp
    refine hK _ _ fun a28 hsz28 hde28 f26 hk => ?_
    clear hK K
    replace f0 := (hk 0 (by decide)).trans f0
    replace f2 := (hk 2 (by decide)).trans f2
    replace f4 := (hk 4 (by decide)).trans f4
    replace f10 := (hk 10 (by decide)).trans f10
    replace f11 := (hk 11 (by decide)).trans f11
    replace f24 := (hk 24 (by decide)).trans f24
    replace f25 := (hk 25 (by decide)).trans f25
    replace f26 : a28.tmps[26]?.getD undef = .int .i64 ((i : Nat) : Int) := f26
    clear hk hsz27 hde27
    refine wpList_next rfl hsz28 hde28 27 rfl (by decide) fun K hK => ?_
    go_simp
    refine hK _ _ fun a29 hsz29 hde29 f27 hk => ?_
    clear hK K
    replace f0 := (hk 0 (by decide)).trans f0
    replace f2 := (hk 2 (by decide)).trans f2
    replace f4 := (hk 4 (by decide)).trans f4
    replace f10 := (hk 10 (by decide)).trans f10
    replace f11 := (hk 11 (by decide)).trans f11
    replace f24 := (hk 24 (by decide)).trans f24
    clear hk hsz28 hde28 f25 f26
    replace f27 : a29.tmps[27]?.getD undef = .int .i64 (((m - i : Nat) : Int)) := f27.trans (by first | rfl | (congr 1; done) | (congr 1; omega) | (congr 1; rw [IntKind.wrap_i64] <;> omega))
    refine wpList_next rfl hsz29 hde29 28 rfl (by decide) fun K hK => ?_
    go_simp
    refine hK _ _ fun a30 hsz30 hde30 f28 hk => ?_
    clear hK K
    replace f0 := (hk 0 (by decide)).trans f0
    replace f2 := (hk 2 (by decide)).trans f2
    replace f4 := (hk 4 (by decide)).trans f4
    replace f10 := (hk 10 (by decide)).trans f10
    replace f11 := (hk 11 (by decide)).trans f11
    replace f24 := (hk 24 (by decide)).trans f24
    replace f27 := (hk 27 (by decide)).trans f27
    replace f28 : a30.tmps[28]?.getD undef = .int .i64 ((m : Nat) : Int) := f28
    clear hk hsz29 hde29
    refine wpList_next rfl hsz30 hde30 29 rfl (by decide) fun K hK => ?_
    go_simp
    refine hK _ _ fun a31 hsz31 hde31 f29 hk => ?_
    clear hK K
    replace f0 := (hk 0 (by decide)).trans f0
    replace f2 := (hk 2 (by decide)).trans f2
    replace f4 := (hk 4 (by decide)).trans f4
    replace f10 := (hk 10 (by decide)).trans f10
    replace f11 := (hk 11 (by decide)).trans f11
    replace f24 := (hk 24 (by decide)).trans f24
    replace f27 := (hk 27 (by decide)).trans f27
    replace f28 := (hk 28 (by decide)).trans f28
    replace f29 : a31.tmps[29]?.getD undef = .int .i64 ((j : Nat) : Int) := f29
    clear hk hsz30 hde30
    refine wpList_next rfl hsz31 hde31 30 rfl (by decide) fun K hK => ?_
    go_simp
    refine hK _ _ fun a32 hsz32 hde32 f30 hk => ?_
    clear hK K
    replace f0 := (hk 0 (by decide)).trans f0
    replace f2 := (hk 2 (by decide)).trans f2
    replace f4 := (hk 4 (by decide)).trans f4
    replace f10 := (hk 10 (by decide)).trans f10
    replace f11 := (hk 11 (by decide)).trans f11
    replace f24 := (hk 24 (by decide)).trans f24
    replace f27 := (hk 27 (by decide)).trans f27
    replace f28 := (hk 28 (by decide)).trans f28
    replace f29 := (hk 29 (by decide)).trans f29
    replace f30 : a32.tmps[30]?.getD undef = fv := f30
    clear hk hsz31 hde31
    refine wpList_next rfl hsz32 hde32 31 rfl (by decide) fun K hK => ?_
    go_simp
    refine (swaprange_any base v M (m - i) m j fv wr Hown.out (by omega) (by omega) hi5 Hq.out).mono ?_
    rintro e7 w7 ⟨rfl, hown7, hb7⟩
    go_simp
    refine hK _ _ fun a33 hsz33 hde33 f31 hk => ?_
    clear hK K
    replace f0 := (hk 0 (by decide)).trans f0
    replace f2 := (hk 2 (by decide)).trans f2
    replace f4 := (hk 4 (by decide)).trans f4
    replace f10 := (hk 10 (by decide)).trans f10
    replace f11 := (hk 11 (by decide)).trans f11
    clear hk hsz32 hde32 f24 f27 f28 f29 f30
    have Hown7 := Lib.hid hown7
    have Hb7 := Lib.hid (Hbw.out.trans hb7)
    clear hown7 hb7
    clear f31
    refine wpList_nil ?_
    refine then_go ?_
    repeat with_reducible refine wp_seq ?_
    refine wp_region_lit ?_
    refine wpList_next rfl hsz33 hde33 32 rfl (by decide) fun K hK => ?_
    go_simp
    refine hK _ _ fun a34 hsz34 hde34 f32 hk => ?_
    clear hK K
    replace f0 := (hk 0 (by decide)).trans f0
    replace f2 := (hk 2 (by decide)).trans f2
    replace f4 := (hk 4 (by decide)).trans f4
    replace f10 := (hk 10 (by decide)).trans f10
    replace f11 := (hk 11 (by decide)).trans f11
    replace f32 : a34.tmps[32]?.getD undef = .int .i64 ((i : Nat) : Int) := f32
    clear hk hsz33 hde33
    refine wpList_next rfl hsz34 hde34 33 rfl (by decide) fun K hK => ?_
    go_simp
    refine hK _ _ fun a35 hsz35 hde35 f33 hk => ?_
    clear hK K
    replace f0 := (hk 0 (by decide)).trans f0
    replace f2 := (hk 2 (by decide)).trans f2
    replace f4 := (hk 4 (by decide)).trans f4
    replace f10 := (hk 10 (by decide)).trans f10
    replace f11 := (hk 11 (by decide)).trans f11
    replace f32 := (hk 32 (by decide)).trans f32
    replace f33 : a35.tmps[33]?.getD undef = .int .i64 ((j : Nat) : Int) := f33
    clear hk hsz34 hde34
    refine wpList_next rfl hsz35 hde35 34 rfl (by decide) fun K hK => ?_
    go_simp
    refine hK _ _ fun a36 hsz36 hde36 f34 hk => ?_
    clear hK K
    replace f0 := (hk 0 (by decide)).trans f0
    replace f2 := (hk 2 (by decide)).trans f2
    replace f4 := (hk 4 (by decide)).trans f4
    replace f10 := (hk 10 (by decide)).trans f10
    replace f11 := (hk 11 (by decide)).trans f11
    clear hk hsz35 hde35 f32 f33
    replace f34 : a36.tmps[34]?.getD undef = .int .i64 (((i - j : Nat) : Int)) := f34.trans (by first | rfl | (congr 1; done) | (congr 1; omega) | (congr 1; rw [IntKind.wrap_i64] <;> omega))
    refine wpList_next rfl hsz36 hde36 10 rfl (by decide) fun K hK => ?_
    go_simp
    refine hK _ _ fun a37 hsz37 hde37 f10 hk => ?_
    clear hK K
    replace f0 := (hk 0 (by decide)).trans f0
    replace f2 := (hk 2 (by decide)).trans f2
    replace f4 := (hk 4 (by decide)).trans f4
    replace f11 := (hk 11 (by decide)).trans f11
    replace f10 : a37.tmps[10]?.getD undef = .int .i64 ((i - j : Nat) : Int) := f10
    clear hk hsz36 hde36 f34
    refine wpList_nil ?_
    repeat first | with_reducible refine block_go ?_ | with_reducible refine then_go ?_
    exact ⟨i - j + j, by rw [Hn2.out]; omega, i - j, j, _, hsz37, hde37, f0, f2, f4, f10, f11, Lib.hid (by rw [swapR_length]; omega), Hown7, Lib.hid (by rw [rot_left hgt hi3 hi4]; exact Hrot.out), Hb7, rfl⟩
  refine wp_region_lit ?_
  refine wpList_next rfl hsz22 hde22 21 rfl (by decide) fun K hK => ?_
  go_simp
  refine hK _ _ fun a23 hsz23 hde23 f21 hk => ?_
  clear hK K
  replace f0 := (hk 0 (by decide)).trans f0
  replace f2 := (hk 2 (by decide)).trans f2
  replace f4 := (hk 4 (by decide)).trans f4
  replace f10 := (hk 10 (by decide)).trans f10
  replace f11 := (hk 11 (by decide)).trans f11
  replace f21 : a23.tmps[21]?.getD undef = .int .i64 ((i : Nat) : Int) := f21
  clear hk hsz22 hde22
  refine wpList_next rfl hsz23 hde23 22 rfl (by decide) fun K hK => ?_
  go_simp
  refine hK _ _ fun a24 hsz24 hde24 f22 hk => ?_
  clear hK K
  replace f0 := (hk 0 (by decide)).trans f0
  replace f2 := (hk 2 (by decide)).trans f2
  replace f4 := (hk 4 (by decide)).trans f4
  replace f10 := (hk 10 (by decide)).trans f10
  replace f11 := (hk 11 (by decide)).trans f11
  replace f21 := (hk 21 (by decide)).trans f21
  replace f22 : a24.tmps[22]?.getD undef = .int .i64 ((j : Nat) : Int) := f22
  clear hk hsz23 hde23
  refine wpList_next rfl hsz24 hde24 23 rfl (by decide) fun K hK => ?_
  go_simp
  refine hK _ _ fun a25 hsz25 hde25 f23 hk => ?_
  clear hK K
  replace f0 := (hk 0 (by decide)).trans f0
  replace f2 := (hk 2 (by decide)).trans f2
  replace f4 := (hk 4 (by decide)).trans f4
  replace f10 := (hk 10 (by decide)).trans f10
  replace f11 := (hk 11 (by decide)).trans f11
  clear hk hsz24 hde24 f21 f22
  replace f23 : a25.tmps[23]?.getD undef = .bool false := f23.trans (by first | rfl | (congr 1; first | exact decide_eq_true (by omega) | exact decide_eq_false (by omega)) | (simp; omega))
  refine wpList_nil ?_
  refine then_go ?_
  repeat with_reducible refine wp_seq ?_
  refine wp_cond_false (eval_at f23) ?_
  clear f23
  repeat with_reducible refine wp_seq ?_
  refine wp_region_lit ?_
  refine wpList_next rfl hsz25 hde25 35 rfl (by decide) fun K hK => ?_
  go_simp
  refine hK _ _ fun a26 hsz26 hde26 f35 hk => ?_
  clear hK K
  replace f0 := (hk 0 (by decide)).trans f0
  replace f2 := (hk 2 (by decide)).trans f2
  replace f4 := (hk 4 (by decide)).trans f4
  replace f10 := (hk 10 (by decide)).trans f10
  replace f11 := (hk 11 (by decide)).trans f11
  replace f35 : a26.tmps[35]?.getD undef = v := f35
  clear hk hsz25 hde25
  refine wpList_next rfl hsz26 hde26 36 rfl (by decide) fun K hK => ?_
  go_simp
  refine hK _ _ fun a27 hsz27 hde27 f36 hk => ?_
  clear hK K
  replace f0 := (hk 0 (by decide)).trans f0
  replace f2 := (hk 2 (by decide)).trans f2
  replace f4 := (hk 4 (by decide)).trans f4
  replace f10 := (hk 10 (by decide)).trans f10
  replace f11 := (hk 11 (by decide)).trans f11
  replace f35 := (hk 35 (by decide)).trans f35
  replace f36 : a27.tmps[36]?.getD undef = .int .i64 ((m : Nat) : Int) := f36
  clear hk hsz26 hde26
  refine wpList_next rfl hsz27 hde27 37 rfl (by decide) fun K hK => ?_
  go_simp
  refine hK _ _ fun a28 hsz28 hde28 f37 hk => ?_
  clear hK K
  replace f0 := (hk 0 (by decide)).trans f0
  replace f2 := (hk 2 (by decide)).trans f2
  replace f4 := (hk 4 (by decide)).trans f4
  replace f10 := (hk 10 (by decide)).trans f10
  replace f11 := (hk 11 (by decide)).trans f11
  replace f35 := (hk 35 (by decide)).trans f35
  replace f36 := (hk 36 (by decide)).trans f36
  replace f37 : a28.tmps[37]?.getD undef = .int .i64 ((i : Nat) : Int) := f37
  clear hk hsz27 hde27
  refine wpList_next rfl hsz28 hde28 38 rfl (by decide) fun K hK => ?_
  go_simp
  refine hK _ _ fun a29 hsz29 hde29 f38 hk => ?_
  clear hK K
  replace f0 := (hk 0 (by decide)).trans f0
  replace f2 := (hk 2 (by decide)).trans f2
  replace f4 := (hk 4 (by decide)).trans f4
  replace f10 := (hk 10 (by decide)).trans f10
  replace f11 := (hk 11 (by decide)).trans f11
  replace f35 := (hk 35 (by decide)).trans f35
  clear hk hsz28 hde28 f36 f37
  replace f38 : a29.tmps[38]?.getD undef = .int .i64 (((m - i : Nat) : Int)) := f38.trans (by first | rfl | (congr 1; done) | (congr 1; omega) | (congr 1; rw [IntKind.wrap_i64] <;> omega))
  refine wpList_next rfl hsz29 hde29 39 rfl (by decide) fun K hK => ?_
  go_simp
  refine hK _ _ fun a30 hsz30 hde30 f39 hk => ?_
  clear hK K
  replace f0 := (hk 0 (by decide)).trans f0
  replace f2 := (hk 2 (by decide)).trans f2
  replace f4 := (hk 4 (by decide)).trans f4
  replace f10 := (hk 10 (by decide)).trans f10
  replace f11 := (hk 11 (by decide)).trans f11
  replace f35 := (hk 35 (by decide)).trans f35
  replace f38 := (hk 38 (by decide)).trans f38
  replace f39 : a30.tmps[39]?.getD undef = .int .i64 ((m : Nat) : Int) := f39
  clear hk hsz29 hde29
  refine wpList_next rfl hsz30 hde30 40 rfl (by decide) fun K hK => ?_
  go_simp
  refine hK _ _ fun a31 hsz31 hde31 f40 hk => ?_
  clear hK K
  replace f0 := (hk 0 (by decide)).trans f0
  replace f2 := (hk 2 (by decide)).trans f2
  replace f4 := (hk 4 (by decide)).trans f4
  replace f10 := (hk 10 (by decide)).trans f10
  replace f11 := (hk 11 (by decide)).trans f11
  replace f35 := (hk 35 (by decide)).trans f35
  replace f38 := (hk 38 (by decide)).trans f38
  replace f39 := (hk 39 (by decide)).trans f39
  replace f40 : a31.tmps[40]?.getD undef = .int .i64 ((j : Nat) : Int) := f40
  clear hk hsz30 hde30
  refine wpList_next rfl hsz31 hde31 41 rfl (by decide) fun K hK => ?_
  go_simp
  refine hK _ _ fun a32 hsz32 hde32 f41 hk => ?_
  clear hK K
  replace f0 := (hk 0 (by decide)).trans f0
  replace f2 := (hk 2 (by decide)).trans f2
  replace f4 := (hk 4 (by decide)).trans f4
  replace f10 := (hk 10 (by decide)).trans f10
  replace f11 := (hk 11 (by decide)).trans f11
  replace f35 := (hk 35 (by decide)).trans f35
  replace f38 := (hk 38 (by decide)).trans f38
  clear hk hsz31 hde31 f39 f40
  replace f41 : a32.tmps[41]?.getD undef = .int .i64 (((m + j : Nat) : Int)) := f41.trans (by first | rfl | (congr 1; done) | (congr 1; omega) | (congr 1; rw [IntKind.wrap_i64] <;> omega))
  refine wpList_next rfl hsz32 hde32 42 rfl (by decide) fun K hK => ?_
  go_simp
  refine hK _ _ fun a33 hsz33 hde33 f42 hk => ?_
  clear hK K
  replace f0 := (hk 0 (by decide)).trans f0
  replace f2 := (hk 2 (by decide)).trans f2
  replace f4 := (hk 4 (by decide)).trans f4
  replace f10 := (hk 10 (by decide)).trans f10
  replace f11 := (hk 11 (by decide)).trans f11
  replace f35 := (hk 35 (by decide)).trans f35
  replace f38 := (hk 38 (by decide)).trans f38
  replace f41 := (hk 41 (by decide)).trans f41
  replace f42 : a33.tmps[42]?.getD undef = .int .i64 ((i : Nat) : Int) := f42
  clear hk hsz32 hde32
  refine wpList_next rfl hsz33 hde33 43 rfl (by decide) fun K hK => ?_
  go_simp
  refine hK _ _ fun a34 hsz34 hde34 f43 hk => ?_
  clear hK K
  replace f0 := (hk 0 (by decide)).trans f0
  replace f2 := (hk 2 (by decide)).trans f2
  replace f4 := (hk 4 (by decide)).trans f4
  replace f10 := (hk 10 (by decide)).trans f10
  replace f11 := (hk 11 (by decide)).trans f11
  replace f35 := (hk 35 (by decide)).trans f35
  replace f38 := (hk 38 (by decide)).trans f38
  clear hk hsz33 hde33 f41 f42
  replace f43 : a34.tmps[43]?.getD undef = .int .i64 (((m + j - i : Nat) : Int)) := f43.trans (by first | rfl | (congr 1; done) | (congr 1; omega) | (congr 1; rw [IntKind.wrap_i64] <;> omega))
  refine wpList_next rfl hsz34 hde34 44 rfl (by decide) fun K hK => ?_
  go_simp
  refine hK _ _ fun a35 hsz35 hde35 f44 hk => ?_
  clear hK K
  replace f0 := (hk 0 (by decide)).trans f0
  replace f2 := (hk 2 (by decide)).trans f2
  replace f4 := (hk 4 (by decide)).trans f4
  replace f10 := (hk 10 (by decide)).trans f10
  replace f11 := (hk 11 (by decide)).trans f11
  replace f35 := (hk 35 (by decide)).trans f35
  replace f38 := (hk 38 (by decide)).trans f38
  replace f43 := (hk 43 (by decide)).trans f43
  replace f44 : a35.tmps[44]?.getD undef = .int .i64 ((i : Nat) : Int) := f44
  clear hk hsz34 hde34
  refine wpList_next rfl hsz35 hde35 45 rfl (by decide) fun K hK => ?_
  go_simp
  refine hK _ _ fun a36 hsz36 hde36 f45 hk => ?_
  clear hK K
  replace f0 := (hk 0 (by decide)).trans f0
  replace f2 := (hk 2 (by decide)).trans f2
  replace f4 := (hk 4 (by decide)).trans f4
  replace f10 := (hk 10 (by decide)).trans f10
  replace f11 := (hk 11 (by decide)).trans f11
  replace f35 := (hk 35 (by decide)).trans f35
  replace f38 := (hk 38 (by decide)).trans f38
  replace f43 := (hk 43 (by decide)).trans f43
  replace f44 := (hk 44 (by decide)).trans f44
  replace f45 : a36.tmps[45]?.getD undef = fv := f45
  clear hk hsz35 hde35
  refine wpList_next rfl hsz36 hde36 46 rfl (by decide) fun K hK => ?_
  go_simp
  refine (swaprange_any base v M (m - i) (m + j - i) i fv wr Hown.out (by omega) (by omega) hi5 Hq.out).mono ?_
  rintro e7 w7 ⟨rfl, hown7, hb7⟩
  go_simp
  refine hK _ _ fun a37 hsz37 hde37 f46 hk => ?_
  clear hK K
  replace f0 := (hk 0 (by decide)).trans f0
  replace f2 := (hk 2 (by decide)).trans f2
  replace f4 := (hk 4 (by decide)).trans f4
  replace f10 := (hk 10 (by decide)).trans f10
  replace f11 := (hk 11 (by decide)).trans f11
  clear hk hsz36 hde36 f35 f38 f43 f44 f45
  have Hown7 := Lib.hid hown7
  have Hb7 := Lib.hid (Hbw.out.trans hb7)
  clear hown7 hb7
  clear f46
  refine wpList_nil ?_
  refine then_go ?_
  repeat with_reducible refine wp_seq ?_
  refine wp_region_lit ?_
  refine wpList_next rfl hsz37 hde37 47 rfl (by decide) fun K hK => ?_
  go_simp
  refine hK _ _ fun a38 hsz38 hde38 f47 hk => ?_
  clear hK K
  replace f0 := (hk 0 (by decide)).trans f0
  replace f2 := (hk 2 (by decide)).trans f2
  replace f4 := (hk 4 (by decide)).trans f4
  replace f10 := (hk 10 (by decide)).trans f10
  replace f11 := (hk 11 (by decide)).trans f11
  replace f47 : a38.tmps[47]?.getD undef = .int .i64 ((j : Nat) : Int) := f47
  clear hk hsz37 hde37
  refine wpList_next rfl hsz38 hde38 48 rfl (by decide) fun K hK => ?_
  go_simp
  refine hK _ _ fun a39 hsz39 hde39 f48 hk => ?_
  clear hK K
  replace f0 := (hk 0 (by decide)).trans f0
  replace f2 := (hk 2 (by decide)).trans f2
  replace f4 := (hk 4 (by decide)).trans f4
  replace f10 := (hk 10 (by decide)).trans f10
  replace f11 := (hk 11 (by decide)).trans f11
  replace f47 := (hk 47 (by decide)).trans f47
  replace f48 : a39.tmps[48]?.getD undef = .int .i64 ((i : Nat) : Int) := f48
  clear hk hsz38 hde38
  refine wpList_next rfl hsz39 hde39 49 rfl (by decide) fun K hK => ?_
  go_simp
  refine hK _ _ fun a40 hsz40 hde40 f49 hk => ?_
  clear hK K
  replace f0 := (hk 0 (by decide)).trans f0
  replace f2 := (hk 2 (by decide)).trans f2
  replace f4 := (hk 4 (by decide)).trans f4
  replace f10 := (hk 10 (by decide)).trans f10
  replace f11 := (hk 11 (by decide)).trans f11
  clear hk hsz39 hde39 f47 f48
  replace f49 : a40.tmps[49]?.getD undef = .int .i64 (((j - i : Nat) : Int)) := f49.trans (by first | rfl | (congr 1; done) | (congr 1; omega) | (congr 1; rw [IntKind.wrap_i64] <;> omega))
  refine wpList_next rfl hsz40 hde40 11 rfl (by decide) fun K hK => ?_
  go_simp
  refine hK _ _ fun a41 hsz41 hde41 f11 hk => ?_
  clear hK K
  replace f0 := (hk 0 (by decide)).trans f0
  replace f2 := (hk 2 (by decide)).trans f2
  replace f4 := (hk 4 (by decide)).trans f4
  replace f10 := (hk 10 (by decide)).trans f10
  replace f11 : a41.tmps[11]?.getD undef = .int .i64 ((j - i : Nat) : Int) := f11
  clear hk hsz40 hde40 f49
  refine wpList_nil ?_
  repeat first | with_reducible refine block_go ?_ | with_reducible refine then_go ?_
  exact ⟨i + (j - i), by rw [Hn2.out]; omega, i, j - i, _, hsz41, hde41, f0, f2, f4, f10, f11, Lib.hid (by rw [swapR_length]; omega), Hown7, Lib.hid (by rw [rot_right (by omega) hi3 hi4]; exact Hrot.out), Hb7, rfl⟩
end Go.Proofs.YtcpjgohclncbkaaDoor

namespace Go.Proofs.YtcpjgohclncbkaaDoor
open Go.RowKit
set_option maxRecDepth 100000

theorem ins_step {A C1 C2 : List Ent} {t : Nat} (ht : t < A.length) (hA : A.Pairwise prec) (hC : (C1 ++ C2).Pairwise ltE) (hp : (C1 ++ C2).Perm (A.take t)) (h1 : ∀ C y, C1 = C ++ [y] → nlt A[t] y = false) (h2 : ∀ y ∈ C2, nlt A[t] y = true) :
    (C1 ++ A[t] :: C2).Pairwise ltE ∧ (C1 ++ A[t] :: C2).Perm (A.take (t + 1)) := by
  refine ⟨ins_mid hC h1 (fun y hy => ?_) h2, ?_⟩
  · have hm : y ∈ A.take t := hp.mem_iff.1 (by simp [hy])
    obtain ⟨k, hk, rfl⟩ := List.getElem_of_mem hm
    rw [List.length_take] at hk
    rw [List.getElem_take]
    exact List.pairwise_iff_getElem.1 hA _ _ _ _ (by omega)
  · refine List.perm_middle.trans ?_
    rw [List.take_succ_eq_append_getElem ht]
    exact (List.Perm.cons _ hp).trans (List.perm_append_comm (l₁ := [A[t]]))
def InInv (w : World) (base : Nat) (v : Value) (P A S : List Ent) (p q : Nat) (m : Nat) (a : Act) (x : World) : Prop :=
  ∃ (t : Nat) (C : List Ent), Hid (a.tmps.size = 53) ∧ Hid (a.defers = []) ∧ a.tmps[0]?.getD undef = v ∧ a.tmps[1]?.getD undef = .int .i64 ((p : Nat) : Int) ∧ a.tmps[2]?.getD undef = .int .i64 ((q : Nat) : Int) ∧ a.tmps[3]?.getD undef = .func (.func 49) #[] #[] ∧ a.tmps[8]?.getD undef = .int .i64 ((p + t : Nat) : Int) ∧ Hid (1 ≤ t ∧ (t ≤ A.length ∨ A = [])) ∧ Hid (C.Pairwise ltE ∧ C.Perm (A.take t)) ∧ Hid (OwnE x base v (P ++ (C ++ (A.drop t ++ S)))) ∧ Hid (Below base w x) ∧ m = A.length - t
def IjInv (w : World) (base : Nat) (v : Value) (P C S : List Ent) (X : Ent) (p q i : Nat) (m : Nat) (a : Act) (x : World) : Prop :=
  ∃ (C1 C2 : List Ent), Hid (a.tmps.size = 53) ∧ Hid (a.defers = []) ∧ a.tmps[0]?.getD undef = v ∧ a.tmps[1]?.getD undef = .int .i64 ((p : Nat) : Int) ∧ a.tmps[2]?.getD undef = .int .i64 ((q : Nat) : Int) ∧ a.tmps[3]?.getD undef = .func (.func 49) #[] #[] ∧ a.tmps[8]?.getD undef = .int .i64 ((i : Nat) : Int) ∧ a.tmps[9]?.getD undef = .int .i64 ((p + C1.length : Nat) : Int) ∧ Hid (C1 ++ C2 = C) ∧ Hid (∀ y ∈ C2, nlt X y = true) ∧ Hid (OwnE x base v ((P ++ C1) ++ X :: (C2 ++ S))) ∧ Hid (Below base w x) ∧ m = C1.length

set_option maxHeartbeats 8000000 in
theorem insertion_any (base : Nat) (v : Value) (P A S : List Ent) (w : World) (hown : OwnE w base v (P ++ (A ++ S))) (hA : A.Pairwise prec) (hl : (P ++ (A ++ S)).length ≤ 1000) (hb : base ≤ w.heap.size) (p q : Nat) (hp : p = P.length) (hq : q = p + A.length) :
    Calls Tryd.prog 72 #[v, .int .i64 ((p : Nat) : Int), .int .i64 ((q : Nat) : Int), .func (.func 49) #[] #[]] w fun e w' => e = .returned (.tuple #[]) ∧ (∃ C, OwnE w' base v (P ++ (C ++ S)) ∧ C.Perm A ∧ C.Pairwise ltE) ∧ Below base w w' := by
  have Hown0 := Lib.hid hown
  have Hb := Lib.hid hb
  have Hl := Lib.hid (show P.length + (A.length + S.length) ≤ 1000 by simpa using hl)
  have HA := Lib.hid hA
  have Hp := Lib.hid hp
  have Hq := Lib.hid hq
  clear hown hb hl hA
  have hpq : p ≤ 1000 ∧ q ≤ 1000 := by have := Hl.out; omega
  clear hp hq
  go_enter Tryd.func72, Tryd.ntmps72
  refine enter_abs (N := 53) rfl rfl fun a0 hsz0 hde0 hk => ?_
  have f0 : a0.tmps[0]?.getD undef = v := hk 0
  have f1 : a0.tmps[1]?.getD undef = .int .i64 ((p : Nat) : Int) := hk 1
  have f2 : a0.tmps[2]?.getD undef = .int .i64 ((q : Nat) : Int) := hk 2
  have f3 : a0.tmps[3]?.getD undef = .func (.func 49) #[] #[] := hk 3
  clear hk
  repeat with_reducible refine wp_seq ?_
  refine wp_region_lit ?_
  refine wpList_next rfl hsz0 hde0 10 rfl (by decide) fun K hK => ?_
  go_simp
  refine hK _ _ fun a1 hsz1 hde1 f10 hk => ?_
  clear hK K
  replace f0 := (hk 0 (by decide)).trans f0
  replace f1 := (hk 1 (by decide)).trans f1
  replace f2 := (hk 2 (by decide)).trans f2
  replace f3 := (hk 3 (by decide)).trans f3
  replace f10 : a1.tmps[10]?.getD undef = .int .i64 ((p : Nat) : Int) := f10
  clear hk hsz0 hde0
  refine wpList_next rfl hsz1 hde1 11 rfl (by decide) fun K hK => ?_
  go_simp
  refine hK _ _ fun a2 hsz2 hde2 f11 hk => ?_
  clear hK K
  replace f0 := (hk 0 (by decide)).trans f0
  replace f1 := (hk 1 (by decide)).trans f1
  replace f2 := (hk 2 (by decide)).trans f2
  replace f3 := (hk 3 (by decide)).trans f3
  clear hk hsz1 hde1 f10
  replace f11 : a2.tmps[11]?.getD undef = .int .i64 (((p + 1 : Nat) : Int)) := f11.trans (by first | rfl | (congr 1; done) | (congr 1; omega) | (congr 1; rw [IntKind.wrap_i64] <;> omega))
  refine wpList_next rfl hsz2 hde2 8 rfl (by decide) fun K hK => ?_
  go_simp
  refine hK _ _ fun a3 hsz3 hde3 f8 hk => ?_
  clear hK K
  replace f0 := (hk 0 (by decide)).trans f0
  replace f1 := (hk 1 (by decide)).trans f1
  replace f2 := (hk 2 (by decide)).trans f2
  replace f3 := (hk 3 (by decide)).trans f3
  replace f8 : a3.tmps[8]?.getD undef = .int .i64 ((p + 1 : Nat) : Int) := f8
  clear hk hsz2 hde2 f11
  refine wpList_nil ?_
  refine then_go ?_
  repeat with_reducible refine wp_seq ?_
  refine wp_block ?_
  refine wp_loop_ghost (InInv w base v P A S p q) (A.length - 1) ?_ ?_
  · refine ⟨1, A.take 1, hsz3, hde3, f0, f1, f2, f3, f8, Lib.hid ⟨Nat.le_refl _, ?_⟩, Lib.hid ⟨?_, List.Perm.refl _⟩, Lib.hid (by rw [← List.append_assoc (A.take 1), List.take_append_drop]; exact Hown0.out), Lib.hid (Below.refl _ _), rfl⟩
    · cases A with
      | nil => exact .inr rfl
      | cons y A => exact .inl (by simp)
    · cases A with
      | nil => exact List.Pairwise.nil
      | cons y A => exact List.pairwise_singleton _ _
  clear hsz3 hde3 f0 f1 f2 f3 f8 Hown0
  intro n2 a19 wr hI
  obtain ⟨t, C, hsz19, hde19, f0, f1, f2, f3, f8, Ht, HC, Hown, Hbw, hn2⟩ := hI
  have Hn2 := Lib.hid hn2
  clear hn2
  obtain ⟨i, hi⟩ : ∃ i, i = p + t := ⟨_, rfl⟩
  rw [show ((p + t : Nat) : Int) = ((i : Nat) : Int) by rw [hi]] at f8
  have Hi := Lib.hid hi
  clear hi
  repeat with_reducible refine wp_seq ?_
  by_cases hlt : t < A.length
  · have hiq : i < q := by have := Hq.out; have := Hi.out; omega
    refine wp_region_lit ?_
    refine wpList_next rfl hsz19 hde19 12 rfl (by decide) fun K hK => ?_
    go_simp
    refine hK _ _ fun a20 hsz20 hde20 f12 hk => ?_
    clear hK K
    replace f0 := (hk 0 (by decide)).trans f0
    replace f1 := (hk 1 (by decide)).trans f1
    replace f2 := (hk 2 (by decide)).trans f2
    replace f3 := (hk 3 (by decide)).trans f3
    replace f8 := (hk 8 (by decide)).trans f8
    replace f12 : a20.tmps[12]?.getD undef = .int .i64 ((i : Nat) : Int) := f12
    clear hk hsz19 hde19
    refine wpList_next rfl hsz20 hde20 13 rfl (by decide) fun K hK => ?_
    go_simp
    refine hK _ _ fun a21 hsz21 hde21 f13 hk => ?_
    clear hK K
    replace f0 := (hk 0 (by decide)).trans f0
    replace f1 := (hk 1 (by decide)).trans f1
    replace f2 := (hk 2 (by decide)).trans f2
    replace f3 := (hk 3 (by decide)).trans f3
    replace f8 := (hk 8 (by decide)).trans f8
    replace f12 := (hk 12 (by decide)).trans f12
    replace f13 : a21.tmps[13]?.getD undef = .int .i64 ((q : Nat) : Int) := f13
    clear hk hsz20 hde20
    refine wpList_next rfl hsz21 hde21 14 rfl (by decide) fun K hK => ?_
    go_simp
    refine hK _ _ fun a22 hsz22 hde22 f14 hk => ?_
    clear hK K
    replace f0 := (hk 0 (by decide)).trans f0
    replace f1 := (hk 1 (by decide)).trans f1
    replace f2 := (hk 2 (by decide)).trans f2
    replace f3 := (hk 3 (by decide)).trans f3
    replace f8 := (hk 8 (by decide)).trans f8
    clear hk hsz21 hde21 f12 f13
    replace f14 : a22.tmps[14]?.getD undef = .bool true := f14.trans (by first | rfl | (congr 1; first | exact decide_eq_true (by omega) | exact decide_eq_false (by omega)) | (simp; omega))
    refine wpList_nil ?_
    refine then_go ?_
    repeat with_reducible refine wp_seq ?_
    refine wp_cond_true (eval_at f14) ?_
    refine wp_skip ?_
    refine then_go ?_
    clear f14
    repeat with_reducible refine wp_seq ?_
    refine wp_block ?_
    repeat with_reducible refine wp_seq ?_
    refine wp_region_lit ?_
    refine wpList_next rfl hsz22 hde22 17 rfl (by decide) fun K hK => ?_
    go_simp
    refine hK _ _ fun a23 hsz23 hde23 f17 hk => ?_
    clear hK K
    replace f0 := (hk 0 (by decide)).trans f0
    replace f1 := (hk 1 (by decide)).trans f1
    replace f2 := (hk 2 (by decide)).trans f2
    replace f3 := (hk 3 (by decide)).trans f3
    replace f8 := (hk 8 (by decide)).trans f8
    replace f17 : a23.tmps[17]?.getD undef = .int .i64 ((i : Nat) : Int) := f17
    clear hk hsz22 hde22
    refine wpList_next rfl hsz23 hde23 9 rfl (by decide) fun K hK => ?_
    go_simp
    refine hK _ _ fun a24 hsz24 hde24 f9 hk => ?_
    clear hK K
    replace f0 := (hk 0 (by decide)).trans f0
    replace f1 := (hk 1 (by decide)).trans f1
    replace f2 := (hk 2 (by decide)).trans f2
    replace f3 := (hk 3 (by decide)).trans f3
    replace f8 := (hk 8 (by decide)).trans f8
    replace f9 : a24.tmps[9]?.getD undef = .int .i64 ((i : Nat) : Int) := f9
    clear hk hsz23 hde23 f17
    refine wpList_nil ?_
    refine then_go ?_
    obtain ⟨X, hX⟩ : ∃ X, X = A[t] := ⟨_, rfl⟩
    have HX := Lib.hid hX
    obtain ⟨T, hT⟩ : ∃ T, T = A.drop (t + 1) ++ S := ⟨_, rfl⟩
    have HT := Lib.hid hT
    have hCl : C.length = t := by have h := HC.out.2.length_eq; rw [List.length_take] at h; omega
    have hown1 := Hown.out
    rw [List.drop_eq_getElem_cons hlt, List.cons_append, ← hX, ← hT] at hown1
    have Hown1 := Lib.hid (show OwnE wr base v ((P ++ C) ++ X :: ([] ++ T)) by rw [List.append_assoc]; exact hown1)
    have HTl := Lib.hid (show P.length + (C.length + (T.length + 1)) ≤ 1000 by rw [hT, List.length_append, List.length_drop]; have := Hl.out; omega)
    have f9 : a24.tmps[9]?.getD undef = .int .i64 ((p + C.length : Nat) : Int) := by rw [hCl, ← Hi.out]; exact f9
    clear hX hT hown1 hCl
    refine wp_block ?_
    refine wp_loop_ghost (IjInv w base v P C T X p q i) C.length ?_ ?_
    · exact ⟨C, [], hsz24, hde24, f0, f1, f2, f3, f8, f9, Lib.hid (List.append_nil _), Lib.hid (fun y hy => by simp at hy), Hown1, Hbw, rfl⟩
    clear hsz24 hde24 f0 f1 f2 f3 f8 f9 Hown1 Hbw Hown
    intro n3 a29 wx hI
    obtain ⟨C1, C2, hsz29, hde29, f0, f1, f2, f3, f8, f9, HCC, H2, Hown, Hbw, hn3⟩ := hI
    have Hn3 := Lib.hid hn3
    clear hn3
    obtain ⟨j, hj⟩ : ∃ j, j = p + C1.length := ⟨_, rfl⟩
    rw [← hj] at f9
    have Hj := Lib.hid hj
    have hj1 : j ≤ 1000 := by have h1 := HTl.out; have h2 := congrArg List.length HCC.out; rw [List.length_append] at h2; have := Hp.out; omega
    clear hj
    repeat with_reducible refine wp_seq ?_
    have Hsq := Lib.hid (Nat.le_trans Hb.out Hbw.out.size)
    rcases List.eq_nil_or_concat C1 with e1 | ⟨C3, Y, e1⟩
    · have hj0 : p = j := by rw [Hj.out, e1]; rfl
      subst hj0
      refine wp_region_goodg (tblG [(18, .int .i64 ((p : Nat) : Int)), (19, .int .i64 ((p : Nat) : Int)), (20, .bool false), (21, .bool false), (22, undef), (23, undef), (24, undef), (25, undef), (26, undef), (27, undef), (28, undef), (29, undef), (30, undef), (31, undef), (32, undef), (33, undef), (34, .bool false)]) 53 (by kernel_rfl) (by kernel_rfl) (by kernel_rfl) (by kernel_rfl) hsz29.out ?_ ?_ ?_
      · intro t v7 x x' h _ _
        exact h
      · intro i7 o hi7 a x hbx hsame hpre K hK
        have hlt7 : i7 < 17 := (Array.getElem?_eq_some_iff.1 hi7).1
        rcases (show i7 = 0 ∨ i7 = 1 ∨ i7 = 2 ∨ i7 = 3 ∨ i7 = 4 ∨ i7 = 5 ∨ i7 = 6 ∨ i7 = 7 ∨ i7 = 8 ∨ i7 = 9 ∨ i7 = 10 ∨ i7 = 11 ∨ i7 = 12 ∨ i7 = 13 ∨ i7 = 14 ∨ i7 = 15 ∨ i7 = 16 by omega) with rfl | rfl | rfl | rfl | rfl | rfl | rfl | rfl | rfl | rfl | rfl | rfl | rfl | rfl | rfl | rfl | rfl
        all_goals (have ho := Option.some.inj hi7; subst ho; clear hi7 hlt7)
        · have q9 : a.tmps[9]?.getD undef = .int .i64 ((p : Nat) : Int) := (hsame 9 (by decide +kernel)).trans f9
          refine step_plain rfl ?_
          have hk := Lib.hid (show ∀ v7 x', v7 = .int .i64 ((p : Nat) : Int) → Below x.heap.size x x' → K (a.put (some 18) v7) x' from hK)
          have Hbx := Lib.hid hbx
          clear hsame hpre hK hbx
          go_simp
          exact hk.out _ _ rfl (Below.refl _ _)
        · have q1 : a.tmps[1]?.getD undef = .int .i64 ((p : Nat) : Int) := (hsame 1 (by decide +kernel)).trans f1
          refine step_plain rfl ?_
          have hk := Lib.hid (show ∀ v7 x', v7 = .int .i64 ((p : Nat) : Int) → Below x.heap.size x x' → K (a.put (some 19) v7) x' from hK)
          have Hbx := Lib.hid hbx
          clear hsame hpre hK hbx
          go_simp
          exact hk.out _ _ rfl (Below.refl _ _)
        · have q18 : a.tmps[18]?.getD undef = .int .i64 ((p : Nat) : Int) := hpre ⟨0, .data⟩ (by simp) rfl (by decide)
          have q19 : a.tmps[19]?.getD undef = .int .i64 ((p : Nat) : Int) := hpre ⟨1, .data⟩ (by simp) rfl (by decide)
          refine step_plain rfl ?_
          have hk := Lib.hid (show ∀ v7 x', v7 = .bool false → Below x.heap.size x x' → K (a.put (some 20) v7) x' from hK)
          have Hbx := Lib.hid hbx
          clear hsame hpre hK hbx
          go_simp
          exact hk.out _ _ (by first | rfl | simp) (Below.refl _ _)
        · have q20 : a.tmps[20]?.getD undef = .bool false := hpre ⟨2, .data⟩ (by simp) rfl (by decide)
          refine step_plain rfl ?_
          have hk := Lib.hid (show ∀ v7 x', v7 = .bool false → Below x.heap.size x x' → K (a.put (some 21) v7) x' from hK)
          have Hbx := Lib.hid hbx
          clear hsame hpre hK hbx
          go_simp
          exact hk.out _ _ rfl (Below.refl _ _)
        · have w21 : a.tmps[21]?.getD undef = .bool false := hpre ⟨3, .guard⟩ (by simp) rfl (by decide)
          refine step_left (not_wanted (j := 3) (t := 21) (b := true) rfl rfl (.inr w21)) ?_
          have hk := Lib.hid (show ∀ v7 x', v7 = undef → Below x.heap.size x x' → K (a.put (some 22) v7) x' from hK)
          have Hbx := Lib.hid hbx
          clear hsame hpre hK hbx w21
          exact hk.out _ _ rfl (Below.refl _ _)
        · have w21 : a.tmps[21]?.getD undef = .bool false := hpre ⟨3, .guard⟩ (by simp) rfl (by decide)
          refine step_left (not_wanted (j := 3) (t := 21) (b := true) rfl rfl (.inr w21)) ?_
          have hk := Lib.hid (show ∀ v7 x', v7 = undef → Below x.heap.size x x' → K (a.put (some 23) v7) x' from hK)
          have Hbx := Lib.hid hbx
          clear hsame hpre hK hbx w21
          exact hk.out _ _ rfl (Below.refl _ _)
        · have w21 : a.tmps[21]?.getD undef = .bool false := hpre ⟨3, .guard⟩ (by simp) rfl (by decide)
          refine step_left (not_wanted (j := 3) (t := 21) (b := true) rfl rfl (.inr w21)) ?_
          have hk := Lib.hid (show ∀ v7 x', v7 = undef → Below x.heap.size x x' → K (a.put (some 24) v7) x' from hK)
          have Hbx := Lib.hid hbx
          clear hsame hpre hK hbx w21
          exact hk.out _ _ rfl (Below.refl _ _)
        · have w21 : a.tmps[21]?.getD undef = .bool false := hpre ⟨3, .guard⟩ (by simp) rfl (by decide)
          refine step_left (not_wanted (j := 3) (t := 21) (b := true) rfl rfl (.inr w21)) ?_
          have hk := Lib.hid (show ∀ v7 x', v7 = undef → Below x.heap.size x x' → K (a.put (some 25) v7) x' from hK)
          have Hbx := Lib.hid hbx
          clear hsame hpre hK hbx w21
          exact hk.out _ _ rfl (Below.refl _ _)
        · have w21 : a.tmps[21]?.getD undef = .bool false := hpre ⟨3, .guard⟩ (by simp) rfl (by decide)
          refine step_left (not_wanted (j := 3) (t := 21) (b := true) rfl rfl (.inr w21)) ?_
          have hk := Lib.hid (show ∀ v7 x', v7 = undef → Below x.heap.size x x' → K (a.put (some 26) v7) x' from hK)
          have Hbx := Lib.hid hbx
          clear hsame hpre hK hbx w21
          exact hk.out _ _ rfl (Below.refl _ _)
        · have w21 : a.tmps[21]?.getD undef = .bool false := hpre ⟨3, .guard⟩ (by simp) rfl (by decide)
          refine step_left (not_wanted (j := 3) (t := 21) (b := true) rfl rfl (.inr w21)) ?_
          have hk := Lib.hid (show ∀ v7 x', v7 = undef → Below x.heap.size x x' → K (a.put (some 27) v7) x' from hK)
          have Hbx := Lib.hid hbx
          clear hsame hpre hK hbx w21
          exact hk.out _ _ rfl (Below.refl _ _)
        · have w21 : a.tmps[21]?.getD undef = .bool false := hpre ⟨3, .guard⟩ (by simp) rfl (by decide)
          refine step_left (not_wanted (j := 3) (t := 21) (b := true) rfl rfl (.inr w21)) ?_
          have hk := Lib.hid (show ∀ v7 x', v7 = undef → Below x.heap.size x x' → K (a.put (some 28) v7) x' from hK)
          have Hbx := Lib.hid hbx
          clear hsame hpre hK hbx w21
          exact hk.out _ _ rfl (Below.refl _ _)
        · have w21 : a.tmps[21]?.getD undef = .bool false := hpre ⟨3, .guard⟩ (by simp) rfl (by decide)
          refine step_left (not_wanted (j := 3) (t := 21) (b := true) rfl rfl (.inr w21)) ?_
          have hk := Lib.hid (show ∀ v7 x', v7 = undef → Below x.heap.size x x' → K (a.put (some 29) v7) x' from hK)
          have Hbx := Lib.hid hbx
          clear hsame hpre hK hbx w21
          exact hk.out _ _ rfl (Below.refl _ _)
        · have w21 : a.tmps[21]?.getD undef = .bool false := hpre ⟨3, .guard⟩ (by simp) rfl (by decide)
          refine step_left (not_wanted (j := 3) (t := 21) (b := true) rfl rfl (.inr w21)) ?_
          have hk := Lib.hid (show ∀ v7 x', v7 = undef → Below x.heap.size x x' → K (a.put (some 30) v7) x' from hK)
          have Hbx := Lib.hid hbx
          clear hsame hpre hK hbx w21
          exact hk.out _ _ rfl (Below.refl _ _)
        · have w21 : a.tmps[21]?.getD undef = .bool false := hpre ⟨3, .guard⟩ (by simp) rfl (by decide)
          refine step_left (not_wanted (j := 3) (t := 21) (b := true) rfl rfl (.inr w21)) ?_
          have hk := Lib.hid (show ∀ v7 x', v7 = undef → Below x.heap.size x x' → K (a.put (some 31) v7) x' from hK)
          have Hbx := Lib.hid hbx
          clear hsame hpre hK hbx w21
          exact hk.out _ _ rfl (Below.refl _ _)
        · have w21 : a.tmps[21]?.getD undef = .bool false := hpre ⟨3, .guard⟩ (by simp) rfl (by decide)
          refine step_left (not_wanted (j := 3) (t := 21) (b := true) rfl rfl (.inr w21)) ?_
          have hk := Lib.hid (show ∀ v7 x', v7 = undef → Below x.heap.size x x' → K (a.put (some 32) v7) x' from hK)
          have Hbx := Lib.hid hbx
          clear hsame hpre hK hbx w21
          exact hk.out _ _ rfl (Below.refl _ _)
        · have w21 : a.tmps[21]?.getD undef = .bool false := hpre ⟨3, .guard⟩ (by simp) rfl (by decide)
          refine step_left (not_wanted (j := 3) (t := 21) (b := true) rfl rfl (.inr w21)) ?_
          have hk := Lib.hid (show ∀ v7 x', v7 = undef → Below x.heap.size x x' → K (a.put (some 33) v7) x' from hK)
          have Hbx := Lib.hid hbx
          clear hsame hpre hK hbx w21
          exact hk.out _ _ rfl (Below.refl _ _)
        · have q21 : a.tmps[21]?.getD undef = .bool false := hpre ⟨3, .data⟩ (by simp) rfl (by decide)
          have q33 : a.tmps[33]?.getD undef = undef := hpre ⟨15, .data⟩ (by simp) rfl (by decide)
          refine step_plain rfl ?_
          have hk := Lib.hid (show ∀ v7 x', v7 = .bool false → Below x.heap.size x x' → K (a.put (some 34) v7) x' from hK)
          have Hbx := Lib.hid hbx
          clear hsame hpre hK hbx
          go_simp
          exact hk.out _ _ rfl (Below.refl _ _)
      intro a30 x30 hbx hsame hG hsz30 hde30
      replace f0 := (hsame 0 (by decide +kernel)).trans f0
      replace f1 := (hsame 1 (by decide +kernel)).trans f1
      replace f2 := (hsame 2 (by decide +kernel)).trans f2
      replace f3 := (hsame 3 (by decide +kernel)).trans f3
      replace f8 := (hsame 8 (by decide +kernel)).trans f8
      replace f9 := (hsame 9 (by decide +kernel)).trans f9
      have f34 : a30.tmps[34]?.getD undef = .bool false := hG 16 (by decide)
      have Hbx30 := Lib.hid hbx
      have hsz30h := Lib.hid hsz30
      have hde30h := Lib.hid (hde30.trans hde29.out)
      clear hsame hG hbx hsz30 hde30 hsz29 hde29
      obtain ⟨wy, hwy⟩ : ∃ wy, wy = x30 := ⟨_, rfl⟩
      have Hown4 := Lib.hid (Hown.out.grow Hbx30.out)
      have Hbw4 := Lib.hid (Hbw.out.trans (Hbx30.out.mono Hsq.out))
      clear Hown Hbw
      have Hown := Hown4
      have Hbw := Hbw4
      clear Hown4 Hbw4
      refine then_go ?_
      repeat with_reducible refine wp_seq ?_
      refine wp_cond_false (eval_at f34) ?_
      refine wp_exit ?_
      repeat with_reducible refine then_exit ?_
      refine block_exit ?_
      repeat first | with_reducible refine block_go ?_ | with_reducible refine then_go ?_
      clear f34 f9
      repeat with_reducible refine wp_seq ?_
      refine wp_region_lit ?_
      refine wpList_next rfl hsz30h hde30h 15 rfl (by decide) fun K hK => ?_
      go_simp
      refine hK _ _ fun a31 hsz31 hde31 f15 hk => ?_
      clear hK K
      replace f0 := (hk 0 (by decide)).trans f0
      replace f1 := (hk 1 (by decide)).trans f1
      replace f2 := (hk 2 (by decide)).trans f2
      replace f3 := (hk 3 (by decide)).trans f3
      replace f8 := (hk 8 (by decide)).trans f8
      replace f15 : a31.tmps[15]?.getD undef = .int .i64 ((i : Nat) : Int) := f15
      clear hk hsz30h hde30h
      refine wpList_next rfl hsz31 hde31 16 rfl (by decide) fun K hK => ?_
      go_simp
      refine hK _ _ fun a32 hsz32 hde32 f16 hk => ?_
      clear hK K
      replace f0 := (hk 0 (by decide)).trans f0
      replace f1 := (hk 1 (by decide)).trans f1
      replace f2 := (hk 2 (by decide)).trans f2
      replace f3 := (hk 3 (by decide)).trans f3
      replace f8 := (hk 8 (by decide)).trans f8
      clear hk hsz31 hde31 f15
      replace f16 : a32.tmps[16]?.getD undef = .int .i64 (((p + (t + 1) : Nat) : Int)) := f16.trans (by have h7 := Hi.out; first | (congr 1; done) | (congr 1; omega) | (congr 1; rw [IntKind.wrap_i64] <;> omega))
      refine wpList_next rfl hsz32 hde32 8 rfl (by decide) fun K hK => ?_
      go_simp
      refine hK _ _ fun a33 hsz33 hde33 f8 hk => ?_
      clear hK K
      replace f0 := (hk 0 (by decide)).trans f0
      replace f1 := (hk 1 (by decide)).trans f1
      replace f2 := (hk 2 (by decide)).trans f2
      replace f3 := (hk 3 (by decide)).trans f3
      replace f8 : a33.tmps[8]?.getD undef = .int .i64 ((p + (t + 1) : Nat) : Int) := f8
      clear hk hsz32 hde32 f16
      refine wpList_nil ?_
      refine then_go ?_
      have hst := ins_step (C1 := C1) (C2 := C2) hlt HA.out (by rw [HCC.out]; exact HC.out.1) (by rw [HCC.out]; exact HC.out.2) (fun C4 y e => by rw [e1] at e; simp at e) (fun y hy => by rw [← HX.out]; exact H2.out y hy)
      rw [← HX.out] at hst
      exact ⟨A.length - (t + 1), by rw [Hn2.out]; omega, t + 1, C1 ++ X :: C2, hsz33, hde33, f0, f1, f2, f3, f8, Lib.hid ⟨by omega, .inl hlt⟩, Lib.hid hst, Lib.hid (by have h7 := Hown.out; rw [HT.out] at h7; simpa using h7), Hbw, rfl⟩
    have e2 : C1 = C3 ++ [Y] := by rw [e1]; simp
    clear e1
    have hjk : j = p + (C3.length + 1) := by rw [Hj.out, e2]; simp
    obtain ⟨k, hk0⟩ : ∃ k, k = p + C3.length := ⟨_, rfl⟩
    have hjk2 : j = k + 1 := by omega
    have Hk := Lib.hid hk0
    obtain ⟨M, hM⟩ : ∃ M, M = (P ++ C1) ++ X :: (C2 ++ T) := ⟨_, rfl⟩
    have hM2 : M = (P ++ C3) ++ Y :: X :: (C2 ++ T) := by rw [hM, e2]; simp
    have hPC : k = (P ++ C3).length := by rw [List.length_append, hk0, Hp.out]
    have hMk : M[k]? = some Y := by rw [hM2, hPC, List.getElem?_append_right (Nat.le_refl _), Nat.sub_self]; rfl
    have hMj : M[j]? = some X := by rw [hM2, hjk2, hPC, List.getElem?_append_right (by omega), Nat.add_sub_cancel_left]; rfl
    have hsw : swapL M j k = (P ++ C3) ++ X :: Y :: (C2 ++ T) := by rw [hM2, hjk2, hPC]; exact swap_next.1
    rw [← hM] at Hown
    have hkM := (List.getElem?_eq_some_iff.1 hMk).1
    have hjM := (List.getElem?_eq_some_iff.1 hMj).1
    have h0M : 0 < M.length := by omega
    obtain ⟨g, cap, rfl, _, _, _, _, _, _⟩ := Hown.out.elem h0M
    obtain ⟨n0, hn0⟩ : ∃ n0, n0 = M.length := ⟨_, rfl⟩
    rw [← hn0] at Hown f0
    have Hn0 := Lib.hid hn0
    obtain ⟨CX0, hCX0⟩ : ∃ C, C = entC X := ⟨_, rfl⟩
    obtain ⟨CY0, hCY0⟩ : ∃ C, C = entC Y := ⟨_, rfl⟩
    have HlX := Lib.hid (show ∀ z, Below wx.heap.size wx z → z.rangeAt g (j * 15) CX0.toList from fun z hz => by rw [hCX0]; exact range_ext (Hown.out.look hMj).1 hz)
    have HlY := Lib.hid (show ∀ z, Below wx.heap.size wx z → z.rangeAt g (k * 15) CY0.toList from fun z hz => by rw [hCY0]; exact range_ext (Hown.out.look hMk).1 hz)
    have HfX := Lib.hid (show (Tryd.prog.info? 29).map (·.size) = some CX0.toList.length by rw [hCX0]; exact ent_info)
    have HfY := Lib.hid (show (Tryd.prog.info? 29).map (·.size) = some CY0.toList.length by rw [hCY0]; exact ent_info)
    have hcmp := fun z => namecmp_any X Y z
    rw [← hCX0, ← hCY0] at hcmp
    obtain ⟨cv, hcv⟩ : ∃ cv, cv = Lib.compareBytes X.data Y.data := ⟨_, rfl⟩
    rw [← hcv] at hcmp
    have Hcmp := Lib.hid hcmp
    obtain ⟨bl, hbl⟩ : ∃ bl, bl = nlt X Y := ⟨_, rfl⟩
    have Hbl := Lib.hid hbl
    have Hcv := Lib.hid (show decide (cv < 0) = bl by rw [hbl, hcv]; rfl)
    have Hsw := Lib.hid hsw
    have HM := Lib.hid hM
    have He2 := Lib.hid e2
    have hx1 : j < n0 := by omega
    have hy1 : k < n0 := by omega
    have hj0 : (0 : Int) ≤ (j : Int) := by omega
    have hjn : (j : Int) < (n0 : Int) := by omega
    have hk0i : (0 : Int) ≤ (k : Int) := by omega
    have hkn : (k : Int) < (n0 : Int) := by omega
    have Hjk := Lib.hid hjk2
    have hgt2 : p < j := by omega
    clear e2 hk0 hM hM2 hMk hMj hsw hn0 hPC hcmp hcv hbl hCX0 hCY0
    have Hgt := Lib.hid hgt2
    clear hgt2 hjk hjk2
    refine wp_region_goodg (tblG [(18, .int .i64 ((j : Nat) : Int)), (19, .int .i64 ((p : Nat) : Int)), (20, .bool true), (21, .bool true), (22, .func (.func 49) #[] #[]), (23, .slice (some ⟨g, 0, none⟩) n0 cap), (24, .int .i64 ((j : Nat) : Int)), (25, .pointer (some ⟨g, j * 15, none⟩)), (26, .agg CX0), (27, .slice (some ⟨g, 0, none⟩) n0 cap), (28, .int .i64 ((j : Nat) : Int)), (29, .int .i64 ((k : Nat) : Int)), (30, .pointer (some ⟨g, k * 15, none⟩)), (31, .agg CY0), (32, .int .i64 cv), (33, .bool bl), (34, .bool bl)]) 53 (by kernel_rfl) (by kernel_rfl) (by kernel_rfl) (by kernel_rfl) hsz29.out ?_ ?_ ?_
    · intro t v7 x x' h _ _
      exact h
    · intro i7 o hi7 a x hbx hsame hpre K hK
      have hlt7 : i7 < 17 := (Array.getElem?_eq_some_iff.1 hi7).1
      rcases (show i7 = 0 ∨ i7 = 1 ∨ i7 = 2 ∨ i7 = 3 ∨ i7 = 4 ∨ i7 = 5 ∨ i7 = 6 ∨ i7 = 7 ∨ i7 = 8 ∨ i7 = 9 ∨ i7 = 10 ∨ i7 = 11 ∨ i7 = 12 ∨ i7 = 13 ∨ i7 = 14 ∨ i7 = 15 ∨ i7 = 16 by omega) with rfl | rfl | rfl | rfl | rfl | rfl | rfl | rfl | rfl | rfl | rfl | rfl | rfl | rfl | rfl | rfl | rfl
      all_goals (have ho := Option.some.inj hi7; subst ho; clear hi7 hlt7)
      · have q9 : a.tmps[9]?.getD undef = .int .i64 ((j : Nat) : Int) := (hsame 9 (by decide +kernel)).trans f9
        refine step_plain rfl ?_
        have hk := Lib.hid (show ∀ v7 x', v7 = .int .i64 ((j : Nat) : Int) → Below x.heap.size x x' → K (a.put (some 18) v7) x' from hK)
        have Hbx := Lib.hid hbx
        clear hsame hpre hK hbx
        go_simp
        exact hk.out _ _ rfl (Below.refl _ _)
      · have q1 : a.tmps[1]?.getD undef = .int .i64 ((p : Nat) : Int) := (hsame 1 (by decide +kernel)).trans f1
        refine step_plain rfl ?_
        have hk := Lib.hid (show ∀ v7 x', v7 = .int .i64 ((p : Nat) : Int) → Below x.heap.size x x' → K (a.put (some 19) v7) x' from hK)
        have Hbx := Lib.hid hbx
        clear hsame hpre hK hbx
        go_simp
        exact hk.out _ _ rfl (Below.refl _ _)
      · have q18 : a.tmps[18]?.getD undef = .int .i64 ((j : Nat) : Int) := hpre ⟨0, .data⟩ (by simp) rfl (by decide)
        have q19 : a.tmps[19]?.getD undef = .int .i64 ((p : Nat) : Int) := hpre ⟨1, .data⟩ (by simp) rfl (by decide)
        refine step_plain rfl ?_
        have hk := Lib.hid (show ∀ v7 x', v7 = .bool true → Below x.heap.size x x' → K (a.put (some 20) v7) x' from hK)
        have Hbx := Lib.hid hbx
        clear hsame hpre hK hbx
        go_simp
        exact hk.out _ _ (by have h7 := Hgt.out; first | rfl | (congr 1; done) | (congr 1; exact decide_eq_true (by omega)) | (simp; omega)) (Below.refl _ _)
      · have q20 : a.tmps[20]?.getD undef = .bool true := hpre ⟨2, .data⟩ (by simp) rfl (by decide)
        refine step_plain rfl ?_
        have hk := Lib.hid (show ∀ v7 x', v7 = .bool true → Below x.heap.size x x' → K (a.put (some 21) v7) x' from hK)
        have Hbx := Lib.hid hbx
        clear hsame hpre hK hbx
        go_simp
        exact hk.out _ _ rfl (Below.refl _ _)
      · have q3 : a.tmps[3]?.getD undef = .func (.func 49) #[] #[] := (hsame 3 (by decide +kernel)).trans f3
        have w21 : a.tmps[21]?.getD undef = .bool true := hpre ⟨3, .guard⟩ (by simp) rfl (by decide)
        refine step_wanted (wanted_of (j := 3) (t := 21) (b := true) rfl rfl w21) ?_
        have hk := Lib.hid (show ∀ v7 x', v7 = .func (.func 49) #[] #[] → Below x.heap.size x x' → K (a.put (some 22) v7) x' from hK)
        have Hbx := Lib.hid hbx
        clear hsame hpre hK hbx w21
        go_simp
        exact hk.out _ _ rfl (Below.refl _ _)
      · have q0 : a.tmps[0]?.getD undef = .slice (some ⟨g, 0, none⟩) n0 cap := (hsame 0 (by decide +kernel)).trans f0
        have w21 : a.tmps[21]?.getD undef = .bool true := hpre ⟨3, .guard⟩ (by simp) rfl (by decide)
        refine step_wanted (wanted_of (j := 3) (t := 21) (b := true) rfl rfl w21) ?_
        have hk := Lib.hid (show ∀ v7 x', v7 = .slice (some ⟨g, 0, none⟩) n0 cap → Below x.heap.size x x' → K (a.put (some 23) v7) x' from hK)
        have Hbx := Lib.hid hbx
        clear hsame hpre hK hbx w21
        go_simp
        exact hk.out _ _ rfl (Below.refl _ _)
      · have q9 : a.tmps[9]?.getD undef = .int .i64 ((j : Nat) : Int) := (hsame 9 (by decide +kernel)).trans f9
        have w21 : a.tmps[21]?.getD undef = .bool true := hpre ⟨3, .guard⟩ (by simp) rfl (by decide)
        refine step_wanted (wanted_of (j := 3) (t := 21) (b := true) rfl rfl w21) ?_
        have hk := Lib.hid (show ∀ v7 x', v7 = .int .i64 ((j : Nat) : Int) → Below x.heap.size x x' → K (a.put (some 24) v7) x' from hK)
        have Hbx := Lib.hid hbx
        clear hsame hpre hK hbx w21
        go_simp
        exact hk.out _ _ rfl (Below.refl _ _)
      · have q23 : a.tmps[23]?.getD undef = .slice (some ⟨g, 0, none⟩) n0 cap := hpre ⟨5, .data⟩ (by simp) rfl (by decide)
        have q24 : a.tmps[24]?.getD undef = .int .i64 ((j : Nat) : Int) := hpre ⟨6, .data⟩ (by simp) rfl (by decide)
        have w21 : a.tmps[21]?.getD undef = .bool true := hpre ⟨3, .guard⟩ (by simp) rfl (by decide)
        refine step_wanted (wanted_of (j := 3) (t := 21) (b := true) rfl rfl w21) ?_
        have hk := Lib.hid (show ∀ v7 x', v7 = .pointer (some ⟨g, j * 15, none⟩) → Below x.heap.size x x' → K (a.put (some 25) v7) x' from hK)
        have Hbx := Lib.hid hbx
        clear hsame hpre hK hbx w21
        go_simp
        exact hk.out _ _ rfl (Below.refl _ _)
      · have q25 : a.tmps[25]?.getD undef = .pointer (some ⟨g, j * 15, none⟩) := hpre ⟨7, .data⟩ (by simp) rfl (by decide)
        have w21 : a.tmps[21]?.getD undef = .bool true := hpre ⟨3, .guard⟩ (by simp) rfl (by decide)
        refine step_wanted (wanted_of (j := 3) (t := 21) (b := true) rfl rfl w21) ?_
        have hk := Lib.hid (show ∀ v7 x', v7 = .agg CX0 → Below x.heap.size x x' → K (a.put (some 26) v7) x' from hK)
        have Hbx := Lib.hid hbx
        clear hsame hpre hK hbx w21
        refine wp_load_mid 29 (.tmp 25) rfl g (j * 15) (eval_at q25) CX0.toList _ (HlX.out _ Hbx.out) Tryd.underlying29 rfl HfX.out ?_
        exact hk.out _ _ rfl (Below.refl _ _)
      · have q0 : a.tmps[0]?.getD undef = .slice (some ⟨g, 0, none⟩) n0 cap := (hsame 0 (by decide +kernel)).trans f0
        have w21 : a.tmps[21]?.getD undef = .bool true := hpre ⟨3, .guard⟩ (by simp) rfl (by decide)
        refine step_wanted (wanted_of (j := 3) (t := 21) (b := true) rfl rfl w21) ?_
        have hk := Lib.hid (show ∀ v7 x', v7 = .slice (some ⟨g, 0, none⟩) n0 cap → Below x.heap.size x x' → K (a.put (some 27) v7) x' from hK)
        have Hbx := Lib.hid hbx
        clear hsame hpre hK hbx w21
        go_simp
        exact hk.out _ _ rfl (Below.refl _ _)
      · have q9 : a.tmps[9]?.getD undef = .int .i64 ((j : Nat) : Int) := (hsame 9 (by decide +kernel)).trans f9
        have w21 : a.tmps[21]?.getD undef = .bool true := hpre ⟨3, .guard⟩ (by simp) rfl (by decide)
        refine step_wanted (wanted_of (j := 3) (t := 21) (b := true) rfl rfl w21) ?_
        have hk := Lib.hid (show ∀ v7 x', v7 = .int .i64 ((j : Nat) : Int) → Below x.heap.size x x' → K (a.put (some 28) v7) x' from hK)
        have Hbx := Lib.hid hbx
        clear hsame hpre hK hbx w21
        go_simp
        exact hk.out _ _ rfl (Below.refl _ _)
      · have q28 : a.tmps[28]?.getD undef = .int .i64 ((j : Nat) : Int) := hpre ⟨10, .data⟩ (by simp) rfl (by decide)
        have w21 : a.tmps[21]?.getD undef = .bool true := hpre ⟨3, .guard⟩ (by simp) rfl (by decide)
        refine step_wanted (wanted_of (j := 3) (t := 21) (b := true) rfl rfl w21) ?_
        have hk := Lib.hid (show ∀ v7 x', v7 = .int .i64 ((k : Nat) : Int) → Below x.heap.size x x' → K (a.put (some 29) v7) x' from hK)
        have Hbx := Lib.hid hbx
        clear hsame hpre hK hbx w21
        go_simp
        exact hk.out _ _ (by have h7 := Hjk.out; first | (congr 1; done) | (congr 1; omega) | (congr 1; rw [IntKind.wrap_i64] <;> omega)) (Below.refl _ _)
      · have q27 : a.tmps[27]?.getD undef = .slice (some ⟨g, 0, none⟩) n0 cap := hpre ⟨9, .data⟩ (by simp) rfl (by decide)
        have q29 : a.tmps[29]?.getD undef = .int .i64 ((k : Nat) : Int) := hpre ⟨11, .data⟩ (by simp) rfl (by decide)
        have w21 : a.tmps[21]?.getD undef = .bool true := hpre ⟨3, .guard⟩ (by simp) rfl (by decide)
        refine step_wanted (wanted_of (j := 3) (t := 21) (b := true) rfl rfl w21) ?_
        have hk := Lib.hid (show ∀ v7 x', v7 = .pointer (some ⟨g, k * 15, none⟩) → Below x.heap.size x x' → K (a.put (some 30) v7) x' from hK)
        have Hbx := Lib.hid hbx
        clear hsame hpre hK hbx w21
        go_simp
        exact hk.out _ _ rfl (Below.refl _ _)
      · have q30 : a.tmps[30]?.getD undef = .pointer (some ⟨g, k * 15, none⟩) := hpre ⟨12, .data⟩ (by simp) rfl (by decide)
        have w21 : a.tmps[21]?.getD undef = .bool true := hpre ⟨3, .guard⟩ (by simp) rfl (by decide)
        refine step_wanted (wanted_of (j := 3) (t := 21) (b := true) rfl rfl w21) ?_
        have hk := Lib.hid (show ∀ v7 x', v7 = .agg CY0 → Below x.heap.size x x' → K (a.put (some 31) v7) x' from hK)
        have Hbx := Lib.hid hbx
        clear hsame hpre hK hbx w21
        refine wp_load_mid 29 (.tmp 30) rfl g (k * 15) (eval_at q30) CY0.toList _ (HlY.out _ Hbx.out) Tryd.underlying29 rfl HfY.out ?_
        exact hk.out _ _ rfl (Below.refl _ _)
      · have q22 : a.tmps[22]?.getD undef = .func (.func 49) #[] #[] := hpre ⟨4, .data⟩ (by simp) rfl (by decide)
        have q26 : a.tmps[26]?.getD undef = .agg CX0 := hpre ⟨8, .data⟩ (by simp) rfl (by decide)
        have q31 : a.tmps[31]?.getD undef = .agg CY0 := hpre ⟨13, .data⟩ (by simp) rfl (by decide)
        have w21 : a.tmps[21]?.getD undef = .bool true := hpre ⟨3, .guard⟩ (by simp) rfl (by decide)
        refine step_wanted (wanted_of (j := 3) (t := 21) (b := true) rfl rfl w21) ?_
        have hk := Lib.hid (show ∀ v7 x', v7 = .int .i64 cv → Below x.heap.size x x' → K (a.put (some 32) v7) x' from hK)
        have Hbx := Lib.hid hbx
        clear hsame hpre hK hbx w21
        go_simp
        refine (Hcmp.out _).mono ?_
        rintro e7 w7 ⟨rfl, hb7⟩
        go_simp
        exact hk.out _ _ rfl hb7
      · have q32 : a.tmps[32]?.getD undef = .int .i64 cv := hpre ⟨14, .data⟩ (by simp) rfl (by decide)
        have w21 : a.tmps[21]?.getD undef = .bool true := hpre ⟨3, .guard⟩ (by simp) rfl (by decide)
        refine step_wanted (wanted_of (j := 3) (t := 21) (b := true) rfl rfl w21) ?_
        have hk := Lib.hid (show ∀ v7 x', v7 = .bool bl → Below x.heap.size x x' → K (a.put (some 33) v7) x' from hK)
        have Hbx := Lib.hid hbx
        clear hsame hpre hK hbx w21
        go_simp
        exact hk.out _ _ (by have h7 := Hcv.out; first | (congr 1; done) | (congr 1; exact h7) | (rw [← h7])) (Below.refl _ _)
      · have q21 : a.tmps[21]?.getD undef = .bool true := hpre ⟨3, .data⟩ (by simp) rfl (by decide)
        have q33 : a.tmps[33]?.getD undef = .bool bl := hpre ⟨15, .data⟩ (by simp) rfl (by decide)
        refine step_plain rfl ?_
        have hk := Lib.hid (show ∀ v7 x', v7 = .bool bl → Below x.heap.size x x' → K (a.put (some 34) v7) x' from hK)
        have Hbx := Lib.hid hbx
        clear hsame hpre hK hbx
        go_simp
        exact hk.out _ _ rfl (Below.refl _ _)
    intro a30 x30 hbx hsame hG hsz30 hde30
    replace f0 := (hsame 0 (by decide +kernel)).trans f0
    replace f1 := (hsame 1 (by decide +kernel)).trans f1
    replace f2 := (hsame 2 (by decide +kernel)).trans f2
    replace f3 := (hsame 3 (by decide +kernel)).trans f3
    replace f8 := (hsame 8 (by decide +kernel)).trans f8
    replace f9 := (hsame 9 (by decide +kernel)).trans f9
    have f34 : a30.tmps[34]?.getD undef = .bool bl := hG 16 (by decide)
    have Hbx30 := Lib.hid hbx
    have hsz30h := Lib.hid hsz30
    have hde30h := Lib.hid (hde30.trans hde29.out)
    clear hsame hG hbx hsz30 hde30 hsz29 hde29
    obtain ⟨wy, hwy⟩ : ∃ wy, wy = x30 := ⟨_, rfl⟩
    have Hown4 := Lib.hid (Hown.out.grow Hbx30.out)
    have Hbw4 := Lib.hid (Hbw.out.trans (Hbx30.out.mono Hsq.out))
    have Hs4 := Lib.hid (Nat.le_trans Hsq.out Hbx30.out.size)
    clear Hown Hbw HlX HlY Hcmp
    have Hown := Hown4
    have Hbw := Hbw4
    rw [← hwy] at Hown Hbw Hs4 ⊢
    clear Hown4 Hbw4 hwy Hbx30 Hsq
    cases bl with
    | false =>
      refine then_go ?_
      repeat with_reducible refine wp_seq ?_
      refine wp_cond_false (eval_at f34) ?_
      refine wp_exit ?_
      repeat with_reducible refine then_exit ?_
      refine block_exit ?_
      repeat first | with_reducible refine block_go ?_ | with_reducible refine then_go ?_
      clear f34 f9
      repeat with_reducible refine wp_seq ?_
      refine wp_region_lit ?_
      refine wpList_next rfl hsz30h hde30h 15 rfl (by decide) fun K hK => ?_
      go_simp
      refine hK _ _ fun a31 hsz31 hde31 f15 hk => ?_
      clear hK K
      replace f0 := (hk 0 (by decide)).trans f0
      replace f1 := (hk 1 (by decide)).trans f1
      replace f2 := (hk 2 (by decide)).trans f2
      replace f3 := (hk 3 (by decide)).trans f3
      replace f8 := (hk 8 (by decide)).trans f8
      replace f15 : a31.tmps[15]?.getD undef = .int .i64 ((i : Nat) : Int) := f15
      clear hk hsz30h hde30h
      refine wpList_next rfl hsz31 hde31 16 rfl (by decide) fun K hK => ?_
      go_simp
      refine hK _ _ fun a32 hsz32 hde32 f16 hk => ?_
      clear hK K
      replace f0 := (hk 0 (by decide)).trans f0
      replace f1 := (hk 1 (by decide)).trans f1
      replace f2 := (hk 2 (by decide)).trans f2
      replace f3 := (hk 3 (by decide)).trans f3
      replace f8 := (hk 8 (by decide)).trans f8
      clear hk hsz31 hde31 f15
      replace f16 : a32.tmps[16]?.getD undef = .int .i64 (((p + (t + 1) : Nat) : Int)) := f16.trans (by have h7 := Hi.out; first | (congr 1; done) | (congr 1; omega) | (congr 1; rw [IntKind.wrap_i64] <;> omega))
      refine wpList_next rfl hsz32 hde32 8 rfl (by decide) fun K hK => ?_
      go_simp
      refine hK _ _ fun a33 hsz33 hde33 f8 hk => ?_
      clear hK K
      replace f0 := (hk 0 (by decide)).trans f0
      replace f1 := (hk 1 (by decide)).trans f1
      replace f2 := (hk 2 (by decide)).trans f2
      replace f3 := (hk 3 (by decide)).trans f3
      replace f8 : a33.tmps[8]?.getD undef = .int .i64 ((p + (t + 1) : Nat) : Int) := f8
      clear hk hsz32 hde32 f16
      refine wpList_nil ?_
      refine then_go ?_
      rw [Hn0.out] at f0 Hown
      have hown8 := Eq.mp (congrArg (OwnE wy base (.slice (some ⟨g, 0, none⟩) M.length cap)) HM.out) Hown.out
      have Hown := Lib.hid hown8
      have hst := ins_step (C1 := C1) (C2 := C2) hlt HA.out (by rw [HCC.out]; exact HC.out.1) (by rw [HCC.out]; exact HC.out.2) (fun C4 y e => by rw [He2.out] at e; obtain ⟨_, e8⟩ := List.append_inj' e rfl; cases e8; rw [← HX.out]; exact Hbl.out.symm) (fun y hy => by rw [← HX.out]; exact H2.out y hy)
      rw [← HX.out] at hst
      exact ⟨A.length - (t + 1), by rw [Hn2.out]; omega, t + 1, C1 ++ X :: C2, hsz33, hde33, f0, f1, f2, f3, f8, Lib.hid ⟨by omega, .inl hlt⟩, Lib.hid hst, Lib.hid (by have h7 := Hown.out; rw [HT.out] at h7; simpa using h7), Hbw, rfl⟩
    | true =>
      refine then_go ?_
      repeat with_reducible refine wp_seq ?_
      refine wp_cond_true (eval_at f34) ?_
      refine wp_skip ?_
      refine then_go ?_
      clear f34
      repeat with_reducible refine wp_seq ?_
      refine wp_block ?_
      obtain ⟨CX, CY, W1, W2, hW1, hW2, hrX, hrY, htX, htY, hi1, hi2, hi3, hi4, hc1, hc2, hown2, hbl2⟩ := swap_facts Hown.out Hn0.out hx1 hy1 Hs4.out
      have ZW1 := Lib.hid hW1
      have ZW2 := Lib.hid hW2
      have ZrX := Lib.hid hrX
      have ZrY := Lib.hid hrY
      have ZtX := Lib.hid htX
      have ZtY := Lib.hid htY
      have Zi1 := Lib.hid hi1
      have Zi2 := Lib.hid hi2
      have Zi3 := Lib.hid hi3
      have Zi4 := Lib.hid hi4
      have Zc1 := Lib.hid hc1
      have Zc2 := Lib.hid hc2
      have Zown2 := Lib.hid hown2
      have Zbl2 := Lib.hid hbl2
      clear hW1 hW2 hrX hrY htX htY hi1 hi2 hi3 hi4 hc1 hc2 hown2 hbl2
      refine wp_region_sw (fun s => match s with | 37 => .slice (some ⟨g, 0, none⟩) n0 cap | 38 => .int .i64 ((j : Nat) : Int) | 39 => .slice (some ⟨g, 0, none⟩) n0 cap | 40 => .int .i64 ((j : Nat) : Int) | 41 => .int .i64 ((k : Nat) : Int) | 42 => .slice (some ⟨g, 0, none⟩) n0 cap | 43 => .int .i64 ((j : Nat) : Int) | 44 => .int .i64 ((k : Nat) : Int) | 45 => .pointer (some ⟨g, k * 15, none⟩) | 46 => .agg CY | 47 => .slice (some ⟨g, 0, none⟩) n0 cap | 48 => .int .i64 ((j : Nat) : Int) | 49 => .pointer (some ⟨g, j * 15, none⟩) | 50 => .agg CX | 51 => .pointer (some ⟨g, j * 15, none⟩) | 52 => .pointer (some ⟨g, k * 15, none⟩) | _ => undef) W1 W2 15 17 9 13 53 (by kernel_rfl) (by kernel_rfl) (by kernel_rfl) hsz30h.out (by decide +kernel) (by decide +kernel) ?_ ?_
      · intro i0 o0 hi0 a x0 hl1 hl2 hw1 hw2 hsame hV K hK
        have hlt0 : i0 < 18 := (Array.getElem?_eq_some_iff.1 hi0).1
        rcases (show i0 = 0 ∨ i0 = 1 ∨ i0 = 2 ∨ i0 = 3 ∨ i0 = 4 ∨ i0 = 5 ∨ i0 = 6 ∨ i0 = 7 ∨ i0 = 8 ∨ i0 = 9 ∨ i0 = 10 ∨ i0 = 11 ∨ i0 = 12 ∨ i0 = 13 ∨ i0 = 14 ∨ i0 = 15 ∨ i0 = 16 ∨ i0 = 17 by omega) with rfl | rfl | rfl | rfl | rfl | rfl | rfl | rfl | rfl | rfl | rfl | rfl | rfl | rfl | rfl | rfl | rfl | rfl
        all_goals (have ho0 := Option.some.inj hi0; subst ho0; clear hi0 hlt0)
        · have q0 : a.tmps[0]?.getD undef = .slice (some ⟨g, 0, none⟩) n0 cap := (hsame 0 (slot_free (by decide +kernel))).trans f0
          have hk := Lib.hid (fun v (h : v = .slice (some ⟨g, 0, none⟩) n0 cap) => hK v x0 (fun s hs => by cases hs; exact h) (fun _ _ => rfl) (fun h => absurd h (by decide)) (fun h => absurd h (by decide)))
          clear hsame hV hK hl1 hl2 hw1 hw2
          go_simp
          exact hk.out _ rfl
        · have q9 : a.tmps[9]?.getD undef = .int .i64 ((j : Nat) : Int) := (hsame 9 (slot_free (by decide +kernel))).trans f9
          have hk := Lib.hid (fun v (h : v = .int .i64 ((j : Nat) : Int)) => hK v x0 (fun s hs => by cases hs; exact h) (fun _ _ => rfl) (fun h => absurd h (by decide)) (fun h => absurd h (by decide)))
          clear hsame hV hK hl1 hl2 hw1 hw2
          go_simp
          exact hk.out _ rfl
        · have q0 : a.tmps[0]?.getD undef = .slice (some ⟨g, 0, none⟩) n0 cap := (hsame 0 (slot_free (by decide +kernel))).trans f0
          have hk := Lib.hid (fun v (h : v = .slice (some ⟨g, 0, none⟩) n0 cap) => hK v x0 (fun s hs => by cases hs; exact h) (fun _ _ => rfl) (fun h => absurd h (by decide)) (fun h => absurd h (by decide)))
          clear hsame hV hK hl1 hl2 hw1 hw2
          go_simp
          exact hk.out _ rfl
        · have q9 : a.tmps[9]?.getD undef = .int .i64 ((j : Nat) : Int) := (hsame 9 (slot_free (by decide +kernel))).trans f9
          have hk := Lib.hid (fun v (h : v = .int .i64 ((j : Nat) : Int)) => hK v x0 (fun s hs => by cases hs; exact h) (fun _ _ => rfl) (fun h => absurd h (by decide)) (fun h => absurd h (by decide)))
          clear hsame hV hK hl1 hl2 hw1 hw2
          go_simp
          exact hk.out _ rfl
        · have q40 : a.tmps[40]?.getD undef = .int .i64 ((j : Nat) : Int) := hV ⟨3, .data⟩ (by simp) rfl 40 rfl
          have hk := Lib.hid (fun v (h : v = .int .i64 ((k : Nat) : Int)) => hK v x0 (fun s hs => by cases hs; exact h) (fun _ _ => rfl) (fun h => absurd h (by decide)) (fun h => absurd h (by decide)))
          clear hsame hV hK hl1 hl2 hw1 hw2
          go_simp
          exact hk.out _ (by have h7 := Hjk.out; first | (congr 1; done) | (congr 1; omega) | (congr 1; rw [IntKind.wrap_i64] <;> omega))
        · have q0 : a.tmps[0]?.getD undef = .slice (some ⟨g, 0, none⟩) n0 cap := (hsame 0 (slot_free (by decide +kernel))).trans f0
          have hk := Lib.hid (fun v (h : v = .slice (some ⟨g, 0, none⟩) n0 cap) => hK v x0 (fun s hs => by cases hs; exact h) (fun _ _ => rfl) (fun h => absurd h (by decide)) (fun h => absurd h (by decide)))
          clear hsame hV hK hl1 hl2 hw1 hw2
          go_simp
          exact hk.out _ rfl
        · have q9 : a.tmps[9]?.getD undef = .int .i64 ((j : Nat) : Int) := (hsame 9 (slot_free (by decide +kernel))).trans f9
          have hk := Lib.hid (fun v (h : v = .int .i64 ((j : Nat) : Int)) => hK v x0 (fun s hs => by cases hs; exact h) (fun _ _ => rfl) (fun h => absurd h (by decide)) (fun h => absurd h (by decide)))
          clear hsame hV hK hl1 hl2 hw1 hw2
          go_simp
          exact hk.out _ rfl
        · have q43 : a.tmps[43]?.getD undef = .int .i64 ((j : Nat) : Int) := hV ⟨6, .data⟩ (by simp) rfl 43 rfl
          have hk := Lib.hid (fun v (h : v = .int .i64 ((k : Nat) : Int)) => hK v x0 (fun s hs => by cases hs; exact h) (fun _ _ => rfl) (fun h => absurd h (by decide)) (fun h => absurd h (by decide)))
          clear hsame hV hK hl1 hl2 hw1 hw2
          go_simp
          exact hk.out _ (by have h7 := Hjk.out; first | (congr 1; done) | (congr 1; omega) | (congr 1; rw [IntKind.wrap_i64] <;> omega))
        · have q42 : a.tmps[42]?.getD undef = .slice (some ⟨g, 0, none⟩) n0 cap := hV ⟨5, .data⟩ (by simp) rfl 42 rfl
          have q44 : a.tmps[44]?.getD undef = .int .i64 ((k : Nat) : Int) := hV ⟨7, .data⟩ (by simp) rfl 44 rfl
          have hk := Lib.hid (fun v (h : v = .pointer (some ⟨g, k * 15, none⟩)) => hK v x0 (fun s hs => by cases hs; exact h) (fun _ _ => rfl) (fun h => absurd h (by decide)) (fun h => absurd h (by decide)))
          clear hsame hV hK hl1 hl2 hw1 hw2
          go_simp
          exact hk.out _ rfl
        · have q45 : a.tmps[45]?.getD undef = .pointer (some ⟨g, k * 15, none⟩) := hV ⟨8, .data⟩ (by simp) rfl 45 rfl
          have e0 := hl1 rfl
          refine wp_load_mid 29 (.tmp 45) rfl g (k * 15) (eval_at q45) CY.toList _ (by rw [e0]; exact ZrY.out) Tryd.underlying29 rfl Zi2.out ?_
          exact hK _ x0 (fun s hs => by cases hs; rfl) (fun _ _ => rfl) (fun h => absurd h (by decide)) (fun h => absurd h (by decide))
        · have q0 : a.tmps[0]?.getD undef = .slice (some ⟨g, 0, none⟩) n0 cap := (hsame 0 (slot_free (by decide +kernel))).trans f0
          have hk := Lib.hid (fun v (h : v = .slice (some ⟨g, 0, none⟩) n0 cap) => hK v x0 (fun s hs => by cases hs; exact h) (fun _ _ => rfl) (fun h => absurd h (by decide)) (fun h => absurd h (by decide)))
          clear hsame hV hK hl1 hl2 hw1 hw2
          go_simp
          exact hk.out _ rfl
        · have q9 : a.tmps[9]?.getD undef = .int .i64 ((j : Nat) : Int) := (hsame 9 (slot_free (by decide +kernel))).trans f9
          have hk := Lib.hid (fun v (h : v = .int .i64 ((j : Nat) : Int)) => hK v x0 (fun s hs => by cases hs; exact h) (fun _ _ => rfl) (fun h => absurd h (by decide)) (fun h => absurd h (by decide)))
          clear hsame hV hK hl1 hl2 hw1 hw2
          go_simp
          exact hk.out _ rfl
        · have q47 : a.tmps[47]?.getD undef = .slice (some ⟨g, 0, none⟩) n0 cap := hV ⟨10, .data⟩ (by simp) rfl 47 rfl
          have q48 : a.tmps[48]?.getD undef = .int .i64 ((j : Nat) : Int) := hV ⟨11, .data⟩ (by simp) rfl 48 rfl
          have hk := Lib.hid (fun v (h : v = .pointer (some ⟨g, j * 15, none⟩)) => hK v x0 (fun s hs => by cases hs; exact h) (fun _ _ => rfl) (fun h => absurd h (by decide)) (fun h => absurd h (by decide)))
          clear hsame hV hK hl1 hl2 hw1 hw2
          go_simp
          exact hk.out _ rfl
        · have q49 : a.tmps[49]?.getD undef = .pointer (some ⟨g, j * 15, none⟩) := hV ⟨12, .data⟩ (by simp) rfl 49 rfl
          have e0 := hl2 rfl
          refine wp_load_mid 29 (.tmp 49) rfl g (j * 15) (eval_at q49) CX.toList _ (by rw [e0]; exact ZrX.out) Tryd.underlying29 rfl Zi1.out ?_
          exact hK _ x0 (fun s hs => by cases hs; rfl) (fun _ _ => rfl) (fun h => absurd h (by decide)) (fun h => absurd h (by decide))
        · have q37 : a.tmps[37]?.getD undef = .slice (some ⟨g, 0, none⟩) n0 cap := hV ⟨0, .data⟩ (by simp) rfl 37 rfl
          have q38 : a.tmps[38]?.getD undef = .int .i64 ((j : Nat) : Int) := hV ⟨1, .data⟩ (by simp) rfl 38 rfl
          have hk := Lib.hid (fun v (h : v = .pointer (some ⟨g, j * 15, none⟩)) => hK v x0 (fun s hs => by cases hs; exact h) (fun _ _ => rfl) (fun h => absurd h (by decide)) (fun h => absurd h (by decide)))
          clear hsame hV hK hl1 hl2 hw1 hw2
          go_simp
          exact hk.out _ rfl
        · have q51 : a.tmps[51]?.getD undef = .pointer (some ⟨g, j * 15, none⟩) := hV ⟨14, .data⟩ (by simp) rfl 51 rfl
          have q46 : a.tmps[46]?.getD undef = .agg CY := hV ⟨9, .data⟩ (by simp) rfl 46 rfl
          have e0 := hw1 rfl
          refine wp_store_mid 29 (.tmp 51) (.tmp 46) rfl g (j * 15) CY (eval_at q51) (eval_at q46) (by rw [e0]; exact ZtX.out) Zi4.out Zc2.out ?_
          exact hK _ _ (fun s hs => by cases hs) (fun h => absurd rfl h) (fun _ => by rw [e0]; exact ZW1.out.symm) (fun h => absurd h (by decide))
        · have q39 : a.tmps[39]?.getD undef = .slice (some ⟨g, 0, none⟩) n0 cap := hV ⟨2, .data⟩ (by simp) rfl 39 rfl
          have q41 : a.tmps[41]?.getD undef = .int .i64 ((k : Nat) : Int) := hV ⟨4, .data⟩ (by simp) rfl 41 rfl
          have hk := Lib.hid (fun v (h : v = .pointer (some ⟨g, k * 15, none⟩)) => hK v x0 (fun s hs => by cases hs; exact h) (fun _ _ => rfl) (fun h => absurd h (by decide)) (fun h => absurd h (by decide)))
          clear hsame hV hK hl1 hl2 hw1 hw2
          go_simp
          exact hk.out _ rfl
        · have q52 : a.tmps[52]?.getD undef = .pointer (some ⟨g, k * 15, none⟩) := hV ⟨16, .data⟩ (by simp) rfl 52 rfl
          have q50 : a.tmps[50]?.getD undef = .agg CX := hV ⟨13, .data⟩ (by simp) rfl 50 rfl
          have e0 := hw2 rfl
          refine wp_store_mid 29 (.tmp 52) (.tmp 50) rfl g (k * 15) CX (eval_at q52) (eval_at q50) (by rw [e0]; exact ZtY.out) Zi3.out Zc1.out ?_
          exact hK _ _ (fun s hs => by cases hs) (fun _ h => absurd rfl h) (fun h => absurd h (by decide)) (fun _ => by rw [e0]; exact ZW2.out.symm)
      intro a31 hsame hV hsz31 hde31
      replace f0 := (hsame 0 (slot_free (by decide +kernel))).trans f0
      replace f1 := (hsame 1 (slot_free (by decide +kernel))).trans f1
      replace f2 := (hsame 2 (slot_free (by decide +kernel))).trans f2
      replace f3 := (hsame 3 (slot_free (by decide +kernel))).trans f3
      replace f8 := (hsame 8 (slot_free (by decide +kernel))).trans f8
      replace f9 := (hsame 9 (slot_free (by decide +kernel))).trans f9
      have hsz31h := Lib.hid hsz31
      have hde31h := Lib.hid (hde31.trans hde30h.out)
      clear hsame hV hsz31 hde31 hsz30h hde30h ZW1 ZW2 ZrX ZrY ZtX ZtY Zi1 Zi2 Zi3 Zi4 Zc1 Zc2
      refine block_go ?_
      refine then_go ?_
      repeat with_reducible refine wp_seq ?_
      refine wp_region_lit ?_
      refine wpList_next rfl hsz31h hde31h 35 rfl (by decide) fun K hK => ?_
      go_simp
      refine hK _ _ fun a32 hsz32 hde32 f35 hk => ?_
      clear hK K
      replace f0 := (hk 0 (by decide)).trans f0
      replace f1 := (hk 1 (by decide)).trans f1
      replace f2 := (hk 2 (by decide)).trans f2
      replace f3 := (hk 3 (by decide)).trans f3
      replace f8 := (hk 8 (by decide)).trans f8
      replace f9 := (hk 9 (by decide)).trans f9
      replace f35 : a32.tmps[35]?.getD undef = .int .i64 ((j : Nat) : Int) := f35
      clear hk hsz31h hde31h
      refine wpList_next rfl hsz32 hde32 36 rfl (by decide) fun K hK => ?_
      go_simp
      refine hK _ _ fun a33 hsz33 hde33 f36 hk => ?_
      clear hK K
      replace f0 := (hk 0 (by decide)).trans f0
      replace f1 := (hk 1 (by decide)).trans f1
      replace f2 := (hk 2 (by decide)).trans f2
      replace f3 := (hk 3 (by decide)).trans f3
      replace f8 := (hk 8 (by decide)).trans f8
      replace f9 := (hk 9 (by decide)).trans f9
      clear hk hsz32 hde32 f35
      replace f36 : a33.tmps[36]?.getD undef = .int .i64 (((k : Nat) : Int)) := f36.trans (by have h7 := Hjk.out; first | (congr 1; done) | (congr 1; omega) | (congr 1; rw [IntKind.wrap_i64] <;> omega))
      refine wpList_next rfl hsz33 hde33 9 rfl (by decide) fun K hK => ?_
      go_simp
      refine hK _ _ fun a34 hsz34 hde34 f9 hk => ?_
      clear hK K
      replace f0 := (hk 0 (by decide)).trans f0
      replace f1 := (hk 1 (by decide)).trans f1
      replace f2 := (hk 2 (by decide)).trans f2
      replace f3 := (hk 3 (by decide)).trans f3
      replace f8 := (hk 8 (by decide)).trans f8
      replace f9 : a34.tmps[9]?.getD undef = .int .i64 ((k : Nat) : Int) := f9
      clear hk hsz33 hde33 f36
      refine wpList_nil ?_
      refine then_go ?_
      rw [Hn0.out] at f0 Zown2
      rw [Hk.out] at f9
      have hown9 := Zown2.out
      rw [Hsw.out] at hown9
      exact ⟨C3.length, by rw [Hn3.out, He2.out, List.length_append]; simp, C3, Y :: C2, hsz34, hde34, f0, f1, f2, f3, f8, f9, Lib.hid (by rw [← HCC.out, He2.out]; simp), Lib.hid (fun y hy => by rcases List.mem_cons.1 hy with rfl | hy; exact Hbl.out.symm; exact H2.out y hy), Lib.hid hown9, Lib.hid (Hbw.out.trans Zbl2.out), rfl⟩
  have hiq : q ≤ i := by have := Hq.out; have := Hi.out; omega
  refine wp_region_lit ?_
  refine wpList_next rfl hsz19 hde19 12 rfl (by decide) fun K hK => ?_
  go_simp
  refine hK _ _ fun a20 hsz20 hde20 f12 hk => ?_
  clear hK K
  replace f0 := (hk 0 (by decide)).trans f0
  replace f1 := (hk 1 (by decide)).trans f1
  replace f2 := (hk 2 (by decide)).trans f2
  replace f3 := (hk 3 (by decide)).trans f3
  replace f8 := (hk 8 (by decide)).trans f8
  replace f12 : a20.tmps[12]?.getD undef = .int .i64 ((i : Nat) : Int) := f12
  clear hk hsz19 hde19
  refine wpList_next rfl hsz20 hde20 13 rfl (by decide) fun K hK => ?_
  go_simp
  refine hK _ _ fun a21 hsz21 hde21 f13 hk => ?_
  clear hK K
  replace f0 := (hk 0 (by decide)).trans f0
  replace f1 := (hk 1 (by decide)).trans f1
  replace f2 := (hk 2 (by decide)).trans f2
  replace f3 := (hk 3 (by decide)).trans f3
  replace f8 := (hk 8 (by decide)).trans f8
  replace f12 := (hk 12 (by decide)).trans f12
  replace f13 : a21.tmps[13]?.getD undef = .int .i64 ((q : Nat) : Int) := f13
  clear hk hsz20 hde20
  refine wpList_next rfl hsz21 hde21 14 rfl (by decide) fun K hK => ?_
  go_simp
  refine hK _ _ fun a22 hsz22 hde22 f14 hk => ?_
  clear hK K
  replace f0 := (hk 0 (by decide)).trans f0
  replace f1 := (hk 1 (by decide)).trans f1
  replace f2 := (hk 2 (by decide)).trans f2
  replace f3 := (hk 3 (by decide)).trans f3
  replace f8 := (hk 8 (by decide)).trans f8
  clear hk hsz21 hde21 f12 f13
  replace f14 : a22.tmps[14]?.getD undef = .bool false := f14.trans (by first | rfl | (congr 1; first | exact decide_eq_true (by omega) | exact decide_eq_false (by omega)) | (simp; omega))
  refine wpList_nil ?_
  refine then_go ?_
  repeat with_reducible refine wp_seq ?_
  refine wp_cond_false (eval_at f14) ?_
  refine wp_exit ?_
  repeat with_reducible refine then_exit ?_
  refine block_exit ?_
  have hfin := Hown.out
  rw [List.drop_of_length_le (by omega), List.nil_append] at hfin
  have hpm := HC.out.2
  rw [List.take_of_length_le (by omega)] at hpm
  refine end_none Tryd.results72 hde22 ⟨rfl, ⟨C, hfin, hpm, HC.out.1⟩, Hbw.out⟩
end Go.Proofs.YtcpjgohclncbkaaDoor
