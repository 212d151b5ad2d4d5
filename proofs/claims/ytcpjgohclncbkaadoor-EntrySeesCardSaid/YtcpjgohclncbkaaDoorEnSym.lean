/-
  slices.symMergeCmpFunc of entries by their names.
-/
import Derived.Test.YtcpjgohclncbkaaDoorEnSrtIns
import Derived.Deep.Cut
namespace Go.Proofs.YtcpjgohclncbkaaDoor
open Go.RowKit
set_option maxRecDepth 100000

theorem ret_none {P : Program} {fn : Func} {R : Ending → World → Prop} {a : Act} {w : World} (hr : fn.results = #[]) (hde : Hid (a.defers = [])) (h : R (.returned (.tuple #[])) w) : bodyPost P fn R .ret a w :=
  bodyPost_ret (results_none hr _ _ _) hde.out h
/-- A cut behind a statement: what follows, once. -/
theorem wp_cut0 {P : Program} {s : Code} {K : Act → World → Prop} {Q' : Exit → Act → World → Prop} {a : Act} {w : World} (R : Act → World → Prop) (first : s.wp P (Exit.then R Q') a w) (rest : ∀ a' w', R a' w' → K a' w') : s.wp P (Exit.then K Q') a w := by
  refine wp_mono first ?_
  intro e a' w' hq
  cases e with
  | normal => exact rest _ _ hq
  | exit id => exact hq
  | goto l => exact hq
  | ret => exact hq
  | panic ch => exact hq
  | outgrown => exact hq
theorem lookA {P A R : List Ent} {t p : Nat} (hp : p = P.length) (h : t < A.length) : (P ++ (A ++ R))[p + t]? = some A[t] := by
  rw [hp, List.getElem?_append_right (by omega), Nat.add_sub_cancel_left, List.getElem?_append_left h, List.getElem?_eq_getElem h]
theorem lookB {P A B S : List Ent} {t p m : Nat} (hp : p = P.length) (hm : m = p + A.length) (h : t < B.length) : (P ++ (A ++ (B ++ S)))[m + t]? = some B[t] := by
  rw [hm, hp, ← List.append_assoc, List.getElem?_append_right (by rw [List.length_append]; omega), List.length_append, Nat.add_sub_cancel_left, List.getElem?_append_left h, List.getElem?_eq_getElem h]
theorem one_left {X : Ent} {B : List Ent} {i : Nat} (hi : i ≤ B.length) (hB : B.Pairwise ltE) (hp : ∀ y ∈ B, prec X y) (h1 : ∀ (h : i - 1 < B.length), 0 < i → nlt B[i - 1] X = true) (h2 : ∀ (h : i < B.length), nlt B[i] X = false) : (B.take i ++ X :: B.drop i).Pairwise ltE := by
  have h := List.pairwise_append.1 (show (B.take i ++ B.drop i).Pairwise ltE by rw [List.take_append_drop]; exact hB)
  refine List.pairwise_append.2 ⟨h.1, List.pairwise_cons.2 ⟨fun y hy => ?_, h.2.1⟩, fun x hx y hy => ?_⟩
  · obtain ⟨q, hq1, rfl⟩ := List.getElem_of_mem hy
    rw [List.length_drop] at hq1
    rw [List.getElem_drop]
    exact ltE_right (ltE_of_not (h2 (by omega)) (hp _ (List.getElem_mem _))) (pair_le hB (by omega) (by omega) (by omega))
  · rcases List.mem_cons.1 hy with rfl | hy
    · obtain ⟨k, hk, rfl⟩ := List.getElem_of_mem hx
      rw [List.length_take] at hk
      rw [List.getElem_take]
      exact ltE_left (pair_le hB (by omega) (by omega) (by omega)) (.inl (h1 (by omega) (by omega)))
    · exact h.2.2 x hx y hy
theorem one_right {Y : Ent} {A : List Ent} {i : Nat} (hi : i ≤ A.length) (hA : A.Pairwise ltE) (hp : ∀ x ∈ A, prec x Y) (h1 : ∀ (h : i - 1 < A.length), 0 < i → nlt Y A[i - 1] = false) (h2 : ∀ (h : i < A.length), nlt Y A[i] = true) : (A.take i ++ Y :: A.drop i).Pairwise ltE := by
  have h := List.pairwise_append.1 (show (A.take i ++ A.drop i).Pairwise ltE by rw [List.take_append_drop]; exact hA)
  refine List.pairwise_append.2 ⟨h.1, List.pairwise_cons.2 ⟨fun y hy => ?_, h.2.1⟩, fun x hx y hy => ?_⟩
  · obtain ⟨q, hq1, rfl⟩ := List.getElem_of_mem hy
    rw [List.length_drop] at hq1
    rw [List.getElem_drop]
    exact ltE_right (.inl (h2 (by omega))) (pair_le hA (by omega) (by omega) (by omega))
  · rcases List.mem_cons.1 hy with rfl | hy
    · obtain ⟨k, hk, rfl⟩ := List.getElem_of_mem hx
      rw [List.length_take] at hk
      rw [List.getElem_take]
      exact ltE_left (pair_le hA (by omega) (by omega) (by omega)) (ltE_of_not (h1 (by omega) (by omega)) (hp _ (List.getElem_mem _)))
    · exact h.2.2 x hx y hy
/-- What a merge of what lies from p to m with what lies from m to q comes to. -/
def SymPost (base : Nat) (v : Value) (P A B S : List Ent) (w : World) (e : Ending) (w' : World) : Prop := e = .returned (.tuple #[]) ∧ (∃ C, OwnE w' base v (P ++ (C ++ S)) ∧ C.Perm (A ++ B) ∧ C.Pairwise ltE) ∧ Below base w w'
structure SymPre (w : World) (base : Nat) (v : Value) (P A B S : List Ent) (p m q : Nat) : Prop where
  own : OwnE w base v (P ++ (A ++ (B ++ S)))
  a : A.Pairwise ltE
  b : B.Pairwise ltE
  ab : ∀ x ∈ A, ∀ y ∈ B, prec x y
  base_ : base ≤ w.heap.size
  p_ : p = P.length
  m_ : m = p + A.length
  q_ : q = m + B.length
  len : q + S.length ≤ 1000
  na : 0 < A.length
  nb : 0 < B.length
def S1Inv (w : World) (base : Nat) (v : Value) (P B S : List Ent) (X : Ent) (p m q : Nat) (k9 : Nat) (a : Act) (x : World) : Prop :=
  ∃ (i j : Nat), Hid (a.tmps.size = 220) ∧ Hid (a.defers = []) ∧ a.tmps[0]?.getD undef = v ∧ a.tmps[1]?.getD undef = .int .i64 ((p : Nat) : Int) ∧ a.tmps[2]?.getD undef = .int .i64 ((m : Nat) : Int) ∧ a.tmps[3]?.getD undef = .int .i64 ((q : Nat) : Int) ∧ a.tmps[4]?.getD undef = .func (.func 49) #[] #[] ∧ a.tmps[10]?.getD undef = .int .i64 ((m + i : Nat) : Int) ∧ a.tmps[11]?.getD undef = .int .i64 ((m + j : Nat) : Int) ∧ Hid (i ≤ j ∧ j ≤ B.length) ∧ Hid (∀ (h : i - 1 < B.length), 0 < i → nlt B[i - 1] X = true) ∧ Hid (∀ (h : j < B.length), nlt B[j] X = false) ∧ Hid (OwnE x base v (P ++ ([X] ++ (B ++ S)))) ∧ Hid (Below base w x) ∧ k9 = j - i
def S1Bub (w : World) (base : Nat) (v : Value) (P B S : List Ent) (X : Ent) (p i : Nat) (k9 : Nat) (a : Act) (x : World) : Prop :=
  ∃ (c : Nat), Hid (a.tmps.size = 220) ∧ Hid (a.defers = []) ∧ a.tmps[0]?.getD undef = v ∧ a.tmps[10]?.getD undef = .int .i64 ((i : Nat) : Int) ∧ a.tmps[13]?.getD undef = .int .i64 ((p + c : Nat) : Int) ∧ Hid (p + c + 1 ≤ i ∧ c ≤ B.length) ∧ Hid (OwnE x base v ((P ++ B.take c) ++ X :: (B.drop c ++ S))) ∧ Hid (Below base w x) ∧ k9 = i - (p + c)

set_option maxHeartbeats 8000000 in
theorem sym_one (base : Nat) (v : Value) (P A B S : List Ent) (p m q : Nat) (w : World) (h : SymPre w base v P A B S p m q) (h1 : A.length = 1) :
    Calls Tryd.prog 73 #[v, .int .i64 ((p : Nat) : Int), .int .i64 ((m : Nat) : Int), .int .i64 ((q : Nat) : Int), .func (.func 49) #[] #[]] w (SymPost base v P A B S w) := by
  have Hown0 := Lib.hid h.own
  have HA := Lib.hid h.a
  have HB := Lib.hid h.b
  have HAB := Lib.hid h.ab
  have Hb := Lib.hid h.base_
  have Hp := Lib.hid h.p_
  have Hm := Lib.hid h.m_
  have Hq := Lib.hid h.q_
  have hna := h.na
  have hnb := h.nb
  have hlen : p ≤ 1000 ∧ m ≤ 1000 ∧ q ≤ 1000 := by have := h.len; have := h.m_; have := h.q_; omega
  have hmq : p < m ∧ m < q := by have := h.m_; have := h.q_; omega
  obtain ⟨n0, hn0⟩ : ∃ n0, n0 = (P ++ (A ++ (B ++ S))).length := ⟨_, rfl⟩
  have hnq : n0 = q + S.length := by rw [hn0, h.q_, h.m_, h.p_]; simp; omega
  have hqn : q ≤ n0 := by omega
  have hn1 : n0 ≤ 1000 := by have := h.len; omega
  have Hn0 := Lib.hid (show ∀ M : List Ent, M.Perm (P ++ (A ++ (B ++ S))) → n0 = M.length from fun M hM => by rw [hn0, hM.length_eq])
  obtain ⟨g, cap, hv, h71, h72, h73, h74, h75, h76⟩ := h.own.elem (k := 0) (by rw [← hn0]; omega)
  clear h71 h72 h73 h74 h75 h76
  subst hv
  rw [← hn0] at Hown0 ⊢
  clear hnq hn0 h
  go_enter Tryd.func73, Tryd.ntmps73
  refine enter_abs (N := 220) rfl rfl fun a0 hsz0 hde0 hk => ?_
  have f0 : a0.tmps[0]?.getD undef = .slice (some ⟨g, 0, none⟩) n0 cap := hk 0
  have f1 : a0.tmps[1]?.getD undef = .int .i64 ((p : Nat) : Int) := hk 1
  have f2 : a0.tmps[2]?.getD undef = .int .i64 ((m : Nat) : Int) := hk 2
  have f3 : a0.tmps[3]?.getD undef = .int .i64 ((q : Nat) : Int) := hk 3
  have f4 : a0.tmps[4]?.getD undef = .func (.func 49) #[] #[] := hk 4
  clear hk
  repeat with_reducible refine wp_seq ?_
  obtain ⟨X, rfl⟩ := List.length_eq_one_iff.1 h1
  have HmX := Lib.hid (show m = p + 1 from Hm.out)
  clear h1
  refine wp_region_lit ?_
  refine wpList_next rfl hsz0 hde0 25 rfl (by decide) fun K hK => ?_
  go_simp
  refine hK _ _ fun a1 hsz1 hde1 f25 hk => ?_
  clear hK K
  replace f0 := (hk 0 (by decide)).trans f0
  replace f1 := (hk 1 (by decide)).trans f1
  replace f2 := (hk 2 (by decide)).trans f2
  replace f3 := (hk 3 (by decide)).trans f3
  replace f4 := (hk 4 (by decide)).trans f4
  replace f25 : a1.tmps[25]?.getD undef = .int .i64 ((m : Nat) : Int) := f25
  clear hk hsz0 hde0
  refine wpList_next rfl hsz1 hde1 26 rfl (by decide) fun K hK => ?_
  go_simp
  refine hK _ _ fun a2 hsz2 hde2 f26 hk => ?_
  clear hK K
  replace f0 := (hk 0 (by decide)).trans f0
  replace f1 := (hk 1 (by decide)).trans f1
  replace f2 := (hk 2 (by decide)).trans f2
  replace f3 := (hk 3 (by decide)).trans f3
  replace f4 := (hk 4 (by decide)).trans f4
  replace f25 := (hk 25 (by decide)).trans f25
  replace f26 : a2.tmps[26]?.getD undef = .int .i64 ((p : Nat) : Int) := f26
  clear hk hsz1 hde1
  refine wpList_next rfl hsz2 hde2 27 rfl (by decide) fun K hK => ?_
  go_simp
  refine hK _ _ fun a3 hsz3 hde3 f27 hk => ?_
  clear hK K
  replace f0 := (hk 0 (by decide)).trans f0
  replace f1 := (hk 1 (by decide)).trans f1
  replace f2 := (hk 2 (by decide)).trans f2
  replace f3 := (hk 3 (by decide)).trans f3
  replace f4 := (hk 4 (by decide)).trans f4
  clear hk hsz2 hde2 f25 f26
  replace f27 : a3.tmps[27]?.getD undef = .int .i64 (1) := f27.trans (by have h7 := HmX.out; first | (congr 1; done) | (congr 1; omega) | (congr 1; rw [IntKind.wrap_i64] <;> omega))
  refine wpList_next rfl hsz3 hde3 28 rfl (by decide) fun K hK => ?_
  go_simp
  refine hK _ _ fun a4 hsz4 hde4 f28 hk => ?_
  clear hK K
  replace f0 := (hk 0 (by decide)).trans f0
  replace f1 := (hk 1 (by decide)).trans f1
  replace f2 := (hk 2 (by decide)).trans f2
  replace f3 := (hk 3 (by decide)).trans f3
  replace f4 := (hk 4 (by decide)).trans f4
  clear hk hsz3 hde3 f27
  replace f28 : a4.tmps[28]?.getD undef = .bool true := f28.trans (by first | rfl | simp)
  refine wpList_nil ?_
  refine then_go ?_
  repeat with_reducible refine wp_seq ?_
  refine wp_cond_true (eval_at f28) ?_
  clear f28
  repeat with_reducible refine wp_seq ?_
  refine wp_region_lit ?_
  refine wpList_next rfl hsz4 hde4 29 rfl (by decide) fun K hK => ?_
  go_simp
  refine hK _ _ fun a5 hsz5 hde5 f29 hk => ?_
  clear hK K
  replace f0 := (hk 0 (by decide)).trans f0
  replace f1 := (hk 1 (by decide)).trans f1
  replace f2 := (hk 2 (by decide)).trans f2
  replace f3 := (hk 3 (by decide)).trans f3
  replace f4 := (hk 4 (by decide)).trans f4
  replace f29 : a5.tmps[29]?.getD undef = .int .i64 ((m : Nat) : Int) := f29
  clear hk hsz4 hde4
  refine wpList_next rfl hsz5 hde5 10 rfl (by decide) fun K hK => ?_
  go_simp
  refine hK _ _ fun a6 hsz6 hde6 f10 hk => ?_
  clear hK K
  replace f0 := (hk 0 (by decide)).trans f0
  replace f1 := (hk 1 (by decide)).trans f1
  replace f2 := (hk 2 (by decide)).trans f2
  replace f3 := (hk 3 (by decide)).trans f3
  replace f4 := (hk 4 (by decide)).trans f4
  replace f10 : a6.tmps[10]?.getD undef = .int .i64 ((m : Nat) : Int) := f10
  clear hk hsz5 hde5 f29
  refine wpList_nil ?_
  refine then_go ?_
  repeat with_reducible refine wp_seq ?_
  refine wp_region_lit ?_
  refine wpList_next rfl hsz6 hde6 30 rfl (by decide) fun K hK => ?_
  go_simp
  refine hK _ _ fun a7 hsz7 hde7 f30 hk => ?_
  clear hK K
  replace f0 := (hk 0 (by decide)).trans f0
  replace f1 := (hk 1 (by decide)).trans f1
  replace f2 := (hk 2 (by decide)).trans f2
  replace f3 := (hk 3 (by decide)).trans f3
  replace f4 := (hk 4 (by decide)).trans f4
  replace f10 := (hk 10 (by decide)).trans f10
  replace f30 : a7.tmps[30]?.getD undef = .int .i64 ((q : Nat) : Int) := f30
  clear hk hsz6 hde6
  refine wpList_next rfl hsz7 hde7 11 rfl (by decide) fun K hK => ?_
  go_simp
  refine hK _ _ fun a8 hsz8 hde8 f11 hk => ?_
  clear hK K
  replace f0 := (hk 0 (by decide)).trans f0
  replace f1 := (hk 1 (by decide)).trans f1
  replace f2 := (hk 2 (by decide)).trans f2
  replace f3 := (hk 3 (by decide)).trans f3
  replace f4 := (hk 4 (by decide)).trans f4
  replace f10 := (hk 10 (by decide)).trans f10
  replace f11 : a8.tmps[11]?.getD undef = .int .i64 ((q : Nat) : Int) := f11
  clear hk hsz7 hde7 f30
  refine wpList_nil ?_
  refine then_go ?_
  repeat with_reducible refine wp_seq ?_
  rw [show ((m : Nat) : Int) = ((m + 0 : Nat) : Int) from rfl] at f10
  rw [show ((q : Nat) : Int) = ((m + B.length : Nat) : Int) by rw [Hq.out]] at f11
  refine wp_block ?_
  refine wp_loop_ghost (S1Inv w base (.slice (some ⟨g, 0, none⟩) n0 cap) P B S X p m q) (B.length - 0) ?_ ?_
  · exact ⟨0, B.length, hsz8, hde8, f0, f1, f2, f3, f4, f10, f11, Lib.hid ⟨Nat.zero_le _, Nat.le_refl _⟩, Lib.hid (fun _ h => absurd h (by decide)), Lib.hid (fun h => absurd h (by omega)), Hown0, Lib.hid (Below.refl _ _), rfl⟩
  clear hsz8 hde8 f0 f1 f2 f3 f4 f10 f11
  intro n2 a19 wx hI
  obtain ⟨i, j, hsz19, hde19, f0, f1, f2, f3, f4, f10, f11, Hij, H1, H2, Hown, Hbw, hn2⟩ := hI
  have Hn2 := Lib.hid hn2
  clear hn2
  obtain ⟨hij, hjB⟩ := Hij.out
  obtain ⟨i1, hi1⟩ : ∃ i1, i1 = m + i := ⟨_, rfl⟩
  obtain ⟨j1, hj1⟩ : ∃ j1, j1 = m + j := ⟨_, rfl⟩
  rw [show ((m + i : Nat) : Int) = ((i1 : Nat) : Int) by rw [hi1]] at f10
  rw [show ((m + j : Nat) : Int) = ((j1 : Nat) : Int) by rw [hj1]] at f11
  have hbi : i1 ≤ q ∧ j1 ≤ q ∧ m ≤ i1 ∧ m ≤ j1 := by have := Hq.out; omega
  have Hi1 := Lib.hid hi1
  have Hj1 := Lib.hid hj1
  clear hi1 hj1
  repeat with_reducible refine wp_seq ?_
  by_cases hlt : i1 < j1
  · skip
    refine wp_region_lit ?_
    refine wpList_next rfl hsz19 hde19 31 rfl (by decide) fun K hK => ?_
    go_simp
    refine hK _ _ fun a20 hsz20 hde20 f31 hk => ?_
    clear hK K
    replace f0 := (hk 0 (by decide)).trans f0
    replace f1 := (hk 1 (by decide)).trans f1
    replace f2 := (hk 2 (by decide)).trans f2
    replace f3 := (hk 3 (by decide)).trans f3
    replace f4 := (hk 4 (by decide)).trans f4
    replace f10 := (hk 10 (by decide)).trans f10
    replace f11 := (hk 11 (by decide)).trans f11
    replace f31 : a20.tmps[31]?.getD undef = .int .i64 ((i1 : Nat) : Int) := f31
    clear hk hsz19 hde19
    refine wpList_next rfl hsz20 hde20 32 rfl (by decide) fun K hK => ?_
    go_simp
    refine hK _ _ fun a21 hsz21 hde21 f32 hk => ?_
    clear hK K
    replace f0 := (hk 0 (by decide)).trans f0
    replace f1 := (hk 1 (by decide)).trans f1
    replace f2 := (hk 2 (by decide)).trans f2
    replace f3 := (hk 3 (by decide)).trans f3
    replace f4 := (hk 4 (by decide)).trans f4
    replace f10 := (hk 10 (by decide)).trans f10
    replace f11 := (hk 11 (by decide)).trans f11
    replace f31 := (hk 31 (by decide)).trans f31
    replace f32 : a21.tmps[32]?.getD undef = .int .i64 ((j1 : Nat) : Int) := f32
    clear hk hsz20 hde20
    refine wpList_next rfl hsz21 hde21 33 rfl (by decide) fun K hK => ?_
    go_simp
    refine hK _ _ fun a22 hsz22 hde22 f33 hk => ?_
    clear hK K
    replace f0 := (hk 0 (by decide)).trans f0
    replace f1 := (hk 1 (by decide)).trans f1
    replace f2 := (hk 2 (by decide)).trans f2
    replace f3 := (hk 3 (by decide)).trans f3
    replace f4 := (hk 4 (by decide)).trans f4
    replace f10 := (hk 10 (by decide)).trans f10
    replace f11 := (hk 11 (by decide)).trans f11
    clear hk hsz21 hde21 f31 f32
    replace f33 : a22.tmps[33]?.getD undef = .bool true := f33.trans (by first | rfl | (congr 1; first | exact decide_eq_true (by omega) | exact decide_eq_false (by omega)) | (simp; omega))
    refine wpList_nil ?_
    refine then_go ?_
    repeat with_reducible refine wp_seq ?_
    refine wp_cond_true (eval_at f33) ?_
    refine wp_skip ?_
    refine then_go ?_
    clear f33
    repeat with_reducible refine wp_seq ?_
    refine wp_block ?_
    repeat with_reducible refine wp_seq ?_
    obtain ⟨s1, hs1⟩ : ∃ s1, s1 = i1 + j1 := ⟨_, rfl⟩
    obtain ⟨hh, hhh⟩ : ∃ hh, hh = s1 / 2 := ⟨_, rfl⟩
    have hsb : s1 ≤ 2000 := by omega
    have hhb : hh ≤ 1000 := by omega
    have Hs1 := Lib.hid hs1
    have Hhh := Lib.hid hhh
    clear hs1 hhh
    refine wp_region_lit ?_
    refine wpList_next rfl hsz22 hde22 34 rfl (by decide) fun K hK => ?_
    go_simp
    refine hK _ _ fun a23 hsz23 hde23 f34 hk => ?_
    clear hK K
    replace f0 := (hk 0 (by decide)).trans f0
    replace f1 := (hk 1 (by decide)).trans f1
    replace f2 := (hk 2 (by decide)).trans f2
    replace f3 := (hk 3 (by decide)).trans f3
    replace f4 := (hk 4 (by decide)).trans f4
    replace f10 := (hk 10 (by decide)).trans f10
    replace f11 := (hk 11 (by decide)).trans f11
    replace f34 : a23.tmps[34]?.getD undef = .int .i64 ((i1 : Nat) : Int) := f34
    clear hk hsz22 hde22
    refine wpList_next rfl hsz23 hde23 35 rfl (by decide) fun K hK => ?_
    go_simp
    refine hK _ _ fun a24 hsz24 hde24 f35 hk => ?_
    clear hK K
    replace f0 := (hk 0 (by decide)).trans f0
    replace f1 := (hk 1 (by decide)).trans f1
    replace f2 := (hk 2 (by decide)).trans f2
    replace f3 := (hk 3 (by decide)).trans f3
    replace f4 := (hk 4 (by decide)).trans f4
    replace f10 := (hk 10 (by decide)).trans f10
    replace f11 := (hk 11 (by decide)).trans f11
    replace f34 := (hk 34 (by decide)).trans f34
    replace f35 : a24.tmps[35]?.getD undef = .int .i64 ((j1 : Nat) : Int) := f35
    clear hk hsz23 hde23
    refine wpList_next rfl hsz24 hde24 36 rfl (by decide) fun K hK => ?_
    go_simp
    refine hK _ _ fun a25 hsz25 hde25 f36 hk => ?_
    clear hK K
    replace f0 := (hk 0 (by decide)).trans f0
    replace f1 := (hk 1 (by decide)).trans f1
    replace f2 := (hk 2 (by decide)).trans f2
    replace f3 := (hk 3 (by decide)).trans f3
    replace f4 := (hk 4 (by decide)).trans f4
    replace f10 := (hk 10 (by decide)).trans f10
    replace f11 := (hk 11 (by decide)).trans f11
    clear hk hsz24 hde24 f34 f35
    replace f36 : a25.tmps[36]?.getD undef = .int .i64 ((s1 : Nat) : Int) := f36.trans (by have h7 := Hs1.out; first | (congr 1; done) | (congr 1; omega) | (congr 1; simp; done) | (congr 1; simp; omega) | (congr 1; rw [IntKind.wrap_u64] <;> omega) | (congr 1; rw [IntKind.wrap_i64] <;> omega))
    refine wpList_next rfl hsz25 hde25 37 rfl (by decide) fun K hK => ?_
    go_simp
    refine hK _ _ fun a26 hsz26 hde26 f37 hk => ?_
    clear hK K
    replace f0 := (hk 0 (by decide)).trans f0
    replace f1 := (hk 1 (by decide)).trans f1
    replace f2 := (hk 2 (by decide)).trans f2
    replace f3 := (hk 3 (by decide)).trans f3
    replace f4 := (hk 4 (by decide)).trans f4
    replace f10 := (hk 10 (by decide)).trans f10
    replace f11 := (hk 11 (by decide)).trans f11
    clear hk hsz25 hde25 f36
    replace f37 : a26.tmps[37]?.getD undef = .int .u64 ((s1 : Nat) : Int) := f37.trans (by first | (congr 1; done) | (congr 1; omega) | (congr 1; simp; done) | (congr 1; simp; omega) | (congr 1; rw [IntKind.wrap_u64] <;> omega) | (congr 1; rw [IntKind.wrap_i64] <;> omega))
    refine wpList_next rfl hsz26 hde26 38 rfl (by decide) fun K hK => ?_
    go_simp
    refine hK _ _ fun a27 hsz27 hde27 f38 hk => ?_
    clear hK K
    replace f0 := (hk 0 (by decide)).trans f0
    replace f1 := (hk 1 (by decide)).trans f1
    replace f2 := (hk 2 (by decide)).trans f2
    replace f3 := (hk 3 (by decide)).trans f3
    replace f4 := (hk 4 (by decide)).trans f4
    replace f10 := (hk 10 (by decide)).trans f10
    replace f11 := (hk 11 (by decide)).trans f11
    clear hk hsz26 hde26 f37
    replace f38 : a27.tmps[38]?.getD undef = .int .u64 ((hh : Nat) : Int) := f38.trans (by have h7 := Hhh.out; first | (congr 1; done) | (congr 1; omega) | (congr 1; simp; done) | (congr 1; simp; omega) | (congr 1; rw [IntKind.wrap_u64] <;> omega) | (congr 1; rw [IntKind.wrap_i64] <;> omega))
    refine wpList_next rfl hsz27 hde27 39 rfl (by decide) fun K hK => ?_
    go_simp
    refine hK _ _ fun a28 hsz28 hde28 f39 hk => ?_
    clear hK K
    replace f0 := (hk 0 (by decide)).trans f0
    replace f1 := (hk 1 (by decide)).trans f1
    replace f2 := (hk 2 (by decide)).trans f2
    replace f3 := (hk 3 (by decide)).trans f3
    replace f4 := (hk 4 (by decide)).trans f4
    replace f10 := (hk 10 (by decide)).trans f10
    replace f11 := (hk 11 (by decide)).trans f11
    clear hk hsz27 hde27 f38
    replace f39 : a28.tmps[39]?.getD undef = .int .i64 ((hh : Nat) : Int) := f39.trans (by first | (congr 1; done) | (congr 1; omega) | (congr 1; simp; done) | (congr 1; simp; omega) | (congr 1; rw [IntKind.wrap_u64] <;> omega) | (congr 1; rw [IntKind.wrap_i64] <;> omega))
    refine wpList_next rfl hsz28 hde28 12 rfl (by decide) fun K hK => ?_
    go_simp
    refine hK _ _ fun a29 hsz29 hde29 f12 hk => ?_
    clear hK K
    replace f0 := (hk 0 (by decide)).trans f0
    replace f1 := (hk 1 (by decide)).trans f1
    replace f2 := (hk 2 (by decide)).trans f2
    replace f3 := (hk 3 (by decide)).trans f3
    replace f4 := (hk 4 (by decide)).trans f4
    replace f10 := (hk 10 (by decide)).trans f10
    replace f11 := (hk 11 (by decide)).trans f11
    replace f12 : a29.tmps[12]?.getD undef = .int .i64 ((hh : Nat) : Int) := f12
    clear hk hsz28 hde28 f39
    refine wpList_nil ?_
    refine then_go ?_
    repeat with_reducible refine wp_seq ?_
    obtain ⟨t, ht⟩ : ∃ t, t = hh - m := ⟨_, rfl⟩
    have hth : hh = m + t := by have := Hs1.out; have := Hhh.out; have := Hi1.out; have := Hj1.out; omega
    have htij : i ≤ t ∧ t < j := by have := Hs1.out; have := Hhh.out; have := Hi1.out; have := Hj1.out; omega
    have htB : t < B.length := by omega
    have Hth := Lib.hid hth
    clear ht
    have hhq : hh < q := by have := Hq.out; omega
    clear hth
    have hMx : (P ++ ([X] ++ (B ++ S)))[hh]? = some B[t] := (by rw [Hth.out]; exact lookB Hp.out Hm.out htB)
    have hMy : (P ++ ([X] ++ (B ++ S)))[p]? = some X := (by have h7 := lookA (P := P) (A := [X]) (R := B ++ S) (t := 0) Hp.out (by simp); simpa using h7)
    obtain ⟨CX0, hCX0⟩ : ∃ C, C = entC B[t] := ⟨_, rfl⟩
    obtain ⟨CY0, hCY0⟩ : ∃ C, C = entC X := ⟨_, rfl⟩
    have HlX := Lib.hid (show ∀ z, Below wx.heap.size wx z → z.rangeAt g (hh * 15) CX0.toList from fun z hz => by rw [hCX0]; exact range_ext (Hown.out.look hMx).1 hz)
    have HlY := Lib.hid (show ∀ z, Below wx.heap.size wx z → z.rangeAt g (p * 15) CY0.toList from fun z hz => by rw [hCY0]; exact range_ext (Hown.out.look hMy).1 hz)
    have HfX := Lib.hid (show (Tryd.prog.info? 29).map (·.size) = some CX0.toList.length by rw [hCX0]; exact ent_info)
    have HfY := Lib.hid (show (Tryd.prog.info? 29).map (·.size) = some CY0.toList.length by rw [hCY0]; exact ent_info)
    have hcmp := fun z => namecmp_any B[t] X z
    rw [← hCX0, ← hCY0] at hcmp
    obtain ⟨cv, hcv⟩ : ∃ cv, cv = Lib.compareBytes B[t].data X.data := ⟨_, rfl⟩
    rw [← hcv] at hcmp
    have Hcmp := Lib.hid hcmp
    obtain ⟨bl, hbl⟩ : ∃ bl, bl = nlt B[t] X := ⟨_, rfl⟩
    have Hbl := Lib.hid hbl
    have Hcv := Lib.hid (show decide (cv < 0) = bl by rw [hbl, hcv]; rfl)
    clear hMx hMy hcmp hcv hbl hCX0 hCY0
    have hhh0 : (0 : Int) ≤ (hh : Int) := by omega
    have hhhn : (hh : Int) < (n0 : Int) := by omega
    have hp0 : (0 : Int) ≤ (p : Int) := by omega
    have hpn : (p : Int) < (n0 : Int) := by omega
    refine wp_region_goodg (tblG [(40, .func (.func 49) #[] #[]), (41, .slice (some ⟨g, 0, none⟩) n0 cap), (42, .int .i64 ((hh : Nat) : Int)), (43, .pointer (some ⟨g, hh * 15, none⟩)), (44, .agg CX0), (45, .slice (some ⟨g, 0, none⟩) n0 cap), (46, .int .i64 ((p : Nat) : Int)), (47, .pointer (some ⟨g, p * 15, none⟩)), (48, .agg CY0), (49, .int .i64 cv), (50, .bool bl)]) 220 (by kernel_rfl) (by kernel_rfl) (by kernel_rfl) (by kernel_rfl) hsz29.out ?_ ?_ ?_
    · intro t v7 x x' h _ _
      exact h
    · intro i7 o hi7 a x hbx hsame hpre K hK
      have hlt7 : i7 < 11 := (Array.getElem?_eq_some_iff.1 hi7).1
      rcases (show i7 = 0 ∨ i7 = 1 ∨ i7 = 2 ∨ i7 = 3 ∨ i7 = 4 ∨ i7 = 5 ∨ i7 = 6 ∨ i7 = 7 ∨ i7 = 8 ∨ i7 = 9 ∨ i7 = 10 by omega) with rfl | rfl | rfl | rfl | rfl | rfl | rfl | rfl | rfl | rfl | rfl
      all_goals (have ho := Option.some.inj hi7; subst ho; clear hi7 hlt7)
      · have q4 : a.tmps[4]?.getD undef = .func (.func 49) #[] #[] := (hsame 4 (by decide +kernel)).trans f4
        refine step_plain rfl ?_
        have hk := Lib.hid (show ∀ v7 x', v7 = .func (.func 49) #[] #[] → Below x.heap.size x x' → K (a.put (some 40) v7) x' from hK)
        have Hbx := Lib.hid hbx
        clear hsame hpre hK hbx
        go_simp
        exact hk.out _ _ rfl (Below.refl _ _)
      · have q0 : a.tmps[0]?.getD undef = .slice (some ⟨g, 0, none⟩) n0 cap := (hsame 0 (by decide +kernel)).trans f0
        refine step_plain rfl ?_
        have hk := Lib.hid (show ∀ v7 x', v7 = .slice (some ⟨g, 0, none⟩) n0 cap → Below x.heap.size x x' → K (a.put (some 41) v7) x' from hK)
        have Hbx := Lib.hid hbx
        clear hsame hpre hK hbx
        go_simp
        exact hk.out _ _ rfl (Below.refl _ _)
      · have q12 : a.tmps[12]?.getD undef = .int .i64 ((hh : Nat) : Int) := (hsame 12 (by decide +kernel)).trans f12
        refine step_plain rfl ?_
        have hk := Lib.hid (show ∀ v7 x', v7 = .int .i64 ((hh : Nat) : Int) → Below x.heap.size x x' → K (a.put (some 42) v7) x' from hK)
        have Hbx := Lib.hid hbx
        clear hsame hpre hK hbx
        go_simp
        exact hk.out _ _ rfl (Below.refl _ _)
      · have q41 : a.tmps[41]?.getD undef = .slice (some ⟨g, 0, none⟩) n0 cap := hpre ⟨1, .data⟩ (by simp) rfl (by decide)
        have q42 : a.tmps[42]?.getD undef = .int .i64 ((hh : Nat) : Int) := hpre ⟨2, .data⟩ (by simp) rfl (by decide)
        refine step_plain rfl ?_
        have hk := Lib.hid (show ∀ v7 x', v7 = .pointer (some ⟨g, hh * 15, none⟩) → Below x.heap.size x x' → K (a.put (some 43) v7) x' from hK)
        have Hbx := Lib.hid hbx
        clear hsame hpre hK hbx
        go_simp
        exact hk.out _ _ rfl (Below.refl _ _)
      · have q43 : a.tmps[43]?.getD undef = .pointer (some ⟨g, hh * 15, none⟩) := hpre ⟨3, .data⟩ (by simp) rfl (by decide)
        refine step_plain rfl ?_
        have hk := Lib.hid (show ∀ v7 x', v7 = .agg CX0 → Below x.heap.size x x' → K (a.put (some 44) v7) x' from hK)
        have Hbx := Lib.hid hbx
        clear hsame hpre hK hbx
        refine wp_load_mid 29 (.tmp 43) rfl g (hh * 15) (eval_at q43) CX0.toList _ (HlX.out _ Hbx.out) Tryd.underlying29 rfl HfX.out ?_
        exact hk.out _ _ rfl (Below.refl _ _)
      · have q0 : a.tmps[0]?.getD undef = .slice (some ⟨g, 0, none⟩) n0 cap := (hsame 0 (by decide +kernel)).trans f0
        refine step_plain rfl ?_
        have hk := Lib.hid (show ∀ v7 x', v7 = .slice (some ⟨g, 0, none⟩) n0 cap → Below x.heap.size x x' → K (a.put (some 45) v7) x' from hK)
        have Hbx := Lib.hid hbx
        clear hsame hpre hK hbx
        go_simp
        exact hk.out _ _ rfl (Below.refl _ _)
      · have q1 : a.tmps[1]?.getD undef = .int .i64 ((p : Nat) : Int) := (hsame 1 (by decide +kernel)).trans f1
        refine step_plain rfl ?_
        have hk := Lib.hid (show ∀ v7 x', v7 = .int .i64 ((p : Nat) : Int) → Below x.heap.size x x' → K (a.put (some 46) v7) x' from hK)
        have Hbx := Lib.hid hbx
        clear hsame hpre hK hbx
        go_simp
        exact hk.out _ _ rfl (Below.refl _ _)
      · have q45 : a.tmps[45]?.getD undef = .slice (some ⟨g, 0, none⟩) n0 cap := hpre ⟨5, .data⟩ (by simp) rfl (by decide)
        have q46 : a.tmps[46]?.getD undef = .int .i64 ((p : Nat) : Int) := hpre ⟨6, .data⟩ (by simp) rfl (by decide)
        refine step_plain rfl ?_
        have hk := Lib.hid (show ∀ v7 x', v7 = .pointer (some ⟨g, p * 15, none⟩) → Below x.heap.size x x' → K (a.put (some 47) v7) x' from hK)
        have Hbx := Lib.hid hbx
        clear hsame hpre hK hbx
        go_simp
        exact hk.out _ _ rfl (Below.refl _ _)
      · have q47 : a.tmps[47]?.getD undef = .pointer (some ⟨g, p * 15, none⟩) := hpre ⟨7, .data⟩ (by simp) rfl (by decide)
        refine step_plain rfl ?_
        have hk := Lib.hid (show ∀ v7 x', v7 = .agg CY0 → Below x.heap.size x x' → K (a.put (some 48) v7) x' from hK)
        have Hbx := Lib.hid hbx
        clear hsame hpre hK hbx
        refine wp_load_mid 29 (.tmp 47) rfl g (p * 15) (eval_at q47) CY0.toList _ (HlY.out _ Hbx.out) Tryd.underlying29 rfl HfY.out ?_
        exact hk.out _ _ rfl (Below.refl _ _)
      · have q40 : a.tmps[40]?.getD undef = .func (.func 49) #[] #[] := hpre ⟨0, .data⟩ (by simp) rfl (by decide)
        have q44 : a.tmps[44]?.getD undef = .agg CX0 := hpre ⟨4, .data⟩ (by simp) rfl (by decide)
        have q48 : a.tmps[48]?.getD undef = .agg CY0 := hpre ⟨8, .data⟩ (by simp) rfl (by decide)
        refine step_plain rfl ?_
        have hk := Lib.hid (show ∀ v7 x', v7 = .int .i64 cv → Below x.heap.size x x' → K (a.put (some 49) v7) x' from hK)
        have Hbx := Lib.hid hbx
        clear hsame hpre hK hbx
        go_simp
        refine (Hcmp.out _).mono ?_
        rintro e7 w7 ⟨rfl, hb7⟩
        go_simp
        exact hk.out _ _ rfl hb7
      · have q49 : a.tmps[49]?.getD undef = .int .i64 cv := hpre ⟨9, .data⟩ (by simp) rfl (by decide)
        refine step_plain rfl ?_
        have hk := Lib.hid (show ∀ v7 x', v7 = .bool bl → Below x.heap.size x x' → K (a.put (some 50) v7) x' from hK)
        have Hbx := Lib.hid hbx
        clear hsame hpre hK hbx
        go_simp
        exact hk.out _ _ (by have h7 := Hcv.out; first | (congr 1; done) | (congr 1; exact h7) | (rw [← h7])) (Below.refl _ _)
    intro a30 x30 hbx hsame hG hsz30 hde30
    replace f0 := (hsame 0 (by decide +kernel)).trans f0
    replace f1 := (hsame 1 (by decide +kernel)).trans f1
    replace f2 := (hsame 2 (by decide +kernel)).trans f2
    replace f3 := (hsame 3 (by decide +kernel)).trans f3
    replace f4 := (hsame 4 (by decide +kernel)).trans f4
    replace f10 := (hsame 10 (by decide +kernel)).trans f10
    replace f11 := (hsame 11 (by decide +kernel)).trans f11
    replace f12 := (hsame 12 (by decide +kernel)).trans f12
    have f50 : a30.tmps[50]?.getD undef = .bool bl := hG 10 (by decide)
    have Hbx30 := Lib.hid hbx
    have hsz30h := Lib.hid hsz30
    have hde30h := Lib.hid (hde30.trans hde29.out)
    clear hsame hG hbx hsz30 hde30 hsz29 hde29
    obtain ⟨wy, hwy⟩ : ∃ wy, wy = x30 := ⟨_, rfl⟩
    have HownN := Lib.hid (Hown.out.grow Hbx30.out)
    have HbN := Lib.hid (Hbw.out.trans (Hbx30.out.mono (Nat.le_trans Hb.out Hbw.out.size)))
    rw [← hwy] at HownN HbN ⊢
    clear hwy Hbx30 Hcmp HlX HlY
    refine then_go ?_
    repeat with_reducible refine wp_seq ?_
    cases bl with
    | true =>
      refine wp_cond_true (eval_at f50) ?_
      clear f50
      refine wp_region_lit ?_
      refine wpList_next rfl hsz30h hde30h 51 rfl (by decide) fun K hK => ?_
      go_simp
      refine hK _ _ fun a31 hsz31 hde31 f51 hk => ?_
      clear hK K
      replace f0 := (hk 0 (by decide)).trans f0
      replace f1 := (hk 1 (by decide)).trans f1
      replace f2 := (hk 2 (by decide)).trans f2
      replace f3 := (hk 3 (by decide)).trans f3
      replace f4 := (hk 4 (by decide)).trans f4
      replace f10 := (hk 10 (by decide)).trans f10
      replace f11 := (hk 11 (by decide)).trans f11
      replace f12 := (hk 12 (by decide)).trans f12
      replace f51 : a31.tmps[51]?.getD undef = .int .i64 ((hh : Nat) : Int) := f51
      clear hk hsz30h hde30h
      refine wpList_next rfl hsz31 hde31 52 rfl (by decide) fun K hK => ?_
      go_simp
      refine hK _ _ fun a32 hsz32 hde32 f52 hk => ?_
      clear hK K
      replace f0 := (hk 0 (by decide)).trans f0
      replace f1 := (hk 1 (by decide)).trans f1
      replace f2 := (hk 2 (by decide)).trans f2
      replace f3 := (hk 3 (by decide)).trans f3
      replace f4 := (hk 4 (by decide)).trans f4
      replace f10 := (hk 10 (by decide)).trans f10
      replace f11 := (hk 11 (by decide)).trans f11
      replace f12 := (hk 12 (by decide)).trans f12
      clear hk hsz31 hde31 f51
      replace f52 : a32.tmps[52]?.getD undef = .int .i64 (((m + (t + 1) : Nat) : Int)) := f52.trans (by have h7 := Hth.out; first | (congr 1; done) | (congr 1; omega) | (congr 1; rw [IntKind.wrap_i64] <;> omega))
      refine wpList_next rfl hsz32 hde32 10 rfl (by decide) fun K hK => ?_
      go_simp
      refine hK _ _ fun a33 hsz33 hde33 f10 hk => ?_
      clear hK K
      replace f0 := (hk 0 (by decide)).trans f0
      replace f1 := (hk 1 (by decide)).trans f1
      replace f2 := (hk 2 (by decide)).trans f2
      replace f3 := (hk 3 (by decide)).trans f3
      replace f4 := (hk 4 (by decide)).trans f4
      replace f11 := (hk 11 (by decide)).trans f11
      replace f12 := (hk 12 (by decide)).trans f12
      replace f10 : a33.tmps[10]?.getD undef = .int .i64 ((m + (t + 1) : Nat) : Int) := f10
      clear hk hsz32 hde32 f52
      refine wpList_nil ?_
      rw [show ((j1 : Nat) : Int) = ((m + j : Nat) : Int) by rw [Hj1.out]] at f11
      repeat first | with_reducible refine block_go ?_ | with_reducible refine then_go ?_
      exact ⟨j - (t + 1), by rw [Hn2.out]; omega, t + 1, j, hsz33, hde33, f0, f1, f2, f3, f4, f10, f11, Lib.hid (by omega), Lib.hid (fun h _ => Hbl.out.symm), H2, HownN, HbN, rfl⟩
    | false =>
      refine wp_cond_false (eval_at f50) ?_
      clear f50
      refine wp_region_lit ?_
      refine wpList_next rfl hsz30h hde30h 53 rfl (by decide) fun K hK => ?_
      go_simp
      refine hK _ _ fun a31 hsz31 hde31 f53 hk => ?_
      clear hK K
      replace f0 := (hk 0 (by decide)).trans f0
      replace f1 := (hk 1 (by decide)).trans f1
      replace f2 := (hk 2 (by decide)).trans f2
      replace f3 := (hk 3 (by decide)).trans f3
      replace f4 := (hk 4 (by decide)).trans f4
      replace f10 := (hk 10 (by decide)).trans f10
      replace f11 := (hk 11 (by decide)).trans f11
      replace f12 := (hk 12 (by decide)).trans f12
      replace f53 : a31.tmps[53]?.getD undef = .int .i64 ((hh : Nat) : Int) := f53
      clear hk hsz30h hde30h
      refine wpList_next rfl hsz31 hde31 11 rfl (by decide) fun K hK => ?_
      go_simp
      refine hK _ _ fun a32 hsz32 hde32 f11 hk => ?_
      clear hK K
      replace f0 := (hk 0 (by decide)).trans f0
      replace f1 := (hk 1 (by decide)).trans f1
      replace f2 := (hk 2 (by decide)).trans f2
      replace f3 := (hk 3 (by decide)).trans f3
      replace f4 := (hk 4 (by decide)).trans f4
      replace f10 := (hk 10 (by decide)).trans f10
      replace f12 := (hk 12 (by decide)).trans f12
      replace f11 : a32.tmps[11]?.getD undef = .int .i64 ((hh : Nat) : Int) := f11
      clear hk hsz31 hde31 f53
      refine wpList_nil ?_
      rw [show ((i1 : Nat) : Int) = ((m + i : Nat) : Int) by rw [Hi1.out]] at f10
      rw [show ((hh : Nat) : Int) = ((m + t : Nat) : Int) by rw [Hth.out]] at f11
      repeat first | with_reducible refine block_go ?_ | with_reducible refine then_go ?_
      exact ⟨t - i, by rw [Hn2.out]; omega, i, t, hsz32, hde32, f0, f1, f2, f3, f4, f10, f11, Lib.hid (by omega), H1, Lib.hid (fun h => Hbl.out.symm), HownN, HbN, rfl⟩
  refine wp_region_lit ?_
  refine wpList_next rfl hsz19 hde19 31 rfl (by decide) fun K hK => ?_
  go_simp
  refine hK _ _ fun a20 hsz20 hde20 f31 hk => ?_
  clear hK K
  replace f0 := (hk 0 (by decide)).trans f0
  replace f1 := (hk 1 (by decide)).trans f1
  replace f2 := (hk 2 (by decide)).trans f2
  replace f3 := (hk 3 (by decide)).trans f3
  replace f4 := (hk 4 (by decide)).trans f4
  replace f10 := (hk 10 (by decide)).trans f10
  replace f11 := (hk 11 (by decide)).trans f11
  replace f31 : a20.tmps[31]?.getD undef = .int .i64 ((i1 : Nat) : Int) := f31
  clear hk hsz19 hde19
  refine wpList_next rfl hsz20 hde20 32 rfl (by decide) fun K hK => ?_
  go_simp
  refine hK _ _ fun a21 hsz21 hde21 f32 hk => ?_
  clear hK K
  replace f0 := (hk 0 (by decide)).trans f0
  replace f1 := (hk 1 (by decide)).trans f1
  replace f2 := (hk 2 (by decide)).trans f2
  replace f3 := (hk 3 (by decide)).trans f3
  replace f4 := (hk 4 (by decide)).trans f4
  replace f10 := (hk 10 (by decide)).trans f10
  replace f11 := (hk 11 (by decide)).trans f11
  replace f31 := (hk 31 (by decide)).trans f31
  replace f32 : a21.tmps[32]?.getD undef = .int .i64 ((j1 : Nat) : Int) := f32
  clear hk hsz20 hde20
  refine wpList_next rfl hsz21 hde21 33 rfl (by decide) fun K hK => ?_
  go_simp
  refine hK _ _ fun a22 hsz22 hde22 f33 hk => ?_
  clear hK K
  replace f0 := (hk 0 (by decide)).trans f0
  replace f1 := (hk 1 (by decide)).trans f1
  replace f2 := (hk 2 (by decide)).trans f2
  replace f3 := (hk 3 (by decide)).trans f3
  replace f4 := (hk 4 (by decide)).trans f4
  replace f10 := (hk 10 (by decide)).trans f10
  replace f11 := (hk 11 (by decide)).trans f11
  clear hk hsz21 hde21 f31 f32
  replace f33 : a22.tmps[33]?.getD undef = .bool false := f33.trans (by first | rfl | (congr 1; first | exact decide_eq_true (by omega) | exact decide_eq_false (by omega)) | (simp; omega))
  refine wpList_nil ?_
  refine then_go ?_
  repeat with_reducible refine wp_seq ?_
  refine wp_cond_false (eval_at f33) ?_
  refine wp_exit ?_
  repeat with_reducible refine then_exit ?_
  refine block_exit ?_
  repeat first | with_reducible refine block_go ?_ | with_reducible refine then_go ?_
  clear f33
  repeat with_reducible refine wp_seq ?_
  have hieq : i = j := by have := Hi1.out; have := Hj1.out; omega
  subst hieq
  have hsrt := one_left hjB HB.out (fun y hy => HAB.out X (by simp) y hy) H1.out H2.out
  have Hsrt := Lib.hid hsrt
  clear hsrt
  obtain ⟨wz, hwz⟩ : ∃ wz, wz = wx := ⟨_, rfl⟩
  rw [← hwz] at Hown Hbw ⊢
  clear hwz
  clear f11
  refine wp_region_lit ?_
  refine wpList_next rfl hsz22 hde22 54 rfl (by decide) fun K hK => ?_
  go_simp
  refine hK _ _ fun a23 hsz23 hde23 f54 hk => ?_
  clear hK K
  replace f0 := (hk 0 (by decide)).trans f0
  replace f1 := (hk 1 (by decide)).trans f1
  replace f2 := (hk 2 (by decide)).trans f2
  replace f3 := (hk 3 (by decide)).trans f3
  replace f4 := (hk 4 (by decide)).trans f4
  replace f10 := (hk 10 (by decide)).trans f10
  replace f54 : a23.tmps[54]?.getD undef = .int .i64 ((p : Nat) : Int) := f54
  clear hk hsz22 hde22
  refine wpList_next rfl hsz23 hde23 13 rfl (by decide) fun K hK => ?_
  go_simp
  refine hK _ _ fun a24 hsz24 hde24 f13 hk => ?_
  clear hK K
  replace f0 := (hk 0 (by decide)).trans f0
  replace f1 := (hk 1 (by decide)).trans f1
  replace f2 := (hk 2 (by decide)).trans f2
  replace f3 := (hk 3 (by decide)).trans f3
  replace f4 := (hk 4 (by decide)).trans f4
  replace f10 := (hk 10 (by decide)).trans f10
  replace f13 : a24.tmps[13]?.getD undef = .int .i64 ((p : Nat) : Int) := f13
  clear hk hsz23 hde23 f54
  refine wpList_nil ?_
  refine then_go ?_
  repeat with_reducible refine wp_seq ?_
  rw [show ((p : Nat) : Int) = ((p + 0 : Nat) : Int) from rfl] at f13
  refine wp_block ?_
  refine wp_loop_ghost (S1Bub w base (.slice (some ⟨g, 0, none⟩) n0 cap) P B S X p i1) (i1 - (p + 0)) ?_ ?_
  · exact ⟨0, hsz24, hde24, f0, f10, f13, Lib.hid (by have := HmX.out; omega), Lib.hid (by simpa using Hown.out), Hbw, rfl⟩
  clear Hown Hbw
  clear hsz24 hde24 f0 f1 f2 f3 f4 f10 f13
  intro n4 a39 wu hI
  obtain ⟨c, hsz39, hde39, f0, f10, f13, Hc, Hown, Hbw, hn4⟩ := hI
  have Hn4 := Lib.hid hn4
  clear hn4
  obtain ⟨k, hk⟩ : ∃ k, k = p + c := ⟨_, rfl⟩
  rw [show ((p + c : Nat) : Int) = ((k : Nat) : Int) by rw [hk]] at f13
  obtain ⟨hc1, hc2⟩ := Hc.out
  have hk1 : k + 1 ≤ i1 := by omega
  have Hk := Lib.hid hk
  clear hk hc1
  repeat with_reducible refine wp_seq ?_
  by_cases hlt : k < i1 - 1
  · skip
    refine wp_region_lit ?_
    refine wpList_next rfl hsz39 hde39 55 rfl (by decide) fun K hK => ?_
    go_simp
    refine hK _ _ fun a40 hsz40 hde40 f55 hk => ?_
    clear hK K
    replace f0 := (hk 0 (by decide)).trans f0
    replace f10 := (hk 10 (by decide)).trans f10
    replace f13 := (hk 13 (by decide)).trans f13
    replace f55 : a40.tmps[55]?.getD undef = .int .i64 ((k : Nat) : Int) := f55
    clear hk hsz39 hde39
    refine wpList_next rfl hsz40 hde40 56 rfl (by decide) fun K hK => ?_
    go_simp
    refine hK _ _ fun a41 hsz41 hde41 f56 hk => ?_
    clear hK K
    replace f0 := (hk 0 (by decide)).trans f0
    replace f10 := (hk 10 (by decide)).trans f10
    replace f13 := (hk 13 (by decide)).trans f13
    replace f55 := (hk 55 (by decide)).trans f55
    replace f56 : a41.tmps[56]?.getD undef = .int .i64 ((i1 : Nat) : Int) := f56
    clear hk hsz40 hde40
    refine wpList_next rfl hsz41 hde41 57 rfl (by decide) fun K hK => ?_
    go_simp
    refine hK _ _ fun a42 hsz42 hde42 f57 hk => ?_
    clear hK K
    replace f0 := (hk 0 (by decide)).trans f0
    replace f10 := (hk 10 (by decide)).trans f10
    replace f13 := (hk 13 (by decide)).trans f13
    replace f55 := (hk 55 (by decide)).trans f55
    clear hk hsz41 hde41 f56
    replace f57 : a42.tmps[57]?.getD undef = .int .i64 (((i1 - 1 : Nat) : Int)) := f57.trans (by first | rfl | (congr 1; done) | (congr 1; omega) | (congr 1; rw [IntKind.wrap_i64] <;> omega))
    refine wpList_next rfl hsz42 hde42 58 rfl (by decide) fun K hK => ?_
    go_simp
    refine hK _ _ fun a43 hsz43 hde43 f58 hk => ?_
    clear hK K
    replace f0 := (hk 0 (by decide)).trans f0
    replace f10 := (hk 10 (by decide)).trans f10
    replace f13 := (hk 13 (by decide)).trans f13
    clear hk hsz42 hde42 f55 f57
    replace f58 : a43.tmps[58]?.getD undef = .bool true := f58.trans (by first | rfl | (congr 1; first | exact decide_eq_true (by omega) | exact decide_eq_false (by omega)) | (simp; omega))
    refine wpList_nil ?_
    refine then_go ?_
    repeat with_reducible refine wp_seq ?_
    refine wp_cond_true (eval_at f58) ?_
    refine wp_skip ?_
    refine then_go ?_
    clear f58
    repeat with_reducible refine wp_seq ?_
    refine wp_block ?_
    have hcB : c < B.length := by have := Hi1.out; have := HmX.out; have := Hk.out; omega
    obtain ⟨k1, hk1e⟩ : ∃ k1, k1 = k + 1 := ⟨_, rfl⟩
    have Hk1 := Lib.hid hk1e
    obtain ⟨Mx, hMx⟩ : ∃ Mx, Mx = (P ++ B.take c) ++ X :: (B.drop c ++ S) := ⟨_, rfl⟩
    have hPk : k = (P ++ B.take c).length := by rw [List.length_append, List.length_take, Hk.out, Hp.out]; omega
    have hM2 : Mx = (P ++ B.take c) ++ X :: B[c] :: (B.drop (c + 1) ++ S) := by rw [hMx, List.drop_eq_getElem_cons hcB]; rfl
    have Hsw := Lib.hid (show swapL Mx k k1 = (P ++ B.take (c + 1)) ++ X :: (B.drop (c + 1) ++ S) by rw [hM2, hk1e, hPk, swap_next.2, List.take_succ_eq_append_getElem hcB]; simp only [List.append_assoc, List.cons_append, List.nil_append])
    have Hmn := Lib.hid (show n0 = Mx.length by
      refine Hn0.out Mx ?_
      rw [hMx, List.append_assoc]
      refine List.Perm.append_left P ?_
      refine List.perm_middle.trans ?_
      show (X :: _).Perm (X :: _)
      refine List.Perm.cons X (List.Perm.of_eq ?_)
      rw [← List.append_assoc, List.take_append_drop]
      rfl)
    rw [← hMx] at Hown
    have hkn0 : k < n0 := by omega
    have hk1n0 : k1 < n0 := by omega
    have hk1b : k1 ≤ 1000 := by omega
    clear hk1e hPk hM2 hMx
    have HsqN := Lib.hid (Nat.le_trans Hb.out Hbw.out.size)
    have hk0 : (0 : Int) ≤ (k : Int) := by omega
    have hkn : (k : Int) < (n0 : Int) := by omega
    have hk10 : (0 : Int) ≤ (k1 : Int) := by omega
    have hk1n : (k1 : Int) < (n0 : Int) := by omega
    obtain ⟨CX, CY, W1, W2, hW1, hW2, hrX, hrY, htX, htY, hi1, hi2, hi3, hi4, hc1, hc2, hown2, hbl2⟩ := swap_facts Hown.out Hmn.out hkn0 hk1n0 HsqN.out
    have ZW1 := Lib.hid hW1
    have ZW2 := Lib.hid hW2
    have ZrX := Lib.hid hrX
    have ZrY := Lib.hid hrY
    have ZtX := Lib.hid htX
    have ZtY := Lib.hid htY
    have Zi1 := Lib.hid hi1
    have Zi2 := Lib.hid hi2
    have Zi3 := Lib.hid hi3
    have Zi4 := Lib.hid hi4
    have Zc1 := Lib.hid hc1
    have Zc2 := Lib.hid hc2
    have Zown2 := Lib.hid hown2
    have Zbl2 := Lib.hid hbl2
    clear hW1 hW2 hrX hrY htX htY hi1 hi2 hi3 hi4 hc1 hc2 hown2 hbl2
    refine wp_region_sw (fun s => match s with | 61 => .slice (some ⟨g, 0, none⟩) n0 cap | 62 => .int .i64 ((k : Nat) : Int) | 63 => .slice (some ⟨g, 0, none⟩) n0 cap | 64 => .int .i64 ((k : Nat) : Int) | 65 => .int .i64 ((k1 : Nat) : Int) | 66 => .slice (some ⟨g, 0, none⟩) n0 cap | 67 => .int .i64 ((k : Nat) : Int) | 68 => .int .i64 ((k1 : Nat) : Int) | 69 => .pointer (some ⟨g, k1 * 15, none⟩) | 70 => .agg CY | 71 => .slice (some ⟨g, 0, none⟩) n0 cap | 72 => .int .i64 ((k : Nat) : Int) | 73 => .pointer (some ⟨g, k * 15, none⟩) | 74 => .agg CX | 75 => .pointer (some ⟨g, k * 15, none⟩) | 76 => .pointer (some ⟨g, k1 * 15, none⟩) | _ => undef) W1 W2 15 17 9 13 220 (by kernel_rfl) (by kernel_rfl) (by kernel_rfl) hsz43.out (by decide +kernel) (by decide +kernel) ?_ ?_
    · intro i0 o0 hi0 a x0 hl1 hl2 hw1 hw2 hsame hV K hK
      have hlt0 : i0 < 18 := (Array.getElem?_eq_some_iff.1 hi0).1
      rcases (show i0 = 0 ∨ i0 = 1 ∨ i0 = 2 ∨ i0 = 3 ∨ i0 = 4 ∨ i0 = 5 ∨ i0 = 6 ∨ i0 = 7 ∨ i0 = 8 ∨ i0 = 9 ∨ i0 = 10 ∨ i0 = 11 ∨ i0 = 12 ∨ i0 = 13 ∨ i0 = 14 ∨ i0 = 15 ∨ i0 = 16 ∨ i0 = 17 by omega) with rfl | rfl | rfl | rfl | rfl | rfl | rfl | rfl | rfl | rfl | rfl | rfl | rfl | rfl | rfl | rfl | rfl | rfl
      all_goals (have ho0 := Option.some.inj hi0; subst ho0; clear hi0 hlt0)
      · have q0 : a.tmps[0]?.getD undef = .slice (some ⟨g, 0, none⟩) n0 cap := (hsame 0 (slot_free (by decide +kernel))).trans f0
        have hk := Lib.hid (fun v (h : v = .slice (some ⟨g, 0, none⟩) n0 cap) => hK v x0 (fun s hs => by cases hs; exact h) (fun _ _ => rfl) (fun h => absurd h (by decide)) (fun h => absurd h (by decide)))
        clear hsame hV hK hl1 hl2 hw1 hw2
        go_simp
        exact hk.out _ rfl
      · have q13 : a.tmps[13]?.getD undef = .int .i64 ((k : Nat) : Int) := (hsame 13 (slot_free (by decide +kernel))).trans f13
        have hk := Lib.hid (fun v (h : v = .int .i64 ((k : Nat) : Int)) => hK v x0 (fun s hs => by cases hs; exact h) (fun _ _ => rfl) (fun h => absurd h (by decide)) (fun h => absurd h (by decide)))
        clear hsame hV hK hl1 hl2 hw1 hw2
        go_simp
        exact hk.out _ rfl
      · have q0 : a.tmps[0]?.getD undef = .slice (some ⟨g, 0, none⟩) n0 cap := (hsame 0 (slot_free (by decide +kernel))).trans f0
        have hk := Lib.hid (fun v (h : v = .slice (some ⟨g, 0, none⟩) n0 cap) => hK v x0 (fun s hs => by cases hs; exact h) (fun _ _ => rfl) (fun h => absurd h (by decide)) (fun h => absurd h (by decide)))
        clear hsame hV hK hl1 hl2 hw1 hw2
        go_simp
        exact hk.out _ rfl
      · have q13 : a.tmps[13]?.getD undef = .int .i64 ((k : Nat) : Int) := (hsame 13 (slot_free (by decide +kernel))).trans f13
        have hk := Lib.hid (fun v (h : v = .int .i64 ((k : Nat) : Int)) => hK v x0 (fun s hs => by cases hs; exact h) (fun _ _ => rfl) (fun h => absurd h (by decide)) (fun h => absurd h (by decide)))
        clear hsame hV hK hl1 hl2 hw1 hw2
        go_simp
        exact hk.out _ rfl
      · have q64 : a.tmps[64]?.getD undef = .int .i64 ((k : Nat) : Int) := hV ⟨3, .data⟩ (by simp) rfl 64 rfl
        have hk := Lib.hid (fun v (h : v = .int .i64 ((k1 : Nat) : Int)) => hK v x0 (fun s hs => by cases hs; exact h) (fun _ _ => rfl) (fun h => absurd h (by decide)) (fun h => absurd h (by decide)))
        clear hsame hV hK hl1 hl2 hw1 hw2
        go_simp
        exact hk.out _ (by have h7 := Hk1.out; first | (congr 1; done) | (congr 1; omega) | (congr 1; rw [IntKind.wrap_i64] <;> omega))
      · have q0 : a.tmps[0]?.getD undef = .slice (some ⟨g, 0, none⟩) n0 cap := (hsame 0 (slot_free (by decide +kernel))).trans f0
        have hk := Lib.hid (fun v (h : v = .slice (some ⟨g, 0, none⟩) n0 cap) => hK v x0 (fun s hs => by cases hs; exact h) (fun _ _ => rfl) (fun h => absurd h (by decide)) (fun h => absurd h (by decide)))
        clear hsame hV hK hl1 hl2 hw1 hw2
        go_simp
        exact hk.out _ rfl
      · have q13 : a.tmps[13]?.getD undef = .int .i64 ((k : Nat) : Int) := (hsame 13 (slot_free (by decide +kernel))).trans f13
        have hk := Lib.hid (fun v (h : v = .int .i64 ((k : Nat) : Int)) => hK v x0 (fun s hs => by cases hs; exact h) (fun _ _ => rfl) (fun h => absurd h (by decide)) (fun h => absurd h (by decide)))
        clear hsame hV hK hl1 hl2 hw1 hw2
        go_simp
        exact hk.out _ rfl
      · have q67 : a.tmps[67]?.getD undef = .int .i64 ((k : Nat) : Int) := hV ⟨6, .data⟩ (by simp) rfl 67 rfl
        have hk := Lib.hid (fun v (h : v = .int .i64 ((k1 : Nat) : Int)) => hK v x0 (fun s hs => by cases hs; exact h) (fun _ _ => rfl) (fun h => absurd h (by decide)) (fun h => absurd h (by decide)))
        clear hsame hV hK hl1 hl2 hw1 hw2
        go_simp
        exact hk.out _ (by have h7 := Hk1.out; first | (congr 1; done) | (congr 1; omega) | (congr 1; rw [IntKind.wrap_i64] <;> omega))
      · have q66 : a.tmps[66]?.getD undef = .slice (some ⟨g, 0, none⟩) n0 cap := hV ⟨5, .data⟩ (by simp) rfl 66 rfl
        have q68 : a.tmps[68]?.getD undef = .int .i64 ((k1 : Nat) : Int) := hV ⟨7, .data⟩ (by simp) rfl 68 rfl
        have hk := Lib.hid (fun v (h : v = .pointer (some ⟨g, k1 * 15, none⟩)) => hK v x0 (fun s hs => by cases hs; exact h) (fun _ _ => rfl) (fun h => absurd h (by decide)) (fun h => absurd h (by decide)))
        clear hsame hV hK hl1 hl2 hw1 hw2
        go_simp
        exact hk.out _ rfl
      · have q69 : a.tmps[69]?.getD undef = .pointer (some ⟨g, k1 * 15, none⟩) := hV ⟨8, .data⟩ (by simp) rfl 69 rfl
        have e0 := hl1 rfl
        refine wp_load_mid 29 (.tmp 69) rfl g (k1 * 15) (eval_at q69) CY.toList _ (by rw [e0]; exact ZrY.out) Tryd.underlying29 rfl Zi2.out ?_
        exact hK _ x0 (fun s hs => by cases hs; rfl) (fun _ _ => rfl) (fun h => absurd h (by decide)) (fun h => absurd h (by decide))
      · have q0 : a.tmps[0]?.getD undef = .slice (some ⟨g, 0, none⟩) n0 cap := (hsame 0 (slot_free (by decide +kernel))).trans f0
        have hk := Lib.hid (fun v (h : v = .slice (some ⟨g, 0, none⟩) n0 cap) => hK v x0 (fun s hs => by cases hs; exact h) (fun _ _ => rfl) (fun h => absurd h (by decide)) (fun h => absurd h (by decide)))
        clear hsame hV hK hl1 hl2 hw1 hw2
        go_simp
        exact hk.out _ rfl
      · have q13 : a.tmps[13]?.getD undef = .int .i64 ((k : Nat) : Int) := (hsame 13 (slot_free (by decide +kernel))).trans f13
        have hk := Lib.hid (fun v (h : v = .int .i64 ((k : Nat) : Int)) => hK v x0 (fun s hs => by cases hs; exact h) (fun _ _ => rfl) (fun h => absurd h (by decide)) (fun h => absurd h (by decide)))
        clear hsame hV hK hl1 hl2 hw1 hw2
        go_simp
        exact hk.out _ rfl
      · have q71 : a.tmps[71]?.getD undef = .slice (some ⟨g, 0, none⟩) n0 cap := hV ⟨10, .data⟩ (by simp) rfl 71 rfl
        have q72 : a.tmps[72]?.getD undef = .int .i64 ((k : Nat) : Int) := hV ⟨11, .data⟩ (by simp) rfl 72 rfl
        have hk := Lib.hid (fun v (h : v = .pointer (some ⟨g, k * 15, none⟩)) => hK v x0 (fun s hs => by cases hs; exact h) (fun _ _ => rfl) (fun h => absurd h (by decide)) (fun h => absurd h (by decide)))
        clear hsame hV hK hl1 hl2 hw1 hw2
        go_simp
        exact hk.out _ rfl
      · have q73 : a.tmps[73]?.getD undef = .pointer (some ⟨g, k * 15, none⟩) := hV ⟨12, .data⟩ (by simp) rfl 73 rfl
        have e0 := hl2 rfl
        refine wp_load_mid 29 (.tmp 73) rfl g (k * 15) (eval_at q73) CX.toList _ (by rw [e0]; exact ZrX.out) Tryd.underlying29 rfl Zi1.out ?_
        exact hK _ x0 (fun s hs => by cases hs; rfl) (fun _ _ => rfl) (fun h => absurd h (by decide)) (fun h => absurd h (by decide))
      · have q61 : a.tmps[61]?.getD undef = .slice (some ⟨g, 0, none⟩) n0 cap := hV ⟨0, .data⟩ (by simp) rfl 61 rfl
        have q62 : a.tmps[62]?.getD undef = .int .i64 ((k : Nat) : Int) := hV ⟨1, .data⟩ (by simp) rfl 62 rfl
        have hk := Lib.hid (fun v (h : v = .pointer (some ⟨g, k * 15, none⟩)) => hK v x0 (fun s hs => by cases hs; exact h) (fun _ _ => rfl) (fun h => absurd h (by decide)) (fun h => absurd h (by decide)))
        clear hsame hV hK hl1 hl2 hw1 hw2
        go_simp
        exact hk.out _ rfl
      · have q75 : a.tmps[75]?.getD undef = .pointer (some ⟨g, k * 15, none⟩) := hV ⟨14, .data⟩ (by simp) rfl 75 rfl
        have q70 : a.tmps[70]?.getD undef = .agg CY := hV ⟨9, .data⟩ (by simp) rfl 70 rfl
        have e0 := hw1 rfl
        refine wp_store_mid 29 (.tmp 75) (.tmp 70) rfl g (k * 15) CY (eval_at q75) (eval_at q70) (by rw [e0]; exact ZtX.out) Zi4.out Zc2.out ?_
        exact hK _ _ (fun s hs => by cases hs) (fun h => absurd rfl h) (fun _ => by rw [e0]; exact ZW1.out.symm) (fun h => absurd h (by decide))
      · have q63 : a.tmps[63]?.getD undef = .slice (some ⟨g, 0, none⟩) n0 cap := hV ⟨2, .data⟩ (by simp) rfl 63 rfl
        have q65 : a.tmps[65]?.getD undef = .int .i64 ((k1 : Nat) : Int) := hV ⟨4, .data⟩ (by simp) rfl 65 rfl
        have hk := Lib.hid (fun v (h : v = .pointer (some ⟨g, k1 * 15, none⟩)) => hK v x0 (fun s hs => by cases hs; exact h) (fun _ _ => rfl) (fun h => absurd h (by decide)) (fun h => absurd h (by decide)))
        clear hsame hV hK hl1 hl2 hw1 hw2
        go_simp
        exact hk.out _ rfl
      · have q76 : a.tmps[76]?.getD undef = .pointer (some ⟨g, k1 * 15, none⟩) := hV ⟨16, .data⟩ (by simp) rfl 76 rfl
        have q74 : a.tmps[74]?.getD undef = .agg CX := hV ⟨13, .data⟩ (by simp) rfl 74 rfl
        have e0 := hw2 rfl
        refine wp_store_mid 29 (.tmp 76) (.tmp 74) rfl g (k1 * 15) CX (eval_at q76) (eval_at q74) (by rw [e0]; exact ZtY.out) Zi3.out Zc1.out ?_
        exact hK _ _ (fun s hs => by cases hs) (fun _ h => absurd rfl h) (fun h => absurd h (by decide)) (fun _ => by rw [e0]; exact ZW2.out.symm)
    intro a44 hsame hV hsz44 hde44
    replace f0 := (hsame 0 (slot_free (by decide +kernel))).trans f0
    replace f10 := (hsame 10 (slot_free (by decide +kernel))).trans f10
    replace f13 := (hsame 13 (slot_free (by decide +kernel))).trans f13
    have hsz44h := Lib.hid hsz44
    have hde44h := Lib.hid (hde44.trans hde43.out)
    clear hsame hV hsz44 hde44 hsz43 hde43 ZW1 ZW2 ZrX ZrY ZtX ZtY Zi1 Zi2 Zi3 Zi4 Zc1 Zc2
    refine block_go ?_
    refine then_go ?_
    repeat with_reducible refine wp_seq ?_
    refine wp_region_lit ?_
    refine wpList_next rfl hsz44h hde44h 59 rfl (by decide) fun K hK => ?_
    go_simp
    refine hK _ _ fun a45 hsz45 hde45 f59 hk => ?_
    clear hK K
    replace f0 := (hk 0 (by decide)).trans f0
    replace f10 := (hk 10 (by decide)).trans f10
    replace f13 := (hk 13 (by decide)).trans f13
    replace f59 : a45.tmps[59]?.getD undef = .int .i64 ((k : Nat) : Int) := f59
    clear hk hsz44h hde44h
    refine wpList_next rfl hsz45 hde45 60 rfl (by decide) fun K hK => ?_
    go_simp
    refine hK _ _ fun a46 hsz46 hde46 f60 hk => ?_
    clear hK K
    replace f0 := (hk 0 (by decide)).trans f0
    replace f10 := (hk 10 (by decide)).trans f10
    replace f13 := (hk 13 (by decide)).trans f13
    clear hk hsz45 hde45 f59
    replace f60 : a46.tmps[60]?.getD undef = .int .i64 (((p + (c + 1) : Nat) : Int)) := f60.trans (by have h7 := Hk.out; first | (congr 1; done) | (congr 1; omega) | (congr 1; rw [IntKind.wrap_i64] <;> omega))
    refine wpList_next rfl hsz46 hde46 13 rfl (by decide) fun K hK => ?_
    go_simp
    refine hK _ _ fun a47 hsz47 hde47 f13 hk => ?_
    clear hK K
    replace f0 := (hk 0 (by decide)).trans f0
    replace f10 := (hk 10 (by decide)).trans f10
    replace f13 : a47.tmps[13]?.getD undef = .int .i64 ((p + (c + 1) : Nat) : Int) := f13
    clear hk hsz46 hde46 f60
    refine wpList_nil ?_
    refine then_go ?_
    have hown9 := Zown2.out
    rw [Hsw.out] at hown9
    exact ⟨i1 - (p + (c + 1)), by rw [Hn4.out]; have := Hk.out; omega, c + 1, hsz47, hde47, f0, f10, f13, Lib.hid (by have := Hk.out; omega), Lib.hid hown9, Lib.hid (Hbw.out.trans Zbl2.out), rfl⟩
  refine wp_region_lit ?_
  refine wpList_next rfl hsz39 hde39 55 rfl (by decide) fun K hK => ?_
  go_simp
  refine hK _ _ fun a40 hsz40 hde40 f55 hk => ?_
  clear hK K
  replace f0 := (hk 0 (by decide)).trans f0
  replace f10 := (hk 10 (by decide)).trans f10
  replace f13 := (hk 13 (by decide)).trans f13
  replace f55 : a40.tmps[55]?.getD undef = .int .i64 ((k : Nat) : Int) := f55
  clear hk hsz39 hde39
  refine wpList_next rfl hsz40 hde40 56 rfl (by decide) fun K hK => ?_
  go_simp
  refine hK _ _ fun a41 hsz41 hde41 f56 hk => ?_
  clear hK K
  replace f0 := (hk 0 (by decide)).trans f0
  replace f10 := (hk 10 (by decide)).trans f10
  replace f13 := (hk 13 (by decide)).trans f13
  replace f55 := (hk 55 (by decide)).trans f55
  replace f56 : a41.tmps[56]?.getD undef = .int .i64 ((i1 : Nat) : Int) := f56
  clear hk hsz40 hde40
  refine wpList_next rfl hsz41 hde41 57 rfl (by decide) fun K hK => ?_
  go_simp
  refine hK _ _ fun a42 hsz42 hde42 f57 hk => ?_
  clear hK K
  replace f0 := (hk 0 (by decide)).trans f0
  replace f10 := (hk 10 (by decide)).trans f10
  replace f13 := (hk 13 (by decide)).trans f13
  replace f55 := (hk 55 (by decide)).trans f55
  clear hk hsz41 hde41 f56
  replace f57 : a42.tmps[57]?.getD undef = .int .i64 (((i1 - 1 : Nat) : Int)) := f57.trans (by first | rfl | (congr 1; done) | (congr 1; omega) | (congr 1; rw [IntKind.wrap_i64] <;> omega))
  refine wpList_next rfl hsz42 hde42 58 rfl (by decide) fun K hK => ?_
  go_simp
  refine hK _ _ fun a43 hsz43 hde43 f58 hk => ?_
  clear hK K
  replace f0 := (hk 0 (by decide)).trans f0
  replace f10 := (hk 10 (by decide)).trans f10
  replace f13 := (hk 13 (by decide)).trans f13
  clear hk hsz42 hde42 f55 f57
  replace f58 : a43.tmps[58]?.getD undef = .bool false := f58.trans (by first | rfl | (congr 1; first | exact decide_eq_true (by omega) | exact decide_eq_false (by omega)) | (simp; omega))
  refine wpList_nil ?_
  refine then_go ?_
  repeat with_reducible refine wp_seq ?_
  refine wp_cond_false (eval_at f58) ?_
  refine wp_exit ?_
  repeat with_reducible refine then_exit ?_
  refine block_exit ?_
  repeat first | with_reducible refine block_go ?_ | with_reducible refine then_go ?_
  refine wp_ret ?_
  repeat first | with_reducible refine then_ret ?_ | with_reducible refine block_ret ?_
  have hci : c = i := by have := Hi1.out; have := HmX.out; have := Hk.out; omega
  subst hci
  refine ret_none Tryd.results73 hde43 ⟨rfl, ⟨B.take c ++ X :: B.drop c, by simpa using Hown.out, ?_, Hsrt.out⟩, Hbw.out⟩
  refine List.perm_middle.trans ?_
  show (X :: _).Perm (X :: B)
  rw [List.take_append_drop]
def S2Inv (w : World) (base : Nat) (v : Value) (P A S : List Ent) (Y : Ent) (p m q : Nat) (k9 : Nat) (a : Act) (x : World) : Prop :=
  ∃ (i j : Nat), Hid (a.tmps.size = 220) ∧ Hid (a.defers = []) ∧ a.tmps[0]?.getD undef = v ∧ a.tmps[1]?.getD undef = .int .i64 ((p : Nat) : Int) ∧ a.tmps[2]?.getD undef = .int .i64 ((m : Nat) : Int) ∧ a.tmps[3]?.getD undef = .int .i64 ((q : Nat) : Int) ∧ a.tmps[4]?.getD undef = .func (.func 49) #[] #[] ∧ a.tmps[14]?.getD undef = .int .i64 ((p + i : Nat) : Int) ∧ a.tmps[15]?.getD undef = .int .i64 ((p + j : Nat) : Int) ∧ Hid (i ≤ j ∧ j ≤ A.length) ∧ Hid (∀ (h : i - 1 < A.length), 0 < i → nlt Y A[i - 1] = false) ∧ Hid (∀ (h : j < A.length), nlt Y A[j] = true) ∧ Hid (OwnE x base v (P ++ (A ++ ([Y] ++ S)))) ∧ Hid (Below base w x) ∧ k9 = j - i
def S2Bub (w : World) (base : Nat) (v : Value) (P A S : List Ent) (Y : Ent) (p i : Nat) (k9 : Nat) (a : Act) (x : World) : Prop :=
  ∃ (c : Nat), Hid (a.tmps.size = 220) ∧ Hid (a.defers = []) ∧ a.tmps[0]?.getD undef = v ∧ a.tmps[14]?.getD undef = .int .i64 ((i : Nat) : Int) ∧ a.tmps[17]?.getD undef = .int .i64 ((p + c : Nat) : Int) ∧ Hid (i ≤ p + c ∧ c ≤ A.length) ∧ Hid (OwnE x base v ((P ++ A.take c) ++ Y :: (A.drop c ++ S))) ∧ Hid (Below base w x) ∧ k9 = p + c - i

set_option maxHeartbeats 8000000 in
theorem sym_two (base : Nat) (v : Value) (P A B S : List Ent) (p m q : Nat) (w : World) (h : SymPre w base v P A B S p m q) (h1 : A.length ≠ 1) (h2 : B.length = 1) :
    Calls Tryd.prog 73 #[v, .int .i64 ((p : Nat) : Int), .int .i64 ((m : Nat) : Int), .int .i64 ((q : Nat) : Int), .func (.func 49) #[] #[]] w (SymPost base v P A B S w) := by
  have Hown0 := Lib.hid h.own
  have HA := Lib.hid h.a
  have HB := Lib.hid h.b
  have HAB := Lib.hid h.ab
  have Hb := Lib.hid h.base_
  have Hp := Lib.hid h.p_
  have Hm := Lib.hid h.m_
  have Hq := Lib.hid h.q_
  have hna := h.na
  have hnb := h.nb
  have hlen : p ≤ 1000 ∧ m ≤ 1000 ∧ q ≤ 1000 := by have := h.len; have := h.m_; have := h.q_; omega
  have hmq : p < m ∧ m < q := by have := h.m_; have := h.q_; omega
  obtain ⟨n0, hn0⟩ : ∃ n0, n0 = (P ++ (A ++ (B ++ S))).length := ⟨_, rfl⟩
  have hnq : n0 = q + S.length := by rw [hn0, h.q_, h.m_, h.p_]; simp; omega
  have hqn : q ≤ n0 := by omega
  have hn1 : n0 ≤ 1000 := by have := h.len; omega
  have Hn0 := Lib.hid (show ∀ M : List Ent, M.Perm (P ++ (A ++ (B ++ S))) → n0 = M.length from fun M hM => by rw [hn0, hM.length_eq])
  obtain ⟨g, cap, hv, h71, h72, h73, h74, h75, h76⟩ := h.own.elem (k := 0) (by rw [← hn0]; omega)
  clear h71 h72 h73 h74 h75 h76
  subst hv
  rw [← hn0] at Hown0 ⊢
  clear hnq hn0 h
  go_enter Tryd.func73, Tryd.ntmps73
  refine enter_abs (N := 220) rfl rfl fun a0 hsz0 hde0 hk => ?_
  have f0 : a0.tmps[0]?.getD undef = .slice (some ⟨g, 0, none⟩) n0 cap := hk 0
  have f1 : a0.tmps[1]?.getD undef = .int .i64 ((p : Nat) : Int) := hk 1
  have f2 : a0.tmps[2]?.getD undef = .int .i64 ((m : Nat) : Int) := hk 2
  have f3 : a0.tmps[3]?.getD undef = .int .i64 ((q : Nat) : Int) := hk 3
  have f4 : a0.tmps[4]?.getD undef = .func (.func 49) #[] #[] := hk 4
  clear hk
  repeat with_reducible refine wp_seq ?_
  obtain ⟨Y, rfl⟩ := List.length_eq_one_iff.1 h2
  have HqY := Lib.hid (show q = m + 1 from Hq.out)
  have hpm2 : p + 1 < m := by have := Hm.out; omega
  clear h2
  refine wp_region_lit ?_
  refine wpList_next rfl hsz0 hde0 25 rfl (by decide) fun K hK => ?_
  go_simp
  refine hK _ _ fun a1 hsz1 hde1 f25 hk => ?_
  clear hK K
  replace f0 := (hk 0 (by decide)).trans f0
  replace f1 := (hk 1 (by decide)).trans f1
  replace f2 := (hk 2 (by decide)).trans f2
  replace f3 := (hk 3 (by decide)).trans f3
  replace f4 := (hk 4 (by decide)).trans f4
  replace f25 : a1.tmps[25]?.getD undef = .int .i64 ((m : Nat) : Int) := f25
  clear hk hsz0 hde0
  refine wpList_next rfl hsz1 hde1 26 rfl (by decide) fun K hK => ?_
  go_simp
  refine hK _ _ fun a2 hsz2 hde2 f26 hk => ?_
  clear hK K
  replace f0 := (hk 0 (by decide)).trans f0
  replace f1 := (hk 1 (by decide)).trans f1
  replace f2 := (hk 2 (by decide)).trans f2
  replace f3 := (hk 3 (by decide)).trans f3
  replace f4 := (hk 4 (by decide)).trans f4
  replace f25 := (hk 25 (by decide)).trans f25
  replace f26 : a2.tmps[26]?.getD undef = .int .i64 ((p : Nat) : Int) := f26
  clear hk hsz1 hde1
  refine wpList_next rfl hsz2 hde2 27 rfl (by decide) fun K hK => ?_
  go_simp
  refine hK _ _ fun a3 hsz3 hde3 f27 hk => ?_
  clear hK K
  replace f0 := (hk 0 (by decide)).trans f0
  replace f1 := (hk 1 (by decide)).trans f1
  replace f2 := (hk 2 (by decide)).trans f2
  replace f3 := (hk 3 (by decide)).trans f3
  replace f4 := (hk 4 (by decide)).trans f4
  clear hk hsz2 hde2 f25 f26
  replace f27 : a3.tmps[27]?.getD undef = .int .i64 (((m - p : Nat) : Int)) := f27.trans (by first | rfl | (congr 1; done) | (congr 1; omega) | (congr 1; rw [IntKind.wrap_i64] <;> omega))
  refine wpList_next rfl hsz3 hde3 28 rfl (by decide) fun K hK => ?_
  go_simp
  refine hK _ _ fun a4 hsz4 hde4 f28 hk => ?_
  clear hK K
  replace f0 := (hk 0 (by decide)).trans f0
  replace f1 := (hk 1 (by decide)).trans f1
  replace f2 := (hk 2 (by decide)).trans f2
  replace f3 := (hk 3 (by decide)).trans f3
  replace f4 := (hk 4 (by decide)).trans f4
  clear hk hsz3 hde3 f27
  replace f28 : a4.tmps[28]?.getD undef = .bool false := f28.trans (by first | rfl | (congr 1; first | exact decide_eq_false (by omega) | exact beq_eq_false_iff_ne.2 (by omega)) | (simp; omega))
  refine wpList_nil ?_
  refine then_go ?_
  repeat with_reducible refine wp_seq ?_
  refine wp_cond_false (eval_at f28) ?_
  refine wp_skip ?_
  refine then_go ?_
  clear f28
  repeat with_reducible refine wp_seq ?_
  refine wp_region_lit ?_
  refine wpList_next rfl hsz4 hde4 77 rfl (by decide) fun K hK => ?_
  go_simp
  refine hK _ _ fun a5 hsz5 hde5 f77 hk => ?_
  clear hK K
  replace f0 := (hk 0 (by decide)).trans f0
  replace f1 := (hk 1 (by decide)).trans f1
  replace f2 := (hk 2 (by decide)).trans f2
  replace f3 := (hk 3 (by decide)).trans f3
  replace f4 := (hk 4 (by decide)).trans f4
  replace f77 : a5.tmps[77]?.getD undef = .int .i64 ((q : Nat) : Int) := f77
  clear hk hsz4 hde4
  refine wpList_next rfl hsz5 hde5 78 rfl (by decide) fun K hK => ?_
  go_simp
  refine hK _ _ fun a6 hsz6 hde6 f78 hk => ?_
  clear hK K
  replace f0 := (hk 0 (by decide)).trans f0
  replace f1 := (hk 1 (by decide)).trans f1
  replace f2 := (hk 2 (by decide)).trans f2
  replace f3 := (hk 3 (by decide)).trans f3
  replace f4 := (hk 4 (by decide)).trans f4
  replace f77 := (hk 77 (by decide)).trans f77
  replace f78 : a6.tmps[78]?.getD undef = .int .i64 ((m : Nat) : Int) := f78
  clear hk hsz5 hde5
  refine wpList_next rfl hsz6 hde6 79 rfl (by decide) fun K hK => ?_
  go_simp
  refine hK _ _ fun a7 hsz7 hde7 f79 hk => ?_
  clear hK K
  replace f0 := (hk 0 (by decide)).trans f0
  replace f1 := (hk 1 (by decide)).trans f1
  replace f2 := (hk 2 (by decide)).trans f2
  replace f3 := (hk 3 (by decide)).trans f3
  replace f4 := (hk 4 (by decide)).trans f4
  clear hk hsz6 hde6 f77 f78
  replace f79 : a7.tmps[79]?.getD undef = .int .i64 (1) := f79.trans (by have h7 := HqY.out; first | (congr 1; done) | (congr 1; omega) | (congr 1; rw [IntKind.wrap_i64] <;> omega))
  refine wpList_next rfl hsz7 hde7 80 rfl (by decide) fun K hK => ?_
  go_simp
  refine hK _ _ fun a8 hsz8 hde8 f80 hk => ?_
  clear hK K
  replace f0 := (hk 0 (by decide)).trans f0
  replace f1 := (hk 1 (by decide)).trans f1
  replace f2 := (hk 2 (by decide)).trans f2
  replace f3 := (hk 3 (by decide)).trans f3
  replace f4 := (hk 4 (by decide)).trans f4
  clear hk hsz7 hde7 f79
  replace f80 : a8.tmps[80]?.getD undef = .bool true := f80.trans (by first | rfl | simp)
  refine wpList_nil ?_
  refine then_go ?_
  repeat with_reducible refine wp_seq ?_
  refine wp_cond_true (eval_at f80) ?_
  clear f80
  repeat with_reducible refine wp_seq ?_
  refine wp_region_lit ?_
  refine wpList_next rfl hsz8 hde8 81 rfl (by decide) fun K hK => ?_
  go_simp
  refine hK _ _ fun a9 hsz9 hde9 f81 hk => ?_
  clear hK K
  replace f0 := (hk 0 (by decide)).trans f0
  replace f1 := (hk 1 (by decide)).trans f1
  replace f2 := (hk 2 (by decide)).trans f2
  replace f3 := (hk 3 (by decide)).trans f3
  replace f4 := (hk 4 (by decide)).trans f4
  replace f81 : a9.tmps[81]?.getD undef = .int .i64 ((p : Nat) : Int) := f81
  clear hk hsz8 hde8
  refine wpList_next rfl hsz9 hde9 14 rfl (by decide) fun K hK => ?_
  go_simp
  refine hK _ _ fun a10 hsz10 hde10 f14 hk => ?_
  clear hK K
  replace f0 := (hk 0 (by decide)).trans f0
  replace f1 := (hk 1 (by decide)).trans f1
  replace f2 := (hk 2 (by decide)).trans f2
  replace f3 := (hk 3 (by decide)).trans f3
  replace f4 := (hk 4 (by decide)).trans f4
  replace f14 : a10.tmps[14]?.getD undef = .int .i64 ((p : Nat) : Int) := f14
  clear hk hsz9 hde9 f81
  refine wpList_nil ?_
  refine then_go ?_
  repeat with_reducible refine wp_seq ?_
  refine wp_region_lit ?_
  refine wpList_next rfl hsz10 hde10 82 rfl (by decide) fun K hK => ?_
  go_simp
  refine hK _ _ fun a11 hsz11 hde11 f82 hk => ?_
  clear hK K
  replace f0 := (hk 0 (by decide)).trans f0
  replace f1 := (hk 1 (by decide)).trans f1
  replace f2 := (hk 2 (by decide)).trans f2
  replace f3 := (hk 3 (by decide)).trans f3
  replace f4 := (hk 4 (by decide)).trans f4
  replace f14 := (hk 14 (by decide)).trans f14
  replace f82 : a11.tmps[82]?.getD undef = .int .i64 ((m : Nat) : Int) := f82
  clear hk hsz10 hde10
  refine wpList_next rfl hsz11 hde11 15 rfl (by decide) fun K hK => ?_
  go_simp
  refine hK _ _ fun a12 hsz12 hde12 f15 hk => ?_
  clear hK K
  replace f0 := (hk 0 (by decide)).trans f0
  replace f1 := (hk 1 (by decide)).trans f1
  replace f2 := (hk 2 (by decide)).trans f2
  replace f3 := (hk 3 (by decide)).trans f3
  replace f4 := (hk 4 (by decide)).trans f4
  replace f14 := (hk 14 (by decide)).trans f14
  replace f15 : a12.tmps[15]?.getD undef = .int .i64 ((m : Nat) : Int) := f15
  clear hk hsz11 hde11 f82
  refine wpList_nil ?_
  refine then_go ?_
  repeat with_reducible refine wp_seq ?_
  rw [show ((p : Nat) : Int) = ((p + 0 : Nat) : Int) from rfl] at f14
  rw [show ((m : Nat) : Int) = ((p + A.length : Nat) : Int) by rw [Hm.out]] at f15
  refine wp_block ?_
  refine wp_loop_ghost (S2Inv w base (.slice (some ⟨g, 0, none⟩) n0 cap) P A S Y p m q) (A.length - 0) ?_ ?_
  · exact ⟨0, A.length, hsz12, hde12, f0, f1, f2, f3, f4, f14, f15, Lib.hid ⟨Nat.zero_le _, Nat.le_refl _⟩, Lib.hid (fun _ h => absurd h (by decide)), Lib.hid (fun h => absurd h (by omega)), Hown0, Lib.hid (Below.refl _ _), rfl⟩
  clear hsz12 hde12 f0 f1 f2 f3 f4 f14 f15
  intro n2 a19 wx hI
  obtain ⟨i, j, hsz19, hde19, f0, f1, f2, f3, f4, f14, f15, Hij, H1, H2, Hown, Hbw, hn2⟩ := hI
  have Hn2 := Lib.hid hn2
  clear hn2
  obtain ⟨hij, hjB⟩ := Hij.out
  obtain ⟨i1, hi1⟩ : ∃ i1, i1 = p + i := ⟨_, rfl⟩
  obtain ⟨j1, hj1⟩ : ∃ j1, j1 = p + j := ⟨_, rfl⟩
  rw [show ((p + i : Nat) : Int) = ((i1 : Nat) : Int) by rw [hi1]] at f14
  rw [show ((p + j : Nat) : Int) = ((j1 : Nat) : Int) by rw [hj1]] at f15
  have hbi : i1 ≤ m ∧ j1 ≤ m ∧ p ≤ i1 ∧ p ≤ j1 := by have := Hm.out; omega
  have Hi1 := Lib.hid hi1
  have Hj1 := Lib.hid hj1
  clear hi1 hj1
  repeat with_reducible refine wp_seq ?_
  by_cases hlt : i1 < j1
  · skip
    refine wp_region_lit ?_
    refine wpList_next rfl hsz19 hde19 83 rfl (by decide) fun K hK => ?_
    go_simp
    refine hK _ _ fun a20 hsz20 hde20 f83 hk => ?_
    clear hK K
    replace f0 := (hk 0 (by decide)).trans f0
    replace f1 := (hk 1 (by decide)).trans f1
    replace f2 := (hk 2 (by decide)).trans f2
    replace f3 := (hk 3 (by decide)).trans f3
    replace f4 := (hk 4 (by decide)).trans f4
    replace f14 := (hk 14 (by decide)).trans f14
    replace f15 := (hk 15 (by decide)).trans f15
    replace f83 : a20.tmps[83]?.getD undef = .int .i64 ((i1 : Nat) : Int) := f83
    clear hk hsz19 hde19
    refine wpList_next rfl hsz20 hde20 84 rfl (by decide) fun K hK => ?_
    go_simp
    refine hK _ _ fun a21 hsz21 hde21 f84 hk => ?_
    clear hK K
    replace f0 := (hk 0 (by decide)).trans f0
    replace f1 := (hk 1 (by decide)).trans f1
    replace f2 := (hk 2 (by decide)).trans f2
    replace f3 := (hk 3 (by decide)).trans f3
    replace f4 := (hk 4 (by decide)).trans f4
    replace f14 := (hk 14 (by decide)).trans f14
    replace f15 := (hk 15 (by decide)).trans f15
    replace f83 := (hk 83 (by decide)).trans f83
    replace f84 : a21.tmps[84]?.getD undef = .int .i64 ((j1 : Nat) : Int) := f84
    clear hk hsz20 hde20
    refine wpList_next rfl hsz21 hde21 85 rfl (by decide) fun K hK => ?_
    go_simp
    refine hK _ _ fun a22 hsz22 hde22 f85 hk => ?_
    clear hK K
    replace f0 := (hk 0 (by decide)).trans f0
    replace f1 := (hk 1 (by decide)).trans f1
    replace f2 := (hk 2 (by decide)).trans f2
    replace f3 := (hk 3 (by decide)).trans f3
    replace f4 := (hk 4 (by decide)).trans f4
    replace f14 := (hk 14 (by decide)).trans f14
    replace f15 := (hk 15 (by decide)).trans f15
    clear hk hsz21 hde21 f83 f84
    replace f85 : a22.tmps[85]?.getD undef = .bool true := f85.trans (by first | rfl | (congr 1; first | exact decide_eq_true (by omega) | exact decide_eq_false (by omega)) | (simp; omega))
    refine wpList_nil ?_
    refine then_go ?_
    repeat with_reducible refine wp_seq ?_
    refine wp_cond_true (eval_at f85) ?_
    refine wp_skip ?_
    refine then_go ?_
    clear f85
    repeat with_reducible refine wp_seq ?_
    refine wp_block ?_
    repeat with_reducible refine wp_seq ?_
    obtain ⟨s1, hs1⟩ : ∃ s1, s1 = i1 + j1 := ⟨_, rfl⟩
    obtain ⟨hh, hhh⟩ : ∃ hh, hh = s1 / 2 := ⟨_, rfl⟩
    have hsb : s1 ≤ 2000 := by omega
    have hhb : hh ≤ 1000 := by omega
    have Hs1 := Lib.hid hs1
    have Hhh := Lib.hid hhh
    clear hs1 hhh
    refine wp_region_lit ?_
    refine wpList_next rfl hsz22 hde22 86 rfl (by decide) fun K hK => ?_
    go_simp
    refine hK _ _ fun a23 hsz23 hde23 f86 hk => ?_
    clear hK K
    replace f0 := (hk 0 (by decide)).trans f0
    replace f1 := (hk 1 (by decide)).trans f1
    replace f2 := (hk 2 (by decide)).trans f2
    replace f3 := (hk 3 (by decide)).trans f3
    replace f4 := (hk 4 (by decide)).trans f4
    replace f14 := (hk 14 (by decide)).trans f14
    replace f15 := (hk 15 (by decide)).trans f15
    replace f86 : a23.tmps[86]?.getD undef = .int .i64 ((i1 : Nat) : Int) := f86
    clear hk hsz22 hde22
    refine wpList_next rfl hsz23 hde23 87 rfl (by decide) fun K hK => ?_
    go_simp
    refine hK _ _ fun a24 hsz24 hde24 f87 hk => ?_
    clear hK K
    replace f0 := (hk 0 (by decide)).trans f0
    replace f1 := (hk 1 (by decide)).trans f1
    replace f2 := (hk 2 (by decide)).trans f2
    replace f3 := (hk 3 (by decide)).trans f3
    replace f4 := (hk 4 (by decide)).trans f4
    replace f14 := (hk 14 (by decide)).trans f14
    replace f15 := (hk 15 (by decide)).trans f15
    replace f86 := (hk 86 (by decide)).trans f86
    replace f87 : a24.tmps[87]?.getD undef = .int .i64 ((j1 : Nat) : Int) := f87
    clear hk hsz23 hde23
    refine wpList_next rfl hsz24 hde24 88 rfl (by decide) fun K hK => ?_
    go_simp
    refine hK _ _ fun a25 hsz25 hde25 f88 hk => ?_
    clear hK K
    replace f0 := (hk 0 (by decide)).trans f0
    replace f1 := (hk 1 (by decide)).trans f1
    replace f2 := (hk 2 (by decide)).trans f2
    replace f3 := (hk 3 (by decide)).trans f3
    replace f4 := (hk 4 (by decide)).trans f4
    replace f14 := (hk 14 (by decide)).trans f14
    replace f15 := (hk 15 (by decide)).trans f15
    clear hk hsz24 hde24 f86 f87
    replace f88 : a25.tmps[88]?.getD undef = .int .i64 ((s1 : Nat) : Int) := f88.trans (by have h7 := Hs1.out; first | (congr 1; done) | (congr 1; omega) | (congr 1; simp; done) | (congr 1; simp; omega) | (congr 1; rw [IntKind.wrap_u64] <;> omega) | (congr 1; rw [IntKind.wrap_i64] <;> omega))
    refine wpList_next rfl hsz25 hde25 89 rfl (by decide) fun K hK => ?_
    go_simp
    refine hK _ _ fun a26 hsz26 hde26 f89 hk => ?_
    clear hK K
    replace f0 := (hk 0 (by decide)).trans f0
    replace f1 := (hk 1 (by decide)).trans f1
    replace f2 := (hk 2 (by decide)).trans f2
    replace f3 := (hk 3 (by decide)).trans f3
    replace f4 := (hk 4 (by decide)).trans f4
    replace f14 := (hk 14 (by decide)).trans f14
    replace f15 := (hk 15 (by decide)).trans f15
    clear hk hsz25 hde25 f88
    replace f89 : a26.tmps[89]?.getD undef = .int .u64 ((s1 : Nat) : Int) := f89.trans (by first | (congr 1; done) | (congr 1; omega) | (congr 1; simp; done) | (congr 1; simp; omega) | (congr 1; rw [IntKind.wrap_u64] <;> omega) | (congr 1; rw [IntKind.wrap_i64] <;> omega))
    refine wpList_next rfl hsz26 hde26 90 rfl (by decide) fun K hK => ?_
    go_simp
    refine hK _ _ fun a27 hsz27 hde27 f90 hk => ?_
    clear hK K
    replace f0 := (hk 0 (by decide)).trans f0
    replace f1 := (hk 1 (by decide)).trans f1
    replace f2 := (hk 2 (by decide)).trans f2
    replace f3 := (hk 3 (by decide)).trans f3
    replace f4 := (hk 4 (by decide)).trans f4
    replace f14 := (hk 14 (by decide)).trans f14
    replace f15 := (hk 15 (by decide)).trans f15
    clear hk hsz26 hde26 f89
    replace f90 : a27.tmps[90]?.getD undef = .int .u64 ((hh : Nat) : Int) := f90.trans (by have h7 := Hhh.out; first | (congr 1; done) | (congr 1; omega) | (congr 1; simp; done) | (congr 1; simp; omega) | (congr 1; rw [IntKind.wrap_u64] <;> omega) | (congr 1; rw [IntKind.wrap_i64] <;> omega))
    refine wpList_next rfl hsz27 hde27 91 rfl (by decide) fun K hK => ?_
    go_simp
    refine hK _ _ fun a28 hsz28 hde28 f91 hk => ?_
    clear hK K
    replace f0 := (hk 0 (by decide)).trans f0
    replace f1 := (hk 1 (by decide)).trans f1
    replace f2 := (hk 2 (by decide)).trans f2
    replace f3 := (hk 3 (by decide)).trans f3
    replace f4 := (hk 4 (by decide)).trans f4
    replace f14 := (hk 14 (by decide)).trans f14
    replace f15 := (hk 15 (by decide)).trans f15
    clear hk hsz27 hde27 f90
    replace f91 : a28.tmps[91]?.getD undef = .int .i64 ((hh : Nat) : Int) := f91.trans (by first | (congr 1; done) | (congr 1; omega) | (congr 1; simp; done) | (congr 1; simp; omega) | (congr 1; rw [IntKind.wrap_u64] <;> omega) | (congr 1; rw [IntKind.wrap_i64] <;> omega))
    refine wpList_next rfl hsz28 hde28 16 rfl (by decide) fun K hK => ?_
    go_simp
    refine hK _ _ fun a29 hsz29 hde29 f16 hk => ?_
    clear hK K
    replace f0 := (hk 0 (by decide)).trans f0
    replace f1 := (hk 1 (by decide)).trans f1
    replace f2 := (hk 2 (by decide)).trans f2
    replace f3 := (hk 3 (by decide)).trans f3
    replace f4 := (hk 4 (by decide)).trans f4
    replace f14 := (hk 14 (by decide)).trans f14
    replace f15 := (hk 15 (by decide)).trans f15
    replace f16 : a29.tmps[16]?.getD undef = .int .i64 ((hh : Nat) : Int) := f16
    clear hk hsz28 hde28 f91
    refine wpList_nil ?_
    refine then_go ?_
    repeat with_reducible refine wp_seq ?_
    obtain ⟨t, ht⟩ : ∃ t, t = hh - p := ⟨_, rfl⟩
    have hth : hh = p + t := by have := Hs1.out; have := Hhh.out; have := Hi1.out; have := Hj1.out; omega
    have htij : i ≤ t ∧ t < j := by have := Hs1.out; have := Hhh.out; have := Hi1.out; have := Hj1.out; omega
    have htB : t < A.length := by omega
    have Hth := Lib.hid hth
    clear ht
    have hhq : hh < m := by have := Hm.out; omega
    clear hth
    have hMx : (P ++ (A ++ ([Y] ++ S)))[m]? = some Y := (by have h7 := lookB (P := P) (A := A) (B := [Y]) (S := S) (t := 0) Hp.out Hm.out (by simp); simpa using h7)
    have hMy : (P ++ (A ++ ([Y] ++ S)))[hh]? = some A[t] := (by rw [Hth.out]; exact lookA Hp.out htB)
    obtain ⟨CX0, hCX0⟩ : ∃ C, C = entC Y := ⟨_, rfl⟩
    obtain ⟨CY0, hCY0⟩ : ∃ C, C = entC A[t] := ⟨_, rfl⟩
    have HlX := Lib.hid (show ∀ z, Below wx.heap.size wx z → z.rangeAt g (m * 15) CX0.toList from fun z hz => by rw [hCX0]; exact range_ext (Hown.out.look hMx).1 hz)
    have HlY := Lib.hid (show ∀ z, Below wx.heap.size wx z → z.rangeAt g (hh * 15) CY0.toList from fun z hz => by rw [hCY0]; exact range_ext (Hown.out.look hMy).1 hz)
    have HfX := Lib.hid (show (Tryd.prog.info? 29).map (·.size) = some CX0.toList.length by rw [hCX0]; exact ent_info)
    have HfY := Lib.hid (show (Tryd.prog.info? 29).map (·.size) = some CY0.toList.length by rw [hCY0]; exact ent_info)
    have hcmp := fun z => namecmp_any Y A[t] z
    rw [← hCX0, ← hCY0] at hcmp
    obtain ⟨cv, hcv⟩ : ∃ cv, cv = Lib.compareBytes Y.data A[t].data := ⟨_, rfl⟩
    rw [← hcv] at hcmp
    have Hcmp := Lib.hid hcmp
    obtain ⟨bl, hbl⟩ : ∃ bl, bl = nlt Y A[t] := ⟨_, rfl⟩
    have Hbl := Lib.hid hbl
    have Hcv := Lib.hid (show decide (cv < 0) = bl by rw [hbl, hcv]; rfl)
    clear hMx hMy hcmp hcv hbl hCX0 hCY0
    have hhh0 : (0 : Int) ≤ (hh : Int) := by omega
    have hhhn : (hh : Int) < (n0 : Int) := by omega
    have hm0 : (0 : Int) ≤ (m : Int) := by omega
    have hmn : (m : Int) < (n0 : Int) := by omega
    refine wp_region_goodg (tblG [(92, .func (.func 49) #[] #[]), (93, .slice (some ⟨g, 0, none⟩) n0 cap), (94, .int .i64 ((m : Nat) : Int)), (95, .pointer (some ⟨g, m * 15, none⟩)), (96, .agg CX0), (97, .slice (some ⟨g, 0, none⟩) n0 cap), (98, .int .i64 ((hh : Nat) : Int)), (99, .pointer (some ⟨g, hh * 15, none⟩)), (100, .agg CY0), (101, .int .i64 cv), (102, .bool bl), (103, .bool (!bl))]) 220 (by kernel_rfl) (by kernel_rfl) (by kernel_rfl) (by kernel_rfl) hsz29.out ?_ ?_ ?_
    · intro t v7 x x' h _ _
      exact h
    · intro i7 o hi7 a x hbx hsame hpre K hK
      have hlt7 : i7 < 12 := (Array.getElem?_eq_some_iff.1 hi7).1
      rcases (show i7 = 0 ∨ i7 = 1 ∨ i7 = 2 ∨ i7 = 3 ∨ i7 = 4 ∨ i7 = 5 ∨ i7 = 6 ∨ i7 = 7 ∨ i7 = 8 ∨ i7 = 9 ∨ i7 = 10 ∨ i7 = 11 by omega) with rfl | rfl | rfl | rfl | rfl | rfl | rfl | rfl | rfl | rfl | rfl | rfl
      all_goals (have ho := Option.some.inj hi7; subst ho; clear hi7 hlt7)
      · have q4 : a.tmps[4]?.getD undef = .func (.func 49) #[] #[] := (hsame 4 (by decide +kernel)).trans f4
        refine step_plain rfl ?_
        have hk := Lib.hid (show ∀ v7 x', v7 = .func (.func 49) #[] #[] → Below x.heap.size x x' → K (a.put (some 92) v7) x' from hK)
        have Hbx := Lib.hid hbx
        clear hsame hpre hK hbx
        go_simp
        exact hk.out _ _ rfl (Below.refl _ _)
      · have q0 : a.tmps[0]?.getD undef = .slice (some ⟨g, 0, none⟩) n0 cap := (hsame 0 (by decide +kernel)).trans f0
        refine step_plain rfl ?_
        have hk := Lib.hid (show ∀ v7 x', v7 = .slice (some ⟨g, 0, none⟩) n0 cap → Below x.heap.size x x' → K (a.put (some 93) v7) x' from hK)
        have Hbx := Lib.hid hbx
        clear hsame hpre hK hbx
        go_simp
        exact hk.out _ _ rfl (Below.refl _ _)
      · have q2 : a.tmps[2]?.getD undef = .int .i64 ((m : Nat) : Int) := (hsame 2 (by decide +kernel)).trans f2
        refine step_plain rfl ?_
        have hk := Lib.hid (show ∀ v7 x', v7 = .int .i64 ((m : Nat) : Int) → Below x.heap.size x x' → K (a.put (some 94) v7) x' from hK)
        have Hbx := Lib.hid hbx
        clear hsame hpre hK hbx
        go_simp
        exact hk.out _ _ rfl (Below.refl _ _)
      · have q93 : a.tmps[93]?.getD undef = .slice (some ⟨g, 0, none⟩) n0 cap := hpre ⟨1, .data⟩ (by simp) rfl (by decide)
        have q94 : a.tmps[94]?.getD undef = .int .i64 ((m : Nat) : Int) := hpre ⟨2, .data⟩ (by simp) rfl (by decide)
        refine step_plain rfl ?_
        have hk := Lib.hid (show ∀ v7 x', v7 = .pointer (some ⟨g, m * 15, none⟩) → Below x.heap.size x x' → K (a.put (some 95) v7) x' from hK)
        have Hbx := Lib.hid hbx
        clear hsame hpre hK hbx
        go_simp
        exact hk.out _ _ rfl (Below.refl _ _)
      · have q95 : a.tmps[95]?.getD undef = .pointer (some ⟨g, m * 15, none⟩) := hpre ⟨3, .data⟩ (by simp) rfl (by decide)
        refine step_plain rfl ?_
        have hk := Lib.hid (show ∀ v7 x', v7 = .agg CX0 → Below x.heap.size x x' → K (a.put (some 96) v7) x' from hK)
        have Hbx := Lib.hid hbx
        clear hsame hpre hK hbx
        refine wp_load_mid 29 (.tmp 95) rfl g (m * 15) (eval_at q95) CX0.toList _ (HlX.out _ Hbx.out) Tryd.underlying29 rfl HfX.out ?_
        exact hk.out _ _ rfl (Below.refl _ _)
      · have q0 : a.tmps[0]?.getD undef = .slice (some ⟨g, 0, none⟩) n0 cap := (hsame 0 (by decide +kernel)).trans f0
        refine step_plain rfl ?_
        have hk := Lib.hid (show ∀ v7 x', v7 = .slice (some ⟨g, 0, none⟩) n0 cap → Below x.heap.size x x' → K (a.put (some 97) v7) x' from hK)
        have Hbx := Lib.hid hbx
        clear hsame hpre hK hbx
        go_simp
        exact hk.out _ _ rfl (Below.refl _ _)
      · have q16 : a.tmps[16]?.getD undef = .int .i64 ((hh : Nat) : Int) := (hsame 16 (by decide +kernel)).trans f16
        refine step_plain rfl ?_
        have hk := Lib.hid (show ∀ v7 x', v7 = .int .i64 ((hh : Nat) : Int) → Below x.heap.size x x' → K (a.put (some 98) v7) x' from hK)
        have Hbx := Lib.hid hbx
        clear hsame hpre hK hbx
        go_simp
        exact hk.out _ _ rfl (Below.refl _ _)
      · have q97 : a.tmps[97]?.getD undef = .slice (some ⟨g, 0, none⟩) n0 cap := hpre ⟨5, .data⟩ (by simp) rfl (by decide)
        have q98 : a.tmps[98]?.getD undef = .int .i64 ((hh : Nat) : Int) := hpre ⟨6, .data⟩ (by simp) rfl (by decide)
        refine step_plain rfl ?_
        have hk := Lib.hid (show ∀ v7 x', v7 = .pointer (some ⟨g, hh * 15, none⟩) → Below x.heap.size x x' → K (a.put (some 99) v7) x' from hK)
        have Hbx := Lib.hid hbx
        clear hsame hpre hK hbx
        go_simp
        exact hk.out _ _ rfl (Below.refl _ _)
      · have q99 : a.tmps[99]?.getD undef = .pointer (some ⟨g, hh * 15, none⟩) := hpre ⟨7, .data⟩ (by simp) rfl (by decide)
        refine step_plain rfl ?_
        have hk := Lib.hid (show ∀ v7 x', v7 = .agg CY0 → Below x.heap.size x x' → K (a.put (some 100) v7) x' from hK)
        have Hbx := Lib.hid hbx
        clear hsame hpre hK hbx
        refine wp_load_mid 29 (.tmp 99) rfl g (hh * 15) (eval_at q99) CY0.toList _ (HlY.out _ Hbx.out) Tryd.underlying29 rfl HfY.out ?_
        exact hk.out _ _ rfl (Below.refl _ _)
      · have q92 : a.tmps[92]?.getD undef = .func (.func 49) #[] #[] := hpre ⟨0, .data⟩ (by simp) rfl (by decide)
        have q96 : a.tmps[96]?.getD undef = .agg CX0 := hpre ⟨4, .data⟩ (by simp) rfl (by decide)
        have q100 : a.tmps[100]?.getD undef = .agg CY0 := hpre ⟨8, .data⟩ (by simp) rfl (by decide)
        refine step_plain rfl ?_
        have hk := Lib.hid (show ∀ v7 x', v7 = .int .i64 cv → Below x.heap.size x x' → K (a.put (some 101) v7) x' from hK)
        have Hbx := Lib.hid hbx
        clear hsame hpre hK hbx
        go_simp
        refine (Hcmp.out _).mono ?_
        rintro e7 w7 ⟨rfl, hb7⟩
        go_simp
        exact hk.out _ _ rfl hb7
      · have q101 : a.tmps[101]?.getD undef = .int .i64 cv := hpre ⟨9, .data⟩ (by simp) rfl (by decide)
        refine step_plain rfl ?_
        have hk := Lib.hid (show ∀ v7 x', v7 = .bool bl → Below x.heap.size x x' → K (a.put (some 102) v7) x' from hK)
        have Hbx := Lib.hid hbx
        clear hsame hpre hK hbx
        go_simp
        exact hk.out _ _ (by have h7 := Hcv.out; first | (congr 1; done) | (congr 1; exact h7) | (rw [← h7])) (Below.refl _ _)
      · have q102 : a.tmps[102]?.getD undef = .bool bl := hpre ⟨10, .data⟩ (by simp) rfl (by decide)
        refine step_plain rfl ?_
        have hk := Lib.hid (show ∀ v7 x', v7 = .bool (!bl) → Below x.heap.size x x' → K (a.put (some 103) v7) x' from hK)
        have Hbx := Lib.hid hbx
        clear hsame hpre hK hbx
        go_simp
        exact hk.out _ _ rfl (Below.refl _ _)
    intro a30 x30 hbx hsame hG hsz30 hde30
    replace f0 := (hsame 0 (by decide +kernel)).trans f0
    replace f1 := (hsame 1 (by decide +kernel)).trans f1
    replace f2 := (hsame 2 (by decide +kernel)).trans f2
    replace f3 := (hsame 3 (by decide +kernel)).trans f3
    replace f4 := (hsame 4 (by decide +kernel)).trans f4
    replace f14 := (hsame 14 (by decide +kernel)).trans f14
    replace f15 := (hsame 15 (by decide +kernel)).trans f15
    replace f16 := (hsame 16 (by decide +kernel)).trans f16
    have f103 : a30.tmps[103]?.getD undef = .bool (!bl) := hG 11 (by decide)
    have Hbx30 := Lib.hid hbx
    have hsz30h := Lib.hid hsz30
    have hde30h := Lib.hid (hde30.trans hde29.out)
    clear hsame hG hbx hsz30 hde30 hsz29 hde29
    obtain ⟨wy, hwy⟩ : ∃ wy, wy = x30 := ⟨_, rfl⟩
    have HownN := Lib.hid (Hown.out.grow Hbx30.out)
    have HbN := Lib.hid (Hbw.out.trans (Hbx30.out.mono (Nat.le_trans Hb.out Hbw.out.size)))
    rw [← hwy] at HownN HbN ⊢
    clear hwy Hbx30 Hcmp HlX HlY
    refine then_go ?_
    repeat with_reducible refine wp_seq ?_
    cases bl with
    | false =>
      replace f103 : a30.tmps[103]?.getD undef = .bool true := f103
      refine wp_cond_true (eval_at f103) ?_
      clear f103
      refine wp_region_lit ?_
      refine wpList_next rfl hsz30h hde30h 104 rfl (by decide) fun K hK => ?_
      go_simp
      refine hK _ _ fun a31 hsz31 hde31 f104 hk => ?_
      clear hK K
      replace f0 := (hk 0 (by decide)).trans f0
      replace f1 := (hk 1 (by decide)).trans f1
      replace f2 := (hk 2 (by decide)).trans f2
      replace f3 := (hk 3 (by decide)).trans f3
      replace f4 := (hk 4 (by decide)).trans f4
      replace f14 := (hk 14 (by decide)).trans f14
      replace f15 := (hk 15 (by decide)).trans f15
      replace f16 := (hk 16 (by decide)).trans f16
      replace f104 : a31.tmps[104]?.getD undef = .int .i64 ((hh : Nat) : Int) := f104
      clear hk hsz30h hde30h
      refine wpList_next rfl hsz31 hde31 105 rfl (by decide) fun K hK => ?_
      go_simp
      refine hK _ _ fun a32 hsz32 hde32 f105 hk => ?_
      clear hK K
      replace f0 := (hk 0 (by decide)).trans f0
      replace f1 := (hk 1 (by decide)).trans f1
      replace f2 := (hk 2 (by decide)).trans f2
      replace f3 := (hk 3 (by decide)).trans f3
      replace f4 := (hk 4 (by decide)).trans f4
      replace f14 := (hk 14 (by decide)).trans f14
      replace f15 := (hk 15 (by decide)).trans f15
      replace f16 := (hk 16 (by decide)).trans f16
      clear hk hsz31 hde31 f104
      replace f105 : a32.tmps[105]?.getD undef = .int .i64 (((p + (t + 1) : Nat) : Int)) := f105.trans (by have h7 := Hth.out; first | (congr 1; done) | (congr 1; omega) | (congr 1; rw [IntKind.wrap_i64] <;> omega))
      refine wpList_next rfl hsz32 hde32 14 rfl (by decide) fun K hK => ?_
      go_simp
      refine hK _ _ fun a33 hsz33 hde33 f14 hk => ?_
      clear hK K
      replace f0 := (hk 0 (by decide)).trans f0
      replace f1 := (hk 1 (by decide)).trans f1
      replace f2 := (hk 2 (by decide)).trans f2
      replace f3 := (hk 3 (by decide)).trans f3
      replace f4 := (hk 4 (by decide)).trans f4
      replace f15 := (hk 15 (by decide)).trans f15
      replace f16 := (hk 16 (by decide)).trans f16
      replace f14 : a33.tmps[14]?.getD undef = .int .i64 ((p + (t + 1) : Nat) : Int) := f14
      clear hk hsz32 hde32 f105
      refine wpList_nil ?_
      rw [show ((j1 : Nat) : Int) = ((p + j : Nat) : Int) by rw [Hj1.out]] at f15
      repeat first | with_reducible refine block_go ?_ | with_reducible refine then_go ?_
      exact ⟨j - (t + 1), by rw [Hn2.out]; omega, t + 1, j, hsz33, hde33, f0, f1, f2, f3, f4, f14, f15, Lib.hid (by omega), Lib.hid (fun h _ => Hbl.out.symm), H2, HownN, HbN, rfl⟩
    | true =>
      replace f103 : a30.tmps[103]?.getD undef = .bool false := f103
      refine wp_cond_false (eval_at f103) ?_
      clear f103
      refine wp_region_lit ?_
      refine wpList_next rfl hsz30h hde30h 106 rfl (by decide) fun K hK => ?_
      go_simp
      refine hK _ _ fun a31 hsz31 hde31 f106 hk => ?_
      clear hK K
      replace f0 := (hk 0 (by decide)).trans f0
      replace f1 := (hk 1 (by decide)).trans f1
      replace f2 := (hk 2 (by decide)).trans f2
      replace f3 := (hk 3 (by decide)).trans f3
      replace f4 := (hk 4 (by decide)).trans f4
      replace f14 := (hk 14 (by decide)).trans f14
      replace f15 := (hk 15 (by decide)).trans f15
      replace f16 := (hk 16 (by decide)).trans f16
      replace f106 : a31.tmps[106]?.getD undef = .int .i64 ((hh : Nat) : Int) := f106
      clear hk hsz30h hde30h
      refine wpList_next rfl hsz31 hde31 15 rfl (by decide) fun K hK => ?_
      go_simp
      refine hK _ _ fun a32 hsz32 hde32 f15 hk => ?_
      clear hK K
      replace f0 := (hk 0 (by decide)).trans f0
      replace f1 := (hk 1 (by decide)).trans f1
      replace f2 := (hk 2 (by decide)).trans f2
      replace f3 := (hk 3 (by decide)).trans f3
      replace f4 := (hk 4 (by decide)).trans f4
      replace f14 := (hk 14 (by decide)).trans f14
      replace f16 := (hk 16 (by decide)).trans f16
      replace f15 : a32.tmps[15]?.getD undef = .int .i64 ((hh : Nat) : Int) := f15
      clear hk hsz31 hde31 f106
      refine wpList_nil ?_
      rw [show ((i1 : Nat) : Int) = ((p + i : Nat) : Int) by rw [Hi1.out]] at f14
      rw [show ((hh : Nat) : Int) = ((p + t : Nat) : Int) by rw [Hth.out]] at f15
      repeat first | with_reducible refine block_go ?_ | with_reducible refine then_go ?_
      exact ⟨t - i, by rw [Hn2.out]; omega, i, t, hsz32, hde32, f0, f1, f2, f3, f4, f14, f15, Lib.hid (by omega), H1, Lib.hid (fun h => Hbl.out.symm), HownN, HbN, rfl⟩
  refine wp_region_lit ?_
  refine wpList_next rfl hsz19 hde19 83 rfl (by decide) fun K hK => ?_
  go_simp
  refine hK _ _ fun a20 hsz20 hde20 f83 hk => ?_
  clear hK K
  replace f0 := (hk 0 (by decide)).trans f0
  replace f1 := (hk 1 (by decide)).trans f1
  replace f2 := (hk 2 (by decide)).trans f2
  replace f3 := (hk 3 (by decide)).trans f3
  replace f4 := (hk 4 (by decide)).trans f4
  replace f14 := (hk 14 (by decide)).trans f14
  replace f15 := (hk 15 (by decide)).trans f15
  replace f83 : a20.tmps[83]?.getD undef = .int .i64 ((i1 : Nat) : Int) := f83
  clear hk hsz19 hde19
  refine wpList_next rfl hsz20 hde20 84 rfl (by decide) fun K hK => ?_
  go_simp
  refine hK _ _ fun a21 hsz21 hde21 f84 hk => ?_
  clear hK K
  replace f0 := (hk 0 (by decide)).trans f0
  replace f1 := (hk 1 (by decide)).trans f1
  replace f2 := (hk 2 (by decide)).trans f2
  replace f3 := (hk 3 (by decide)).trans f3
  replace f4 := (hk 4 (by decide)).trans f4
  replace f14 := (hk 14 (by decide)).trans f14
  replace f15 := (hk 15 (by decide)).trans f15
  replace f83 := (hk 83 (by decide)).trans f83
  replace f84 : a21.tmps[84]?.getD undef = .int .i64 ((j1 : Nat) : Int) := f84
  clear hk hsz20 hde20
  refine wpList_next rfl hsz21 hde21 85 rfl (by decide) fun K hK => ?_
  go_simp
  refine hK _ _ fun a22 hsz22 hde22 f85 hk => ?_
  clear hK K
  replace f0 := (hk 0 (by decide)).trans f0
  replace f1 := (hk 1 (by decide)).trans f1
  replace f2 := (hk 2 (by decide)).trans f2
  replace f3 := (hk 3 (by decide)).trans f3
  replace f4 := (hk 4 (by decide)).trans f4
  replace f14 := (hk 14 (by decide)).trans f14
  replace f15 := (hk 15 (by decide)).trans f15
  clear hk hsz21 hde21 f83 f84
  replace f85 : a22.tmps[85]?.getD undef = .bool false := f85.trans (by first | rfl | (congr 1; first | exact decide_eq_true (by omega) | exact decide_eq_false (by omega)) | (simp; omega))
  refine wpList_nil ?_
  refine then_go ?_
  repeat with_reducible refine wp_seq ?_
  refine wp_cond_false (eval_at f85) ?_
  refine wp_exit ?_
  repeat with_reducible refine then_exit ?_
  refine block_exit ?_
  repeat first | with_reducible refine block_go ?_ | with_reducible refine then_go ?_
  clear f85
  repeat with_reducible refine wp_seq ?_
  have hieq : i = j := by have := Hi1.out; have := Hj1.out; omega
  subst hieq
  have hsrt := one_right hjB HA.out (fun x hx => HAB.out x hx Y (by simp)) H1.out H2.out
  have Hsrt := Lib.hid hsrt
  clear hsrt
  obtain ⟨wz, hwz⟩ : ∃ wz, wz = wx := ⟨_, rfl⟩
  rw [← hwz] at Hown Hbw ⊢
  clear hwz
  clear f15
  refine wp_region_lit ?_
  refine wpList_next rfl hsz22 hde22 107 rfl (by decide) fun K hK => ?_
  go_simp
  refine hK _ _ fun a23 hsz23 hde23 f107 hk => ?_
  clear hK K
  replace f0 := (hk 0 (by decide)).trans f0
  replace f1 := (hk 1 (by decide)).trans f1
  replace f2 := (hk 2 (by decide)).trans f2
  replace f3 := (hk 3 (by decide)).trans f3
  replace f4 := (hk 4 (by decide)).trans f4
  replace f14 := (hk 14 (by decide)).trans f14
  replace f107 : a23.tmps[107]?.getD undef = .int .i64 ((m : Nat) : Int) := f107
  clear hk hsz22 hde22
  refine wpList_next rfl hsz23 hde23 17 rfl (by decide) fun K hK => ?_
  go_simp
  refine hK _ _ fun a24 hsz24 hde24 f17 hk => ?_
  clear hK K
  replace f0 := (hk 0 (by decide)).trans f0
  replace f1 := (hk 1 (by decide)).trans f1
  replace f2 := (hk 2 (by decide)).trans f2
  replace f3 := (hk 3 (by decide)).trans f3
  replace f4 := (hk 4 (by decide)).trans f4
  replace f14 := (hk 14 (by decide)).trans f14
  replace f17 : a24.tmps[17]?.getD undef = .int .i64 ((m : Nat) : Int) := f17
  clear hk hsz23 hde23 f107
  refine wpList_nil ?_
  refine then_go ?_
  repeat with_reducible refine wp_seq ?_
  rw [show ((m : Nat) : Int) = ((p + A.length : Nat) : Int) by rw [Hm.out]] at f17
  refine wp_block ?_
  refine wp_loop_ghost (S2Bub w base (.slice (some ⟨g, 0, none⟩) n0 cap) P A S Y p i1) (p + A.length - i1) ?_ ?_
  · exact ⟨A.length, hsz24, hde24, f0, f14, f17, Lib.hid (by have := Hi1.out; omega), Lib.hid (by simpa using Hown.out), Hbw, rfl⟩
  clear Hown Hbw
  clear hsz24 hde24 f0 f1 f2 f3 f4 f14 f17
  intro n4 a39 wu hI
  obtain ⟨c, hsz39, hde39, f0, f14, f17, Hc, Hown, Hbw, hn4⟩ := hI
  have Hn4 := Lib.hid hn4
  clear hn4
  obtain ⟨k1, hk⟩ : ∃ k, k = p + c := ⟨_, rfl⟩
  rw [show ((p + c : Nat) : Int) = ((k1 : Nat) : Int) by rw [hk]] at f17
  obtain ⟨hc1, hc2⟩ := Hc.out
  have hk1 : i1 ≤ k1 ∧ k1 ≤ m := by have := Hm.out; omega
  have Hk1 := Lib.hid hk
  clear hk hc1
  repeat with_reducible refine wp_seq ?_
  by_cases hlt : i1 < k1
  · skip
    refine wp_region_lit ?_
    refine wpList_next rfl hsz39 hde39 108 rfl (by decide) fun K hK => ?_
    go_simp
    refine hK _ _ fun a40 hsz40 hde40 f108 hk => ?_
    clear hK K
    replace f0 := (hk 0 (by decide)).trans f0
    replace f14 := (hk 14 (by decide)).trans f14
    replace f17 := (hk 17 (by decide)).trans f17
    replace f108 : a40.tmps[108]?.getD undef = .int .i64 ((k1 : Nat) : Int) := f108
    clear hk hsz39 hde39
    refine wpList_next rfl hsz40 hde40 109 rfl (by decide) fun K hK => ?_
    go_simp
    refine hK _ _ fun a41 hsz41 hde41 f109 hk => ?_
    clear hK K
    replace f0 := (hk 0 (by decide)).trans f0
    replace f14 := (hk 14 (by decide)).trans f14
    replace f17 := (hk 17 (by decide)).trans f17
    replace f108 := (hk 108 (by decide)).trans f108
    replace f109 : a41.tmps[109]?.getD undef = .int .i64 ((i1 : Nat) : Int) := f109
    clear hk hsz40 hde40
    refine wpList_next rfl hsz41 hde41 110 rfl (by decide) fun K hK => ?_
    go_simp
    refine hK _ _ fun a42 hsz42 hde42 f110 hk => ?_
    clear hK K
    replace f0 := (hk 0 (by decide)).trans f0
    replace f14 := (hk 14 (by decide)).trans f14
    replace f17 := (hk 17 (by decide)).trans f17
    clear hk hsz41 hde41 f108 f109
    replace f110 : a42.tmps[110]?.getD undef = .bool true := f110.trans (by first | rfl | (congr 1; first | exact decide_eq_true (by omega) | exact decide_eq_false (by omega)) | (simp; omega))
    refine wpList_nil ?_
    refine then_go ?_
    repeat with_reducible refine wp_seq ?_
    refine wp_cond_true (eval_at f110) ?_
    refine wp_skip ?_
    refine then_go ?_
    clear f110
    repeat with_reducible refine wp_seq ?_
    refine wp_block ?_
    obtain ⟨c0, hc0⟩ : ∃ c0, c = c0 + 1 := ⟨c - 1, by have := Hi1.out; have := Hk1.out; omega⟩
    have Hc0 := Lib.hid hc0
    have hcB : c0 < A.length := by omega
    obtain ⟨k, hke⟩ : ∃ k, k = p + c0 := ⟨_, rfl⟩
    have hk1e : k1 = k + 1 := by have := Hk1.out; omega
    have Hke := Lib.hid hke
    have Hkk := Lib.hid hk1e
    obtain ⟨Mx, hMx⟩ : ∃ Mx, Mx = (P ++ A.take c) ++ Y :: (A.drop c ++ S) := ⟨_, rfl⟩
    have hPk : k = (P ++ A.take c0).length := by rw [List.length_append, List.length_take, hke, Hp.out]; omega
    have hM2 : Mx = (P ++ A.take c0) ++ A[c0] :: Y :: (A.drop c ++ S) := by rw [hMx, hc0, List.take_succ_eq_append_getElem hcB]; simp only [List.append_assoc, List.cons_append, List.nil_append]
    have Hsw := Lib.hid (show swapL Mx k1 k = (P ++ A.take c0) ++ Y :: (A.drop c0 ++ S) by rw [hM2, hk1e, hPk, swap_next.1, hc0, List.drop_eq_getElem_cons hcB]; rfl)
    have Hmn := Lib.hid (show n0 = Mx.length by
      refine Hn0.out Mx ?_
      rw [hMx, List.append_assoc]
      refine List.Perm.append_left P ?_
      refine List.perm_middle.trans ?_
      rw [← List.append_assoc, List.take_append_drop]
      exact (List.perm_middle (l₁ := A) (a := Y) (l₂ := S)).symm)
    rw [← hMx] at Hown
    have hkn0 : k < n0 := by omega
    have hk1n0 : k1 < n0 := by omega
    have hk1b : k1 ≤ 1000 := by omega
    clear hk1e hPk hM2 hMx hke hc0
    have HsqN := Lib.hid (Nat.le_trans Hb.out Hbw.out.size)
    have hk0 : (0 : Int) ≤ (k : Int) := by omega
    have hkn : (k : Int) < (n0 : Int) := by omega
    have hk10 : (0 : Int) ≤ (k1 : Int) := by omega
    have hk1n : (k1 : Int) < (n0 : Int) := by omega
    obtain ⟨CX, CY, W1, W2, hW1, hW2, hrX, hrY, htX, htY, hi1, hi2, hi3, hi4, hc1, hc2, hown2, hbl2⟩ := swap_facts Hown.out Hmn.out hk1n0 hkn0 HsqN.out
    have ZW1 := Lib.hid hW1
    have ZW2 := Lib.hid hW2
    have ZrX := Lib.hid hrX
    have ZrY := Lib.hid hrY
    have ZtX := Lib.hid htX
    have ZtY := Lib.hid htY
    have Zi1 := Lib.hid hi1
    have Zi2 := Lib.hid hi2
    have Zi3 := Lib.hid hi3
    have Zi4 := Lib.hid hi4
    have Zc1 := Lib.hid hc1
    have Zc2 := Lib.hid hc2
    have Zown2 := Lib.hid hown2
    have Zbl2 := Lib.hid hbl2
    clear hW1 hW2 hrX hrY htX htY hi1 hi2 hi3 hi4 hc1 hc2 hown2 hbl2
    refine wp_region_sw (fun s => match s with | 113 => .slice (some ⟨g, 0, none⟩) n0 cap | 114 => .int .i64 ((k1 : Nat) : Int) | 115 => .slice (some ⟨g, 0, none⟩) n0 cap | 116 => .int .i64 ((k1 : Nat) : Int) | 117 => .int .i64 ((k : Nat) : Int) | 118 => .slice (some ⟨g, 0, none⟩) n0 cap | 119 => .int .i64 ((k1 : Nat) : Int) | 120 => .int .i64 ((k : Nat) : Int) | 121 => .pointer (some ⟨g, k * 15, none⟩) | 122 => .agg CY | 123 => .slice (some ⟨g, 0, none⟩) n0 cap | 124 => .int .i64 ((k1 : Nat) : Int) | 125 => .pointer (some ⟨g, k1 * 15, none⟩) | 126 => .agg CX | 127 => .pointer (some ⟨g, k1 * 15, none⟩) | 128 => .pointer (some ⟨g, k * 15, none⟩) | _ => undef) W1 W2 15 17 9 13 220 (by kernel_rfl) (by kernel_rfl) (by kernel_rfl) hsz42.out (by decide +kernel) (by decide +kernel) ?_ ?_
    · intro i0 o0 hi0 a x0 hl1 hl2 hw1 hw2 hsame hV K hK
      have hlt0 : i0 < 18 := (Array.getElem?_eq_some_iff.1 hi0).1
      rcases (show i0 = 0 ∨ i0 = 1 ∨ i0 = 2 ∨ i0 = 3 ∨ i0 = 4 ∨ i0 = 5 ∨ i0 = 6 ∨ i0 = 7 ∨ i0 = 8 ∨ i0 = 9 ∨ i0 = 10 ∨ i0 = 11 ∨ i0 = 12 ∨ i0 = 13 ∨ i0 = 14 ∨ i0 = 15 ∨ i0 = 16 ∨ i0 = 17 by omega) with rfl | rfl | rfl | rfl | rfl | rfl | rfl | rfl | rfl | rfl | rfl | rfl | rfl | rfl | rfl | rfl | rfl | rfl
      all_goals (have ho0 := Option.some.inj hi0; subst ho0; clear hi0 hlt0)
      · have q0 : a.tmps[0]?.getD undef = .slice (some ⟨g, 0, none⟩) n0 cap := (hsame 0 (slot_free (by decide +kernel))).trans f0
        have hk := Lib.hid (fun v (h : v = .slice (some ⟨g, 0, none⟩) n0 cap) => hK v x0 (fun s hs => by cases hs; exact h) (fun _ _ => rfl) (fun h => absurd h (by decide)) (fun h => absurd h (by decide)))
        clear hsame hV hK hl1 hl2 hw1 hw2
        go_simp
        exact hk.out _ rfl
      · have q17 : a.tmps[17]?.getD undef = .int .i64 ((k1 : Nat) : Int) := (hsame 17 (slot_free (by decide +kernel))).trans f17
        have hk := Lib.hid (fun v (h : v = .int .i64 ((k1 : Nat) : Int)) => hK v x0 (fun s hs => by cases hs; exact h) (fun _ _ => rfl) (fun h => absurd h (by decide)) (fun h => absurd h (by decide)))
        clear hsame hV hK hl1 hl2 hw1 hw2
        go_simp
        exact hk.out _ rfl
      · have q0 : a.tmps[0]?.getD undef = .slice (some ⟨g, 0, none⟩) n0 cap := (hsame 0 (slot_free (by decide +kernel))).trans f0
        have hk := Lib.hid (fun v (h : v = .slice (some ⟨g, 0, none⟩) n0 cap) => hK v x0 (fun s hs => by cases hs; exact h) (fun _ _ => rfl) (fun h => absurd h (by decide)) (fun h => absurd h (by decide)))
        clear hsame hV hK hl1 hl2 hw1 hw2
        go_simp
        exact hk.out _ rfl
      · have q17 : a.tmps[17]?.getD undef = .int .i64 ((k1 : Nat) : Int) := (hsame 17 (slot_free (by decide +kernel))).trans f17
        have hk := Lib.hid (fun v (h : v = .int .i64 ((k1 : Nat) : Int)) => hK v x0 (fun s hs => by cases hs; exact h) (fun _ _ => rfl) (fun h => absurd h (by decide)) (fun h => absurd h (by decide)))
        clear hsame hV hK hl1 hl2 hw1 hw2
        go_simp
        exact hk.out _ rfl
      · have q116 : a.tmps[116]?.getD undef = .int .i64 ((k1 : Nat) : Int) := hV ⟨3, .data⟩ (by simp) rfl 116 rfl
        have hk := Lib.hid (fun v (h : v = .int .i64 ((k : Nat) : Int)) => hK v x0 (fun s hs => by cases hs; exact h) (fun _ _ => rfl) (fun h => absurd h (by decide)) (fun h => absurd h (by decide)))
        clear hsame hV hK hl1 hl2 hw1 hw2
        go_simp
        exact hk.out _ (by have h7 := Hkk.out; first | (congr 1; done) | (congr 1; omega) | (congr 1; rw [IntKind.wrap_i64] <;> omega))
      · have q0 : a.tmps[0]?.getD undef = .slice (some ⟨g, 0, none⟩) n0 cap := (hsame 0 (slot_free (by decide +kernel))).trans f0
        have hk := Lib.hid (fun v (h : v = .slice (some ⟨g, 0, none⟩) n0 cap) => hK v x0 (fun s hs => by cases hs; exact h) (fun _ _ => rfl) (fun h => absurd h (by decide)) (fun h => absurd h (by decide)))
        clear hsame hV hK hl1 hl2 hw1 hw2
        go_simp
        exact hk.out _ rfl
      · have q17 : a.tmps[17]?.getD undef = .int .i64 ((k1 : Nat) : Int) := (hsame 17 (slot_free (by decide +kernel))).trans f17
        have hk := Lib.hid (fun v (h : v = .int .i64 ((k1 : Nat) : Int)) => hK v x0 (fun s hs => by cases hs; exact h) (fun _ _ => rfl) (fun h => absurd h (by decide)) (fun h => absurd h (by decide)))
        clear hsame hV hK hl1 hl2 hw1 hw2
        go_simp
        exact hk.out _ rfl
      · have q119 : a.tmps[119]?.getD undef = .int .i64 ((k1 : Nat) : Int) := hV ⟨6, .data⟩ (by simp) rfl 119 rfl
        have hk := Lib.hid (fun v (h : v = .int .i64 ((k : Nat) : Int)) => hK v x0 (fun s hs => by cases hs; exact h) (fun _ _ => rfl) (fun h => absurd h (by decide)) (fun h => absurd h (by decide)))
        clear hsame hV hK hl1 hl2 hw1 hw2
        go_simp
        exact hk.out _ (by have h7 := Hkk.out; first | (congr 1; done) | (congr 1; omega) | (congr 1; rw [IntKind.wrap_i64] <;> omega))
      · have q118 : a.tmps[118]?.getD undef = .slice (some ⟨g, 0, none⟩) n0 cap := hV ⟨5, .data⟩ (by simp) rfl 118 rfl
        have q120 : a.tmps[120]?.getD undef = .int .i64 ((k : Nat) : Int) := hV ⟨7, .data⟩ (by simp) rfl 120 rfl
        have hk := Lib.hid (fun v (h : v = .pointer (some ⟨g, k * 15, none⟩)) => hK v x0 (fun s hs => by cases hs; exact h) (fun _ _ => rfl) (fun h => absurd h (by decide)) (fun h => absurd h (by decide)))
        clear hsame hV hK hl1 hl2 hw1 hw2
        go_simp
        exact hk.out _ rfl
      · have q121 : a.tmps[121]?.getD undef = .pointer (some ⟨g, k * 15, none⟩) := hV ⟨8, .data⟩ (by simp) rfl 121 rfl
        have e0 := hl1 rfl
        refine wp_load_mid 29 (.tmp 121) rfl g (k * 15) (eval_at q121) CY.toList _ (by rw [e0]; exact ZrY.out) Tryd.underlying29 rfl Zi2.out ?_
        exact hK _ x0 (fun s hs => by cases hs; rfl) (fun _ _ => rfl) (fun h => absurd h (by decide)) (fun h => absurd h (by decide))
      · have q0 : a.tmps[0]?.getD undef = .slice (some ⟨g, 0, none⟩) n0 cap := (hsame 0 (slot_free (by decide +kernel))).trans f0
        have hk := Lib.hid (fun v (h : v = .slice (some ⟨g, 0, none⟩) n0 cap) => hK v x0 (fun s hs => by cases hs; exact h) (fun _ _ => rfl) (fun h => absurd h (by decide)) (fun h => absurd h (by decide)))
        clear hsame hV hK hl1 hl2 hw1 hw2
        go_simp
        exact hk.out _ rfl
      · have q17 : a.tmps[17]?.getD undef = .int .i64 ((k1 : Nat) : Int) := (hsame 17 (slot_free (by decide +kernel))).trans f17
        have hk := Lib.hid (fun v (h : v = .int .i64 ((k1 : Nat) : Int)) => hK v x0 (fun s hs => by cases hs; exact h) (fun _ _ => rfl) (fun h => absurd h (by decide)) (fun h => absurd h (by decide)))
        clear hsame hV hK hl1 hl2 hw1 hw2
        go_simp
        exact hk.out _ rfl
      · have q123 : a.tmps[123]?.getD undef = .slice (some ⟨g, 0, none⟩) n0 cap := hV ⟨10, .data⟩ (by simp) rfl 123 rfl
        have q124 : a.tmps[124]?.getD undef = .int .i64 ((k1 : Nat) : Int) := hV ⟨11, .data⟩ (by simp) rfl 124 rfl
        have hk := Lib.hid (fun v (h : v = .pointer (some ⟨g, k1 * 15, none⟩)) => hK v x0 (fun s hs => by cases hs; exact h) (fun _ _ => rfl) (fun h => absurd h (by decide)) (fun h => absurd h (by decide)))
        clear hsame hV hK hl1 hl2 hw1 hw2
        go_simp
        exact hk.out _ rfl
      · have q125 : a.tmps[125]?.getD undef = .pointer (some ⟨g, k1 * 15, none⟩) := hV ⟨12, .data⟩ (by simp) rfl 125 rfl
        have e0 := hl2 rfl
        refine wp_load_mid 29 (.tmp 125) rfl g (k1 * 15) (eval_at q125) CX.toList _ (by rw [e0]; exact ZrX.out) Tryd.underlying29 rfl Zi1.out ?_
        exact hK _ x0 (fun s hs => by cases hs; rfl) (fun _ _ => rfl) (fun h => absurd h (by decide)) (fun h => absurd h (by decide))
      · have q113 : a.tmps[113]?.getD undef = .slice (some ⟨g, 0, none⟩) n0 cap := hV ⟨0, .data⟩ (by simp) rfl 113 rfl
        have q114 : a.tmps[114]?.getD undef = .int .i64 ((k1 : Nat) : Int) := hV ⟨1, .data⟩ (by simp) rfl 114 rfl
        have hk := Lib.hid (fun v (h : v = .pointer (some ⟨g, k1 * 15, none⟩)) => hK v x0 (fun s hs => by cases hs; exact h) (fun _ _ => rfl) (fun h => absurd h (by decide)) (fun h => absurd h (by decide)))
        clear hsame hV hK hl1 hl2 hw1 hw2
        go_simp
        exact hk.out _ rfl
      · have q127 : a.tmps[127]?.getD undef = .pointer (some ⟨g, k1 * 15, none⟩) := hV ⟨14, .data⟩ (by simp) rfl 127 rfl
        have q122 : a.tmps[122]?.getD undef = .agg CY := hV ⟨9, .data⟩ (by simp) rfl 122 rfl
        have e0 := hw1 rfl
        refine wp_store_mid 29 (.tmp 127) (.tmp 122) rfl g (k1 * 15) CY (eval_at q127) (eval_at q122) (by rw [e0]; exact ZtX.out) Zi4.out Zc2.out ?_
        exact hK _ _ (fun s hs => by cases hs) (fun h => absurd rfl h) (fun _ => by rw [e0]; exact ZW1.out.symm) (fun h => absurd h (by decide))
      · have q115 : a.tmps[115]?.getD undef = .slice (some ⟨g, 0, none⟩) n0 cap := hV ⟨2, .data⟩ (by simp) rfl 115 rfl
        have q117 : a.tmps[117]?.getD undef = .int .i64 ((k : Nat) : Int) := hV ⟨4, .data⟩ (by simp) rfl 117 rfl
        have hk := Lib.hid (fun v (h : v = .pointer (some ⟨g, k * 15, none⟩)) => hK v x0 (fun s hs => by cases hs; exact h) (fun _ _ => rfl) (fun h => absurd h (by decide)) (fun h => absurd h (by decide)))
        clear hsame hV hK hl1 hl2 hw1 hw2
        go_simp
        exact hk.out _ rfl
      · have q128 : a.tmps[128]?.getD undef = .pointer (some ⟨g, k * 15, none⟩) := hV ⟨16, .data⟩ (by simp) rfl 128 rfl
        have q126 : a.tmps[126]?.getD undef = .agg CX := hV ⟨13, .data⟩ (by simp) rfl 126 rfl
        have e0 := hw2 rfl
        refine wp_store_mid 29 (.tmp 128) (.tmp 126) rfl g (k * 15) CX (eval_at q128) (eval_at q126) (by rw [e0]; exact ZtY.out) Zi3.out Zc1.out ?_
        exact hK _ _ (fun s hs => by cases hs) (fun _ h => absurd rfl h) (fun h => absurd h (by decide)) (fun _ => by rw [e0]; exact ZW2.out.symm)
    intro a43 hsame hV hsz43 hde43
    replace f0 := (hsame 0 (slot_free (by decide +kernel))).trans f0
    replace f14 := (hsame 14 (slot_free (by decide +kernel))).trans f14
    replace f17 := (hsame 17 (slot_free (by decide +kernel))).trans f17
    have hsz43h := Lib.hid hsz43
    have hde43h := Lib.hid (hde43.trans hde42.out)
    clear hsame hV hsz43 hde43 hsz42 hde42 ZW1 ZW2 ZrX ZrY ZtX ZtY Zi1 Zi2 Zi3 Zi4 Zc1 Zc2
    refine block_go ?_
    refine then_go ?_
    repeat with_reducible refine wp_seq ?_
    refine wp_region_lit ?_
    refine wpList_next rfl hsz43h hde43h 111 rfl (by decide) fun K hK => ?_
    go_simp
    refine hK _ _ fun a44 hsz44 hde44 f111 hk => ?_
    clear hK K
    replace f0 := (hk 0 (by decide)).trans f0
    replace f14 := (hk 14 (by decide)).trans f14
    replace f17 := (hk 17 (by decide)).trans f17
    replace f111 : a44.tmps[111]?.getD undef = .int .i64 ((k1 : Nat) : Int) := f111
    clear hk hsz43h hde43h
    refine wpList_next rfl hsz44 hde44 112 rfl (by decide) fun K hK => ?_
    go_simp
    refine hK _ _ fun a45 hsz45 hde45 f112 hk => ?_
    clear hK K
    replace f0 := (hk 0 (by decide)).trans f0
    replace f14 := (hk 14 (by decide)).trans f14
    replace f17 := (hk 17 (by decide)).trans f17
    clear hk hsz44 hde44 f111
    replace f112 : a45.tmps[112]?.getD undef = .int .i64 (((p + c0 : Nat) : Int)) := f112.trans (by have h7 := Hkk.out; have h8 := Hke.out; first | (congr 1; done) | (congr 1; omega) | (congr 1; rw [IntKind.wrap_i64] <;> omega))
    refine wpList_next rfl hsz45 hde45 17 rfl (by decide) fun K hK => ?_
    go_simp
    refine hK _ _ fun a46 hsz46 hde46 f17 hk => ?_
    clear hK K
    replace f0 := (hk 0 (by decide)).trans f0
    replace f14 := (hk 14 (by decide)).trans f14
    replace f17 : a46.tmps[17]?.getD undef = .int .i64 ((p + c0 : Nat) : Int) := f17
    clear hk hsz45 hde45 f112
    refine wpList_nil ?_
    refine then_go ?_
    have hown9 := Zown2.out
    rw [Hsw.out] at hown9
    exact ⟨p + c0 - i1, by rw [Hn4.out]; have := Hk1.out; have := Hc0.out; omega, c0, hsz46, hde46, f0, f14, f17, Lib.hid (by have := Hkk.out; have := Hke.out; omega), Lib.hid hown9, Lib.hid (Hbw.out.trans Zbl2.out), rfl⟩
  refine wp_region_lit ?_
  refine wpList_next rfl hsz39 hde39 108 rfl (by decide) fun K hK => ?_
  go_simp
  refine hK _ _ fun a40 hsz40 hde40 f108 hk => ?_
  clear hK K
  replace f0 := (hk 0 (by decide)).trans f0
  replace f14 := (hk 14 (by decide)).trans f14
  replace f17 := (hk 17 (by decide)).trans f17
  replace f108 : a40.tmps[108]?.getD undef = .int .i64 ((k1 : Nat) : Int) := f108
  clear hk hsz39 hde39
  refine wpList_next rfl hsz40 hde40 109 rfl (by decide) fun K hK => ?_
  go_simp
  refine hK _ _ fun a41 hsz41 hde41 f109 hk => ?_
  clear hK K
  replace f0 := (hk 0 (by decide)).trans f0
  replace f14 := (hk 14 (by decide)).trans f14
  replace f17 := (hk 17 (by decide)).trans f17
  replace f108 := (hk 108 (by decide)).trans f108
  replace f109 : a41.tmps[109]?.getD undef = .int .i64 ((i1 : Nat) : Int) := f109
  clear hk hsz40 hde40
  refine wpList_next rfl hsz41 hde41 110 rfl (by decide) fun K hK => ?_
  go_simp
  refine hK _ _ fun a42 hsz42 hde42 f110 hk => ?_
  clear hK K
  replace f0 := (hk 0 (by decide)).trans f0
  replace f14 := (hk 14 (by decide)).trans f14
  replace f17 := (hk 17 (by decide)).trans f17
  clear hk hsz41 hde41 f108 f109
  replace f110 : a42.tmps[110]?.getD undef = .bool false := f110.trans (by first | rfl | (congr 1; first | exact decide_eq_true (by omega) | exact decide_eq_false (by omega)) | (simp; omega))
  refine wpList_nil ?_
  refine then_go ?_
  repeat with_reducible refine wp_seq ?_
  refine wp_cond_false (eval_at f110) ?_
  refine wp_exit ?_
  repeat with_reducible refine then_exit ?_
  refine block_exit ?_
  repeat first | with_reducible refine block_go ?_ | with_reducible refine then_go ?_
  refine wp_ret ?_
  repeat first | with_reducible refine then_ret ?_ | with_reducible refine block_ret ?_
  have hci : c = i := by have := Hi1.out; have := Hk1.out; omega
  subst hci
  refine ret_none Tryd.results73 hde42 ⟨rfl, ⟨A.take c ++ Y :: A.drop c, by simpa using Hown.out, ?_, Hsrt.out⟩, Hbw.out⟩
  refine List.perm_middle.trans ?_
  rw [List.take_append_drop]
  exact (List.perm_append_comm (l₁ := [Y]) (l₂ := A))

theorem rot_sym {P A B S : List Ent} {p m st en i j : Nat} (hp : p = P.length) (hm : m = p + A.length) (hst : st = p + i) (hen : en = m + j) (hi : i ≤ A.length) (hj : j ≤ B.length) : rotL (P ++ (A ++ (B ++ S))) st m en = P ++ (A.take i ++ (B.take j ++ (A.drop i ++ (B.drop j ++ S)))) := by
  have e : P ++ (A ++ (B ++ S)) = (P ++ A.take i) ++ (A.drop i ++ (B.take j ++ (B.drop j ++ S))) := by
    have e1 : B.take j ++ (B.drop j ++ S) = B ++ S := by rw [← List.append_assoc, List.take_append_drop]
    rw [e1, List.append_assoc, ← List.append_assoc (A.take i), List.take_append_drop]
  have h1 : st = (P ++ A.take i).length := by rw [List.length_append, List.length_take, hst, hp]; omega
  have h2 : m = (P ++ A.take i).length + (A.drop i).length := by rw [← h1, List.length_drop, hm, hst]; omega
  have h3 : en = (P ++ A.take i).length + (A.drop i).length + (B.take j).length := by rw [← h2, List.length_take, hen]; omega
  rw [e, h3, h2, h1, rotL_parts, List.append_assoc]
theorem rot_none {P A B S : List Ent} {i j : Nat} (h : A.length ≤ i ∨ j = 0) : P ++ (A ++ (B ++ S)) = P ++ (A.take i ++ (B.take j ++ (A.drop i ++ (B.drop j ++ S)))) := by
  rcases h with h | rfl
  · rw [List.take_of_length_le h, List.drop_of_length_le h, List.nil_append, ← List.append_assoc (B.take j), List.take_append_drop]
  · rw [List.take_zero, List.drop_zero, List.nil_append, ← List.append_assoc (A.take i), List.take_append_drop]
theorem sym_end {A B C1 C2 : List Ent} {i j : Nat} (p1 : C1.Perm (A.take i ++ B.take j)) (p2 : C2.Perm (A.drop i ++ B.drop j)) (s1 : C1.Pairwise ltE) (s2 : C2.Pairwise ltE) (hc : ∀ x ∈ A.take i ++ B.take j, ∀ y ∈ A.drop i ++ B.drop j, ltE x y) : (C1 ++ C2).Perm (A ++ B) ∧ (C1 ++ C2).Pairwise ltE := by
  refine ⟨?_, List.pairwise_append.2 ⟨s1, s2, fun x hx y hy => hc x (p1.mem_iff.1 hx) y (p2.mem_iff.1 hy)⟩⟩
  refine (p1.append p2).trans ?_
  rw [List.append_assoc]
  have e : (B.take j ++ (A.drop i ++ B.drop j)).Perm (A.drop i ++ B) := by
    rw [← List.append_assoc]
    refine (List.Perm.append_right _ List.perm_append_comm).trans ?_
    rw [List.append_assoc, List.take_append_drop]
  refine (List.Perm.append_left _ e).trans ?_
  rw [← List.append_assoc, List.take_append_drop]
theorem pair_take {A : List Ent} (h : A.Pairwise ltE) (i : Nat) : (A.take i).Pairwise ltE := h.sublist (List.take_sublist _ _)
theorem pair_drop {A : List Ent} (h : A.Pairwise ltE) (i : Nat) : (A.drop i).Pairwise ltE := h.sublist (List.drop_sublist _ _)
def S3Inv (w : World) (base : Nat) (v : Value) (P A B S : List Ent) (p m q mid nn pp d i0 r0 : Nat) (k9 : Nat) (a : Act) (x : World) : Prop :=
  ∃ (i j : Nat), Hid (a.tmps.size = 220) ∧ Hid (a.defers = []) ∧ a.tmps[0]?.getD undef = v ∧ a.tmps[1]?.getD undef = .int .i64 ((p : Nat) : Int) ∧ a.tmps[2]?.getD undef = .int .i64 ((m : Nat) : Int) ∧ a.tmps[3]?.getD undef = .int .i64 ((q : Nat) : Int) ∧ a.tmps[4]?.getD undef = .func (.func 49) #[] #[] ∧ a.tmps[18]?.getD undef = .int .i64 ((mid : Nat) : Int) ∧ a.tmps[19]?.getD undef = .int .i64 ((nn : Nat) : Int) ∧ a.tmps[20]?.getD undef = .int .i64 ((p + i : Nat) : Int) ∧ a.tmps[21]?.getD undef = .int .i64 ((p + j : Nat) : Int) ∧ a.tmps[22]?.getD undef = .int .i64 ((pp : Nat) : Int) ∧ Hid (i0 ≤ i ∧ i ≤ j ∧ j ≤ r0) ∧ Hid (∀ (h : i - 1 < A.length) (h2 : d - i < B.length), 0 < i → nlt B[d - i] A[i - 1] = false) ∧ Hid (∀ (h : j < A.length) (h2 : d - j - 1 < B.length), 0 < d - j → nlt B[d - j - 1] A[j] = true) ∧ Hid (OwnE x base v (P ++ (A ++ (B ++ S)))) ∧ Hid (Below base w x) ∧ k9 = j - i

set_option maxHeartbeats 8000000 in
theorem sym_more (base : Nat) (v : Value) (P A B S : List Ent) (p m q : Nat) (w : World) (h : SymPre w base v P A B S p m q) (h1 : A.length ≠ 1) (h2 : B.length ≠ 1) (IH : ∀ (P2 A2 B2 S2 : List Ent) (p2 m2 q2 : Nat) (w2 : World), A2.length + B2.length < A.length + B.length → SymPre w2 base v P2 A2 B2 S2 p2 m2 q2 → Calls Tryd.prog 73 #[v, .int .i64 ((p2 : Nat) : Int), .int .i64 ((m2 : Nat) : Int), .int .i64 ((q2 : Nat) : Int), .func (.func 49) #[] #[]] w2 (SymPost base v P2 A2 B2 S2 w2)) :
    Calls Tryd.prog 73 #[v, .int .i64 ((p : Nat) : Int), .int .i64 ((m : Nat) : Int), .int .i64 ((q : Nat) : Int), .func (.func 49) #[] #[]] w (SymPost base v P A B S w) := by
  have Hown0 := Lib.hid h.own
  have HA := Lib.hid h.a
  have HB := Lib.hid h.b
  have HAB := Lib.hid h.ab
  have Hb := Lib.hid h.base_
  have Hp := Lib.hid h.p_
  have Hm := Lib.hid h.m_
  have Hq := Lib.hid h.q_
  have hna := h.na
  have hnb := h.nb
  have hlen : p ≤ 1000 ∧ m ≤ 1000 ∧ q ≤ 1000 := by have := h.len; have := h.m_; have := h.q_; omega
  have hmq : p < m ∧ m < q := by have := h.m_; have := h.q_; omega
  obtain ⟨n0, hn0⟩ : ∃ n0, n0 = (P ++ (A ++ (B ++ S))).length := ⟨_, rfl⟩
  have hnq : n0 = q + S.length := by rw [hn0, h.q_, h.m_, h.p_]; simp; omega
  have hqn : q ≤ n0 := by omega
  have hn1 : n0 ≤ 1000 := by have := h.len; omega
  have Hn0 := Lib.hid (show ∀ M : List Ent, M.Perm (P ++ (A ++ (B ++ S))) → n0 = M.length from fun M hM => by rw [hn0, hM.length_eq])
  obtain ⟨g, cap, hv, h71, h72, h73, h74, h75, h76⟩ := h.own.elem (k := 0) (by rw [← hn0]; omega)
  clear h71 h72 h73 h74 h75 h76
  subst hv
  rw [← hn0] at Hown0 IH ⊢
  clear hnq hn0 h
  have HIH := Lib.hid IH
  clear IH
  go_enter Tryd.func73, Tryd.ntmps73
  refine enter_abs (N := 220) rfl rfl fun a0 hsz0 hde0 hk => ?_
  have f0 : a0.tmps[0]?.getD undef = .slice (some ⟨g, 0, none⟩) n0 cap := hk 0
  have f1 : a0.tmps[1]?.getD undef = .int .i64 ((p : Nat) : Int) := hk 1
  have f2 : a0.tmps[2]?.getD undef = .int .i64 ((m : Nat) : Int) := hk 2
  have f3 : a0.tmps[3]?.getD undef = .int .i64 ((q : Nat) : Int) := hk 3
  have f4 : a0.tmps[4]?.getD undef = .func (.func 49) #[] #[] := hk 4
  clear hk
  repeat with_reducible refine wp_seq ?_
  have hpm2 : p + 1 < m := by have := Hm.out; omega
  have hmq2 : m + 1 < q := by have := Hq.out; omega
  refine wp_region_lit ?_
  refine wpList_next rfl hsz0 hde0 25 rfl (by decide) fun K hK => ?_
  go_simp
  refine hK _ _ fun a1 hsz1 hde1 f25 hk => ?_
  clear hK K
  replace f0 := (hk 0 (by decide)).trans f0
  replace f1 := (hk 1 (by decide)).trans f1
  replace f2 := (hk 2 (by decide)).trans f2
  replace f3 := (hk 3 (by decide)).trans f3
  replace f4 := (hk 4 (by decide)).trans f4
  replace f25 : a1.tmps[25]?.getD undef = .int .i64 ((m : Nat) : Int) := f25
  clear hk hsz0 hde0
  refine wpList_next rfl hsz1 hde1 26 rfl (by decide) fun K hK => ?_
  go_simp
  refine hK _ _ fun a2 hsz2 hde2 f26 hk => ?_
  clear hK K
  replace f0 := (hk 0 (by decide)).trans f0
  replace f1 := (hk 1 (by decide)).trans f1
  replace f2 := (hk 2 (by decide)).trans f2
  replace f3 := (hk 3 (by decide)).trans f3
  replace f4 := (hk 4 (by decide)).trans f4
  replace f25 := (hk 25 (by decide)).trans f25
  replace f26 : a2.tmps[26]?.getD undef = .int .i64 ((p : Nat) : Int) := f26
  clear hk hsz1 hde1
  refine wpList_next rfl hsz2 hde2 27 rfl (by decide) fun K hK => ?_
  go_simp
  refine hK _ _ fun a3 hsz3 hde3 f27 hk => ?_
  clear hK K
  replace f0 := (hk 0 (by decide)).trans f0
  replace f1 := (hk 1 (by decide)).trans f1
  replace f2 := (hk 2 (by decide)).trans f2
  replace f3 := (hk 3 (by decide)).trans f3
  replace f4 := (hk 4 (by decide)).trans f4
  clear hk hsz2 hde2 f25 f26
  replace f27 : a3.tmps[27]?.getD undef = .int .i64 (((m - p : Nat) : Int)) := f27.trans (by first | rfl | (congr 1; done) | (congr 1; omega) | (congr 1; rw [IntKind.wrap_i64] <;> omega))
  refine wpList_next rfl hsz3 hde3 28 rfl (by decide) fun K hK => ?_
  go_simp
  refine hK _ _ fun a4 hsz4 hde4 f28 hk => ?_
  clear hK K
  replace f0 := (hk 0 (by decide)).trans f0
  replace f1 := (hk 1 (by decide)).trans f1
  replace f2 := (hk 2 (by decide)).trans f2
  replace f3 := (hk 3 (by decide)).trans f3
  replace f4 := (hk 4 (by decide)).trans f4
  clear hk hsz3 hde3 f27
  replace f28 : a4.tmps[28]?.getD undef = .bool false := f28.trans (by first | rfl | (congr 1; first | exact decide_eq_false (by omega) | exact beq_eq_false_iff_ne.2 (by omega)) | (simp; omega))
  refine wpList_nil ?_
  refine then_go ?_
  repeat with_reducible refine wp_seq ?_
  refine wp_cond_false (eval_at f28) ?_
  refine wp_skip ?_
  refine then_go ?_
  clear f28
  repeat with_reducible refine wp_seq ?_
  refine wp_region_lit ?_
  refine wpList_next rfl hsz4 hde4 77 rfl (by decide) fun K hK => ?_
  go_simp
  refine hK _ _ fun a5 hsz5 hde5 f77 hk => ?_
  clear hK K
  replace f0 := (hk 0 (by decide)).trans f0
  replace f1 := (hk 1 (by decide)).trans f1
  replace f2 := (hk 2 (by decide)).trans f2
  replace f3 := (hk 3 (by decide)).trans f3
  replace f4 := (hk 4 (by decide)).trans f4
  replace f77 : a5.tmps[77]?.getD undef = .int .i64 ((q : Nat) : Int) := f77
  clear hk hsz4 hde4
  refine wpList_next rfl hsz5 hde5 78 rfl (by decide) fun K hK => ?_
  go_simp
  refine hK _ _ fun a6 hsz6 hde6 f78 hk => ?_
  clear hK K
  replace f0 := (hk 0 (by decide)).trans f0
  replace f1 := (hk 1 (by decide)).trans f1
  replace f2 := (hk 2 (by decide)).trans f2
  replace f3 := (hk 3 (by decide)).trans f3
  replace f4 := (hk 4 (by decide)).trans f4
  replace f77 := (hk 77 (by decide)).trans f77
  replace f78 : a6.tmps[78]?.getD undef = .int .i64 ((m : Nat) : Int) := f78
  clear hk hsz5 hde5
  refine wpList_next rfl hsz6 hde6 79 rfl (by decide) fun K hK => ?_
  go_simp
  refine hK _ _ fun a7 hsz7 hde7 f79 hk => ?_
  clear hK K
  replace f0 := (hk 0 (by decide)).trans f0
  replace f1 := (hk 1 (by decide)).trans f1
  replace f2 := (hk 2 (by decide)).trans f2
  replace f3 := (hk 3 (by decide)).trans f3
  replace f4 := (hk 4 (by decide)).trans f4
  clear hk hsz6 hde6 f77 f78
  replace f79 : a7.tmps[79]?.getD undef = .int .i64 (((q - m : Nat) : Int)) := f79.trans (by first | rfl | (congr 1; done) | (congr 1; omega) | (congr 1; rw [IntKind.wrap_i64] <;> omega))
  refine wpList_next rfl hsz7 hde7 80 rfl (by decide) fun K hK => ?_
  go_simp
  refine hK _ _ fun a8 hsz8 hde8 f80 hk => ?_
  clear hK K
  replace f0 := (hk 0 (by decide)).trans f0
  replace f1 := (hk 1 (by decide)).trans f1
  replace f2 := (hk 2 (by decide)).trans f2
  replace f3 := (hk 3 (by decide)).trans f3
  replace f4 := (hk 4 (by decide)).trans f4
  clear hk hsz7 hde7 f79
  replace f80 : a8.tmps[80]?.getD undef = .bool false := f80.trans (by first | rfl | (congr 1; first | exact decide_eq_false (by omega) | exact beq_eq_false_iff_ne.2 (by omega)) | (simp; omega))
  refine wpList_nil ?_
  refine then_go ?_
  repeat with_reducible refine wp_seq ?_
  refine wp_cond_false (eval_at f80) ?_
  refine wp_skip ?_
  refine then_go ?_
  clear f80
  repeat with_reducible refine wp_seq ?_
  obtain ⟨s1, hs1⟩ : ∃ s1, s1 = p + q := ⟨_, rfl⟩
  obtain ⟨hh, hhh⟩ : ∃ hh, hh = s1 / 2 := ⟨_, rfl⟩
  have hsb : s1 ≤ 2000 := by omega
  have hhb : hh ≤ 1000 := by omega
  have Hs1 := Lib.hid hs1
  have Hhh := Lib.hid hhh
  clear hs1 hhh
  refine wp_region_lit ?_
  refine wpList_next rfl hsz8 hde8 129 rfl (by decide) fun K hK => ?_
  go_simp
  refine hK _ _ fun a9 hsz9 hde9 f129 hk => ?_
  clear hK K
  replace f0 := (hk 0 (by decide)).trans f0
  replace f1 := (hk 1 (by decide)).trans f1
  replace f2 := (hk 2 (by decide)).trans f2
  replace f3 := (hk 3 (by decide)).trans f3
  replace f4 := (hk 4 (by decide)).trans f4
  replace f129 : a9.tmps[129]?.getD undef = .int .i64 ((p : Nat) : Int) := f129
  clear hk hsz8 hde8
  refine wpList_next rfl hsz9 hde9 130 rfl (by decide) fun K hK => ?_
  go_simp
  refine hK _ _ fun a10 hsz10 hde10 f130 hk => ?_
  clear hK K
  replace f0 := (hk 0 (by decide)).trans f0
  replace f1 := (hk 1 (by decide)).trans f1
  replace f2 := (hk 2 (by decide)).trans f2
  replace f3 := (hk 3 (by decide)).trans f3
  replace f4 := (hk 4 (by decide)).trans f4
  replace f129 := (hk 129 (by decide)).trans f129
  replace f130 : a10.tmps[130]?.getD undef = .int .i64 ((q : Nat) : Int) := f130
  clear hk hsz9 hde9
  refine wpList_next rfl hsz10 hde10 131 rfl (by decide) fun K hK => ?_
  go_simp
  refine hK _ _ fun a11 hsz11 hde11 f131 hk => ?_
  clear hK K
  replace f0 := (hk 0 (by decide)).trans f0
  replace f1 := (hk 1 (by decide)).trans f1
  replace f2 := (hk 2 (by decide)).trans f2
  replace f3 := (hk 3 (by decide)).trans f3
  replace f4 := (hk 4 (by decide)).trans f4
  clear hk hsz10 hde10 f129 f130
  replace f131 : a11.tmps[131]?.getD undef = .int .i64 ((s1 : Nat) : Int) := f131.trans (by have h7 := Hs1.out; first | (congr 1; done) | (congr 1; omega) | (congr 1; simp; done) | (congr 1; simp; omega) | (congr 1; rw [IntKind.wrap_u64] <;> omega) | (congr 1; rw [IntKind.wrap_i64] <;> omega))
  refine wpList_next rfl hsz11 hde11 132 rfl (by decide) fun K hK => ?_
  go_simp
  refine hK _ _ fun a12 hsz12 hde12 f132 hk => ?_
  clear hK K
  replace f0 := (hk 0 (by decide)).trans f0
  replace f1 := (hk 1 (by decide)).trans f1
  replace f2 := (hk 2 (by decide)).trans f2
  replace f3 := (hk 3 (by decide)).trans f3
  replace f4 := (hk 4 (by decide)).trans f4
  clear hk hsz11 hde11 f131
  replace f132 : a12.tmps[132]?.getD undef = .int .u64 ((s1 : Nat) : Int) := f132.trans (by first | (congr 1; done) | (congr 1; omega) | (congr 1; simp; done) | (congr 1; simp; omega) | (congr 1; rw [IntKind.wrap_u64] <;> omega) | (congr 1; rw [IntKind.wrap_i64] <;> omega))
  refine wpList_next rfl hsz12 hde12 133 rfl (by decide) fun K hK => ?_
  go_simp
  refine hK _ _ fun a13 hsz13 hde13 f133 hk => ?_
  clear hK K
  replace f0 := (hk 0 (by decide)).trans f0
  replace f1 := (hk 1 (by decide)).trans f1
  replace f2 := (hk 2 (by decide)).trans f2
  replace f3 := (hk 3 (by decide)).trans f3
  replace f4 := (hk 4 (by decide)).trans f4
  clear hk hsz12 hde12 f132
  replace f133 : a13.tmps[133]?.getD undef = .int .u64 ((hh : Nat) : Int) := f133.trans (by have h7 := Hhh.out; first | (congr 1; done) | (congr 1; omega) | (congr 1; simp; done) | (congr 1; simp; omega) | (congr 1; rw [IntKind.wrap_u64] <;> omega) | (congr 1; rw [IntKind.wrap_i64] <;> omega))
  refine wpList_next rfl hsz13 hde13 134 rfl (by decide) fun K hK => ?_
  go_simp
  refine hK _ _ fun a14 hsz14 hde14 f134 hk => ?_
  clear hK K
  replace f0 := (hk 0 (by decide)).trans f0
  replace f1 := (hk 1 (by decide)).trans f1
  replace f2 := (hk 2 (by decide)).trans f2
  replace f3 := (hk 3 (by decide)).trans f3
  replace f4 := (hk 4 (by decide)).trans f4
  clear hk hsz13 hde13 f133
  replace f134 : a14.tmps[134]?.getD undef = .int .i64 ((hh : Nat) : Int) := f134.trans (by first | (congr 1; done) | (congr 1; omega) | (congr 1; simp; done) | (congr 1; simp; omega) | (congr 1; rw [IntKind.wrap_u64] <;> omega) | (congr 1; rw [IntKind.wrap_i64] <;> omega))
  refine wpList_next rfl hsz14 hde14 18 rfl (by decide) fun K hK => ?_
  go_simp
  refine hK _ _ fun a15 hsz15 hde15 f18 hk => ?_
  clear hK K
  replace f0 := (hk 0 (by decide)).trans f0
  replace f1 := (hk 1 (by decide)).trans f1
  replace f2 := (hk 2 (by decide)).trans f2
  replace f3 := (hk 3 (by decide)).trans f3
  replace f4 := (hk 4 (by decide)).trans f4
  replace f18 : a15.tmps[18]?.getD undef = .int .i64 ((hh : Nat) : Int) := f18
  clear hk hsz14 hde14 f134
  refine wpList_nil ?_
  refine then_go ?_
  repeat with_reducible refine wp_seq ?_
  obtain ⟨mid, hmid⟩ : ∃ mid, mid = hh := ⟨_, rfl⟩
  rw [← hmid] at f18 Hhh
  obtain ⟨d, hd⟩ : ∃ d, d = mid - p := ⟨_, rfl⟩
  have hd1 : mid = p + d ∧ 2 * d ≤ A.length + B.length ∧ A.length + B.length ≤ 2 * d + 1 := by have := Hs1.out; have := Hhh.out; have := Hm.out; have := Hq.out; omega
  have Hd := Lib.hid hd1
  have hmb : mid ≤ 1000 := by omega
  clear hd hd1 hmid hhb Hs1 Hhh hsb
  obtain ⟨nn, hnn⟩ : ∃ nn, nn = mid + m := ⟨_, rfl⟩
  have Hnn := Lib.hid hnn
  have hnb2 : nn ≤ 2000 := by omega
  clear hnn
  refine wp_region_lit ?_
  refine wpList_next rfl hsz15 hde15 135 rfl (by decide) fun K hK => ?_
  go_simp
  refine hK _ _ fun a16 hsz16 hde16 f135 hk => ?_
  clear hK K
  replace f0 := (hk 0 (by decide)).trans f0
  replace f1 := (hk 1 (by decide)).trans f1
  replace f2 := (hk 2 (by decide)).trans f2
  replace f3 := (hk 3 (by decide)).trans f3
  replace f4 := (hk 4 (by decide)).trans f4
  replace f18 := (hk 18 (by decide)).trans f18
  replace f135 : a16.tmps[135]?.getD undef = .int .i64 ((mid : Nat) : Int) := f135
  clear hk hsz15 hde15
  refine wpList_next rfl hsz16 hde16 136 rfl (by decide) fun K hK => ?_
  go_simp
  refine hK _ _ fun a17 hsz17 hde17 f136 hk => ?_
  clear hK K
  replace f0 := (hk 0 (by decide)).trans f0
  replace f1 := (hk 1 (by decide)).trans f1
  replace f2 := (hk 2 (by decide)).trans f2
  replace f3 := (hk 3 (by decide)).trans f3
  replace f4 := (hk 4 (by decide)).trans f4
  replace f18 := (hk 18 (by decide)).trans f18
  replace f135 := (hk 135 (by decide)).trans f135
  replace f136 : a17.tmps[136]?.getD undef = .int .i64 ((m : Nat) : Int) := f136
  clear hk hsz16 hde16
  refine wpList_next rfl hsz17 hde17 137 rfl (by decide) fun K hK => ?_
  go_simp
  refine hK _ _ fun a18 hsz18 hde18 f137 hk => ?_
  clear hK K
  replace f0 := (hk 0 (by decide)).trans f0
  replace f1 := (hk 1 (by decide)).trans f1
  replace f2 := (hk 2 (by decide)).trans f2
  replace f3 := (hk 3 (by decide)).trans f3
  replace f4 := (hk 4 (by decide)).trans f4
  replace f18 := (hk 18 (by decide)).trans f18
  clear hk hsz17 hde17 f135 f136
  replace f137 : a18.tmps[137]?.getD undef = .int .i64 (((nn : Nat) : Int)) := f137.trans (by have h7 := Hnn.out; first | rfl | (congr 1; done) | (congr 1; omega) | (congr 1; rw [IntKind.wrap_i64] <;> omega))
  refine wpList_next rfl hsz18 hde18 19 rfl (by decide) fun K hK => ?_
  go_simp
  refine hK _ _ fun a19 hsz19 hde19 f19 hk => ?_
  clear hK K
  replace f0 := (hk 0 (by decide)).trans f0
  replace f1 := (hk 1 (by decide)).trans f1
  replace f2 := (hk 2 (by decide)).trans f2
  replace f3 := (hk 3 (by decide)).trans f3
  replace f4 := (hk 4 (by decide)).trans f4
  replace f18 := (hk 18 (by decide)).trans f18
  replace f19 : a19.tmps[19]?.getD undef = .int .i64 ((nn : Nat) : Int) := f19
  clear hk hsz18 hde18 f137
  refine wpList_nil ?_
  refine then_go ?_
  repeat with_reducible refine wp_seq ?_
  refine wp_region_lit ?_
  refine wpList_next rfl hsz19 hde19 20 rfl (by decide) fun K hK => ?_
  go_simp
  refine hK _ _ fun a20 hsz20 hde20 f20 hk => ?_
  clear hK K
  replace f0 := (hk 0 (by decide)).trans f0
  replace f1 := (hk 1 (by decide)).trans f1
  replace f2 := (hk 2 (by decide)).trans f2
  replace f3 := (hk 3 (by decide)).trans f3
  replace f4 := (hk 4 (by decide)).trans f4
  replace f18 := (hk 18 (by decide)).trans f18
  replace f19 := (hk 19 (by decide)).trans f19
  replace f20 : a20.tmps[20]?.getD undef = .int .i64 0 := f20
  clear hk hsz19 hde19
  refine wpList_next rfl hsz20 hde20 21 rfl (by decide) fun K hK => ?_
  go_simp
  refine hK _ _ fun a21 hsz21 hde21 f21 hk => ?_
  clear hK K
  replace f0 := (hk 0 (by decide)).trans f0
  replace f1 := (hk 1 (by decide)).trans f1
  replace f2 := (hk 2 (by decide)).trans f2
  replace f3 := (hk 3 (by decide)).trans f3
  replace f4 := (hk 4 (by decide)).trans f4
  replace f18 := (hk 18 (by decide)).trans f18
  replace f19 := (hk 19 (by decide)).trans f19
  replace f20 := (hk 20 (by decide)).trans f20
  replace f21 : a21.tmps[21]?.getD undef = .int .i64 0 := f21
  clear hk hsz20 hde20
  refine wpList_nil ?_
  clear f20 f21
  refine then_go ?_
  repeat with_reducible refine wp_seq ?_
  obtain ⟨bg, hbg⟩ : ∃ bg, bg = decide (mid < m) := ⟨_, rfl⟩
  have Hbg := Lib.hid hbg
  clear hbg
  refine wp_region_lit ?_
  refine wpList_next rfl hsz21 hde21 138 rfl (by decide) fun K hK => ?_
  go_simp
  refine hK _ _ fun a22 hsz22 hde22 f138 hk => ?_
  clear hK K
  replace f0 := (hk 0 (by decide)).trans f0
  replace f1 := (hk 1 (by decide)).trans f1
  replace f2 := (hk 2 (by decide)).trans f2
  replace f3 := (hk 3 (by decide)).trans f3
  replace f4 := (hk 4 (by decide)).trans f4
  replace f18 := (hk 18 (by decide)).trans f18
  replace f19 := (hk 19 (by decide)).trans f19
  replace f138 : a22.tmps[138]?.getD undef = .int .i64 ((m : Nat) : Int) := f138
  clear hk hsz21 hde21
  refine wpList_next rfl hsz22 hde22 139 rfl (by decide) fun K hK => ?_
  go_simp
  refine hK _ _ fun a23 hsz23 hde23 f139 hk => ?_
  clear hK K
  replace f0 := (hk 0 (by decide)).trans f0
  replace f1 := (hk 1 (by decide)).trans f1
  replace f2 := (hk 2 (by decide)).trans f2
  replace f3 := (hk 3 (by decide)).trans f3
  replace f4 := (hk 4 (by decide)).trans f4
  replace f18 := (hk 18 (by decide)).trans f18
  replace f19 := (hk 19 (by decide)).trans f19
  replace f138 := (hk 138 (by decide)).trans f138
  replace f139 : a23.tmps[139]?.getD undef = .int .i64 ((mid : Nat) : Int) := f139
  clear hk hsz22 hde22
  refine wpList_next rfl hsz23 hde23 140 rfl (by decide) fun K hK => ?_
  go_simp
  refine hK _ _ fun a24 hsz24 hde24 f140 hk => ?_
  clear hK K
  replace f0 := (hk 0 (by decide)).trans f0
  replace f1 := (hk 1 (by decide)).trans f1
  replace f2 := (hk 2 (by decide)).trans f2
  replace f3 := (hk 3 (by decide)).trans f3
  replace f4 := (hk 4 (by decide)).trans f4
  replace f18 := (hk 18 (by decide)).trans f18
  replace f19 := (hk 19 (by decide)).trans f19
  clear hk hsz23 hde23 f138 f139
  replace f140 : a24.tmps[140]?.getD undef = .bool bg := f140.trans (by have h7 := Hbg.out; first | (rw [h7]; done) | (rw [h7]; congr 1; apply Bool.eq_iff_iff.2; simp; done) | (rw [h7]; congr 1; apply Bool.eq_iff_iff.2; simp; omega))
  refine wpList_nil ?_
  refine then_go ?_
  repeat with_reducible refine wp_seq ?_
  refine wp_cut0 (fun a9 x9 => ∃ i0 r0 : Nat, Hid (a9.tmps.size = 220) ∧ Hid (a9.defers = []) ∧ a9.tmps[0]?.getD undef = .slice (some ⟨g, 0, none⟩) n0 cap ∧ a9.tmps[1]?.getD undef = .int .i64 ((p : Nat) : Int) ∧ a9.tmps[2]?.getD undef = .int .i64 ((m : Nat) : Int) ∧ a9.tmps[3]?.getD undef = .int .i64 ((q : Nat) : Int) ∧ a9.tmps[4]?.getD undef = .func (.func 49) #[] #[] ∧ a9.tmps[18]?.getD undef = .int .i64 ((mid : Nat) : Int) ∧ a9.tmps[19]?.getD undef = .int .i64 ((nn : Nat) : Int) ∧ a9.tmps[20]?.getD undef = .int .i64 ((p + i0 : Nat) : Int) ∧ a9.tmps[21]?.getD undef = .int .i64 ((p + r0 : Nat) : Int) ∧ Hid (i0 ≤ r0 ∧ r0 ≤ A.length ∧ r0 ≤ d ∧ d ≤ i0 + B.length ∧ (i0 = 0 ∨ d - i0 = B.length) ∧ (r0 = A.length ∨ r0 = d)) ∧ x9 = w) ?_ ?_
  · cases bg with
    | true =>
      refine wp_cond_true (eval_at f140) ?_
      clear f140
      have hgt : mid < m := of_decide_eq_true Hbg.out.symm
      have hnq : q ≤ nn := by have := Hnn.out; have := Hd.out; have := Hm.out; have := Hq.out; omega
      repeat with_reducible refine wp_seq ?_
      refine wp_region_lit ?_
      refine wpList_next rfl hsz24 hde24 141 rfl (by decide) fun K hK => ?_
      go_simp
      refine hK _ _ fun a25 hsz25 hde25 f141 hk => ?_
      clear hK K
      replace f0 := (hk 0 (by decide)).trans f0
      replace f1 := (hk 1 (by decide)).trans f1
      replace f2 := (hk 2 (by decide)).trans f2
      replace f3 := (hk 3 (by decide)).trans f3
      replace f4 := (hk 4 (by decide)).trans f4
      replace f18 := (hk 18 (by decide)).trans f18
      replace f19 := (hk 19 (by decide)).trans f19
      replace f141 : a25.tmps[141]?.getD undef = .int .i64 ((nn : Nat) : Int) := f141
      clear hk hsz24 hde24
      refine wpList_next rfl hsz25 hde25 142 rfl (by decide) fun K hK => ?_
      go_simp
      refine hK _ _ fun a26 hsz26 hde26 f142 hk => ?_
      clear hK K
      replace f0 := (hk 0 (by decide)).trans f0
      replace f1 := (hk 1 (by decide)).trans f1
      replace f2 := (hk 2 (by decide)).trans f2
      replace f3 := (hk 3 (by decide)).trans f3
      replace f4 := (hk 4 (by decide)).trans f4
      replace f18 := (hk 18 (by decide)).trans f18
      replace f19 := (hk 19 (by decide)).trans f19
      replace f141 := (hk 141 (by decide)).trans f141
      replace f142 : a26.tmps[142]?.getD undef = .int .i64 ((q : Nat) : Int) := f142
      clear hk hsz25 hde25
      refine wpList_next rfl hsz26 hde26 143 rfl (by decide) fun K hK => ?_
      go_simp
      refine hK _ _ fun a27 hsz27 hde27 f143 hk => ?_
      clear hK K
      replace f0 := (hk 0 (by decide)).trans f0
      replace f1 := (hk 1 (by decide)).trans f1
      replace f2 := (hk 2 (by decide)).trans f2
      replace f3 := (hk 3 (by decide)).trans f3
      replace f4 := (hk 4 (by decide)).trans f4
      replace f18 := (hk 18 (by decide)).trans f18
      replace f19 := (hk 19 (by decide)).trans f19
      clear hk hsz26 hde26 f141 f142
      replace f143 : a27.tmps[143]?.getD undef = .int .i64 (((p + (d - B.length) : Nat) : Int)) := f143.trans (by have h7 := Hnn.out; have h8 := Hd.out; have h9 := Hm.out; have h10 := Hq.out; first | rfl | (congr 1; done) | (congr 1; omega) | (congr 1; rw [IntKind.wrap_i64] <;> omega))
      refine wpList_next rfl hsz27 hde27 20 rfl (by decide) fun K hK => ?_
      go_simp
      refine hK _ _ fun a28 hsz28 hde28 f20 hk => ?_
      clear hK K
      replace f0 := (hk 0 (by decide)).trans f0
      replace f1 := (hk 1 (by decide)).trans f1
      replace f2 := (hk 2 (by decide)).trans f2
      replace f3 := (hk 3 (by decide)).trans f3
      replace f4 := (hk 4 (by decide)).trans f4
      replace f18 := (hk 18 (by decide)).trans f18
      replace f19 := (hk 19 (by decide)).trans f19
      replace f20 : a28.tmps[20]?.getD undef = .int .i64 ((p + (d - B.length) : Nat) : Int) := f20
      clear hk hsz27 hde27 f143
      refine wpList_nil ?_
      refine then_go ?_
      repeat with_reducible refine wp_seq ?_
      refine wp_region_lit ?_
      refine wpList_next rfl hsz28 hde28 144 rfl (by decide) fun K hK => ?_
      go_simp
      refine hK _ _ fun a29 hsz29 hde29 f144 hk => ?_
      clear hK K
      replace f0 := (hk 0 (by decide)).trans f0
      replace f1 := (hk 1 (by decide)).trans f1
      replace f2 := (hk 2 (by decide)).trans f2
      replace f3 := (hk 3 (by decide)).trans f3
      replace f4 := (hk 4 (by decide)).trans f4
      replace f18 := (hk 18 (by decide)).trans f18
      replace f19 := (hk 19 (by decide)).trans f19
      replace f20 := (hk 20 (by decide)).trans f20
      replace f144 : a29.tmps[144]?.getD undef = .int .i64 ((mid : Nat) : Int) := f144
      clear hk hsz28 hde28
      refine wpList_next rfl hsz29 hde29 21 rfl (by decide) fun K hK => ?_
      go_simp
      refine hK _ _ fun a30 hsz30 hde30 f21 hk => ?_
      clear hK K
      replace f0 := (hk 0 (by decide)).trans f0
      replace f1 := (hk 1 (by decide)).trans f1
      replace f2 := (hk 2 (by decide)).trans f2
      replace f3 := (hk 3 (by decide)).trans f3
      replace f4 := (hk 4 (by decide)).trans f4
      replace f18 := (hk 18 (by decide)).trans f18
      replace f19 := (hk 19 (by decide)).trans f19
      replace f20 := (hk 20 (by decide)).trans f20
      replace f21 : a30.tmps[21]?.getD undef = .int .i64 ((mid : Nat) : Int) := f21
      clear hk hsz29 hde29 f144
      refine wpList_nil ?_
      refine then_go ?_
      rw [show ((mid : Nat) : Int) = ((p + d : Nat) : Int) by rw [Hd.out.1]] at f21
      exact ⟨d - B.length, d, hsz30, hde30, f0, f1, f2, f3, f4, f18, f19, f20, f21, Lib.hid (by have h8 := Hd.out; have h9 := Hm.out; omega), rfl⟩
    | false =>
      refine wp_cond_false (eval_at f140) ?_
      clear f140
      have hgt : ¬ mid < m := of_decide_eq_false Hbg.out.symm
      repeat with_reducible refine wp_seq ?_
      refine wp_region_lit ?_
      refine wpList_next rfl hsz24 hde24 145 rfl (by decide) fun K hK => ?_
      go_simp
      refine hK _ _ fun a25 hsz25 hde25 f145 hk => ?_
      clear hK K
      replace f0 := (hk 0 (by decide)).trans f0
      replace f1 := (hk 1 (by decide)).trans f1
      replace f2 := (hk 2 (by decide)).trans f2
      replace f3 := (hk 3 (by decide)).trans f3
      replace f4 := (hk 4 (by decide)).trans f4
      replace f18 := (hk 18 (by decide)).trans f18
      replace f19 := (hk 19 (by decide)).trans f19
      replace f145 : a25.tmps[145]?.getD undef = .int .i64 ((p : Nat) : Int) := f145
      clear hk hsz24 hde24
      refine wpList_next rfl hsz25 hde25 20 rfl (by decide) fun K hK => ?_
      go_simp
      refine hK _ _ fun a26 hsz26 hde26 f20 hk => ?_
      clear hK K
      replace f0 := (hk 0 (by decide)).trans f0
      replace f1 := (hk 1 (by decide)).trans f1
      replace f2 := (hk 2 (by decide)).trans f2
      replace f3 := (hk 3 (by decide)).trans f3
      replace f4 := (hk 4 (by decide)).trans f4
      replace f18 := (hk 18 (by decide)).trans f18
      replace f19 := (hk 19 (by decide)).trans f19
      replace f20 : a26.tmps[20]?.getD undef = .int .i64 ((p : Nat) : Int) := f20
      clear hk hsz25 hde25 f145
      refine wpList_nil ?_
      refine then_go ?_
      repeat with_reducible refine wp_seq ?_
      refine wp_region_lit ?_
      refine wpList_next rfl hsz26 hde26 146 rfl (by decide) fun K hK => ?_
      go_simp
      refine hK _ _ fun a27 hsz27 hde27 f146 hk => ?_
      clear hK K
      replace f0 := (hk 0 (by decide)).trans f0
      replace f1 := (hk 1 (by decide)).trans f1
      replace f2 := (hk 2 (by decide)).trans f2
      replace f3 := (hk 3 (by decide)).trans f3
      replace f4 := (hk 4 (by decide)).trans f4
      replace f18 := (hk 18 (by decide)).trans f18
      replace f19 := (hk 19 (by decide)).trans f19
      replace f20 := (hk 20 (by decide)).trans f20
      replace f146 : a27.tmps[146]?.getD undef = .int .i64 ((m : Nat) : Int) := f146
      clear hk hsz26 hde26
      refine wpList_next rfl hsz27 hde27 21 rfl (by decide) fun K hK => ?_
      go_simp
      refine hK _ _ fun a28 hsz28 hde28 f21 hk => ?_
      clear hK K
      replace f0 := (hk 0 (by decide)).trans f0
      replace f1 := (hk 1 (by decide)).trans f1
      replace f2 := (hk 2 (by decide)).trans f2
      replace f3 := (hk 3 (by decide)).trans f3
      replace f4 := (hk 4 (by decide)).trans f4
      replace f18 := (hk 18 (by decide)).trans f18
      replace f19 := (hk 19 (by decide)).trans f19
      replace f20 := (hk 20 (by decide)).trans f20
      replace f21 : a28.tmps[21]?.getD undef = .int .i64 ((m : Nat) : Int) := f21
      clear hk hsz27 hde27 f146
      refine wpList_nil ?_
      refine then_go ?_
      rw [show ((p : Nat) : Int) = ((p + 0 : Nat) : Int) from rfl] at f20
      rw [show ((m : Nat) : Int) = ((p + A.length : Nat) : Int) by rw [Hm.out]] at f21
      exact ⟨0, A.length, hsz28, hde28, f0, f1, f2, f3, f4, f18, f19, f20, f21, Lib.hid (by have h8 := Hd.out; have h9 := Hm.out; omega), rfl⟩
  clear hsz24 hde24 f0 f1 f2 f3 f4 f18 f19 f140
  rintro a59 x59 ⟨i0, r0, hsz59, hde59, f0, f1, f2, f3, f4, f18, f19, f20, f21, Hr, rfl⟩
  repeat with_reducible refine wp_seq ?_
  obtain ⟨pp, hpp⟩ : ∃ pp, pp = nn - 1 := ⟨_, rfl⟩
  have hnn1 : 1 ≤ nn := by have := Hnn.out; omega
  have Hpp := Lib.hid hpp
  clear hpp
  refine wp_region_lit ?_
  refine wpList_next rfl hsz59 hde59 147 rfl (by decide) fun K hK => ?_
  go_simp
  refine hK _ _ fun a60 hsz60 hde60 f147 hk => ?_
  clear hK K
  replace f0 := (hk 0 (by decide)).trans f0
  replace f1 := (hk 1 (by decide)).trans f1
  replace f2 := (hk 2 (by decide)).trans f2
  replace f3 := (hk 3 (by decide)).trans f3
  replace f4 := (hk 4 (by decide)).trans f4
  replace f18 := (hk 18 (by decide)).trans f18
  replace f19 := (hk 19 (by decide)).trans f19
  replace f20 := (hk 20 (by decide)).trans f20
  replace f21 := (hk 21 (by decide)).trans f21
  replace f147 : a60.tmps[147]?.getD undef = .int .i64 ((nn : Nat) : Int) := f147
  clear hk hsz59 hde59
  refine wpList_next rfl hsz60 hde60 148 rfl (by decide) fun K hK => ?_
  go_simp
  refine hK _ _ fun a61 hsz61 hde61 f148 hk => ?_
  clear hK K
  replace f0 := (hk 0 (by decide)).trans f0
  replace f1 := (hk 1 (by decide)).trans f1
  replace f2 := (hk 2 (by decide)).trans f2
  replace f3 := (hk 3 (by decide)).trans f3
  replace f4 := (hk 4 (by decide)).trans f4
  replace f18 := (hk 18 (by decide)).trans f18
  replace f19 := (hk 19 (by decide)).trans f19
  replace f20 := (hk 20 (by decide)).trans f20
  replace f21 := (hk 21 (by decide)).trans f21
  clear hk hsz60 hde60 f147
  replace f148 : a61.tmps[148]?.getD undef = .int .i64 (((pp : Nat) : Int)) := f148.trans (by have h7 := Hpp.out; first | rfl | (congr 1; done) | (congr 1; omega) | (congr 1; rw [IntKind.wrap_i64] <;> omega))
  refine wpList_next rfl hsz61 hde61 22 rfl (by decide) fun K hK => ?_
  go_simp
  refine hK _ _ fun a62 hsz62 hde62 f22 hk => ?_
  clear hK K
  replace f0 := (hk 0 (by decide)).trans f0
  replace f1 := (hk 1 (by decide)).trans f1
  replace f2 := (hk 2 (by decide)).trans f2
  replace f3 := (hk 3 (by decide)).trans f3
  replace f4 := (hk 4 (by decide)).trans f4
  replace f18 := (hk 18 (by decide)).trans f18
  replace f19 := (hk 19 (by decide)).trans f19
  replace f20 := (hk 20 (by decide)).trans f20
  replace f21 := (hk 21 (by decide)).trans f21
  replace f22 : a62.tmps[22]?.getD undef = .int .i64 ((pp : Nat) : Int) := f22
  clear hk hsz61 hde61 f148
  refine wpList_nil ?_
  refine then_go ?_
  repeat with_reducible refine wp_seq ?_
  refine wp_block ?_
  refine wp_loop_ghost (S3Inv x59 base (.slice (some ⟨g, 0, none⟩) n0 cap) P A B S p m q mid nn pp d i0 r0) (r0 - i0) ?_ ?_
  · exact ⟨i0, r0, hsz62, hde62, f0, f1, f2, f3, f4, f18, f19, f20, f21, f22, Lib.hid ⟨Nat.le_refl _, Hr.out.1, Nat.le_refl _⟩, Lib.hid (fun h h2 h3 => by have := Hr.out; omega), Lib.hid (fun h h2 h3 => by have := Hr.out; omega), Hown0, Lib.hid (Below.refl _ _), rfl⟩
  clear hsz62 hde62 f0 f1 f2 f3 f4 f18 f19 f20 f21 f22
  intro n2 a69 wx hI
  obtain ⟨i, j, hsz69, hde69, f0, f1, f2, f3, f4, f18, f19, f20, f21, f22, Hij, H1, H2, Hown, Hbw, hn2⟩ := hI
  have Hn2 := Lib.hid hn2
  clear hn2
  obtain ⟨hii, hij, hjr⟩ := Hij.out
  obtain ⟨i1, hi1⟩ : ∃ i1, i1 = p + i := ⟨_, rfl⟩
  obtain ⟨j1, hj1⟩ : ∃ j1, j1 = p + j := ⟨_, rfl⟩
  rw [show ((p + i : Nat) : Int) = ((i1 : Nat) : Int) by rw [hi1]] at f20
  rw [show ((p + j : Nat) : Int) = ((j1 : Nat) : Int) by rw [hj1]] at f21
  have hrr := Hr.out
  have hbi : i1 ≤ m ∧ j1 ≤ m ∧ p ≤ i1 ∧ p ≤ j1 := by have := Hm.out; omega
  have Hi1 := Lib.hid hi1
  have Hj1 := Lib.hid hj1
  clear hi1 hj1
  repeat with_reducible refine wp_seq ?_
  by_cases hlt : i1 < j1
  · skip
    refine wp_region_lit ?_
    refine wpList_next rfl hsz69 hde69 149 rfl (by decide) fun K hK => ?_
    go_simp
    refine hK _ _ fun a70 hsz70 hde70 f149 hk => ?_
    clear hK K
    replace f0 := (hk 0 (by decide)).trans f0
    replace f1 := (hk 1 (by decide)).trans f1
    replace f2 := (hk 2 (by decide)).trans f2
    replace f3 := (hk 3 (by decide)).trans f3
    replace f4 := (hk 4 (by decide)).trans f4
    replace f18 := (hk 18 (by decide)).trans f18
    replace f19 := (hk 19 (by decide)).trans f19
    replace f20 := (hk 20 (by decide)).trans f20
    replace f21 := (hk 21 (by decide)).trans f21
    replace f22 := (hk 22 (by decide)).trans f22
    replace f149 : a70.tmps[149]?.getD undef = .int .i64 ((i1 : Nat) : Int) := f149
    clear hk hsz69 hde69
    refine wpList_next rfl hsz70 hde70 150 rfl (by decide) fun K hK => ?_
    go_simp
    refine hK _ _ fun a71 hsz71 hde71 f150 hk => ?_
    clear hK K
    replace f0 := (hk 0 (by decide)).trans f0
    replace f1 := (hk 1 (by decide)).trans f1
    replace f2 := (hk 2 (by decide)).trans f2
    replace f3 := (hk 3 (by decide)).trans f3
    replace f4 := (hk 4 (by decide)).trans f4
    replace f18 := (hk 18 (by decide)).trans f18
    replace f19 := (hk 19 (by decide)).trans f19
    replace f20 := (hk 20 (by decide)).trans f20
    replace f21 := (hk 21 (by decide)).trans f21
    replace f22 := (hk 22 (by decide)).trans f22
    replace f149 := (hk 149 (by decide)).trans f149
    replace f150 : a71.tmps[150]?.getD undef = .int .i64 ((j1 : Nat) : Int) := f150
    clear hk hsz70 hde70
    refine wpList_next rfl hsz71 hde71 151 rfl (by decide) fun K hK => ?_
    go_simp
    refine hK _ _ fun a72 hsz72 hde72 f151 hk => ?_
    clear hK K
    replace f0 := (hk 0 (by decide)).trans f0
    replace f1 := (hk 1 (by decide)).trans f1
    replace f2 := (hk 2 (by decide)).trans f2
    replace f3 := (hk 3 (by decide)).trans f3
    replace f4 := (hk 4 (by decide)).trans f4
    replace f18 := (hk 18 (by decide)).trans f18
    replace f19 := (hk 19 (by decide)).trans f19
    replace f20 := (hk 20 (by decide)).trans f20
    replace f21 := (hk 21 (by decide)).trans f21
    replace f22 := (hk 22 (by decide)).trans f22
    clear hk hsz71 hde71 f149 f150
    replace f151 : a72.tmps[151]?.getD undef = .bool true := f151.trans (by first | rfl | (congr 1; first | exact decide_eq_true (by omega) | exact decide_eq_false (by omega)) | (simp; omega))
    refine wpList_nil ?_
    refine then_go ?_
    repeat with_reducible refine wp_seq ?_
    refine wp_cond_true (eval_at f151) ?_
    refine wp_skip ?_
    refine then_go ?_
    clear f151
    repeat with_reducible refine wp_seq ?_
    refine wp_block ?_
    repeat with_reducible refine wp_seq ?_
    obtain ⟨s1, hs1⟩ : ∃ s1, s1 = i1 + j1 := ⟨_, rfl⟩
    obtain ⟨hh, hhh⟩ : ∃ hh, hh = s1 / 2 := ⟨_, rfl⟩
    have hsb : s1 ≤ 2000 := by omega
    have hhb : hh ≤ 1000 := by omega
    have Hs1 := Lib.hid hs1
    have Hhh := Lib.hid hhh
    clear hs1 hhh
    refine wp_region_lit ?_
    refine wpList_next rfl hsz72 hde72 152 rfl (by decide) fun K hK => ?_
    go_simp
    refine hK _ _ fun a73 hsz73 hde73 f152 hk => ?_
    clear hK K
    replace f0 := (hk 0 (by decide)).trans f0
    replace f1 := (hk 1 (by decide)).trans f1
    replace f2 := (hk 2 (by decide)).trans f2
    replace f3 := (hk 3 (by decide)).trans f3
    replace f4 := (hk 4 (by decide)).trans f4
    replace f18 := (hk 18 (by decide)).trans f18
    replace f19 := (hk 19 (by decide)).trans f19
    replace f20 := (hk 20 (by decide)).trans f20
    replace f21 := (hk 21 (by decide)).trans f21
    replace f22 := (hk 22 (by decide)).trans f22
    replace f152 : a73.tmps[152]?.getD undef = .int .i64 ((i1 : Nat) : Int) := f152
    clear hk hsz72 hde72
    refine wpList_next rfl hsz73 hde73 153 rfl (by decide) fun K hK => ?_
    go_simp
    refine hK _ _ fun a74 hsz74 hde74 f153 hk => ?_
    clear hK K
    replace f0 := (hk 0 (by decide)).trans f0
    replace f1 := (hk 1 (by decide)).trans f1
    replace f2 := (hk 2 (by decide)).trans f2
    replace f3 := (hk 3 (by decide)).trans f3
    replace f4 := (hk 4 (by decide)).trans f4
    replace f18 := (hk 18 (by decide)).trans f18
    replace f19 := (hk 19 (by decide)).trans f19
    replace f20 := (hk 20 (by decide)).trans f20
    replace f21 := (hk 21 (by decide)).trans f21
    replace f22 := (hk 22 (by decide)).trans f22
    replace f152 := (hk 152 (by decide)).trans f152
    replace f153 : a74.tmps[153]?.getD undef = .int .i64 ((j1 : Nat) : Int) := f153
    clear hk hsz73 hde73
    refine wpList_next rfl hsz74 hde74 154 rfl (by decide) fun K hK => ?_
    go_simp
    refine hK _ _ fun a75 hsz75 hde75 f154 hk => ?_
    clear hK K
    replace f0 := (hk 0 (by decide)).trans f0
    replace f1 := (hk 1 (by decide)).trans f1
    replace f2 := (hk 2 (by decide)).trans f2
    replace f3 := (hk 3 (by decide)).trans f3
    replace f4 := (hk 4 (by decide)).trans f4
    replace f18 := (hk 18 (by decide)).trans f18
    replace f19 := (hk 19 (by decide)).trans f19
    replace f20 := (hk 20 (by decide)).trans f20
    replace f21 := (hk 21 (by decide)).trans f21
    replace f22 := (hk 22 (by decide)).trans f22
    clear hk hsz74 hde74 f152 f153
    replace f154 : a75.tmps[154]?.getD undef = .int .i64 ((s1 : Nat) : Int) := f154.trans (by have h7 := Hs1.out; first | (congr 1; done) | (congr 1; omega) | (congr 1; simp; done) | (congr 1; simp; omega) | (congr 1; rw [IntKind.wrap_u64] <;> omega) | (congr 1; rw [IntKind.wrap_i64] <;> omega))
    refine wpList_next rfl hsz75 hde75 155 rfl (by decide) fun K hK => ?_
    go_simp
    refine hK _ _ fun a76 hsz76 hde76 f155 hk => ?_
    clear hK K
    replace f0 := (hk 0 (by decide)).trans f0
    replace f1 := (hk 1 (by decide)).trans f1
    replace f2 := (hk 2 (by decide)).trans f2
    replace f3 := (hk 3 (by decide)).trans f3
    replace f4 := (hk 4 (by decide)).trans f4
    replace f18 := (hk 18 (by decide)).trans f18
    replace f19 := (hk 19 (by decide)).trans f19
    replace f20 := (hk 20 (by decide)).trans f20
    replace f21 := (hk 21 (by decide)).trans f21
    replace f22 := (hk 22 (by decide)).trans f22
    clear hk hsz75 hde75 f154
    replace f155 : a76.tmps[155]?.getD undef = .int .u64 ((s1 : Nat) : Int) := f155.trans (by first | (congr 1; done) | (congr 1; omega) | (congr 1; simp; done) | (congr 1; simp; omega) | (congr 1; rw [IntKind.wrap_u64] <;> omega) | (congr 1; rw [IntKind.wrap_i64] <;> omega))
    refine wpList_next rfl hsz76 hde76 156 rfl (by decide) fun K hK => ?_
    go_simp
    refine hK _ _ fun a77 hsz77 hde77 f156 hk => ?_
    clear hK K
    replace f0 := (hk 0 (by decide)).trans f0
    replace f1 := (hk 1 (by decide)).trans f1
    replace f2 := (hk 2 (by decide)).trans f2
    replace f3 := (hk 3 (by decide)).trans f3
    replace f4 := (hk 4 (by decide)).trans f4
    replace f18 := (hk 18 (by decide)).trans f18
    replace f19 := (hk 19 (by decide)).trans f19
    replace f20 := (hk 20 (by decide)).trans f20
    replace f21 := (hk 21 (by decide)).trans f21
    replace f22 := (hk 22 (by decide)).trans f22
    clear hk hsz76 hde76 f155
    replace f156 : a77.tmps[156]?.getD undef = .int .u64 ((hh : Nat) : Int) := f156.trans (by have h7 := Hhh.out; first | (congr 1; done) | (congr 1; omega) | (congr 1; simp; done) | (congr 1; simp; omega) | (congr 1; rw [IntKind.wrap_u64] <;> omega) | (congr 1; rw [IntKind.wrap_i64] <;> omega))
    refine wpList_next rfl hsz77 hde77 157 rfl (by decide) fun K hK => ?_
    go_simp
    refine hK _ _ fun a78 hsz78 hde78 f157 hk => ?_
    clear hK K
    replace f0 := (hk 0 (by decide)).trans f0
    replace f1 := (hk 1 (by decide)).trans f1
    replace f2 := (hk 2 (by decide)).trans f2
    replace f3 := (hk 3 (by decide)).trans f3
    replace f4 := (hk 4 (by decide)).trans f4
    replace f18 := (hk 18 (by decide)).trans f18
    replace f19 := (hk 19 (by decide)).trans f19
    replace f20 := (hk 20 (by decide)).trans f20
    replace f21 := (hk 21 (by decide)).trans f21
    replace f22 := (hk 22 (by decide)).trans f22
    clear hk hsz77 hde77 f156
    replace f157 : a78.tmps[157]?.getD undef = .int .i64 ((hh : Nat) : Int) := f157.trans (by first | (congr 1; done) | (congr 1; omega) | (congr 1; simp; done) | (congr 1; simp; omega) | (congr 1; rw [IntKind.wrap_u64] <;> omega) | (congr 1; rw [IntKind.wrap_i64] <;> omega))
    refine wpList_next rfl hsz78 hde78 23 rfl (by decide) fun K hK => ?_
    go_simp
    refine hK _ _ fun a79 hsz79 hde79 f23 hk => ?_
    clear hK K
    replace f0 := (hk 0 (by decide)).trans f0
    replace f1 := (hk 1 (by decide)).trans f1
    replace f2 := (hk 2 (by decide)).trans f2
    replace f3 := (hk 3 (by decide)).trans f3
    replace f4 := (hk 4 (by decide)).trans f4
    replace f18 := (hk 18 (by decide)).trans f18
    replace f19 := (hk 19 (by decide)).trans f19
    replace f20 := (hk 20 (by decide)).trans f20
    replace f21 := (hk 21 (by decide)).trans f21
    replace f22 := (hk 22 (by decide)).trans f22
    replace f23 : a79.tmps[23]?.getD undef = .int .i64 ((hh : Nat) : Int) := f23
    clear hk hsz78 hde78 f157
    refine wpList_nil ?_
    refine then_go ?_
    repeat with_reducible refine wp_seq ?_
    obtain ⟨t, ht⟩ : ∃ t, t = hh - p := ⟨_, rfl⟩
    have hth : hh = p + t := by have := Hs1.out; have := Hhh.out; have := Hi1.out; have := Hj1.out; omega
    have htij : i ≤ t ∧ t < j := by have := Hs1.out; have := Hhh.out; have := Hi1.out; have := Hj1.out; omega
    have htA : t < A.length := by omega
    have htB : d - t - 1 < B.length := by omega
    obtain ⟨kk, hkk⟩ : ∃ kk, kk = m + (d - t - 1) := ⟨_, rfl⟩
    have hkp : pp = kk + hh := by have := Hpp.out; have := Hnn.out; have := Hd.out; omega
    have Hth := Lib.hid hth
    have Hkk := Lib.hid hkk
    have Hkp := Lib.hid hkp
    clear ht
    have hhq : hh < m := by have := Hm.out; omega
    have hkq : kk < q := by have := Hq.out; omega
    clear hth hkk hkp
    have hMx : (P ++ (A ++ (B ++ S)))[kk]? = some B[d - t - 1] := (by rw [Hkk.out]; exact lookB Hp.out Hm.out htB)
    have hMy : (P ++ (A ++ (B ++ S)))[hh]? = some A[t] := (by rw [Hth.out]; exact lookA Hp.out htA)
    obtain ⟨CX0, hCX0⟩ : ∃ C, C = entC B[d - t - 1] := ⟨_, rfl⟩
    obtain ⟨CY0, hCY0⟩ : ∃ C, C = entC A[t] := ⟨_, rfl⟩
    have HlX := Lib.hid (show ∀ z, Below wx.heap.size wx z → z.rangeAt g (kk * 15) CX0.toList from fun z hz => by rw [hCX0]; exact range_ext (Hown.out.look hMx).1 hz)
    have HlY := Lib.hid (show ∀ z, Below wx.heap.size wx z → z.rangeAt g (hh * 15) CY0.toList from fun z hz => by rw [hCY0]; exact range_ext (Hown.out.look hMy).1 hz)
    have HfX := Lib.hid (show (Tryd.prog.info? 29).map (·.size) = some CX0.toList.length by rw [hCX0]; exact ent_info)
    have HfY := Lib.hid (show (Tryd.prog.info? 29).map (·.size) = some CY0.toList.length by rw [hCY0]; exact ent_info)
    have hcmp := fun z => namecmp_any B[d - t - 1] A[t] z
    rw [← hCX0, ← hCY0] at hcmp
    obtain ⟨cv, hcv⟩ : ∃ cv, cv = Lib.compareBytes B[d - t - 1].data A[t].data := ⟨_, rfl⟩
    rw [← hcv] at hcmp
    have Hcmp := Lib.hid hcmp
    obtain ⟨bl, hbl⟩ : ∃ bl, bl = nlt B[d - t - 1] A[t] := ⟨_, rfl⟩
    have Hbl := Lib.hid hbl
    have Hcv := Lib.hid (show decide (cv < 0) = bl by rw [hbl, hcv]; rfl)
    clear hMx hMy hcmp hcv hbl hCX0 hCY0
    have hhh0 : (0 : Int) ≤ (hh : Int) := by omega
    have hhhn : (hh : Int) < (n0 : Int) := by omega
    have hkk0 : (0 : Int) ≤ (kk : Int) := by omega
    have hkkn : (kk : Int) < (n0 : Int) := by omega
    refine wp_region_goodg (tblG [(158, .func (.func 49) #[] #[]), (159, .slice (some ⟨g, 0, none⟩) n0 cap), (160, .int .i64 ((pp : Nat) : Int)), (161, .int .i64 ((hh : Nat) : Int)), (162, .int .i64 ((kk : Nat) : Int)), (163, .pointer (some ⟨g, kk * 15, none⟩)), (164, .agg CX0), (165, .slice (some ⟨g, 0, none⟩) n0 cap), (166, .int .i64 ((hh : Nat) : Int)), (167, .pointer (some ⟨g, hh * 15, none⟩)), (168, .agg CY0), (169, .int .i64 cv), (170, .bool bl), (171, .bool (!bl))]) 220 (by kernel_rfl) (by kernel_rfl) (by kernel_rfl) (by kernel_rfl) hsz79.out ?_ ?_ ?_
    · intro t v7 x x' h _ _
      exact h
    · intro i7 o hi7 a x hbx hsame hpre K hK
      have hlt7 : i7 < 14 := (Array.getElem?_eq_some_iff.1 hi7).1
      rcases (show i7 = 0 ∨ i7 = 1 ∨ i7 = 2 ∨ i7 = 3 ∨ i7 = 4 ∨ i7 = 5 ∨ i7 = 6 ∨ i7 = 7 ∨ i7 = 8 ∨ i7 = 9 ∨ i7 = 10 ∨ i7 = 11 ∨ i7 = 12 ∨ i7 = 13 by omega) with rfl | rfl | rfl | rfl | rfl | rfl | rfl | rfl | rfl | rfl | rfl | rfl | rfl | rfl
      all_goals (have ho := Option.some.inj hi7; subst ho; clear hi7 hlt7)
      · have q4 : a.tmps[4]?.getD undef = .func (.func 49) #[] #[] := (hsame 4 (by decide +kernel)).trans f4
        refine step_plain rfl ?_
        have hk := Lib.hid (show ∀ v7 x', v7 = .func (.func 49) #[] #[] → Below x.heap.size x x' → K (a.put (some 158) v7) x' from hK)
        have Hbx := Lib.hid hbx
        clear hsame hpre hK hbx
        go_simp
        exact hk.out _ _ rfl (Below.refl _ _)
      · have q0 : a.tmps[0]?.getD undef = .slice (some ⟨g, 0, none⟩) n0 cap := (hsame 0 (by decide +kernel)).trans f0
        refine step_plain rfl ?_
        have hk := Lib.hid (show ∀ v7 x', v7 = .slice (some ⟨g, 0, none⟩) n0 cap → Below x.heap.size x x' → K (a.put (some 159) v7) x' from hK)
        have Hbx := Lib.hid hbx
        clear hsame hpre hK hbx
        go_simp
        exact hk.out _ _ rfl (Below.refl _ _)
      · have q22 : a.tmps[22]?.getD undef = .int .i64 ((pp : Nat) : Int) := (hsame 22 (by decide +kernel)).trans f22
        refine step_plain rfl ?_
        have hk := Lib.hid (show ∀ v7 x', v7 = .int .i64 ((pp : Nat) : Int) → Below x.heap.size x x' → K (a.put (some 160) v7) x' from hK)
        have Hbx := Lib.hid hbx
        clear hsame hpre hK hbx
        go_simp
        exact hk.out _ _ rfl (Below.refl _ _)
      · have q23 : a.tmps[23]?.getD undef = .int .i64 ((hh : Nat) : Int) := (hsame 23 (by decide +kernel)).trans f23
        refine step_plain rfl ?_
        have hk := Lib.hid (show ∀ v7 x', v7 = .int .i64 ((hh : Nat) : Int) → Below x.heap.size x x' → K (a.put (some 161) v7) x' from hK)
        have Hbx := Lib.hid hbx
        clear hsame hpre hK hbx
        go_simp
        exact hk.out _ _ rfl (Below.refl _ _)
      · have q160 : a.tmps[160]?.getD undef = .int .i64 ((pp : Nat) : Int) := hpre ⟨2, .data⟩ (by simp) rfl (by decide)
        have q161 : a.tmps[161]?.getD undef = .int .i64 ((hh : Nat) : Int) := hpre ⟨3, .data⟩ (by simp) rfl (by decide)
        refine step_plain rfl ?_
        have hk := Lib.hid (show ∀ v7 x', v7 = .int .i64 ((kk : Nat) : Int) → Below x.heap.size x x' → K (a.put (some 162) v7) x' from hK)
        have Hbx := Lib.hid hbx
        clear hsame hpre hK hbx
        go_simp
        exact hk.out _ _ (by have h7 := Hkp.out; first | rfl | (congr 1; done) | (congr 1; omega) | (congr 1; rw [IntKind.wrap_i64] <;> omega)) (Below.refl _ _)
      · have q159 : a.tmps[159]?.getD undef = .slice (some ⟨g, 0, none⟩) n0 cap := hpre ⟨1, .data⟩ (by simp) rfl (by decide)
        have q162 : a.tmps[162]?.getD undef = .int .i64 ((kk : Nat) : Int) := hpre ⟨4, .data⟩ (by simp) rfl (by decide)
        refine step_plain rfl ?_
        have hk := Lib.hid (show ∀ v7 x', v7 = .pointer (some ⟨g, kk * 15, none⟩) → Below x.heap.size x x' → K (a.put (some 163) v7) x' from hK)
        have Hbx := Lib.hid hbx
        clear hsame hpre hK hbx
        go_simp
        exact hk.out _ _ rfl (Below.refl _ _)
      · have q163 : a.tmps[163]?.getD undef = .pointer (some ⟨g, kk * 15, none⟩) := hpre ⟨5, .data⟩ (by simp) rfl (by decide)
        refine step_plain rfl ?_
        have hk := Lib.hid (show ∀ v7 x', v7 = .agg CX0 → Below x.heap.size x x' → K (a.put (some 164) v7) x' from hK)
        have Hbx := Lib.hid hbx
        clear hsame hpre hK hbx
        refine wp_load_mid 29 (.tmp 163) rfl g (kk * 15) (eval_at q163) CX0.toList _ (HlX.out _ Hbx.out) Tryd.underlying29 rfl HfX.out ?_
        exact hk.out _ _ rfl (Below.refl _ _)
      · have q0 : a.tmps[0]?.getD undef = .slice (some ⟨g, 0, none⟩) n0 cap := (hsame 0 (by decide +kernel)).trans f0
        refine step_plain rfl ?_
        have hk := Lib.hid (show ∀ v7 x', v7 = .slice (some ⟨g, 0, none⟩) n0 cap → Below x.heap.size x x' → K (a.put (some 165) v7) x' from hK)
        have Hbx := Lib.hid hbx
        clear hsame hpre hK hbx
        go_simp
        exact hk.out _ _ rfl (Below.refl _ _)
      · have q23 : a.tmps[23]?.getD undef = .int .i64 ((hh : Nat) : Int) := (hsame 23 (by decide +kernel)).trans f23
        refine step_plain rfl ?_
        have hk := Lib.hid (show ∀ v7 x', v7 = .int .i64 ((hh : Nat) : Int) → Below x.heap.size x x' → K (a.put (some 166) v7) x' from hK)
        have Hbx := Lib.hid hbx
        clear hsame hpre hK hbx
        go_simp
        exact hk.out _ _ rfl (Below.refl _ _)
      · have q165 : a.tmps[165]?.getD undef = .slice (some ⟨g, 0, none⟩) n0 cap := hpre ⟨7, .data⟩ (by simp) rfl (by decide)
        have q166 : a.tmps[166]?.getD undef = .int .i64 ((hh : Nat) : Int) := hpre ⟨8, .data⟩ (by simp) rfl (by decide)
        refine step_plain rfl ?_
        have hk := Lib.hid (show ∀ v7 x', v7 = .pointer (some ⟨g, hh * 15, none⟩) → Below x.heap.size x x' → K (a.put (some 167) v7) x' from hK)
        have Hbx := Lib.hid hbx
        clear hsame hpre hK hbx
        go_simp
        exact hk.out _ _ rfl (Below.refl _ _)
      · have q167 : a.tmps[167]?.getD undef = .pointer (some ⟨g, hh * 15, none⟩) := hpre ⟨9, .data⟩ (by simp) rfl (by decide)
        refine step_plain rfl ?_
        have hk := Lib.hid (show ∀ v7 x', v7 = .agg CY0 → Below x.heap.size x x' → K (a.put (some 168) v7) x' from hK)
        have Hbx := Lib.hid hbx
        clear hsame hpre hK hbx
        refine wp_load_mid 29 (.tmp 167) rfl g (hh * 15) (eval_at q167) CY0.toList _ (HlY.out _ Hbx.out) Tryd.underlying29 rfl HfY.out ?_
        exact hk.out _ _ rfl (Below.refl _ _)
      · have q158 : a.tmps[158]?.getD undef = .func (.func 49) #[] #[] := hpre ⟨0, .data⟩ (by simp) rfl (by decide)
        have q164 : a.tmps[164]?.getD undef = .agg CX0 := hpre ⟨6, .data⟩ (by simp) rfl (by decide)
        have q168 : a.tmps[168]?.getD undef = .agg CY0 := hpre ⟨10, .data⟩ (by simp) rfl (by decide)
        refine step_plain rfl ?_
        have hk := Lib.hid (show ∀ v7 x', v7 = .int .i64 cv → Below x.heap.size x x' → K (a.put (some 169) v7) x' from hK)
        have Hbx := Lib.hid hbx
        clear hsame hpre hK hbx
        go_simp
        refine (Hcmp.out _).mono ?_
        rintro e7 w7 ⟨rfl, hb7⟩
        go_simp
        exact hk.out _ _ rfl hb7
      · have q169 : a.tmps[169]?.getD undef = .int .i64 cv := hpre ⟨11, .data⟩ (by simp) rfl (by decide)
        refine step_plain rfl ?_
        have hk := Lib.hid (show ∀ v7 x', v7 = .bool bl → Below x.heap.size x x' → K (a.put (some 170) v7) x' from hK)
        have Hbx := Lib.hid hbx
        clear hsame hpre hK hbx
        go_simp
        exact hk.out _ _ (by have h7 := Hcv.out; first | (congr 1; done) | (congr 1; exact h7) | (rw [← h7])) (Below.refl _ _)
      · have q170 : a.tmps[170]?.getD undef = .bool bl := hpre ⟨12, .data⟩ (by simp) rfl (by decide)
        refine step_plain rfl ?_
        have hk := Lib.hid (show ∀ v7 x', v7 = .bool (!bl) → Below x.heap.size x x' → K (a.put (some 171) v7) x' from hK)
        have Hbx := Lib.hid hbx
        clear hsame hpre hK hbx
        go_simp
        exact hk.out _ _ rfl (Below.refl _ _)
    intro a80 x80 hbx hsame hG hsz80 hde80
    replace f0 := (hsame 0 (by decide +kernel)).trans f0
    replace f1 := (hsame 1 (by decide +kernel)).trans f1
    replace f2 := (hsame 2 (by decide +kernel)).trans f2
    replace f3 := (hsame 3 (by decide +kernel)).trans f3
    replace f4 := (hsame 4 (by decide +kernel)).trans f4
    replace f18 := (hsame 18 (by decide +kernel)).trans f18
    replace f19 := (hsame 19 (by decide +kernel)).trans f19
    replace f20 := (hsame 20 (by decide +kernel)).trans f20
    replace f21 := (hsame 21 (by decide +kernel)).trans f21
    replace f22 := (hsame 22 (by decide +kernel)).trans f22
    replace f23 := (hsame 23 (by decide +kernel)).trans f23
    have f171 : a80.tmps[171]?.getD undef = .bool (!bl) := hG 13 (by decide)
    have Hbx80 := Lib.hid hbx
    have hsz80h := Lib.hid hsz80
    have hde80h := Lib.hid (hde80.trans hde79.out)
    clear hsame hG hbx hsz80 hde80 hsz79 hde79
    obtain ⟨wy, hwy⟩ : ∃ wy, wy = x80 := ⟨_, rfl⟩
    have HownN := Lib.hid (Hown.out.grow Hbx80.out)
    have HbN := Lib.hid (Hbw.out.trans (Hbx80.out.mono (Nat.le_trans Hb.out Hbw.out.size)))
    rw [← hwy] at HownN HbN ⊢
    clear hwy Hbx80 Hcmp HlX HlY
    refine then_go ?_
    repeat with_reducible refine wp_seq ?_
    cases bl with
    | false =>
      replace f171 : a80.tmps[171]?.getD undef = .bool true := f171
      refine wp_cond_true (eval_at f171) ?_
      clear f171
      refine wp_region_lit ?_
      refine wpList_next rfl hsz80h hde80h 172 rfl (by decide) fun K hK => ?_
      go_simp
      refine hK _ _ fun a81 hsz81 hde81 f172 hk => ?_
      clear hK K
      replace f0 := (hk 0 (by decide)).trans f0
      replace f1 := (hk 1 (by decide)).trans f1
      replace f2 := (hk 2 (by decide)).trans f2
      replace f3 := (hk 3 (by decide)).trans f3
      replace f4 := (hk 4 (by decide)).trans f4
      replace f18 := (hk 18 (by decide)).trans f18
      replace f19 := (hk 19 (by decide)).trans f19
      replace f20 := (hk 20 (by decide)).trans f20
      replace f21 := (hk 21 (by decide)).trans f21
      replace f22 := (hk 22 (by decide)).trans f22
      replace f23 := (hk 23 (by decide)).trans f23
      replace f172 : a81.tmps[172]?.getD undef = .int .i64 ((hh : Nat) : Int) := f172
      clear hk hsz80h hde80h
      refine wpList_next rfl hsz81 hde81 173 rfl (by decide) fun K hK => ?_
      go_simp
      refine hK _ _ fun a82 hsz82 hde82 f173 hk => ?_
      clear hK K
      replace f0 := (hk 0 (by decide)).trans f0
      replace f1 := (hk 1 (by decide)).trans f1
      replace f2 := (hk 2 (by decide)).trans f2
      replace f3 := (hk 3 (by decide)).trans f3
      replace f4 := (hk 4 (by decide)).trans f4
      replace f18 := (hk 18 (by decide)).trans f18
      replace f19 := (hk 19 (by decide)).trans f19
      replace f20 := (hk 20 (by decide)).trans f20
      replace f21 := (hk 21 (by decide)).trans f21
      replace f22 := (hk 22 (by decide)).trans f22
      replace f23 := (hk 23 (by decide)).trans f23
      clear hk hsz81 hde81 f172
      replace f173 : a82.tmps[173]?.getD undef = .int .i64 (((p + (t + 1) : Nat) : Int)) := f173.trans (by have h7 := Hth.out; first | rfl | (congr 1; done) | (congr 1; omega) | (congr 1; rw [IntKind.wrap_i64] <;> omega))
      refine wpList_next rfl hsz82 hde82 20 rfl (by decide) fun K hK => ?_
      go_simp
      refine hK _ _ fun a83 hsz83 hde83 f20 hk => ?_
      clear hK K
      replace f0 := (hk 0 (by decide)).trans f0
      replace f1 := (hk 1 (by decide)).trans f1
      replace f2 := (hk 2 (by decide)).trans f2
      replace f3 := (hk 3 (by decide)).trans f3
      replace f4 := (hk 4 (by decide)).trans f4
      replace f18 := (hk 18 (by decide)).trans f18
      replace f19 := (hk 19 (by decide)).trans f19
      replace f21 := (hk 21 (by decide)).trans f21
      replace f22 := (hk 22 (by decide)).trans f22
      replace f23 := (hk 23 (by decide)).trans f23
      replace f20 : a83.tmps[20]?.getD undef = .int .i64 ((p + (t + 1) : Nat) : Int) := f20
      clear hk hsz82 hde82 f173
      refine wpList_nil ?_
      rw [show ((j1 : Nat) : Int) = ((p + j : Nat) : Int) by rw [Hj1.out]] at f21
      repeat first | with_reducible refine block_go ?_ | with_reducible refine then_go ?_
      exact ⟨j - (t + 1), by rw [Hn2.out]; omega, t + 1, j, hsz83, hde83, f0, f1, f2, f3, f4, f18, f19, f20, f21, f22, Lib.hid (by omega), Lib.hid (fun h h2 _ => Hbl.out.symm), H2, HownN, HbN, rfl⟩
    | true =>
      replace f171 : a80.tmps[171]?.getD undef = .bool false := f171
      refine wp_cond_false (eval_at f171) ?_
      clear f171
      refine wp_region_lit ?_
      refine wpList_next rfl hsz80h hde80h 174 rfl (by decide) fun K hK => ?_
      go_simp
      refine hK _ _ fun a81 hsz81 hde81 f174 hk => ?_
      clear hK K
      replace f0 := (hk 0 (by decide)).trans f0
      replace f1 := (hk 1 (by decide)).trans f1
      replace f2 := (hk 2 (by decide)).trans f2
      replace f3 := (hk 3 (by decide)).trans f3
      replace f4 := (hk 4 (by decide)).trans f4
      replace f18 := (hk 18 (by decide)).trans f18
      replace f19 := (hk 19 (by decide)).trans f19
      replace f20 := (hk 20 (by decide)).trans f20
      replace f21 := (hk 21 (by decide)).trans f21
      replace f22 := (hk 22 (by decide)).trans f22
      replace f23 := (hk 23 (by decide)).trans f23
      replace f174 : a81.tmps[174]?.getD undef = .int .i64 ((hh : Nat) : Int) := f174
      clear hk hsz80h hde80h
      refine wpList_next rfl hsz81 hde81 21 rfl (by decide) fun K hK => ?_
      go_simp
      refine hK _ _ fun a82 hsz82 hde82 f21 hk => ?_
      clear hK K
      replace f0 := (hk 0 (by decide)).trans f0
      replace f1 := (hk 1 (by decide)).trans f1
      replace f2 := (hk 2 (by decide)).trans f2
      replace f3 := (hk 3 (by decide)).trans f3
      replace f4 := (hk 4 (by decide)).trans f4
      replace f18 := (hk 18 (by decide)).trans f18
      replace f19 := (hk 19 (by decide)).trans f19
      replace f20 := (hk 20 (by decide)).trans f20
      replace f22 := (hk 22 (by decide)).trans f22
      replace f23 := (hk 23 (by decide)).trans f23
      replace f21 : a82.tmps[21]?.getD undef = .int .i64 ((hh : Nat) : Int) := f21
      clear hk hsz81 hde81 f174
      refine wpList_nil ?_
      rw [show ((i1 : Nat) : Int) = ((p + i : Nat) : Int) by rw [Hi1.out]] at f20
      rw [show ((hh : Nat) : Int) = ((p + t : Nat) : Int) by rw [Hth.out]] at f21
      repeat first | with_reducible refine block_go ?_ | with_reducible refine then_go ?_
      exact ⟨t - i, by rw [Hn2.out]; omega, i, t, hsz82, hde82, f0, f1, f2, f3, f4, f18, f19, f20, f21, f22, Lib.hid (by omega), H1, Lib.hid (fun h h2 _ => Hbl.out.symm), HownN, HbN, rfl⟩
  refine wp_region_lit ?_
  refine wpList_next rfl hsz69 hde69 149 rfl (by decide) fun K hK => ?_
  go_simp
  refine hK _ _ fun a70 hsz70 hde70 f149 hk => ?_
  clear hK K
  replace f0 := (hk 0 (by decide)).trans f0
  replace f1 := (hk 1 (by decide)).trans f1
  replace f2 := (hk 2 (by decide)).trans f2
  replace f3 := (hk 3 (by decide)).trans f3
  replace f4 := (hk 4 (by decide)).trans f4
  replace f18 := (hk 18 (by decide)).trans f18
  replace f19 := (hk 19 (by decide)).trans f19
  replace f20 := (hk 20 (by decide)).trans f20
  replace f21 := (hk 21 (by decide)).trans f21
  replace f22 := (hk 22 (by decide)).trans f22
  replace f149 : a70.tmps[149]?.getD undef = .int .i64 ((i1 : Nat) : Int) := f149
  clear hk hsz69 hde69
  refine wpList_next rfl hsz70 hde70 150 rfl (by decide) fun K hK => ?_
  go_simp
  refine hK _ _ fun a71 hsz71 hde71 f150 hk => ?_
  clear hK K
  replace f0 := (hk 0 (by decide)).trans f0
  replace f1 := (hk 1 (by decide)).trans f1
  replace f2 := (hk 2 (by decide)).trans f2
  replace f3 := (hk 3 (by decide)).trans f3
  replace f4 := (hk 4 (by decide)).trans f4
  replace f18 := (hk 18 (by decide)).trans f18
  replace f19 := (hk 19 (by decide)).trans f19
  replace f20 := (hk 20 (by decide)).trans f20
  replace f21 := (hk 21 (by decide)).trans f21
  replace f22 := (hk 22 (by decide)).trans f22
  replace f149 := (hk 149 (by decide)).trans f149
  replace f150 : a71.tmps[150]?.getD undef = .int .i64 ((j1 : Nat) : Int) := f150
  clear hk hsz70 hde70
  refine wpList_next rfl hsz71 hde71 151 rfl (by decide) fun K hK => ?_
  go_simp
  refine hK _ _ fun a72 hsz72 hde72 f151 hk => ?_
  clear hK K
  replace f0 := (hk 0 (by decide)).trans f0
  replace f1 := (hk 1 (by decide)).trans f1
  replace f2 := (hk 2 (by decide)).trans f2
  replace f3 := (hk 3 (by decide)).trans f3
  replace f4 := (hk 4 (by decide)).trans f4
  replace f18 := (hk 18 (by decide)).trans f18
  replace f19 := (hk 19 (by decide)).trans f19
  replace f20 := (hk 20 (by decide)).trans f20
  replace f21 := (hk 21 (by decide)).trans f21
  replace f22 := (hk 22 (by decide)).trans f22
  clear hk hsz71 hde71 f149 f150
  replace f151 : a72.tmps[151]?.getD undef = .bool false := f151.trans (by first | rfl | (congr 1; first | exact decide_eq_true (by omega) | exact decide_eq_false (by omega)) | (simp; omega))
  refine wpList_nil ?_
  refine then_go ?_
  repeat with_reducible refine wp_seq ?_
  refine wp_cond_false (eval_at f151) ?_
  refine wp_exit ?_
  repeat with_reducible refine then_exit ?_
  refine block_exit ?_
  repeat first | with_reducible refine block_go ?_ | with_reducible refine then_go ?_
  clear f151 f21 f22
  repeat with_reducible refine wp_seq ?_
  have hieq : i = j := by have := Hi1.out; have := Hj1.out; omega
  subst hieq
  obtain ⟨jj, hjj⟩ : ∃ jj, jj = d - i := ⟨_, rfl⟩
  have hiA : i ≤ A.length := by omega
  have hjB : jj ≤ B.length := by omega
  have hdij : d = i + jj := by omega
  have Hcut := Lib.hid (cut_less HA.out HB.out HAB.out hiA hjB (fun h h2 h3 => by subst hjj; exact H1.out h h2 h3) (fun h h2 h3 => by subst hjj; exact H2.out h h2 h3))
  have Hdij := Lib.hid hdij
  obtain ⟨en, hen⟩ : ∃ en, en = m + jj := ⟨_, rfl⟩
  have Hen := Lib.hid hen
  have hpos := Hd.out
  have henq : en ≤ q := by have := Hq.out; omega
  have Henn := Lib.hid (show nn = en + i1 by have := Hnn.out; have := Hi1.out; omega)
  obtain ⟨wz, hwz⟩ : ∃ wz, wz = wx := ⟨_, rfl⟩
  rw [← hwz] at Hown Hbw ⊢
  have Hsz := Lib.hid (Nat.le_trans Hb.out Hbw.out.size)
  have Hlen0 := Lib.hid (Hn0.out _ (List.Perm.refl _))
  clear hwz hjj hdij hen hpos H1 H2 hrr
  refine wp_region_lit ?_
  refine wpList_next rfl hsz72 hde72 175 rfl (by decide) fun K hK => ?_
  go_simp
  refine hK _ _ fun a73 hsz73 hde73 f175 hk => ?_
  clear hK K
  replace f0 := (hk 0 (by decide)).trans f0
  replace f1 := (hk 1 (by decide)).trans f1
  replace f2 := (hk 2 (by decide)).trans f2
  replace f3 := (hk 3 (by decide)).trans f3
  replace f4 := (hk 4 (by decide)).trans f4
  replace f18 := (hk 18 (by decide)).trans f18
  replace f19 := (hk 19 (by decide)).trans f19
  replace f20 := (hk 20 (by decide)).trans f20
  replace f175 : a73.tmps[175]?.getD undef = .int .i64 ((nn : Nat) : Int) := f175
  clear hk hsz72 hde72
  refine wpList_next rfl hsz73 hde73 176 rfl (by decide) fun K hK => ?_
  go_simp
  refine hK _ _ fun a74 hsz74 hde74 f176 hk => ?_
  clear hK K
  replace f0 := (hk 0 (by decide)).trans f0
  replace f1 := (hk 1 (by decide)).trans f1
  replace f2 := (hk 2 (by decide)).trans f2
  replace f3 := (hk 3 (by decide)).trans f3
  replace f4 := (hk 4 (by decide)).trans f4
  replace f18 := (hk 18 (by decide)).trans f18
  replace f19 := (hk 19 (by decide)).trans f19
  replace f20 := (hk 20 (by decide)).trans f20
  replace f175 := (hk 175 (by decide)).trans f175
  replace f176 : a74.tmps[176]?.getD undef = .int .i64 ((i1 : Nat) : Int) := f176
  clear hk hsz73 hde73
  refine wpList_next rfl hsz74 hde74 177 rfl (by decide) fun K hK => ?_
  go_simp
  refine hK _ _ fun a75 hsz75 hde75 f177 hk => ?_
  clear hK K
  replace f0 := (hk 0 (by decide)).trans f0
  replace f1 := (hk 1 (by decide)).trans f1
  replace f2 := (hk 2 (by decide)).trans f2
  replace f3 := (hk 3 (by decide)).trans f3
  replace f4 := (hk 4 (by decide)).trans f4
  replace f18 := (hk 18 (by decide)).trans f18
  replace f19 := (hk 19 (by decide)).trans f19
  replace f20 := (hk 20 (by decide)).trans f20
  clear hk hsz74 hde74 f175 f176
  replace f177 : a75.tmps[177]?.getD undef = .int .i64 (((en : Nat) : Int)) := f177.trans (by have h7 := Henn.out; first | rfl | (congr 1; done) | (congr 1; omega) | (congr 1; rw [IntKind.wrap_i64] <;> omega))
  refine wpList_next rfl hsz75 hde75 24 rfl (by decide) fun K hK => ?_
  go_simp
  refine hK _ _ fun a76 hsz76 hde76 f24 hk => ?_
  clear hK K
  replace f0 := (hk 0 (by decide)).trans f0
  replace f1 := (hk 1 (by decide)).trans f1
  replace f2 := (hk 2 (by decide)).trans f2
  replace f3 := (hk 3 (by decide)).trans f3
  replace f4 := (hk 4 (by decide)).trans f4
  replace f18 := (hk 18 (by decide)).trans f18
  replace f19 := (hk 19 (by decide)).trans f19
  replace f20 := (hk 20 (by decide)).trans f20
  replace f24 : a76.tmps[24]?.getD undef = .int .i64 ((en : Nat) : Int) := f24
  clear hk hsz75 hde75 f177
  refine wpList_nil ?_
  clear f19
  refine then_go ?_
  repeat with_reducible refine wp_seq ?_
  have hci1 : (i1 < m ↔ i < A.length) ∧ (m < en ↔ 0 < jj) ∧ (p < i1 ↔ 0 < i) ∧ (i1 < mid ↔ 0 < jj) ∧ (mid < en ↔ i < A.length) ∧ (en < q ↔ jj < B.length) := by have := Hi1.out; have := Hm.out; have := Hq.out; have := Hen.out; have := Hd.out; have := Hdij.out; omega
  have Hci := Lib.hid hci1
  clear hci1
  have hways : (i1 < m ∧ m < en) ∨ ¬ i1 < m ∨ (i1 < m ∧ ¬ m < en) := by omega
  obtain ⟨b1, hb1⟩ : ∃ b1, b1 = decide (i1 < m ∧ m < en) := ⟨_, rfl⟩
  have Hb1 := Lib.hid hb1
  clear hb1
  refine wp_cut0 (fun a9 x9 => Hid (a9.tmps.size = 220) ∧ Hid (a9.defers = []) ∧ a9.tmps[0]?.getD undef = .slice (some ⟨g, 0, none⟩) n0 cap ∧ a9.tmps[1]?.getD undef = .int .i64 ((p : Nat) : Int) ∧ a9.tmps[2]?.getD undef = .int .i64 ((m : Nat) : Int) ∧ a9.tmps[3]?.getD undef = .int .i64 ((q : Nat) : Int) ∧ a9.tmps[4]?.getD undef = .func (.func 49) #[] #[] ∧ a9.tmps[18]?.getD undef = .int .i64 ((mid : Nat) : Int) ∧ a9.tmps[20]?.getD undef = .int .i64 ((i1 : Nat) : Int) ∧ a9.tmps[24]?.getD undef = .int .i64 ((en : Nat) : Int) ∧ a9.tmps[185]?.getD undef = .bool b1 ∧ x9 = wz) ?_ ?_
  · rcases hways with ⟨hw1, hw2⟩ | hw1 | ⟨hw1, hw2⟩
    · refine wp_region_lit ?_
      refine wpList_next rfl hsz76 hde76 178 rfl (by decide) fun K hK => ?_
      go_simp
      refine hK _ _ fun a77 hsz77 hde77 f178 hk => ?_
      clear hK K
      replace f0 := (hk 0 (by decide)).trans f0
      replace f1 := (hk 1 (by decide)).trans f1
      replace f2 := (hk 2 (by decide)).trans f2
      replace f3 := (hk 3 (by decide)).trans f3
      replace f4 := (hk 4 (by decide)).trans f4
      replace f18 := (hk 18 (by decide)).trans f18
      replace f20 := (hk 20 (by decide)).trans f20
      replace f24 := (hk 24 (by decide)).trans f24
      replace f178 : a77.tmps[178]?.getD undef = .int .i64 ((i1 : Nat) : Int) := f178
      clear hk hsz76 hde76
      refine wpList_next rfl hsz77 hde77 179 rfl (by decide) fun K hK => ?_
      go_simp
      refine hK _ _ fun a78 hsz78 hde78 f179 hk => ?_
      clear hK K
      replace f0 := (hk 0 (by decide)).trans f0
      replace f1 := (hk 1 (by decide)).trans f1
      replace f2 := (hk 2 (by decide)).trans f2
      replace f3 := (hk 3 (by decide)).trans f3
      replace f4 := (hk 4 (by decide)).trans f4
      replace f18 := (hk 18 (by decide)).trans f18
      replace f20 := (hk 20 (by decide)).trans f20
      replace f24 := (hk 24 (by decide)).trans f24
      replace f178 := (hk 178 (by decide)).trans f178
      replace f179 : a78.tmps[179]?.getD undef = .int .i64 ((m : Nat) : Int) := f179
      clear hk hsz77 hde77
      refine wpList_next rfl hsz78 hde78 180 rfl (by decide) fun K hK => ?_
      go_simp
      refine hK _ _ fun a79 hsz79 hde79 f180 hk => ?_
      clear hK K
      replace f0 := (hk 0 (by decide)).trans f0
      replace f1 := (hk 1 (by decide)).trans f1
      replace f2 := (hk 2 (by decide)).trans f2
      replace f3 := (hk 3 (by decide)).trans f3
      replace f4 := (hk 4 (by decide)).trans f4
      replace f18 := (hk 18 (by decide)).trans f18
      replace f20 := (hk 20 (by decide)).trans f20
      replace f24 := (hk 24 (by decide)).trans f24
      clear hk hsz78 hde78 f178 f179
      replace f180 : a79.tmps[180]?.getD undef = .bool true := f180.trans (by first | rfl | (congr 1; first | exact decide_eq_true (by omega) | exact decide_eq_false (by omega)) | (simp; omega))
      refine wpList_next rfl hsz79 hde79 181 rfl (by decide) fun K hK => ?_
      go_simp
      refine hK _ _ fun a80 hsz80 hde80 f181 hk => ?_
      clear hK K
      replace f0 := (hk 0 (by decide)).trans f0
      replace f1 := (hk 1 (by decide)).trans f1
      replace f2 := (hk 2 (by decide)).trans f2
      replace f3 := (hk 3 (by decide)).trans f3
      replace f4 := (hk 4 (by decide)).trans f4
      replace f18 := (hk 18 (by decide)).trans f18
      replace f20 := (hk 20 (by decide)).trans f20
      replace f24 := (hk 24 (by decide)).trans f24
      replace f181 : a80.tmps[181]?.getD undef = .bool true := f181
      clear hk hsz79 hde79 f180
      refine wpList_nextg (wanted_of (j := 3) (t := 181) (b := true) rfl rfl f181) hsz80 hde80 182 rfl (by decide) fun K hK => ?_
      go_simp
      refine hK _ _ fun a81 hsz81 hde81 f182 hk => ?_
      clear hK K
      replace f0 := (hk 0 (by decide)).trans f0
      replace f1 := (hk 1 (by decide)).trans f1
      replace f2 := (hk 2 (by decide)).trans f2
      replace f3 := (hk 3 (by decide)).trans f3
      replace f4 := (hk 4 (by decide)).trans f4
      replace f18 := (hk 18 (by decide)).trans f18
      replace f20 := (hk 20 (by decide)).trans f20
      replace f24 := (hk 24 (by decide)).trans f24
      replace f181 := (hk 181 (by decide)).trans f181
      replace f182 : a81.tmps[182]?.getD undef = .int .i64 ((m : Nat) : Int) := f182
      clear hk hsz80 hde80
      refine wpList_nextg (wanted_of (j := 3) (t := 181) (b := true) rfl rfl f181) hsz81 hde81 183 rfl (by decide) fun K hK => ?_
      go_simp
      refine hK _ _ fun a82 hsz82 hde82 f183 hk => ?_
      clear hK K
      replace f0 := (hk 0 (by decide)).trans f0
      replace f1 := (hk 1 (by decide)).trans f1
      replace f2 := (hk 2 (by decide)).trans f2
      replace f3 := (hk 3 (by decide)).trans f3
      replace f4 := (hk 4 (by decide)).trans f4
      replace f18 := (hk 18 (by decide)).trans f18
      replace f20 := (hk 20 (by decide)).trans f20
      replace f24 := (hk 24 (by decide)).trans f24
      replace f181 := (hk 181 (by decide)).trans f181
      replace f182 := (hk 182 (by decide)).trans f182
      replace f183 : a82.tmps[183]?.getD undef = .int .i64 ((en : Nat) : Int) := f183
      clear hk hsz81 hde81
      refine wpList_nextg (wanted_of (j := 3) (t := 181) (b := true) rfl rfl f181) hsz82 hde82 184 rfl (by decide) fun K hK => ?_
      go_simp
      refine hK _ _ fun a83 hsz83 hde83 f184 hk => ?_
      clear hK K
      replace f0 := (hk 0 (by decide)).trans f0
      replace f1 := (hk 1 (by decide)).trans f1
      replace f2 := (hk 2 (by decide)).trans f2
      replace f3 := (hk 3 (by decide)).trans f3
      replace f4 := (hk 4 (by decide)).trans f4
      replace f18 := (hk 18 (by decide)).trans f18
      replace f20 := (hk 20 (by decide)).trans f20
      replace f24 := (hk 24 (by decide)).trans f24
      replace f181 := (hk 181 (by decide)).trans f181
      clear hk hsz82 hde82 f182 f183
      replace f184 : a83.tmps[184]?.getD undef = .bool true := f184.trans (by first | rfl | (congr 1; first | exact decide_eq_true (by omega) | exact decide_eq_false (by omega)) | (simp; omega))
      refine wpList_next rfl hsz83 hde83 185 rfl (by decide) fun K hK => ?_
      go_simp
      refine hK _ _ fun a84 hsz84 hde84 f185 hk => ?_
      clear hK K
      replace f0 := (hk 0 (by decide)).trans f0
      replace f1 := (hk 1 (by decide)).trans f1
      replace f2 := (hk 2 (by decide)).trans f2
      replace f3 := (hk 3 (by decide)).trans f3
      replace f4 := (hk 4 (by decide)).trans f4
      replace f18 := (hk 18 (by decide)).trans f18
      replace f20 := (hk 20 (by decide)).trans f20
      replace f24 := (hk 24 (by decide)).trans f24
      replace f185 : a84.tmps[185]?.getD undef = .bool true := f185
      clear hk hsz83 hde83 f181 f184
      refine wpList_nil ?_
      refine then_go ?_
      exact ⟨hsz84, hde84, f0, f1, f2, f3, f4, f18, f20, f24, f185.trans (by congr 1; rw [Hb1.out]; exact (decide_eq_true ⟨hw1, hw2⟩).symm), rfl⟩
    · refine wp_region_lit ?_
      refine wpList_next rfl hsz76 hde76 178 rfl (by decide) fun K hK => ?_
      go_simp
      refine hK _ _ fun a77 hsz77 hde77 f178 hk => ?_
      clear hK K
      replace f0 := (hk 0 (by decide)).trans f0
      replace f1 := (hk 1 (by decide)).trans f1
      replace f2 := (hk 2 (by decide)).trans f2
      replace f3 := (hk 3 (by decide)).trans f3
      replace f4 := (hk 4 (by decide)).trans f4
      replace f18 := (hk 18 (by decide)).trans f18
      replace f20 := (hk 20 (by decide)).trans f20
      replace f24 := (hk 24 (by decide)).trans f24
      replace f178 : a77.tmps[178]?.getD undef = .int .i64 ((i1 : Nat) : Int) := f178
      clear hk hsz76 hde76
      refine wpList_next rfl hsz77 hde77 179 rfl (by decide) fun K hK => ?_
      go_simp
      refine hK _ _ fun a78 hsz78 hde78 f179 hk => ?_
      clear hK K
      replace f0 := (hk 0 (by decide)).trans f0
      replace f1 := (hk 1 (by decide)).trans f1
      replace f2 := (hk 2 (by decide)).trans f2
      replace f3 := (hk 3 (by decide)).trans f3
      replace f4 := (hk 4 (by decide)).trans f4
      replace f18 := (hk 18 (by decide)).trans f18
      replace f20 := (hk 20 (by decide)).trans f20
      replace f24 := (hk 24 (by decide)).trans f24
      replace f178 := (hk 178 (by decide)).trans f178
      replace f179 : a78.tmps[179]?.getD undef = .int .i64 ((m : Nat) : Int) := f179
      clear hk hsz77 hde77
      refine wpList_next rfl hsz78 hde78 180 rfl (by decide) fun K hK => ?_
      go_simp
      refine hK _ _ fun a79 hsz79 hde79 f180 hk => ?_
      clear hK K
      replace f0 := (hk 0 (by decide)).trans f0
      replace f1 := (hk 1 (by decide)).trans f1
      replace f2 := (hk 2 (by decide)).trans f2
      replace f3 := (hk 3 (by decide)).trans f3
      replace f4 := (hk 4 (by decide)).trans f4
      replace f18 := (hk 18 (by decide)).trans f18
      replace f20 := (hk 20 (by decide)).trans f20
      replace f24 := (hk 24 (by decide)).trans f24
      clear hk hsz78 hde78 f178 f179
      replace f180 : a79.tmps[180]?.getD undef = .bool false := f180.trans (by first | rfl | (congr 1; first | exact decide_eq_true (by omega) | exact decide_eq_false (by omega)) | (simp; omega))
      refine wpList_next rfl hsz79 hde79 181 rfl (by decide) fun K hK => ?_
      go_simp
      refine hK _ _ fun a80 hsz80 hde80 f181 hk => ?_
      clear hK K
      replace f0 := (hk 0 (by decide)).trans f0
      replace f1 := (hk 1 (by decide)).trans f1
      replace f2 := (hk 2 (by decide)).trans f2
      replace f3 := (hk 3 (by decide)).trans f3
      replace f4 := (hk 4 (by decide)).trans f4
      replace f18 := (hk 18 (by decide)).trans f18
      replace f20 := (hk 20 (by decide)).trans f20
      replace f24 := (hk 24 (by decide)).trans f24
      replace f181 : a80.tmps[181]?.getD undef = .bool false := f181
      clear hk hsz79 hde79 f180
      refine wpList_leave (not_wanted (j := 3) (t := 181) (b := true) rfl rfl (.inr f181)) hsz80 hde80 182 rfl (by decide) fun a81 hsz81 hde81 f182 hk => ?_
      replace f0 := (hk 0 (by decide)).trans f0
      replace f1 := (hk 1 (by decide)).trans f1
      replace f2 := (hk 2 (by decide)).trans f2
      replace f3 := (hk 3 (by decide)).trans f3
      replace f4 := (hk 4 (by decide)).trans f4
      replace f18 := (hk 18 (by decide)).trans f18
      replace f20 := (hk 20 (by decide)).trans f20
      replace f24 := (hk 24 (by decide)).trans f24
      replace f181 := (hk 181 (by decide)).trans f181
      clear hk hsz80 hde80
      refine wpList_leave (not_wanted (j := 3) (t := 181) (b := true) rfl rfl (.inr f181)) hsz81 hde81 183 rfl (by decide) fun a82 hsz82 hde82 f183 hk => ?_
      replace f0 := (hk 0 (by decide)).trans f0
      replace f1 := (hk 1 (by decide)).trans f1
      replace f2 := (hk 2 (by decide)).trans f2
      replace f3 := (hk 3 (by decide)).trans f3
      replace f4 := (hk 4 (by decide)).trans f4
      replace f18 := (hk 18 (by decide)).trans f18
      replace f20 := (hk 20 (by decide)).trans f20
      replace f24 := (hk 24 (by decide)).trans f24
      replace f181 := (hk 181 (by decide)).trans f181
      replace f182 := (hk 182 (by decide)).trans f182
      clear hk hsz81 hde81
      refine wpList_leave (not_wanted (j := 3) (t := 181) (b := true) rfl rfl (.inr f181)) hsz82 hde82 184 rfl (by decide) fun a83 hsz83 hde83 f184 hk => ?_
      replace f0 := (hk 0 (by decide)).trans f0
      replace f1 := (hk 1 (by decide)).trans f1
      replace f2 := (hk 2 (by decide)).trans f2
      replace f3 := (hk 3 (by decide)).trans f3
      replace f4 := (hk 4 (by decide)).trans f4
      replace f18 := (hk 18 (by decide)).trans f18
      replace f20 := (hk 20 (by decide)).trans f20
      replace f24 := (hk 24 (by decide)).trans f24
      replace f181 := (hk 181 (by decide)).trans f181
      clear hk hsz82 hde82 f182 f183
      refine wpList_next rfl hsz83 hde83 185 rfl (by decide) fun K hK => ?_
      go_simp
      refine hK _ _ fun a84 hsz84 hde84 f185 hk => ?_
      clear hK K
      replace f0 := (hk 0 (by decide)).trans f0
      replace f1 := (hk 1 (by decide)).trans f1
      replace f2 := (hk 2 (by decide)).trans f2
      replace f3 := (hk 3 (by decide)).trans f3
      replace f4 := (hk 4 (by decide)).trans f4
      replace f18 := (hk 18 (by decide)).trans f18
      replace f20 := (hk 20 (by decide)).trans f20
      replace f24 := (hk 24 (by decide)).trans f24
      replace f185 : a84.tmps[185]?.getD undef = .bool false := f185
      clear hk hsz83 hde83 f181 f184
      refine wpList_nil ?_
      refine then_go ?_
      exact ⟨hsz84, hde84, f0, f1, f2, f3, f4, f18, f20, f24, f185.trans (by congr 1; rw [Hb1.out]; exact (decide_eq_false (fun h => hw1 h.1)).symm), rfl⟩
    · refine wp_region_lit ?_
      refine wpList_next rfl hsz76 hde76 178 rfl (by decide) fun K hK => ?_
      go_simp
      refine hK _ _ fun a77 hsz77 hde77 f178 hk => ?_
      clear hK K
      replace f0 := (hk 0 (by decide)).trans f0
      replace f1 := (hk 1 (by decide)).trans f1
      replace f2 := (hk 2 (by decide)).trans f2
      replace f3 := (hk 3 (by decide)).trans f3
      replace f4 := (hk 4 (by decide)).trans f4
      replace f18 := (hk 18 (by decide)).trans f18
      replace f20 := (hk 20 (by decide)).trans f20
      replace f24 := (hk 24 (by decide)).trans f24
      replace f178 : a77.tmps[178]?.getD undef = .int .i64 ((i1 : Nat) : Int) := f178
      clear hk hsz76 hde76
      refine wpList_next rfl hsz77 hde77 179 rfl (by decide) fun K hK => ?_
      go_simp
      refine hK _ _ fun a78 hsz78 hde78 f179 hk => ?_
      clear hK K
      replace f0 := (hk 0 (by decide)).trans f0
      replace f1 := (hk 1 (by decide)).trans f1
      replace f2 := (hk 2 (by decide)).trans f2
      replace f3 := (hk 3 (by decide)).trans f3
      replace f4 := (hk 4 (by decide)).trans f4
      replace f18 := (hk 18 (by decide)).trans f18
      replace f20 := (hk 20 (by decide)).trans f20
      replace f24 := (hk 24 (by decide)).trans f24
      replace f178 := (hk 178 (by decide)).trans f178
      replace f179 : a78.tmps[179]?.getD undef = .int .i64 ((m : Nat) : Int) := f179
      clear hk hsz77 hde77
      refine wpList_next rfl hsz78 hde78 180 rfl (by decide) fun K hK => ?_
      go_simp
      refine hK _ _ fun a79 hsz79 hde79 f180 hk => ?_
      clear hK K
      replace f0 := (hk 0 (by decide)).trans f0
      replace f1 := (hk 1 (by decide)).trans f1
      replace f2 := (hk 2 (by decide)).trans f2
      replace f3 := (hk 3 (by decide)).trans f3
      replace f4 := (hk 4 (by decide)).trans f4
      replace f18 := (hk 18 (by decide)).trans f18
      replace f20 := (hk 20 (by decide)).trans f20
      replace f24 := (hk 24 (by decide)).trans f24
      clear hk hsz78 hde78 f178 f179
      replace f180 : a79.tmps[180]?.getD undef = .bool true := f180.trans (by first | rfl | (congr 1; first | exact decide_eq_true (by omega) | exact decide_eq_false (by omega)) | (simp; omega))
      refine wpList_next rfl hsz79 hde79 181 rfl (by decide) fun K hK => ?_
      go_simp
      refine hK _ _ fun a80 hsz80 hde80 f181 hk => ?_
      clear hK K
      replace f0 := (hk 0 (by decide)).trans f0
      replace f1 := (hk 1 (by decide)).trans f1
      replace f2 := (hk 2 (by decide)).trans f2
      replace f3 := (hk 3 (by decide)).trans f3
      replace f4 := (hk 4 (by decide)).trans f4
      replace f18 := (hk 18 (by decide)).trans f18
      replace f20 := (hk 20 (by decide)).trans f20
      replace f24 := (hk 24 (by decide)).trans f24
      replace f181 : a80.tmps[181]?.getD undef = .bool true := f181
      clear hk hsz79 hde79 f180
      refine wpList_nextg (wanted_of (j := 3) (t := 181) (b := true) rfl rfl f181) hsz80 hde80 182 rfl (by decide) fun K hK => ?_
      go_simp
      refine hK _ _ fun a81 hsz81 hde81 f182 hk => ?_
      clear hK K
      replace f0 := (hk 0 (by decide)).trans f0
      replace f1 := (hk 1 (by decide)).trans f1
      replace f2 := (hk 2 (by decide)).trans f2
      replace f3 := (hk 3 (by decide)).trans f3
      replace f4 := (hk 4 (by decide)).trans f4
      replace f18 := (hk 18 (by decide)).trans f18
      replace f20 := (hk 20 (by decide)).trans f20
      replace f24 := (hk 24 (by decide)).trans f24
      replace f181 := (hk 181 (by decide)).trans f181
      replace f182 : a81.tmps[182]?.getD undef = .int .i64 ((m : Nat) : Int) := f182
      clear hk hsz80 hde80
      refine wpList_nextg (wanted_of (j := 3) (t := 181) (b := true) rfl rfl f181) hsz81 hde81 183 rfl (by decide) fun K hK => ?_
      go_simp
      refine hK _ _ fun a82 hsz82 hde82 f183 hk => ?_
      clear hK K
      replace f0 := (hk 0 (by decide)).trans f0
      replace f1 := (hk 1 (by decide)).trans f1
      replace f2 := (hk 2 (by decide)).trans f2
      replace f3 := (hk 3 (by decide)).trans f3
      replace f4 := (hk 4 (by decide)).trans f4
      replace f18 := (hk 18 (by decide)).trans f18
      replace f20 := (hk 20 (by decide)).trans f20
      replace f24 := (hk 24 (by decide)).trans f24
      replace f181 := (hk 181 (by decide)).trans f181
      replace f182 := (hk 182 (by decide)).trans f182
      replace f183 : a82.tmps[183]?.getD undef = .int .i64 ((en : Nat) : Int) := f183
      clear hk hsz81 hde81
      refine wpList_nextg (wanted_of (j := 3) (t := 181) (b := true) rfl rfl f181) hsz82 hde82 184 rfl (by decide) fun K hK => ?_
      go_simp
      refine hK _ _ fun a83 hsz83 hde83 f184 hk => ?_
      clear hK K
      replace f0 := (hk 0 (by decide)).trans f0
      replace f1 := (hk 1 (by decide)).trans f1
      replace f2 := (hk 2 (by decide)).trans f2
      replace f3 := (hk 3 (by decide)).trans f3
      replace f4 := (hk 4 (by decide)).trans f4
      replace f18 := (hk 18 (by decide)).trans f18
      replace f20 := (hk 20 (by decide)).trans f20
      replace f24 := (hk 24 (by decide)).trans f24
      replace f181 := (hk 181 (by decide)).trans f181
      clear hk hsz82 hde82 f182 f183
      replace f184 : a83.tmps[184]?.getD undef = .bool false := f184.trans (by first | rfl | (congr 1; first | exact decide_eq_true (by omega) | exact decide_eq_false (by omega)) | (simp; omega))
      refine wpList_next rfl hsz83 hde83 185 rfl (by decide) fun K hK => ?_
      go_simp
      refine hK _ _ fun a84 hsz84 hde84 f185 hk => ?_
      clear hK K
      replace f0 := (hk 0 (by decide)).trans f0
      replace f1 := (hk 1 (by decide)).trans f1
      replace f2 := (hk 2 (by decide)).trans f2
      replace f3 := (hk 3 (by decide)).trans f3
      replace f4 := (hk 4 (by decide)).trans f4
      replace f18 := (hk 18 (by decide)).trans f18
      replace f20 := (hk 20 (by decide)).trans f20
      replace f24 := (hk 24 (by decide)).trans f24
      replace f185 : a84.tmps[185]?.getD undef = .bool false := f185
      clear hk hsz83 hde83 f181 f184
      refine wpList_nil ?_
      refine then_go ?_
      exact ⟨hsz84, hde84, f0, f1, f2, f3, f4, f18, f20, f24, f185.trans (by congr 1; rw [Hb1.out]; exact (decide_eq_false (fun h => hw2 h.2)).symm), rfl⟩
  clear hways hsz76 hde76 f0 f1 f2 f3 f4 f18 f20 f24
  rintro a96 x96 ⟨hsz96, hde96, f0, f1, f2, f3, f4, f18, f20, f24, f185, rfl⟩
  repeat with_reducible refine wp_seq ?_
  refine wp_cut0 (fun a9 x9 => Hid (a9.tmps.size = 220) ∧ Hid (a9.defers = []) ∧ a9.tmps[0]?.getD undef = .slice (some ⟨g, 0, none⟩) n0 cap ∧ a9.tmps[1]?.getD undef = .int .i64 ((p : Nat) : Int) ∧ a9.tmps[2]?.getD undef = .int .i64 ((m : Nat) : Int) ∧ a9.tmps[3]?.getD undef = .int .i64 ((q : Nat) : Int) ∧ a9.tmps[4]?.getD undef = .func (.func 49) #[] #[] ∧ a9.tmps[18]?.getD undef = .int .i64 ((mid : Nat) : Int) ∧ a9.tmps[20]?.getD undef = .int .i64 ((i1 : Nat) : Int) ∧ a9.tmps[24]?.getD undef = .int .i64 ((en : Nat) : Int) ∧ Hid (OwnE x9 base (.slice (some ⟨g, 0, none⟩) n0 cap) (P ++ (A.take i ++ (B.take jj ++ (A.drop i ++ (B.drop jj ++ S)))))) ∧ Hid (Below base x59 x9)) ?_ ?_
  · cases b1 with
    | true =>
      refine wp_cond_true (eval_at f185) ?_
      clear f185
      have hb := of_decide_eq_true Hb1.out.symm
      refine wp_region_lit ?_
      refine wpList_next rfl hsz96 hde96 186 rfl (by decide) fun K hK => ?_
      go_simp
      refine hK _ _ fun a97 hsz97 hde97 f186 hk => ?_
      clear hK K
      replace f0 := (hk 0 (by decide)).trans f0
      replace f1 := (hk 1 (by decide)).trans f1
      replace f2 := (hk 2 (by decide)).trans f2
      replace f3 := (hk 3 (by decide)).trans f3
      replace f4 := (hk 4 (by decide)).trans f4
      replace f18 := (hk 18 (by decide)).trans f18
      replace f20 := (hk 20 (by decide)).trans f20
      replace f24 := (hk 24 (by decide)).trans f24
      replace f186 : a97.tmps[186]?.getD undef = .slice (some ⟨g, 0, none⟩) n0 cap := f186
      clear hk hsz96 hde96
      refine wpList_next rfl hsz97 hde97 187 rfl (by decide) fun K hK => ?_
      go_simp
      refine hK _ _ fun a98 hsz98 hde98 f187 hk => ?_
      clear hK K
      replace f0 := (hk 0 (by decide)).trans f0
      replace f1 := (hk 1 (by decide)).trans f1
      replace f2 := (hk 2 (by decide)).trans f2
      replace f3 := (hk 3 (by decide)).trans f3
      replace f4 := (hk 4 (by decide)).trans f4
      replace f18 := (hk 18 (by decide)).trans f18
      replace f20 := (hk 20 (by decide)).trans f20
      replace f24 := (hk 24 (by decide)).trans f24
      replace f186 := (hk 186 (by decide)).trans f186
      replace f187 : a98.tmps[187]?.getD undef = .int .i64 ((i1 : Nat) : Int) := f187
      clear hk hsz97 hde97
      refine wpList_next rfl hsz98 hde98 188 rfl (by decide) fun K hK => ?_
      go_simp
      refine hK _ _ fun a99 hsz99 hde99 f188 hk => ?_
      clear hK K
      replace f0 := (hk 0 (by decide)).trans f0
      replace f1 := (hk 1 (by decide)).trans f1
      replace f2 := (hk 2 (by decide)).trans f2
      replace f3 := (hk 3 (by decide)).trans f3
      replace f4 := (hk 4 (by decide)).trans f4
      replace f18 := (hk 18 (by decide)).trans f18
      replace f20 := (hk 20 (by decide)).trans f20
      replace f24 := (hk 24 (by decide)).trans f24
      replace f186 := (hk 186 (by decide)).trans f186
      replace f187 := (hk 187 (by decide)).trans f187
      replace f188 : a99.tmps[188]?.getD undef = .int .i64 ((m : Nat) : Int) := f188
      clear hk hsz98 hde98
      refine wpList_next rfl hsz99 hde99 189 rfl (by decide) fun K hK => ?_
      go_simp
      refine hK _ _ fun a100 hsz100 hde100 f189 hk => ?_
      clear hK K
      replace f0 := (hk 0 (by decide)).trans f0
      replace f1 := (hk 1 (by decide)).trans f1
      replace f2 := (hk 2 (by decide)).trans f2
      replace f3 := (hk 3 (by decide)).trans f3
      replace f4 := (hk 4 (by decide)).trans f4
      replace f18 := (hk 18 (by decide)).trans f18
      replace f20 := (hk 20 (by decide)).trans f20
      replace f24 := (hk 24 (by decide)).trans f24
      replace f186 := (hk 186 (by decide)).trans f186
      replace f187 := (hk 187 (by decide)).trans f187
      replace f188 := (hk 188 (by decide)).trans f188
      replace f189 : a100.tmps[189]?.getD undef = .int .i64 ((en : Nat) : Int) := f189
      clear hk hsz99 hde99
      refine wpList_next rfl hsz100 hde100 190 rfl (by decide) fun K hK => ?_
      go_simp
      refine hK _ _ fun a101 hsz101 hde101 f190 hk => ?_
      clear hK K
      replace f0 := (hk 0 (by decide)).trans f0
      replace f1 := (hk 1 (by decide)).trans f1
      replace f2 := (hk 2 (by decide)).trans f2
      replace f3 := (hk 3 (by decide)).trans f3
      replace f4 := (hk 4 (by decide)).trans f4
      replace f18 := (hk 18 (by decide)).trans f18
      replace f20 := (hk 20 (by decide)).trans f20
      replace f24 := (hk 24 (by decide)).trans f24
      replace f186 := (hk 186 (by decide)).trans f186
      replace f187 := (hk 187 (by decide)).trans f187
      replace f188 := (hk 188 (by decide)).trans f188
      replace f189 := (hk 189 (by decide)).trans f189
      replace f190 : a101.tmps[190]?.getD undef = .func (.func 49) #[] #[] := f190
      clear hk hsz100 hde100
      refine wpList_next rfl hsz101 hde101 191 rfl (by decide) fun K hK => ?_
      go_simp
      refine (rotate_any base (.slice (some ⟨g, 0, none⟩) n0 cap) _ i1 m en _ _ Hown.out hb.1 hb.2 (by rw [← Hlen0.out]; omega) (by rw [← Hlen0.out]; omega) Hsz.out).mono ?_
      rintro e7 w7 ⟨rfl, hown7, hb7⟩
      go_simp
      refine hK _ _ fun a102 hsz102 hde102 f191 hk => ?_
      clear hK K
      replace f0 := (hk 0 (by decide)).trans f0
      replace f1 := (hk 1 (by decide)).trans f1
      replace f2 := (hk 2 (by decide)).trans f2
      replace f3 := (hk 3 (by decide)).trans f3
      replace f4 := (hk 4 (by decide)).trans f4
      replace f18 := (hk 18 (by decide)).trans f18
      replace f20 := (hk 20 (by decide)).trans f20
      replace f24 := (hk 24 (by decide)).trans f24
      clear hk hsz101 hde101 f186 f187 f188 f189 f190
      clear f191
      refine wpList_nil ?_
      refine then_go ?_
      rw [rot_sym Hp.out Hm.out Hi1.out Hen.out hiA hjB] at hown7
      exact ⟨hsz102, hde102, f0, f1, f2, f3, f4, f18, f20, f24, Lib.hid hown7, Lib.hid (Hbw.out.trans hb7)⟩
    | false =>
      refine wp_cond_false (eval_at f185) ?_
      clear f185
      refine wp_skip ?_
      have hb := of_decide_eq_false Hb1.out.symm
      refine then_go ?_
      exact ⟨hsz96, hde96, f0, f1, f2, f3, f4, f18, f20, f24, Lib.hid (by rw [← rot_none (i := i) (j := jj) (by have := Hci.out; omega)]; exact Hown.out), Hbw⟩
  clear hsz96 hde96 f0 f1 f2 f3 f4 f18 f20 f24 f185 Hown Hbw Hsz
  rintro a116 wz ⟨hsz116, hde116, f0, f1, f2, f3, f4, f18, f20, f24, Hown, Hbw⟩
  have Hsz := Lib.hid (Nat.le_trans Hb.out Hbw.out.size)
  repeat with_reducible refine wp_seq ?_
  have hways : (p < i1 ∧ i1 < mid) ∨ ¬ p < i1 ∨ (p < i1 ∧ ¬ i1 < mid) := by omega
  obtain ⟨b2, hb2⟩ : ∃ b2, b2 = decide (p < i1 ∧ i1 < mid) := ⟨_, rfl⟩
  have Hb2 := Lib.hid hb2
  clear hb2
  refine wp_cut0 (fun a9 x9 => Hid (a9.tmps.size = 220) ∧ Hid (a9.defers = []) ∧ a9.tmps[0]?.getD undef = .slice (some ⟨g, 0, none⟩) n0 cap ∧ a9.tmps[1]?.getD undef = .int .i64 ((p : Nat) : Int) ∧ a9.tmps[2]?.getD undef = .int .i64 ((m : Nat) : Int) ∧ a9.tmps[3]?.getD undef = .int .i64 ((q : Nat) : Int) ∧ a9.tmps[4]?.getD undef = .func (.func 49) #[] #[] ∧ a9.tmps[18]?.getD undef = .int .i64 ((mid : Nat) : Int) ∧ a9.tmps[20]?.getD undef = .int .i64 ((i1 : Nat) : Int) ∧ a9.tmps[24]?.getD undef = .int .i64 ((en : Nat) : Int) ∧ a9.tmps[199]?.getD undef = .bool b2 ∧ x9 = wz) ?_ ?_
  · rcases hways with ⟨hw1, hw2⟩ | hw1 | ⟨hw1, hw2⟩
    · refine wp_region_lit ?_
      refine wpList_next rfl hsz116 hde116 192 rfl (by decide) fun K hK => ?_
      go_simp
      refine hK _ _ fun a117 hsz117 hde117 f192 hk => ?_
      clear hK K
      replace f0 := (hk 0 (by decide)).trans f0
      replace f1 := (hk 1 (by decide)).trans f1
      replace f2 := (hk 2 (by decide)).trans f2
      replace f3 := (hk 3 (by decide)).trans f3
      replace f4 := (hk 4 (by decide)).trans f4
      replace f18 := (hk 18 (by decide)).trans f18
      replace f20 := (hk 20 (by decide)).trans f20
      replace f24 := (hk 24 (by decide)).trans f24
      replace f192 : a117.tmps[192]?.getD undef = .int .i64 ((p : Nat) : Int) := f192
      clear hk hsz116 hde116
      refine wpList_next rfl hsz117 hde117 193 rfl (by decide) fun K hK => ?_
      go_simp
      refine hK _ _ fun a118 hsz118 hde118 f193 hk => ?_
      clear hK K
      replace f0 := (hk 0 (by decide)).trans f0
      replace f1 := (hk 1 (by decide)).trans f1
      replace f2 := (hk 2 (by decide)).trans f2
      replace f3 := (hk 3 (by decide)).trans f3
      replace f4 := (hk 4 (by decide)).trans f4
      replace f18 := (hk 18 (by decide)).trans f18
      replace f20 := (hk 20 (by decide)).trans f20
      replace f24 := (hk 24 (by decide)).trans f24
      replace f192 := (hk 192 (by decide)).trans f192
      replace f193 : a118.tmps[193]?.getD undef = .int .i64 ((i1 : Nat) : Int) := f193
      clear hk hsz117 hde117
      refine wpList_next rfl hsz118 hde118 194 rfl (by decide) fun K hK => ?_
      go_simp
      refine hK _ _ fun a119 hsz119 hde119 f194 hk => ?_
      clear hK K
      replace f0 := (hk 0 (by decide)).trans f0
      replace f1 := (hk 1 (by decide)).trans f1
      replace f2 := (hk 2 (by decide)).trans f2
      replace f3 := (hk 3 (by decide)).trans f3
      replace f4 := (hk 4 (by decide)).trans f4
      replace f18 := (hk 18 (by decide)).trans f18
      replace f20 := (hk 20 (by decide)).trans f20
      replace f24 := (hk 24 (by decide)).trans f24
      clear hk hsz118 hde118 f192 f193
      replace f194 : a119.tmps[194]?.getD undef = .bool true := f194.trans (by first | rfl | (congr 1; first | exact decide_eq_true (by omega) | exact decide_eq_false (by omega)) | (simp; omega))
      refine wpList_next rfl hsz119 hde119 195 rfl (by decide) fun K hK => ?_
      go_simp
      refine hK _ _ fun a120 hsz120 hde120 f195 hk => ?_
      clear hK K
      replace f0 := (hk 0 (by decide)).trans f0
      replace f1 := (hk 1 (by decide)).trans f1
      replace f2 := (hk 2 (by decide)).trans f2
      replace f3 := (hk 3 (by decide)).trans f3
      replace f4 := (hk 4 (by decide)).trans f4
      replace f18 := (hk 18 (by decide)).trans f18
      replace f20 := (hk 20 (by decide)).trans f20
      replace f24 := (hk 24 (by decide)).trans f24
      replace f195 : a120.tmps[195]?.getD undef = .bool true := f195
      clear hk hsz119 hde119 f194
      refine wpList_nextg (wanted_of (j := 3) (t := 195) (b := true) rfl rfl f195) hsz120 hde120 196 rfl (by decide) fun K hK => ?_
      go_simp
      refine hK _ _ fun a121 hsz121 hde121 f196 hk => ?_
      clear hK K
      replace f0 := (hk 0 (by decide)).trans f0
      replace f1 := (hk 1 (by decide)).trans f1
      replace f2 := (hk 2 (by decide)).trans f2
      replace f3 := (hk 3 (by decide)).trans f3
      replace f4 := (hk 4 (by decide)).trans f4
      replace f18 := (hk 18 (by decide)).trans f18
      replace f20 := (hk 20 (by decide)).trans f20
      replace f24 := (hk 24 (by decide)).trans f24
      replace f195 := (hk 195 (by decide)).trans f195
      replace f196 : a121.tmps[196]?.getD undef = .int .i64 ((i1 : Nat) : Int) := f196
      clear hk hsz120 hde120
      refine wpList_nextg (wanted_of (j := 3) (t := 195) (b := true) rfl rfl f195) hsz121 hde121 197 rfl (by decide) fun K hK => ?_
      go_simp
      refine hK _ _ fun a122 hsz122 hde122 f197 hk => ?_
      clear hK K
      replace f0 := (hk 0 (by decide)).trans f0
      replace f1 := (hk 1 (by decide)).trans f1
      replace f2 := (hk 2 (by decide)).trans f2
      replace f3 := (hk 3 (by decide)).trans f3
      replace f4 := (hk 4 (by decide)).trans f4
      replace f18 := (hk 18 (by decide)).trans f18
      replace f20 := (hk 20 (by decide)).trans f20
      replace f24 := (hk 24 (by decide)).trans f24
      replace f195 := (hk 195 (by decide)).trans f195
      replace f196 := (hk 196 (by decide)).trans f196
      replace f197 : a122.tmps[197]?.getD undef = .int .i64 ((mid : Nat) : Int) := f197
      clear hk hsz121 hde121
      refine wpList_nextg (wanted_of (j := 3) (t := 195) (b := true) rfl rfl f195) hsz122 hde122 198 rfl (by decide) fun K hK => ?_
      go_simp
      refine hK _ _ fun a123 hsz123 hde123 f198 hk => ?_
      clear hK K
      replace f0 := (hk 0 (by decide)).trans f0
      replace f1 := (hk 1 (by decide)).trans f1
      replace f2 := (hk 2 (by decide)).trans f2
      replace f3 := (hk 3 (by decide)).trans f3
      replace f4 := (hk 4 (by decide)).trans f4
      replace f18 := (hk 18 (by decide)).trans f18
      replace f20 := (hk 20 (by decide)).trans f20
      replace f24 := (hk 24 (by decide)).trans f24
      replace f195 := (hk 195 (by decide)).trans f195
      clear hk hsz122 hde122 f196 f197
      replace f198 : a123.tmps[198]?.getD undef = .bool true := f198.trans (by first | rfl | (congr 1; first | exact decide_eq_true (by omega) | exact decide_eq_false (by omega)) | (simp; omega))
      refine wpList_next rfl hsz123 hde123 199 rfl (by decide) fun K hK => ?_
      go_simp
      refine hK _ _ fun a124 hsz124 hde124 f199 hk => ?_
      clear hK K
      replace f0 := (hk 0 (by decide)).trans f0
      replace f1 := (hk 1 (by decide)).trans f1
      replace f2 := (hk 2 (by decide)).trans f2
      replace f3 := (hk 3 (by decide)).trans f3
      replace f4 := (hk 4 (by decide)).trans f4
      replace f18 := (hk 18 (by decide)).trans f18
      replace f20 := (hk 20 (by decide)).trans f20
      replace f24 := (hk 24 (by decide)).trans f24
      replace f199 : a124.tmps[199]?.getD undef = .bool true := f199
      clear hk hsz123 hde123 f195 f198
      refine wpList_nil ?_
      refine then_go ?_
      exact ⟨hsz124, hde124, f0, f1, f2, f3, f4, f18, f20, f24, f199.trans (by congr 1; rw [Hb2.out]; exact (decide_eq_true ⟨hw1, hw2⟩).symm), rfl⟩
    · refine wp_region_lit ?_
      refine wpList_next rfl hsz116 hde116 192 rfl (by decide) fun K hK => ?_
      go_simp
      refine hK _ _ fun a117 hsz117 hde117 f192 hk => ?_
      clear hK K
      replace f0 := (hk 0 (by decide)).trans f0
      replace f1 := (hk 1 (by decide)).trans f1
      replace f2 := (hk 2 (by decide)).trans f2
      replace f3 := (hk 3 (by decide)).trans f3
      replace f4 := (hk 4 (by decide)).trans f4
      replace f18 := (hk 18 (by decide)).trans f18
      replace f20 := (hk 20 (by decide)).trans f20
      replace f24 := (hk 24 (by decide)).trans f24
      replace f192 : a117.tmps[192]?.getD undef = .int .i64 ((p : Nat) : Int) := f192
      clear hk hsz116 hde116
      refine wpList_next rfl hsz117 hde117 193 rfl (by decide) fun K hK => ?_
      go_simp
      refine hK _ _ fun a118 hsz118 hde118 f193 hk => ?_
      clear hK K
      replace f0 := (hk 0 (by decide)).trans f0
      replace f1 := (hk 1 (by decide)).trans f1
      replace f2 := (hk 2 (by decide)).trans f2
      replace f3 := (hk 3 (by decide)).trans f3
      replace f4 := (hk 4 (by decide)).trans f4
      replace f18 := (hk 18 (by decide)).trans f18
      replace f20 := (hk 20 (by decide)).trans f20
      replace f24 := (hk 24 (by decide)).trans f24
      replace f192 := (hk 192 (by decide)).trans f192
      replace f193 : a118.tmps[193]?.getD undef = .int .i64 ((i1 : Nat) : Int) := f193
      clear hk hsz117 hde117
      refine wpList_next rfl hsz118 hde118 194 rfl (by decide) fun K hK => ?_
      go_simp
      refine hK _ _ fun a119 hsz119 hde119 f194 hk => ?_
      clear hK K
      replace f0 := (hk 0 (by decide)).trans f0
      replace f1 := (hk 1 (by decide)).trans f1
      replace f2 := (hk 2 (by decide)).trans f2
      replace f3 := (hk 3 (by decide)).trans f3
      replace f4 := (hk 4 (by decide)).trans f4
      replace f18 := (hk 18 (by decide)).trans f18
      replace f20 := (hk 20 (by decide)).trans f20
      replace f24 := (hk 24 (by decide)).trans f24
      clear hk hsz118 hde118 f192 f193
      replace f194 : a119.tmps[194]?.getD undef = .bool false := f194.trans (by first | rfl | (congr 1; first | exact decide_eq_true (by omega) | exact decide_eq_false (by omega)) | (simp; omega))
      refine wpList_next rfl hsz119 hde119 195 rfl (by decide) fun K hK => ?_
      go_simp
      refine hK _ _ fun a120 hsz120 hde120 f195 hk => ?_
      clear hK K
      replace f0 := (hk 0 (by decide)).trans f0
      replace f1 := (hk 1 (by decide)).trans f1
      replace f2 := (hk 2 (by decide)).trans f2
      replace f3 := (hk 3 (by decide)).trans f3
      replace f4 := (hk 4 (by decide)).trans f4
      replace f18 := (hk 18 (by decide)).trans f18
      replace f20 := (hk 20 (by decide)).trans f20
      replace f24 := (hk 24 (by decide)).trans f24
      replace f195 : a120.tmps[195]?.getD undef = .bool false := f195
      clear hk hsz119 hde119 f194
      refine wpList_leave (not_wanted (j := 3) (t := 195) (b := true) rfl rfl (.inr f195)) hsz120 hde120 196 rfl (by decide) fun a121 hsz121 hde121 f196 hk => ?_
      replace f0 := (hk 0 (by decide)).trans f0
      replace f1 := (hk 1 (by decide)).trans f1
      replace f2 := (hk 2 (by decide)).trans f2
      replace f3 := (hk 3 (by decide)).trans f3
      replace f4 := (hk 4 (by decide)).trans f4
      replace f18 := (hk 18 (by decide)).trans f18
      replace f20 := (hk 20 (by decide)).trans f20
      replace f24 := (hk 24 (by decide)).trans f24
      replace f195 := (hk 195 (by decide)).trans f195
      clear hk hsz120 hde120
      refine wpList_leave (not_wanted (j := 3) (t := 195) (b := true) rfl rfl (.inr f195)) hsz121 hde121 197 rfl (by decide) fun a122 hsz122 hde122 f197 hk => ?_
      replace f0 := (hk 0 (by decide)).trans f0
      replace f1 := (hk 1 (by decide)).trans f1
      replace f2 := (hk 2 (by decide)).trans f2
      replace f3 := (hk 3 (by decide)).trans f3
      replace f4 := (hk 4 (by decide)).trans f4
      replace f18 := (hk 18 (by decide)).trans f18
      replace f20 := (hk 20 (by decide)).trans f20
      replace f24 := (hk 24 (by decide)).trans f24
      replace f195 := (hk 195 (by decide)).trans f195
      replace f196 := (hk 196 (by decide)).trans f196
      clear hk hsz121 hde121
      refine wpList_leave (not_wanted (j := 3) (t := 195) (b := true) rfl rfl (.inr f195)) hsz122 hde122 198 rfl (by decide) fun a123 hsz123 hde123 f198 hk => ?_
      replace f0 := (hk 0 (by decide)).trans f0
      replace f1 := (hk 1 (by decide)).trans f1
      replace f2 := (hk 2 (by decide)).trans f2
      replace f3 := (hk 3 (by decide)).trans f3
      replace f4 := (hk 4 (by decide)).trans f4
      replace f18 := (hk 18 (by decide)).trans f18
      replace f20 := (hk 20 (by decide)).trans f20
      replace f24 := (hk 24 (by decide)).trans f24
      replace f195 := (hk 195 (by decide)).trans f195
      clear hk hsz122 hde122 f196 f197
      refine wpList_next rfl hsz123 hde123 199 rfl (by decide) fun K hK => ?_
      go_simp
      refine hK _ _ fun a124 hsz124 hde124 f199 hk => ?_
      clear hK K
      replace f0 := (hk 0 (by decide)).trans f0
      replace f1 := (hk 1 (by decide)).trans f1
      replace f2 := (hk 2 (by decide)).trans f2
      replace f3 := (hk 3 (by decide)).trans f3
      replace f4 := (hk 4 (by decide)).trans f4
      replace f18 := (hk 18 (by decide)).trans f18
      replace f20 := (hk 20 (by decide)).trans f20
      replace f24 := (hk 24 (by decide)).trans f24
      replace f199 : a124.tmps[199]?.getD undef = .bool false := f199
      clear hk hsz123 hde123 f195 f198
      refine wpList_nil ?_
      refine then_go ?_
      exact ⟨hsz124, hde124, f0, f1, f2, f3, f4, f18, f20, f24, f199.trans (by congr 1; rw [Hb2.out]; exact (decide_eq_false (fun h => hw1 h.1)).symm), rfl⟩
    · refine wp_region_lit ?_
      refine wpList_next rfl hsz116 hde116 192 rfl (by decide) fun K hK => ?_
      go_simp
      refine hK _ _ fun a117 hsz117 hde117 f192 hk => ?_
      clear hK K
      replace f0 := (hk 0 (by decide)).trans f0
      replace f1 := (hk 1 (by decide)).trans f1
      replace f2 := (hk 2 (by decide)).trans f2
      replace f3 := (hk 3 (by decide)).trans f3
      replace f4 := (hk 4 (by decide)).trans f4
      replace f18 := (hk 18 (by decide)).trans f18
      replace f20 := (hk 20 (by decide)).trans f20
      replace f24 := (hk 24 (by decide)).trans f24
      replace f192 : a117.tmps[192]?.getD undef = .int .i64 ((p : Nat) : Int) := f192
      clear hk hsz116 hde116
      refine wpList_next rfl hsz117 hde117 193 rfl (by decide) fun K hK => ?_
      go_simp
      refine hK _ _ fun a118 hsz118 hde118 f193 hk => ?_
      clear hK K
      replace f0 := (hk 0 (by decide)).trans f0
      replace f1 := (hk 1 (by decide)).trans f1
      replace f2 := (hk 2 (by decide)).trans f2
      replace f3 := (hk 3 (by decide)).trans f3
      replace f4 := (hk 4 (by decide)).trans f4
      replace f18 := (hk 18 (by decide)).trans f18
      replace f20 := (hk 20 (by decide)).trans f20
      replace f24 := (hk 24 (by decide)).trans f24
      replace f192 := (hk 192 (by decide)).trans f192
      replace f193 : a118.tmps[193]?.getD undef = .int .i64 ((i1 : Nat) : Int) := f193
      clear hk hsz117 hde117
      refine wpList_next rfl hsz118 hde118 194 rfl (by decide) fun K hK => ?_
      go_simp
      refine hK _ _ fun a119 hsz119 hde119 f194 hk => ?_
      clear hK K
      replace f0 := (hk 0 (by decide)).trans f0
      replace f1 := (hk 1 (by decide)).trans f1
      replace f2 := (hk 2 (by decide)).trans f2
      replace f3 := (hk 3 (by decide)).trans f3
      replace f4 := (hk 4 (by decide)).trans f4
      replace f18 := (hk 18 (by decide)).trans f18
      replace f20 := (hk 20 (by decide)).trans f20
      replace f24 := (hk 24 (by decide)).trans f24
      clear hk hsz118 hde118 f192 f193
      replace f194 : a119.tmps[194]?.getD undef = .bool true := f194.trans (by first | rfl | (congr 1; first | exact decide_eq_true (by omega) | exact decide_eq_false (by omega)) | (simp; omega))
      refine wpList_next rfl hsz119 hde119 195 rfl (by decide) fun K hK => ?_
      go_simp
      refine hK _ _ fun a120 hsz120 hde120 f195 hk => ?_
      clear hK K
      replace f0 := (hk 0 (by decide)).trans f0
      replace f1 := (hk 1 (by decide)).trans f1
      replace f2 := (hk 2 (by decide)).trans f2
      replace f3 := (hk 3 (by decide)).trans f3
      replace f4 := (hk 4 (by decide)).trans f4
      replace f18 := (hk 18 (by decide)).trans f18
      replace f20 := (hk 20 (by decide)).trans f20
      replace f24 := (hk 24 (by decide)).trans f24
      replace f195 : a120.tmps[195]?.getD undef = .bool true := f195
      clear hk hsz119 hde119 f194
      refine wpList_nextg (wanted_of (j := 3) (t := 195) (b := true) rfl rfl f195) hsz120 hde120 196 rfl (by decide) fun K hK => ?_
      go_simp
      refine hK _ _ fun a121 hsz121 hde121 f196 hk => ?_
      clear hK K
      replace f0 := (hk 0 (by decide)).trans f0
      replace f1 := (hk 1 (by decide)).trans f1
      replace f2 := (hk 2 (by decide)).trans f2
      replace f3 := (hk 3 (by decide)).trans f3
      replace f4 := (hk 4 (by decide)).trans f4
      replace f18 := (hk 18 (by decide)).trans f18
      replace f20 := (hk 20 (by decide)).trans f20
      replace f24 := (hk 24 (by decide)).trans f24
      replace f195 := (hk 195 (by decide)).trans f195
      replace f196 : a121.tmps[196]?.getD undef = .int .i64 ((i1 : Nat) : Int) := f196
      clear hk hsz120 hde120
      refine wpList_nextg (wanted_of (j := 3) (t := 195) (b := true) rfl rfl f195) hsz121 hde121 197 rfl (by decide) fun K hK => ?_
      go_simp
      refine hK _ _ fun a122 hsz122 hde122 f197 hk => ?_
      clear hK K
      replace f0 := (hk 0 (by decide)).trans f0
      replace f1 := (hk 1 (by decide)).trans f1
      replace f2 := (hk 2 (by decide)).trans f2
      replace f3 := (hk 3 (by decide)).trans f3
      replace f4 := (hk 4 (by decide)).trans f4
      replace f18 := (hk 18 (by decide)).trans f18
      replace f20 := (hk 20 (by decide)).trans f20
      replace f24 := (hk 24 (by decide)).trans f24
      replace f195 := (hk 195 (by decide)).trans f195
      replace f196 := (hk 196 (by decide)).trans f196
      replace f197 : a122.tmps[197]?.getD undef = .int .i64 ((mid : Nat) : Int) := f197
      clear hk hsz121 hde121
      refine wpList_nextg (wanted_of (j := 3) (t := 195) (b := true) rfl rfl f195) hsz122 hde122 198 rfl (by decide) fun K hK => ?_
      go_simp
      refine hK _ _ fun a123 hsz123 hde123 f198 hk => ?_
      clear hK K
      replace f0 := (hk 0 (by decide)).trans f0
      replace f1 := (hk 1 (by decide)).trans f1
      replace f2 := (hk 2 (by decide)).trans f2
      replace f3 := (hk 3 (by decide)).trans f3
      replace f4 := (hk 4 (by decide)).trans f4
      replace f18 := (hk 18 (by decide)).trans f18
      replace f20 := (hk 20 (by decide)).trans f20
      replace f24 := (hk 24 (by decide)).trans f24
      replace f195 := (hk 195 (by decide)).trans f195
      clear hk hsz122 hde122 f196 f197
      replace f198 : a123.tmps[198]?.getD undef = .bool false := f198.trans (by first | rfl | (congr 1; first | exact decide_eq_true (by omega) | exact decide_eq_false (by omega)) | (simp; omega))
      refine wpList_next rfl hsz123 hde123 199 rfl (by decide) fun K hK => ?_
      go_simp
      refine hK _ _ fun a124 hsz124 hde124 f199 hk => ?_
      clear hK K
      replace f0 := (hk 0 (by decide)).trans f0
      replace f1 := (hk 1 (by decide)).trans f1
      replace f2 := (hk 2 (by decide)).trans f2
      replace f3 := (hk 3 (by decide)).trans f3
      replace f4 := (hk 4 (by decide)).trans f4
      replace f18 := (hk 18 (by decide)).trans f18
      replace f20 := (hk 20 (by decide)).trans f20
      replace f24 := (hk 24 (by decide)).trans f24
      replace f199 : a124.tmps[199]?.getD undef = .bool false := f199
      clear hk hsz123 hde123 f195 f198
      refine wpList_nil ?_
      refine then_go ?_
      exact ⟨hsz124, hde124, f0, f1, f2, f3, f4, f18, f20, f24, f199.trans (by congr 1; rw [Hb2.out]; exact (decide_eq_false (fun h => hw2 h.2)).symm), rfl⟩
  clear hways hsz116 hde116 f0 f1 f2 f3 f4 f18 f20 f24
  rintro a136 x136 ⟨hsz136, hde136, f0, f1, f2, f3, f4, f18, f20, f24, f199, rfl⟩
  repeat with_reducible refine wp_seq ?_
  refine wp_cut0 (fun a9 x9 => ∃ C1 : List Ent, Hid (a9.tmps.size = 220) ∧ Hid (a9.defers = []) ∧ a9.tmps[0]?.getD undef = .slice (some ⟨g, 0, none⟩) n0 cap ∧ a9.tmps[1]?.getD undef = .int .i64 ((p : Nat) : Int) ∧ a9.tmps[2]?.getD undef = .int .i64 ((m : Nat) : Int) ∧ a9.tmps[3]?.getD undef = .int .i64 ((q : Nat) : Int) ∧ a9.tmps[4]?.getD undef = .func (.func 49) #[] #[] ∧ a9.tmps[18]?.getD undef = .int .i64 ((mid : Nat) : Int) ∧ a9.tmps[20]?.getD undef = .int .i64 ((i1 : Nat) : Int) ∧ a9.tmps[24]?.getD undef = .int .i64 ((en : Nat) : Int) ∧ Hid (OwnE x9 base (.slice (some ⟨g, 0, none⟩) n0 cap) (P ++ (C1 ++ (A.drop i ++ (B.drop jj ++ S))))) ∧ Hid (Below base x59 x9) ∧ Hid (C1.Perm (A.take i ++ B.take jj) ∧ C1.Pairwise ltE)) ?_ ?_
  · cases b2 with
    | true =>
      refine wp_cond_true (eval_at f199) ?_
      clear f199
      have hb := of_decide_eq_true Hb2.out.symm
      have hlt1 : (A.take i).length = i := by rw [List.length_take]; omega
      have hlt2 : (B.take jj).length = jj := by rw [List.length_take]; omega
      have hih := HIH.out P (A.take i) (B.take jj) (A.drop i ++ (B.drop jj ++ S)) p i1 mid x136 (by rw [hlt1, hlt2]; have := Hd.out; have := Hdij.out; omega) ⟨Hown.out, pair_take HA.out _, pair_take HB.out _, fun x hx y hy => HAB.out x (List.mem_of_mem_take hx) y (List.mem_of_mem_take hy), Hsz.out, Hp.out, by rw [hlt1, Hi1.out], by rw [hlt2, Hi1.out]; have := Hd.out; have := Hdij.out; omega, by have h7 := Hlen0.out; simp only [List.length_append, List.length_drop] at h7 ⊢; have := Hd.out; have := Hdij.out; have := Hp.out; omega, by rw [hlt1]; have := Hci.out; omega, by rw [hlt2]; have := Hci.out; omega⟩
      have Hih := Lib.hid hih
      clear hih
      refine wp_region_lit ?_
      refine wpList_next rfl hsz136 hde136 200 rfl (by decide) fun K hK => ?_
      go_simp
      refine hK _ _ fun a137 hsz137 hde137 f200 hk => ?_
      clear hK K
      replace f0 := (hk 0 (by decide)).trans f0
      replace f1 := (hk 1 (by decide)).trans f1
      replace f2 := (hk 2 (by decide)).trans f2
      replace f3 := (hk 3 (by decide)).trans f3
      replace f4 := (hk 4 (by decide)).trans f4
      replace f18 := (hk 18 (by decide)).trans f18
      replace f20 := (hk 20 (by decide)).trans f20
      replace f24 := (hk 24 (by decide)).trans f24
      replace f200 : a137.tmps[200]?.getD undef = .slice (some ⟨g, 0, none⟩) n0 cap := f200
      clear hk hsz136 hde136
      refine wpList_next rfl hsz137 hde137 201 rfl (by decide) fun K hK => ?_
      go_simp
      refine hK _ _ fun a138 hsz138 hde138 f201 hk => ?_
      clear hK K
      replace f0 := (hk 0 (by decide)).trans f0
      replace f1 := (hk 1 (by decide)).trans f1
      replace f2 := (hk 2 (by decide)).trans f2
      replace f3 := (hk 3 (by decide)).trans f3
      replace f4 := (hk 4 (by decide)).trans f4
      replace f18 := (hk 18 (by decide)).trans f18
      replace f20 := (hk 20 (by decide)).trans f20
      replace f24 := (hk 24 (by decide)).trans f24
      replace f200 := (hk 200 (by decide)).trans f200
      replace f201 : a138.tmps[201]?.getD undef = .int .i64 ((p : Nat) : Int) := f201
      clear hk hsz137 hde137
      refine wpList_next rfl hsz138 hde138 202 rfl (by decide) fun K hK => ?_
      go_simp
      refine hK _ _ fun a139 hsz139 hde139 f202 hk => ?_
      clear hK K
      replace f0 := (hk 0 (by decide)).trans f0
      replace f1 := (hk 1 (by decide)).trans f1
      replace f2 := (hk 2 (by decide)).trans f2
      replace f3 := (hk 3 (by decide)).trans f3
      replace f4 := (hk 4 (by decide)).trans f4
      replace f18 := (hk 18 (by decide)).trans f18
      replace f20 := (hk 20 (by decide)).trans f20
      replace f24 := (hk 24 (by decide)).trans f24
      replace f200 := (hk 200 (by decide)).trans f200
      replace f201 := (hk 201 (by decide)).trans f201
      replace f202 : a139.tmps[202]?.getD undef = .int .i64 ((i1 : Nat) : Int) := f202
      clear hk hsz138 hde138
      refine wpList_next rfl hsz139 hde139 203 rfl (by decide) fun K hK => ?_
      go_simp
      refine hK _ _ fun a140 hsz140 hde140 f203 hk => ?_
      clear hK K
      replace f0 := (hk 0 (by decide)).trans f0
      replace f1 := (hk 1 (by decide)).trans f1
      replace f2 := (hk 2 (by decide)).trans f2
      replace f3 := (hk 3 (by decide)).trans f3
      replace f4 := (hk 4 (by decide)).trans f4
      replace f18 := (hk 18 (by decide)).trans f18
      replace f20 := (hk 20 (by decide)).trans f20
      replace f24 := (hk 24 (by decide)).trans f24
      replace f200 := (hk 200 (by decide)).trans f200
      replace f201 := (hk 201 (by decide)).trans f201
      replace f202 := (hk 202 (by decide)).trans f202
      replace f203 : a140.tmps[203]?.getD undef = .int .i64 ((mid : Nat) : Int) := f203
      clear hk hsz139 hde139
      refine wpList_next rfl hsz140 hde140 204 rfl (by decide) fun K hK => ?_
      go_simp
      refine hK _ _ fun a141 hsz141 hde141 f204 hk => ?_
      clear hK K
      replace f0 := (hk 0 (by decide)).trans f0
      replace f1 := (hk 1 (by decide)).trans f1
      replace f2 := (hk 2 (by decide)).trans f2
      replace f3 := (hk 3 (by decide)).trans f3
      replace f4 := (hk 4 (by decide)).trans f4
      replace f18 := (hk 18 (by decide)).trans f18
      replace f20 := (hk 20 (by decide)).trans f20
      replace f24 := (hk 24 (by decide)).trans f24
      replace f200 := (hk 200 (by decide)).trans f200
      replace f201 := (hk 201 (by decide)).trans f201
      replace f202 := (hk 202 (by decide)).trans f202
      replace f203 := (hk 203 (by decide)).trans f203
      replace f204 : a141.tmps[204]?.getD undef = .func (.func 49) #[] #[] := f204
      clear hk hsz140 hde140
      refine wpList_next rfl hsz141 hde141 205 rfl (by decide) fun K hK => ?_
      go_simp
      refine Hih.out.mono ?_
      rintro e7 w7 ⟨rfl, ⟨C1, hown7, hpm7, hps7⟩, hb7⟩
      go_simp
      refine hK _ _ fun a142 hsz142 hde142 f205 hk => ?_
      clear hK K
      replace f0 := (hk 0 (by decide)).trans f0
      replace f1 := (hk 1 (by decide)).trans f1
      replace f2 := (hk 2 (by decide)).trans f2
      replace f3 := (hk 3 (by decide)).trans f3
      replace f4 := (hk 4 (by decide)).trans f4
      replace f18 := (hk 18 (by decide)).trans f18
      replace f20 := (hk 20 (by decide)).trans f20
      replace f24 := (hk 24 (by decide)).trans f24
      clear hk hsz141 hde141 f200 f201 f202 f203 f204
      clear f205
      refine wpList_nil ?_
      refine then_go ?_
      exact ⟨C1, hsz142, hde142, f0, f1, f2, f3, f4, f18, f20, f24, Lib.hid hown7, Lib.hid (Hbw.out.trans hb7), Lib.hid ⟨hpm7, hps7⟩⟩
    | false =>
      refine wp_cond_false (eval_at f199) ?_
      clear f199
      refine wp_skip ?_
      have hb := of_decide_eq_false Hb2.out.symm
      refine then_go ?_
      refine ⟨A.take i ++ B.take jj, hsz136, hde136, f0, f1, f2, f3, f4, f18, f20, f24, Lib.hid (by rw [List.append_assoc]; exact Hown.out), Hbw, Lib.hid ⟨List.Perm.refl _, ?_⟩⟩
      have h8 : i = 0 ∨ jj = 0 := by have := Hci.out; omega
      rcases h8 with h8 | h8
      · subst h8; rw [List.take_zero, List.nil_append]; exact pair_take HB.out _
      · subst h8; rw [List.take_zero, List.append_nil]; exact pair_take HA.out _
  clear hsz136 hde136 f0 f1 f2 f3 f4 f18 f20 f24 f199 Hown Hbw Hsz
  rintro a156 wz ⟨C1, hsz156, hde156, f0, f1, f2, f3, f4, f18, f20, f24, Hown, Hbw, HC1⟩
  have Hsz := Lib.hid (Nat.le_trans Hb.out Hbw.out.size)
  repeat with_reducible refine wp_seq ?_
  have hways : (mid < en ∧ en < q) ∨ ¬ mid < en ∨ (mid < en ∧ ¬ en < q) := by omega
  obtain ⟨b3, hb3⟩ : ∃ b3, b3 = decide (mid < en ∧ en < q) := ⟨_, rfl⟩
  have Hb3 := Lib.hid hb3
  clear hb3
  refine wp_cut0 (fun a9 x9 => Hid (a9.tmps.size = 220) ∧ Hid (a9.defers = []) ∧ a9.tmps[0]?.getD undef = .slice (some ⟨g, 0, none⟩) n0 cap ∧ a9.tmps[1]?.getD undef = .int .i64 ((p : Nat) : Int) ∧ a9.tmps[2]?.getD undef = .int .i64 ((m : Nat) : Int) ∧ a9.tmps[3]?.getD undef = .int .i64 ((q : Nat) : Int) ∧ a9.tmps[4]?.getD undef = .func (.func 49) #[] #[] ∧ a9.tmps[18]?.getD undef = .int .i64 ((mid : Nat) : Int) ∧ a9.tmps[20]?.getD undef = .int .i64 ((i1 : Nat) : Int) ∧ a9.tmps[24]?.getD undef = .int .i64 ((en : Nat) : Int) ∧ a9.tmps[213]?.getD undef = .bool b3 ∧ x9 = wz) ?_ ?_
  · rcases hways with ⟨hw1, hw2⟩ | hw1 | ⟨hw1, hw2⟩
    · refine wp_region_lit ?_
      refine wpList_next rfl hsz156 hde156 206 rfl (by decide) fun K hK => ?_
      go_simp
      refine hK _ _ fun a157 hsz157 hde157 f206 hk => ?_
      clear hK K
      replace f0 := (hk 0 (by decide)).trans f0
      replace f1 := (hk 1 (by decide)).trans f1
      replace f2 := (hk 2 (by decide)).trans f2
      replace f3 := (hk 3 (by decide)).trans f3
      replace f4 := (hk 4 (by decide)).trans f4
      replace f18 := (hk 18 (by decide)).trans f18
      replace f20 := (hk 20 (by decide)).trans f20
      replace f24 := (hk 24 (by decide)).trans f24
      replace f206 : a157.tmps[206]?.getD undef = .int .i64 ((mid : Nat) : Int) := f206
      clear hk hsz156 hde156
      refine wpList_next rfl hsz157 hde157 207 rfl (by decide) fun K hK => ?_
      go_simp
      refine hK _ _ fun a158 hsz158 hde158 f207 hk => ?_
      clear hK K
      replace f0 := (hk 0 (by decide)).trans f0
      replace f1 := (hk 1 (by decide)).trans f1
      replace f2 := (hk 2 (by decide)).trans f2
      replace f3 := (hk 3 (by decide)).trans f3
      replace f4 := (hk 4 (by decide)).trans f4
      replace f18 := (hk 18 (by decide)).trans f18
      replace f20 := (hk 20 (by decide)).trans f20
      replace f24 := (hk 24 (by decide)).trans f24
      replace f206 := (hk 206 (by decide)).trans f206
      replace f207 : a158.tmps[207]?.getD undef = .int .i64 ((en : Nat) : Int) := f207
      clear hk hsz157 hde157
      refine wpList_next rfl hsz158 hde158 208 rfl (by decide) fun K hK => ?_
      go_simp
      refine hK _ _ fun a159 hsz159 hde159 f208 hk => ?_
      clear hK K
      replace f0 := (hk 0 (by decide)).trans f0
      replace f1 := (hk 1 (by decide)).trans f1
      replace f2 := (hk 2 (by decide)).trans f2
      replace f3 := (hk 3 (by decide)).trans f3
      replace f4 := (hk 4 (by decide)).trans f4
      replace f18 := (hk 18 (by decide)).trans f18
      replace f20 := (hk 20 (by decide)).trans f20
      replace f24 := (hk 24 (by decide)).trans f24
      clear hk hsz158 hde158 f206 f207
      replace f208 : a159.tmps[208]?.getD undef = .bool true := f208.trans (by first | rfl | (congr 1; first | exact decide_eq_true (by omega) | exact decide_eq_false (by omega)) | (simp; omega))
      refine wpList_next rfl hsz159 hde159 209 rfl (by decide) fun K hK => ?_
      go_simp
      refine hK _ _ fun a160 hsz160 hde160 f209 hk => ?_
      clear hK K
      replace f0 := (hk 0 (by decide)).trans f0
      replace f1 := (hk 1 (by decide)).trans f1
      replace f2 := (hk 2 (by decide)).trans f2
      replace f3 := (hk 3 (by decide)).trans f3
      replace f4 := (hk 4 (by decide)).trans f4
      replace f18 := (hk 18 (by decide)).trans f18
      replace f20 := (hk 20 (by decide)).trans f20
      replace f24 := (hk 24 (by decide)).trans f24
      replace f209 : a160.tmps[209]?.getD undef = .bool true := f209
      clear hk hsz159 hde159 f208
      refine wpList_nextg (wanted_of (j := 3) (t := 209) (b := true) rfl rfl f209) hsz160 hde160 210 rfl (by decide) fun K hK => ?_
      go_simp
      refine hK _ _ fun a161 hsz161 hde161 f210 hk => ?_
      clear hK K
      replace f0 := (hk 0 (by decide)).trans f0
      replace f1 := (hk 1 (by decide)).trans f1
      replace f2 := (hk 2 (by decide)).trans f2
      replace f3 := (hk 3 (by decide)).trans f3
      replace f4 := (hk 4 (by decide)).trans f4
      replace f18 := (hk 18 (by decide)).trans f18
      replace f20 := (hk 20 (by decide)).trans f20
      replace f24 := (hk 24 (by decide)).trans f24
      replace f209 := (hk 209 (by decide)).trans f209
      replace f210 : a161.tmps[210]?.getD undef = .int .i64 ((en : Nat) : Int) := f210
      clear hk hsz160 hde160
      refine wpList_nextg (wanted_of (j := 3) (t := 209) (b := true) rfl rfl f209) hsz161 hde161 211 rfl (by decide) fun K hK => ?_
      go_simp
      refine hK _ _ fun a162 hsz162 hde162 f211 hk => ?_
      clear hK K
      replace f0 := (hk 0 (by decide)).trans f0
      replace f1 := (hk 1 (by decide)).trans f1
      replace f2 := (hk 2 (by decide)).trans f2
      replace f3 := (hk 3 (by decide)).trans f3
      replace f4 := (hk 4 (by decide)).trans f4
      replace f18 := (hk 18 (by decide)).trans f18
      replace f20 := (hk 20 (by decide)).trans f20
      replace f24 := (hk 24 (by decide)).trans f24
      replace f209 := (hk 209 (by decide)).trans f209
      replace f210 := (hk 210 (by decide)).trans f210
      replace f211 : a162.tmps[211]?.getD undef = .int .i64 ((q : Nat) : Int) := f211
      clear hk hsz161 hde161
      refine wpList_nextg (wanted_of (j := 3) (t := 209) (b := true) rfl rfl f209) hsz162 hde162 212 rfl (by decide) fun K hK => ?_
      go_simp
      refine hK _ _ fun a163 hsz163 hde163 f212 hk => ?_
      clear hK K
      replace f0 := (hk 0 (by decide)).trans f0
      replace f1 := (hk 1 (by decide)).trans f1
      replace f2 := (hk 2 (by decide)).trans f2
      replace f3 := (hk 3 (by decide)).trans f3
      replace f4 := (hk 4 (by decide)).trans f4
      replace f18 := (hk 18 (by decide)).trans f18
      replace f20 := (hk 20 (by decide)).trans f20
      replace f24 := (hk 24 (by decide)).trans f24
      replace f209 := (hk 209 (by decide)).trans f209
      clear hk hsz162 hde162 f210 f211
      replace f212 : a163.tmps[212]?.getD undef = .bool true := f212.trans (by first | rfl | (congr 1; first | exact decide_eq_true (by omega) | exact decide_eq_false (by omega)) | (simp; omega))
      refine wpList_next rfl hsz163 hde163 213 rfl (by decide) fun K hK => ?_
      go_simp
      refine hK _ _ fun a164 hsz164 hde164 f213 hk => ?_
      clear hK K
      replace f0 := (hk 0 (by decide)).trans f0
      replace f1 := (hk 1 (by decide)).trans f1
      replace f2 := (hk 2 (by decide)).trans f2
      replace f3 := (hk 3 (by decide)).trans f3
      replace f4 := (hk 4 (by decide)).trans f4
      replace f18 := (hk 18 (by decide)).trans f18
      replace f20 := (hk 20 (by decide)).trans f20
      replace f24 := (hk 24 (by decide)).trans f24
      replace f213 : a164.tmps[213]?.getD undef = .bool true := f213
      clear hk hsz163 hde163 f209 f212
      refine wpList_nil ?_
      refine then_go ?_
      exact ⟨hsz164, hde164, f0, f1, f2, f3, f4, f18, f20, f24, f213.trans (by congr 1; rw [Hb3.out]; exact (decide_eq_true ⟨hw1, hw2⟩).symm), rfl⟩
    · refine wp_region_lit ?_
      refine wpList_next rfl hsz156 hde156 206 rfl (by decide) fun K hK => ?_
      go_simp
      refine hK _ _ fun a157 hsz157 hde157 f206 hk => ?_
      clear hK K
      replace f0 := (hk 0 (by decide)).trans f0
      replace f1 := (hk 1 (by decide)).trans f1
      replace f2 := (hk 2 (by decide)).trans f2
      replace f3 := (hk 3 (by decide)).trans f3
      replace f4 := (hk 4 (by decide)).trans f4
      replace f18 := (hk 18 (by decide)).trans f18
      replace f20 := (hk 20 (by decide)).trans f20
      replace f24 := (hk 24 (by decide)).trans f24
      replace f206 : a157.tmps[206]?.getD undef = .int .i64 ((mid : Nat) : Int) := f206
      clear hk hsz156 hde156
      refine wpList_next rfl hsz157 hde157 207 rfl (by decide) fun K hK => ?_
      go_simp
      refine hK _ _ fun a158 hsz158 hde158 f207 hk => ?_
      clear hK K
      replace f0 := (hk 0 (by decide)).trans f0
      replace f1 := (hk 1 (by decide)).trans f1
      replace f2 := (hk 2 (by decide)).trans f2
      replace f3 := (hk 3 (by decide)).trans f3
      replace f4 := (hk 4 (by decide)).trans f4
      replace f18 := (hk 18 (by decide)).trans f18
      replace f20 := (hk 20 (by decide)).trans f20
      replace f24 := (hk 24 (by decide)).trans f24
      replace f206 := (hk 206 (by decide)).trans f206
      replace f207 : a158.tmps[207]?.getD undef = .int .i64 ((en : Nat) : Int) := f207
      clear hk hsz157 hde157
      refine wpList_next rfl hsz158 hde158 208 rfl (by decide) fun K hK => ?_
      go_simp
      refine hK _ _ fun a159 hsz159 hde159 f208 hk => ?_
      clear hK K
      replace f0 := (hk 0 (by decide)).trans f0
      replace f1 := (hk 1 (by decide)).trans f1
      replace f2 := (hk 2 (by decide)).trans f2
      replace f3 := (hk 3 (by decide)).trans f3
      replace f4 := (hk 4 (by decide)).trans f4
      replace f18 := (hk 18 (by decide)).trans f18
      replace f20 := (hk 20 (by decide)).trans f20
      replace f24 := (hk 24 (by decide)).trans f24
      clear hk hsz158 hde158 f206 f207
      replace f208 : a159.tmps[208]?.getD undef = .bool false := f208.trans (by first | rfl | (congr 1; first | exact decide_eq_true (by omega) | exact decide_eq_false (by omega)) | (simp; omega))
      refine wpList_next rfl hsz159 hde159 209 rfl (by decide) fun K hK => ?_
      go_simp
      refine hK _ _ fun a160 hsz160 hde160 f209 hk => ?_
      clear hK K
      replace f0 := (hk 0 (by decide)).trans f0
      replace f1 := (hk 1 (by decide)).trans f1
      replace f2 := (hk 2 (by decide)).trans f2
      replace f3 := (hk 3 (by decide)).trans f3
      replace f4 := (hk 4 (by decide)).trans f4
      replace f18 := (hk 18 (by decide)).trans f18
      replace f20 := (hk 20 (by decide)).trans f20
      replace f24 := (hk 24 (by decide)).trans f24
      replace f209 : a160.tmps[209]?.getD undef = .bool false := f209
      clear hk hsz159 hde159 f208
      refine wpList_leave (not_wanted (j := 3) (t := 209) (b := true) rfl rfl (.inr f209)) hsz160 hde160 210 rfl (by decide) fun a161 hsz161 hde161 f210 hk => ?_
      replace f0 := (hk 0 (by decide)).trans f0
      replace f1 := (hk 1 (by decide)).trans f1
      replace f2 := (hk 2 (by decide)).trans f2
      replace f3 := (hk 3 (by decide)).trans f3
      replace f4 := (hk 4 (by decide)).trans f4
      replace f18 := (hk 18 (by decide)).trans f18
      replace f20 := (hk 20 (by decide)).trans f20
      replace f24 := (hk 24 (by decide)).trans f24
      replace f209 := (hk 209 (by decide)).trans f209
      clear hk hsz160 hde160
      refine wpList_leave (not_wanted (j := 3) (t := 209) (b := true) rfl rfl (.inr f209)) hsz161 hde161 211 rfl (by decide) fun a162 hsz162 hde162 f211 hk => ?_
      replace f0 := (hk 0 (by decide)).trans f0
      replace f1 := (hk 1 (by decide)).trans f1
      replace f2 := (hk 2 (by decide)).trans f2
      replace f3 := (hk 3 (by decide)).trans f3
      replace f4 := (hk 4 (by decide)).trans f4
      replace f18 := (hk 18 (by decide)).trans f18
      replace f20 := (hk 20 (by decide)).trans f20
      replace f24 := (hk 24 (by decide)).trans f24
      replace f209 := (hk 209 (by decide)).trans f209
      replace f210 := (hk 210 (by decide)).trans f210
      clear hk hsz161 hde161
      refine wpList_leave (not_wanted (j := 3) (t := 209) (b := true) rfl rfl (.inr f209)) hsz162 hde162 212 rfl (by decide) fun a163 hsz163 hde163 f212 hk => ?_
      replace f0 := (hk 0 (by decide)).trans f0
      replace f1 := (hk 1 (by decide)).trans f1
      replace f2 := (hk 2 (by decide)).trans f2
      replace f3 := (hk 3 (by decide)).trans f3
      replace f4 := (hk 4 (by decide)).trans f4
      replace f18 := (hk 18 (by decide)).trans f18
      replace f20 := (hk 20 (by decide)).trans f20
      replace f24 := (hk 24 (by decide)).trans f24
      replace f209 := (hk 209 (by decide)).trans f209
      clear hk hsz162 hde162 f210 f211
      refine wpList_next rfl hsz163 hde163 213 rfl (by decide) fun K hK => ?_
      go_simp
      refine hK _ _ fun a164 hsz164 hde164 f213 hk => ?_
      clear hK K
      replace f0 := (hk 0 (by decide)).trans f0
      replace f1 := (hk 1 (by decide)).trans f1
      replace f2 := (hk 2 (by decide)).trans f2
      replace f3 := (hk 3 (by decide)).trans f3
      replace f4 := (hk 4 (by decide)).trans f4
      replace f18 := (hk 18 (by decide)).trans f18
      replace f20 := (hk 20 (by decide)).trans f20
      replace f24 := (hk 24 (by decide)).trans f24
      replace f213 : a164.tmps[213]?.getD undef = .bool false := f213
      clear hk hsz163 hde163 f209 f212
      refine wpList_nil ?_
      refine then_go ?_
      exact ⟨hsz164, hde164, f0, f1, f2, f3, f4, f18, f20, f24, f213.trans (by congr 1; rw [Hb3.out]; exact (decide_eq_false (fun h => hw1 h.1)).symm), rfl⟩
    · refine wp_region_lit ?_
      refine wpList_next rfl hsz156 hde156 206 rfl (by decide) fun K hK => ?_
      go_simp
      refine hK _ _ fun a157 hsz157 hde157 f206 hk => ?_
      clear hK K
      replace f0 := (hk 0 (by decide)).trans f0
      replace f1 := (hk 1 (by decide)).trans f1
      replace f2 := (hk 2 (by decide)).trans f2
      replace f3 := (hk 3 (by decide)).trans f3
      replace f4 := (hk 4 (by decide)).trans f4
      replace f18 := (hk 18 (by decide)).trans f18
      replace f20 := (hk 20 (by decide)).trans f20
      replace f24 := (hk 24 (by decide)).trans f24
      replace f206 : a157.tmps[206]?.getD undef = .int .i64 ((mid : Nat) : Int) := f206
      clear hk hsz156 hde156
      refine wpList_next rfl hsz157 hde157 207 rfl (by decide) fun K hK => ?_
      go_simp
      refine hK _ _ fun a158 hsz158 hde158 f207 hk => ?_
      clear hK K
      replace f0 := (hk 0 (by decide)).trans f0
      replace f1 := (hk 1 (by decide)).trans f1
      replace f2 := (hk 2 (by decide)).trans f2
      replace f3 := (hk 3 (by decide)).trans f3
      replace f4 := (hk 4 (by decide)).trans f4
      replace f18 := (hk 18 (by decide)).trans f18
      replace f20 := (hk 20 (by decide)).trans f20
      replace f24 := (hk 24 (by decide)).trans f24
      replace f206 := (hk 206 (by decide)).trans f206
      replace f207 : a158.tmps[207]?.getD undef = .int .i64 ((en : Nat) : Int) := f207
      clear hk hsz157 hde157
      refine wpList_next rfl hsz158 hde158 208 rfl (by decide) fun K hK => ?_
      go_simp
      refine hK _ _ fun a159 hsz159 hde159 f208 hk => ?_
      clear hK K
      replace f0 := (hk 0 (by decide)).trans f0
      replace f1 := (hk 1 (by decide)).trans f1
      replace f2 := (hk 2 (by decide)).trans f2
      replace f3 := (hk 3 (by decide)).trans f3
      replace f4 := (hk 4 (by decide)).trans f4
      replace f18 := (hk 18 (by decide)).trans f18
      replace f20 := (hk 20 (by decide)).trans f20
      replace f24 := (hk 24 (by decide)).trans f24
      clear hk hsz158 hde158 f206 f207
      replace f208 : a159.tmps[208]?.getD undef = .bool true := f208.trans (by first | rfl | (congr 1; first | exact decide_eq_true (by omega) | exact decide_eq_false (by omega)) | (simp; omega))
      refine wpList_next rfl hsz159 hde159 209 rfl (by decide) fun K hK => ?_
      go_simp
      refine hK _ _ fun a160 hsz160 hde160 f209 hk => ?_
      clear hK K
      replace f0 := (hk 0 (by decide)).trans f0
      replace f1 := (hk 1 (by decide)).trans f1
      replace f2 := (hk 2 (by decide)).trans f2
      replace f3 := (hk 3 (by decide)).trans f3
      replace f4 := (hk 4 (by decide)).trans f4
      replace f18 := (hk 18 (by decide)).trans f18
      replace f20 := (hk 20 (by decide)).trans f20
      replace f24 := (hk 24 (by decide)).trans f24
      replace f209 : a160.tmps[209]?.getD undef = .bool true := f209
      clear hk hsz159 hde159 f208
      refine wpList_nextg (wanted_of (j := 3) (t := 209) (b := true) rfl rfl f209) hsz160 hde160 210 rfl (by decide) fun K hK => ?_
      go_simp
      refine hK _ _ fun a161 hsz161 hde161 f210 hk => ?_
      clear hK K
      replace f0 := (hk 0 (by decide)).trans f0
      replace f1 := (hk 1 (by decide)).trans f1
      replace f2 := (hk 2 (by decide)).trans f2
      replace f3 := (hk 3 (by decide)).trans f3
      replace f4 := (hk 4 (by decide)).trans f4
      replace f18 := (hk 18 (by decide)).trans f18
      replace f20 := (hk 20 (by decide)).trans f20
      replace f24 := (hk 24 (by decide)).trans f24
      replace f209 := (hk 209 (by decide)).trans f209
      replace f210 : a161.tmps[210]?.getD undef = .int .i64 ((en : Nat) : Int) := f210
      clear hk hsz160 hde160
      refine wpList_nextg (wanted_of (j := 3) (t := 209) (b := true) rfl rfl f209) hsz161 hde161 211 rfl (by decide) fun K hK => ?_
      go_simp
      refine hK _ _ fun a162 hsz162 hde162 f211 hk => ?_
      clear hK K
      replace f0 := (hk 0 (by decide)).trans f0
      replace f1 := (hk 1 (by decide)).trans f1
      replace f2 := (hk 2 (by decide)).trans f2
      replace f3 := (hk 3 (by decide)).trans f3
      replace f4 := (hk 4 (by decide)).trans f4
      replace f18 := (hk 18 (by decide)).trans f18
      replace f20 := (hk 20 (by decide)).trans f20
      replace f24 := (hk 24 (by decide)).trans f24
      replace f209 := (hk 209 (by decide)).trans f209
      replace f210 := (hk 210 (by decide)).trans f210
      replace f211 : a162.tmps[211]?.getD undef = .int .i64 ((q : Nat) : Int) := f211
      clear hk hsz161 hde161
      refine wpList_nextg (wanted_of (j := 3) (t := 209) (b := true) rfl rfl f209) hsz162 hde162 212 rfl (by decide) fun K hK => ?_
      go_simp
      refine hK _ _ fun a163 hsz163 hde163 f212 hk => ?_
      clear hK K
      replace f0 := (hk 0 (by decide)).trans f0
      replace f1 := (hk 1 (by decide)).trans f1
      replace f2 := (hk 2 (by decide)).trans f2
      replace f3 := (hk 3 (by decide)).trans f3
      replace f4 := (hk 4 (by decide)).trans f4
      replace f18 := (hk 18 (by decide)).trans f18
      replace f20 := (hk 20 (by decide)).trans f20
      replace f24 := (hk 24 (by decide)).trans f24
      replace f209 := (hk 209 (by decide)).trans f209
      clear hk hsz162 hde162 f210 f211
      replace f212 : a163.tmps[212]?.getD undef = .bool false := f212.trans (by first | rfl | (congr 1; first | exact decide_eq_true (by omega) | exact decide_eq_false (by omega)) | (simp; omega))
      refine wpList_next rfl hsz163 hde163 213 rfl (by decide) fun K hK => ?_
      go_simp
      refine hK _ _ fun a164 hsz164 hde164 f213 hk => ?_
      clear hK K
      replace f0 := (hk 0 (by decide)).trans f0
      replace f1 := (hk 1 (by decide)).trans f1
      replace f2 := (hk 2 (by decide)).trans f2
      replace f3 := (hk 3 (by decide)).trans f3
      replace f4 := (hk 4 (by decide)).trans f4
      replace f18 := (hk 18 (by decide)).trans f18
      replace f20 := (hk 20 (by decide)).trans f20
      replace f24 := (hk 24 (by decide)).trans f24
      replace f213 : a164.tmps[213]?.getD undef = .bool false := f213
      clear hk hsz163 hde163 f209 f212
      refine wpList_nil ?_
      refine then_go ?_
      exact ⟨hsz164, hde164, f0, f1, f2, f3, f4, f18, f20, f24, f213.trans (by congr 1; rw [Hb3.out]; exact (decide_eq_false (fun h => hw2 h.2)).symm), rfl⟩
  clear hways hsz156 hde156 f0 f1 f2 f3 f4 f18 f20 f24
  rintro a176 x176 ⟨hsz176, hde176, f0, f1, f2, f3, f4, f18, f20, f24, f213, rfl⟩
  repeat with_reducible refine wp_seq ?_
  cases b3 with
  | true =>
    refine wp_cond_true (eval_at f213) ?_
    clear f213
    have hb := of_decide_eq_true Hb3.out.symm
    have hlt1 : (A.drop i).length = A.length - i := List.length_drop
    have hlt2 : (B.drop jj).length = B.length - jj := List.length_drop
    have hC1l : C1.length = i + jj := by have h7 := HC1.out.1.length_eq; rw [List.length_append, List.length_take, List.length_take] at h7; omega
    have hih := HIH.out (P ++ C1) (A.drop i) (B.drop jj) S mid en q x176 (by rw [hlt1, hlt2]; have := Hd.out; have := Hdij.out; omega) ⟨by rw [List.append_assoc]; exact Hown.out, pair_drop HA.out _, pair_drop HB.out _, fun x hx y hy => HAB.out x (List.mem_of_mem_drop hx) y (List.mem_of_mem_drop hy), Hsz.out, by rw [List.length_append, hC1l]; have := Hd.out; have := Hdij.out; have := Hp.out; omega, by rw [hlt1, Hen.out]; have := Hd.out; have := Hdij.out; have := Hm.out; omega, by rw [hlt2, Hen.out]; have := Hq.out; omega, by have h7 := Hlen0.out; simp only [List.length_append] at h7; have := Hp.out; have := Hm.out; have := Hq.out; omega, by rw [hlt1]; have := Hci.out; omega, by rw [hlt2]; have := Hci.out; omega⟩
    have Hih := Lib.hid hih
    clear hih
    refine wp_region_lit ?_
    refine wpList_next rfl hsz176 hde176 214 rfl (by decide) fun K hK => ?_
    go_simp
    refine hK _ _ fun a177 hsz177 hde177 f214 hk => ?_
    clear hK K
    replace f0 := (hk 0 (by decide)).trans f0
    replace f1 := (hk 1 (by decide)).trans f1
    replace f2 := (hk 2 (by decide)).trans f2
    replace f3 := (hk 3 (by decide)).trans f3
    replace f4 := (hk 4 (by decide)).trans f4
    replace f18 := (hk 18 (by decide)).trans f18
    replace f20 := (hk 20 (by decide)).trans f20
    replace f24 := (hk 24 (by decide)).trans f24
    replace f214 : a177.tmps[214]?.getD undef = .slice (some ⟨g, 0, none⟩) n0 cap := f214
    clear hk hsz176 hde176
    refine wpList_next rfl hsz177 hde177 215 rfl (by decide) fun K hK => ?_
    go_simp
    refine hK _ _ fun a178 hsz178 hde178 f215 hk => ?_
    clear hK K
    replace f0 := (hk 0 (by decide)).trans f0
    replace f1 := (hk 1 (by decide)).trans f1
    replace f2 := (hk 2 (by decide)).trans f2
    replace f3 := (hk 3 (by decide)).trans f3
    replace f4 := (hk 4 (by decide)).trans f4
    replace f18 := (hk 18 (by decide)).trans f18
    replace f20 := (hk 20 (by decide)).trans f20
    replace f24 := (hk 24 (by decide)).trans f24
    replace f214 := (hk 214 (by decide)).trans f214
    replace f215 : a178.tmps[215]?.getD undef = .int .i64 ((mid : Nat) : Int) := f215
    clear hk hsz177 hde177
    refine wpList_next rfl hsz178 hde178 216 rfl (by decide) fun K hK => ?_
    go_simp
    refine hK _ _ fun a179 hsz179 hde179 f216 hk => ?_
    clear hK K
    replace f0 := (hk 0 (by decide)).trans f0
    replace f1 := (hk 1 (by decide)).trans f1
    replace f2 := (hk 2 (by decide)).trans f2
    replace f3 := (hk 3 (by decide)).trans f3
    replace f4 := (hk 4 (by decide)).trans f4
    replace f18 := (hk 18 (by decide)).trans f18
    replace f20 := (hk 20 (by decide)).trans f20
    replace f24 := (hk 24 (by decide)).trans f24
    replace f214 := (hk 214 (by decide)).trans f214
    replace f215 := (hk 215 (by decide)).trans f215
    replace f216 : a179.tmps[216]?.getD undef = .int .i64 ((en : Nat) : Int) := f216
    clear hk hsz178 hde178
    refine wpList_next rfl hsz179 hde179 217 rfl (by decide) fun K hK => ?_
    go_simp
    refine hK _ _ fun a180 hsz180 hde180 f217 hk => ?_
    clear hK K
    replace f0 := (hk 0 (by decide)).trans f0
    replace f1 := (hk 1 (by decide)).trans f1
    replace f2 := (hk 2 (by decide)).trans f2
    replace f3 := (hk 3 (by decide)).trans f3
    replace f4 := (hk 4 (by decide)).trans f4
    replace f18 := (hk 18 (by decide)).trans f18
    replace f20 := (hk 20 (by decide)).trans f20
    replace f24 := (hk 24 (by decide)).trans f24
    replace f214 := (hk 214 (by decide)).trans f214
    replace f215 := (hk 215 (by decide)).trans f215
    replace f216 := (hk 216 (by decide)).trans f216
    replace f217 : a180.tmps[217]?.getD undef = .int .i64 ((q : Nat) : Int) := f217
    clear hk hsz179 hde179
    refine wpList_next rfl hsz180 hde180 218 rfl (by decide) fun K hK => ?_
    go_simp
    refine hK _ _ fun a181 hsz181 hde181 f218 hk => ?_
    clear hK K
    replace f0 := (hk 0 (by decide)).trans f0
    replace f1 := (hk 1 (by decide)).trans f1
    replace f2 := (hk 2 (by decide)).trans f2
    replace f3 := (hk 3 (by decide)).trans f3
    replace f4 := (hk 4 (by decide)).trans f4
    replace f18 := (hk 18 (by decide)).trans f18
    replace f20 := (hk 20 (by decide)).trans f20
    replace f24 := (hk 24 (by decide)).trans f24
    replace f214 := (hk 214 (by decide)).trans f214
    replace f215 := (hk 215 (by decide)).trans f215
    replace f216 := (hk 216 (by decide)).trans f216
    replace f217 := (hk 217 (by decide)).trans f217
    replace f218 : a181.tmps[218]?.getD undef = .func (.func 49) #[] #[] := f218
    clear hk hsz180 hde180
    refine wpList_next rfl hsz181 hde181 219 rfl (by decide) fun K hK => ?_
    go_simp
    refine Hih.out.mono ?_
    rintro e7 w7 ⟨rfl, ⟨C2, hown7, hpm7, hps7⟩, hb7⟩
    go_simp
    refine hK _ _ fun a182 hsz182 hde182 f219 hk => ?_
    clear hK K
    replace f0 := (hk 0 (by decide)).trans f0
    replace f1 := (hk 1 (by decide)).trans f1
    replace f2 := (hk 2 (by decide)).trans f2
    replace f3 := (hk 3 (by decide)).trans f3
    replace f4 := (hk 4 (by decide)).trans f4
    replace f18 := (hk 18 (by decide)).trans f18
    replace f20 := (hk 20 (by decide)).trans f20
    replace f24 := (hk 24 (by decide)).trans f24
    clear hk hsz181 hde181 f214 f215 f216 f217 f218
    clear f219
    refine wpList_nil ?_
    have hend := sym_end HC1.out.1 hpm7 HC1.out.2 hps7 Hcut.out
    refine end_none Tryd.results73 hde182 ⟨rfl, ⟨C1 ++ C2, by simpa using hown7, hend.1, hend.2⟩, Hbw.out.trans hb7⟩
  | false =>
    refine wp_cond_false (eval_at f213) ?_
    clear f213
    refine wp_skip ?_
    have hb := of_decide_eq_false Hb3.out.symm
    have h8 : A.length ≤ i ∨ B.length ≤ jj := by have := Hci.out; omega
    have hs2 : (A.drop i ++ B.drop jj).Pairwise ltE := by
      rcases h8 with h8 | h8
      · rw [List.drop_of_length_le h8, List.nil_append]; exact pair_drop HB.out _
      · rw [List.drop_of_length_le h8, List.append_nil]; exact pair_drop HA.out _
    have hend := sym_end HC1.out.1 (List.Perm.refl _) HC1.out.2 hs2 Hcut.out
    refine end_none Tryd.results73 hde176 ⟨rfl, ⟨C1 ++ (A.drop i ++ B.drop jj), by simpa using Hown.out, hend.1, hend.2⟩, Hbw.out⟩

/-- symMerge of two sorted parts. -/
theorem symmerge_any (base : Nat) (v : Value) : ∀ (k : Nat) (P A B S : List Ent) (p m q : Nat) (w : World), A.length + B.length < k → SymPre w base v P A B S p m q →
    Calls Tryd.prog 73 #[v, .int .i64 ((p : Nat) : Int), .int .i64 ((m : Nat) : Int), .int .i64 ((q : Nat) : Int), .func (.func 49) #[] #[]] w (SymPost base v P A B S w) := by
  intro k
  induction k with
  | zero => intro P A B S p m q w h _; omega
  | succ k ih =>
    intro P A B S p m q w hk h
    by_cases h1 : A.length = 1
    · exact sym_one base v P A B S p m q w h h1
    by_cases h2 : B.length = 1
    · exact sym_two base v P A B S p m q w h h1 h2
    exact sym_more base v P A B S p m q w h h1 h2 fun P2 A2 B2 S2 p2 m2 q2 w2 hlt h7 => ih P2 A2 B2 S2 p2 m2 q2 w2 (by omega) h7
end Go.Proofs.YtcpjgohclncbkaaDoor
