/-
  choose.Clean.
-/
import Derived.Test.YtgebodibamgipaaGreatDoorChSort
import Derived.Test.YtgebodibamgipaaGreatDoorWalk
import Derived.Scope
import Derived.Deep.LoopGhost
namespace Go.Proofs.YtgebodibamgipaaGreatDoor
open Go.RowKit
set_option maxRecDepth 100000

theorem nogoto_ret {Q : Exit → Act → World → Prop} {a : Act} {w : World} (h : Q .ret a w) : Exit.noGoto Q .ret a w := h
theorem ret_two {P : Program} {fn : Func} {R : Ending → World → Prop} {a : Act} {w : World} {p q : Tmp} {u v : Value} (hr : fn.results = #[.tmp p, .tmp q]) (hde : Hid (a.defers = [])) (hp : a.tmps[p]?.getD undef = u) (hq : a.tmps[q]?.getD undef = v) (h : R (.returned (.tuple #[u, v])) w) : bodyPost P fn R .ret a w :=
  bodyPost_ret (by simp [results, hr, hp, hq]) hde.out h
theorem elemS1 : ElemK Tryz.prog 22 9 1 16 := ElemK.mk_ (z := .string ByteArray.empty) Tryz.underlying22 (by kernel_rfl) rfl (by omega)
theorem all_take {L : List Txt} {i : Nat} (h : i < L.length) (hb : (L.take i).all pathB = true) (hi : pathB L[i] = true) : (L.take (i + 1)).all pathB = true := by
  rw [List.take_succ_eq_append_getElem h, List.all_append, hb]
  simp [hi]
theorem all_not {L : List Txt} {i : Nat} (h : i < L.length) (hi : pathB L[i] = false) : L.all pathB = false := by
  rw [List.all_eq_false]
  exact ⟨L[i], List.getElem_mem h, by rw [hi]; simp⟩
theorem path_len {s : Txt} (h : pathB s = true) : s.length ≤ 400 := by
  obtain ⟨L, hL⟩ := pathB_iff.1 h
  have := (split_path hL).2.2.1
  omega
theorem topsF_step {S : List Txt} {k : Nat} (h : k < S.length) : topsF (S.take (k + 1)) = topStep (topsF (S.take k)) S[k] := by
  rw [List.take_succ_eq_append_getElem h, topsF_snoc]
theorem topsF_more {S : List Txt} {k : Nat} (h : k < S.length) {T : List Txt} (hT : T = topsF (S.take k)) (h8 : T.length = 8) (hno : (T.any fun t => withinV S[k] t) = false) : 8 < (topsF S).length := by
  have h1 := topsF_le (S.take (k + 1)) (S.drop (k + 1))
  rw [List.take_append_drop, topsF_step h, ← hT] at h1
  unfold topStep at h1
  rw [if_neg (by rw [hno]; simp), List.length_append, h8] at h1
  exact h1
/-- The texts that a loop has gathered. -/
def OwnT (w : World) (base : Nat) (v : Value) (T : List Txt) : Prop := OwnK w base 9 1 v T.length (T.map str)
theorem OwnT.form {w : World} {base : Nat} {v : Value} {T : List Txt} (h : OwnT w base v T) : ∃ A c, v = .slice A T.length c ∧ T.length ≤ c ∧ c ≤ maxLen ∧ Rd w (fun g => v.ownBlock = some g) A (T.map str) := OwnK.form h
theorem OwnT.texts {w : World} {base : Nat} {v : Value} {T : List Txt} (h : OwnT w base v T) : TextsAt w v T := by
  obtain ⟨A, c, h1, h2, h3, h4⟩ := h.form
  exact ⟨A, c, h1, h2, h3, h4.weaken fun _ _ => trivial⟩
theorem TextsAt.grow {w w' : World} {v : Value} {T : List Txt} (h : TextsAt w v T) (hb : Below w.heap.size w w') : TextsAt w' v T := by
  obtain ⟨A, c, h1, h2, h3, h4⟩ := h
  exact ⟨A, c, h1, h2, h3, h4.grow hb⟩
theorem textsAt_nil (w : World) : TextsAt w (.slice none 0 0) [] := ⟨none, 0, rfl, Nat.le_refl _, Nat.zero_le _, Rd.nil⟩
def C1Inv (w : World) (v : Value) (L : List Txt) (n : Nat) (k9 : Nat) (a : Act) (x : World) : Prop :=
  ∃ i : Nat, Hid (a.tmps.size = 49) ∧ Hid (a.defers = []) ∧ a.tmps[0]?.getD undef = v ∧ a.tmps[11]?.getD undef = v ∧ a.tmps[12]?.getD undef = .int .i64 ((n : Nat) : Int) ∧ a.tmps[13]?.getD undef = .int .i64 ((i : Nat) : Int) ∧ Hid (i ≤ n) ∧ Hid ((L.take i).all pathB = true) ∧ Hid (Below w.heap.size w x) ∧ k9 = n - i
def C2Inv (w : World) (v : Value) (S : List Txt) (n : Nat) (k9 : Nat) (a : Act) (x : World) : Prop :=
  ∃ (i : Nat) (u : Value), Hid (a.tmps.size = 49) ∧ Hid (a.defers = []) ∧ a.tmps[6]?.getD undef = u ∧ a.tmps[23]?.getD undef = v ∧ a.tmps[24]?.getD undef = .int .i64 ((n : Nat) : Int) ∧ a.tmps[25]?.getD undef = .int .i64 ((i : Nat) : Int) ∧ Hid (i ≤ n) ∧ Hid ((topsF (S.take i)).length ≤ 8) ∧ Hid (OwnT x w.heap.size u (topsF (S.take i))) ∧ Hid (Below w.heap.size w x) ∧ k9 = n - i
def C3Inv (wr : World) (v u y : Value) (n i m : Nat) (T : List Txt) (x9 : Txt) (k9 : Nat) (a : Act) (x : World) : Prop :=
  ∃ j : Nat, Hid (a.tmps.size = 49) ∧ Hid (a.defers = []) ∧ a.tmps[6]?.getD undef = u ∧ a.tmps[8]?.getD undef = y ∧ a.tmps[23]?.getD undef = v ∧ a.tmps[24]?.getD undef = .int .i64 ((n : Nat) : Int) ∧ a.tmps[25]?.getD undef = .int .i64 ((i : Nat) : Int) ∧ a.tmps[29]?.getD undef = u ∧ a.tmps[30]?.getD undef = .int .i64 ((m : Nat) : Int) ∧ a.tmps[31]?.getD undef = .int .i64 ((j : Nat) : Int) ∧ Hid (j ≤ m) ∧ Hid (((T.take j).any fun t => withinV x9 t) = false) ∧ Hid (Below wr.heap.size wr x) ∧ k9 = m - j

set_option maxHeartbeats 4000000 in
theorem clean_any (ok : Nat → Prop) (A : Option Addr) (c : Nat) (L : List Txt) (w : World) (he : Env w) (hL : Rd w ok A (L.map str)) (hl : L.length ≤ 100000) :
    Calls Tryz.prog 6 #[.slice A L.length c] w fun e w' => (∃ v, e = .returned (.tuple #[v, .int .i64 (cleanV L).2]) ∧ TextsAt w' v (cleanV L).1) ∧ Below w.heap.size w w' := by
  have He := Lib.hid he
  have HL := Lib.hid hL
  obtain ⟨n, hn⟩ : ∃ n, n = L.length := ⟨_, rfl⟩
  rw [← hn] at hl ⊢
  have Hn := Lib.hid hn
  clear he hL hn
  go_enter Tryz.func6, Tryz.ntmps6
  refine enter_abs (N := 49) rfl rfl fun a0 hsz0 hde0 hk => ?_
  have f0 : a0.tmps[0]?.getD undef = .slice A n c := hk 0
  clear hk
  repeat with_reducible refine wp_seq ?_
  refine wp_region_lit ?_
  refine wpList_next rfl hsz0 hde0 2 rfl (by decide) fun K hK => ?_
  go_simp
  refine hK _ _ fun a1 hsz1 hde1 f2 hk => ?_
  clear hK K
  replace f0 := (hk 0 (by decide)).trans f0
  clear hk hsz0 hde0
  refine wpList_next rfl hsz1 hde1 3 rfl (by decide) fun K hK => ?_
  go_simp
  refine hK _ _ fun a2 hsz2 hde2 f3 hk => ?_
  clear hK K
  replace f0 := (hk 0 (by decide)).trans f0
  replace f2 := (hk 2 (by decide)).trans f2
  clear hk hsz1 hde1
  refine wpList_nil ?_
  clear f2 f3
  refine then_go ?_
  refine wp_scope_straight ?_
  repeat with_reducible refine wp_seq ?_
  refine wp_region_lit ?_
  refine wpList_next rfl hsz2 hde2 11 rfl (by decide) fun K hK => ?_
  go_simp
  refine hK _ _ fun a3 hsz3 hde3 f11 hk => ?_
  clear hK K
  replace f0 := (hk 0 (by decide)).trans f0
  replace f11 : a3.tmps[11]?.getD undef = .slice A n c := f11
  clear hk hsz2 hde2
  refine wpList_next rfl hsz3 hde3 12 rfl (by decide) fun K hK => ?_
  go_simp
  refine hK _ _ fun a4 hsz4 hde4 f12 hk => ?_
  clear hK K
  replace f0 := (hk 0 (by decide)).trans f0
  replace f11 := (hk 11 (by decide)).trans f11
  replace f12 : a4.tmps[12]?.getD undef = .int .i64 ((n : Nat) : Int) := f12
  clear hk hsz3 hde3
  refine wpList_next rfl hsz4 hde4 13 rfl (by decide) fun K hK => ?_
  go_simp
  refine hK _ _ fun a5 hsz5 hde5 f13 hk => ?_
  clear hK K
  replace f0 := (hk 0 (by decide)).trans f0
  replace f11 := (hk 11 (by decide)).trans f11
  replace f12 := (hk 12 (by decide)).trans f12
  replace f13 : a5.tmps[13]?.getD undef = .int .i64 ((0 : Nat) : Int) := f13
  clear hk hsz4 hde4
  refine wpList_nil ?_
  refine then_go ?_
  repeat with_reducible refine wp_seq ?_
  refine wp_block ?_
  refine wp_loop_ghost (C1Inv w (.slice A n c) L n) (n - 0) ?_ ?_
  · exact ⟨0, hsz5, hde5, f0, f11, f12, f13, Lib.hid (Nat.zero_le _), Lib.hid (by rw [List.take_zero]; rfl), Lib.hid (Below.refl _ _), rfl⟩
  clear hsz5 hde5 f0 f11 f12 f13
  intro n2 a19 wr hI
  obtain ⟨i, hsz19, hde19, f0, f11, f12, f13, Hi, Hall, Hbw, hn2⟩ := hI
  have Hn2 := Lib.hid hn2
  clear hn2
  repeat with_reducible refine wp_seq ?_
  by_cases hlt : i < n
  · skip
    refine wp_region_lit ?_
    refine wpList_next rfl hsz19 hde19 14 rfl (by decide) fun K hK => ?_
    go_simp
    refine hK _ _ fun a20 hsz20 hde20 f14 hk => ?_
    clear hK K
    replace f0 := (hk 0 (by decide)).trans f0
    replace f11 := (hk 11 (by decide)).trans f11
    replace f12 := (hk 12 (by decide)).trans f12
    replace f13 := (hk 13 (by decide)).trans f13
    clear hk hsz19 hde19
    replace f14 : a20.tmps[14]?.getD undef = .bool true := f14.trans (by first | rfl | (congr 1; first | exact decide_eq_true (by omega) | exact decide_eq_false (by omega)) | (simp; omega))
    refine wpList_nil ?_
    refine then_go ?_
    repeat with_reducible refine wp_seq ?_
    refine wp_cond_true (eval_at f14) ?_
    refine wp_skip ?_
    refine then_go ?_
    clear f14
    repeat with_reducible refine wp_seq ?_
    refine wp_block ?_
    repeat with_reducible refine wp_seq ?_
    have hil : i < L.length := by rw [← Hn.out]; exact hlt
    obtain ⟨b, off, hA, hc⟩ := cells_at Hbw.out HL.out (by intro e; subst e; simp at hil)
    have c1 := hc i hil
    obtain ⟨x, hx⟩ : ∃ x, x = L[i] := ⟨_, rfl⟩
    rw [← hx] at c1
    have Hx := Lib.hid hx
    have Hip := Lib.hid (ispath_any x wr (He.out.grow Hbw.out))
    obtain ⟨q, hq⟩ : ∃ q, q = pathB x := ⟨_, rfl⟩
    rw [← hq] at Hip
    have Hq := Lib.hid hq
    have hi0 : (0 : Int) ≤ (i : Int) := by omega
    have hinn : (i : Int) < (n : Int) := by omega
    subst hA
    clear hc hx hq
    refine wp_region_lit ?_
    refine wpList_next rfl hsz20 hde20 15 rfl (by decide) fun K hK => ?_
    go_simp
    refine hK _ _ fun a21 hsz21 hde21 f15 hk => ?_
    clear hK K
    replace f0 := (hk 0 (by decide)).trans f0
    replace f11 := (hk 11 (by decide)).trans f11
    replace f12 := (hk 12 (by decide)).trans f12
    replace f13 := (hk 13 (by decide)).trans f13
    replace f15 : a21.tmps[15]?.getD undef = .pointer (some ⟨b, off + i, none⟩) := f15
    clear hk hsz20 hde20
    refine wpList_next rfl hsz21 hde21 16 rfl (by decide) fun K hK => ?_
    go_simp
    refine hK _ _ fun a22 hsz22 hde22 f16 hk => ?_
    clear hK K
    replace f0 := (hk 0 (by decide)).trans f0
    replace f11 := (hk 11 (by decide)).trans f11
    replace f12 := (hk 12 (by decide)).trans f12
    replace f13 := (hk 13 (by decide)).trans f13
    replace f16 : a22.tmps[16]?.getD undef = .string ⟨x.toArray⟩ := f16
    clear hk hsz21 hde21 f15
    refine wpList_next rfl hsz22 hde22 5 rfl (by decide) fun K hK => ?_
    go_simp
    refine hK _ _ fun a23 hsz23 hde23 f5 hk => ?_
    clear hK K
    replace f0 := (hk 0 (by decide)).trans f0
    replace f11 := (hk 11 (by decide)).trans f11
    replace f12 := (hk 12 (by decide)).trans f12
    replace f13 := (hk 13 (by decide)).trans f13
    replace f5 : a23.tmps[5]?.getD undef = .string ⟨x.toArray⟩ := f5
    clear hk hsz22 hde22 f16
    refine wpList_nil ?_
    clear c1
    refine then_go ?_
    repeat with_reducible refine wp_seq ?_
    refine wp_region_lit ?_
    refine wpList_next rfl hsz23 hde23 17 rfl (by decide) fun K hK => ?_
    go_simp
    refine hK _ _ fun a24 hsz24 hde24 f17 hk => ?_
    clear hK K
    replace f0 := (hk 0 (by decide)).trans f0
    replace f11 := (hk 11 (by decide)).trans f11
    replace f12 := (hk 12 (by decide)).trans f12
    replace f13 := (hk 13 (by decide)).trans f13
    replace f5 := (hk 5 (by decide)).trans f5
    replace f17 : a24.tmps[17]?.getD undef = .string ⟨x.toArray⟩ := f17
    clear hk hsz23 hde23
    refine wpList_next rfl hsz24 hde24 18 rfl (by decide) fun K hK => ?_
    go_simp
    refine (Hip.out).mono ?_
    rintro e1 w1 ⟨rfl, hb1⟩
    go_simp
    refine hK _ _ fun a25 hsz25 hde25 f18 hk => ?_
    clear hK K
    replace f0 := (hk 0 (by decide)).trans f0
    replace f11 := (hk 11 (by decide)).trans f11
    replace f12 := (hk 12 (by decide)).trans f12
    replace f13 := (hk 13 (by decide)).trans f13
    replace f5 := (hk 5 (by decide)).trans f5
    replace f18 : a25.tmps[18]?.getD undef = .bool q := f18
    clear hk hsz24 hde24 f17
    have Hb1 := Lib.hid (below_call Hbw.out hb1)
    clear hb1
    refine wpList_next rfl hsz25 hde25 19 rfl (by decide) fun K hK => ?_
    go_simp
    refine hK _ _ fun a26 hsz26 hde26 f19 hk => ?_
    clear hK K
    replace f0 := (hk 0 (by decide)).trans f0
    replace f11 := (hk 11 (by decide)).trans f11
    replace f12 := (hk 12 (by decide)).trans f12
    replace f13 := (hk 13 (by decide)).trans f13
    replace f5 := (hk 5 (by decide)).trans f5
    replace f19 : a26.tmps[19]?.getD undef = .bool (!q) := f19
    clear hk hsz25 hde25 f18
    refine wpList_nil ?_
    refine then_go ?_
    repeat with_reducible refine wp_seq ?_
    clear f5
    cases q with
    | false =>
      replace f19 : a26.tmps[19]?.getD undef = .bool true := f19
      refine wp_cond_true (eval_at f19) ?_
      clear f19
      repeat with_reducible refine wp_seq ?_
      refine wp_region_lit ?_
      refine wpList_next rfl hsz26 hde26 2 rfl (by decide) fun K hK => ?_
      go_simp
      refine hK _ _ fun a27 hsz27 hde27 f2 hk => ?_
      clear hK K
      replace f0 := (hk 0 (by decide)).trans f0
      replace f11 := (hk 11 (by decide)).trans f11
      replace f12 := (hk 12 (by decide)).trans f12
      replace f13 := (hk 13 (by decide)).trans f13
      replace f2 : a27.tmps[2]?.getD undef = .slice none 0 0 := f2
      clear hk hsz26 hde26
      refine wpList_next rfl hsz27 hde27 3 rfl (by decide) fun K hK => ?_
      go_simp
      refine hK _ _ fun a28 hsz28 hde28 f3 hk => ?_
      clear hK K
      replace f0 := (hk 0 (by decide)).trans f0
      replace f11 := (hk 11 (by decide)).trans f11
      replace f12 := (hk 12 (by decide)).trans f12
      replace f13 := (hk 13 (by decide)).trans f13
      replace f2 := (hk 2 (by decide)).trans f2
      replace f3 : a28.tmps[3]?.getD undef = .int .i64 20 := f3
      clear hk hsz27 hde27
      refine wpList_nil ?_
      refine then_go ?_
      have hcv : cleanV L = ([], 20) := by unfold cleanV; rw [if_neg (by rw [all_not hil (by rw [← Hx.out]; exact Hq.out.symm)]; simp)]
      refine wp_ret ?_
      repeat first | with_reducible refine then_ret ?_ | with_reducible refine block_ret ?_ | with_reducible refine nogoto_ret ?_
      refine ret_two Tryz.results6 hde28 f2 f3 ?_
      rw [hcv]
      exact ⟨⟨_, rfl, textsAt_nil _⟩, Hb1.out⟩
    | true =>
      replace f19 : a26.tmps[19]?.getD undef = .bool false := f19
      refine wp_cond_false (eval_at f19) ?_
      refine wp_skip ?_
      repeat first | with_reducible refine block_go ?_ | with_reducible refine then_go ?_
      clear f19
      repeat with_reducible refine wp_seq ?_
      refine wp_region_lit ?_
      refine wpList_next rfl hsz26 hde26 20 rfl (by decide) fun K hK => ?_
      go_simp
      refine hK _ _ fun a27 hsz27 hde27 f20 hk => ?_
      clear hK K
      replace f0 := (hk 0 (by decide)).trans f0
      replace f11 := (hk 11 (by decide)).trans f11
      replace f12 := (hk 12 (by decide)).trans f12
      replace f13 := (hk 13 (by decide)).trans f13
      clear hk hsz26 hde26
      replace f20 : a27.tmps[20]?.getD undef = .int .i64 (((i + 1 : Nat) : Int)) := f20.trans (by first | rfl | (congr 1; done) | (congr 1; omega) | (congr 1; rw [IntKind.wrap_i64] <;> omega))
      refine wpList_next rfl hsz27 hde27 13 rfl (by decide) fun K hK => ?_
      go_simp
      refine hK _ _ fun a28 hsz28 hde28 f13 hk => ?_
      clear hK K
      replace f0 := (hk 0 (by decide)).trans f0
      replace f11 := (hk 11 (by decide)).trans f11
      replace f12 := (hk 12 (by decide)).trans f12
      replace f13 : a28.tmps[13]?.getD undef = .int .i64 ((i + 1 : Nat) : Int) := f13
      clear hk hsz27 hde27 f20
      refine wpList_nil ?_
      refine then_go ?_
      exact ⟨n - (i + 1), by rw [Hn2.out]; omega, i + 1, hsz28, hde28, f0, f11, f12, f13, Lib.hid (by omega), Lib.hid (all_take hil Hall.out (by rw [← Hx.out]; exact Hq.out.symm)), Hb1, rfl⟩
  refine wp_region_lit ?_
  refine wpList_next rfl hsz19 hde19 14 rfl (by decide) fun K hK => ?_
  go_simp
  refine hK _ _ fun a20 hsz20 hde20 f14 hk => ?_
  clear hK K
  replace f0 := (hk 0 (by decide)).trans f0
  replace f11 := (hk 11 (by decide)).trans f11
  replace f12 := (hk 12 (by decide)).trans f12
  replace f13 := (hk 13 (by decide)).trans f13
  clear hk hsz19 hde19
  replace f14 : a20.tmps[14]?.getD undef = .bool false := f14.trans (by first | rfl | (congr 1; first | exact decide_eq_true (by omega) | exact decide_eq_false (by omega)) | (simp; omega))
  refine wpList_nil ?_
  refine then_go ?_
  repeat with_reducible refine wp_seq ?_
  refine wp_cond_false (eval_at f14) ?_
  refine wp_exit ?_
  repeat with_reducible refine then_exit ?_
  refine block_exit ?_
  repeat first | with_reducible refine block_go ?_ | with_reducible refine then_go ?_
  clear f14 f11 f12 f13
  repeat with_reducible refine wp_seq ?_
  have hall := Hall.out
  rw [List.take_of_length_le (by have := Hi.out; have := Hn.out; omega)] at hall
  have Hal := Lib.hid hall
  clear hall
  have Hpa := Lib.hid (show ∀ s, s ∈ sortT L → pathB s = true from fun s hs => List.all_eq_true.1 Hal.out s ((sortT_perm L).mem_iff.1 hs))
  refine wp_region_lit ?_
  refine wpList_next rfl hsz20 hde20 6 rfl (by decide) fun K hK => ?_
  go_simp
  refine hK _ _ fun a21 hsz21 hde21 f6 hk => ?_
  clear hK K
  replace f0 := (hk 0 (by decide)).trans f0
  replace f6 : a21.tmps[6]?.getD undef = .slice none 0 0 := f6
  clear hk hsz20 hde20
  refine wpList_nil ?_
  refine then_go ?_
  repeat with_reducible refine wp_seq ?_
  refine wp_label ?_
  repeat first | with_reducible refine block_go ?_ | with_reducible refine then_go ?_
  repeat with_reducible refine wp_seq ?_
  have hrd := HL.out.grow Hbw.out
  have Hrd := Lib.hid hrd
  obtain ⟨S, hS⟩ : ∃ S, S = sortT L := ⟨_, rfl⟩
  have hSl : S.length = n := by rw [hS, (sortT_perm L).length_eq, ← Hn.out]
  have HS := Lib.hid hS
  clear hrd hS
  refine wp_region_lit ?_
  refine wpList_next rfl hsz21 hde21 21 rfl (by decide) fun K hK => ?_
  go_simp
  refine hK _ _ fun a22 hsz22 hde22 f21 hk => ?_
  clear hK K
  replace f0 := (hk 0 (by decide)).trans f0
  replace f6 := (hk 6 (by decide)).trans f6
  replace f21 : a22.tmps[21]?.getD undef = .slice A n c := f21
  clear hk hsz21 hde21
  refine wpList_next rfl hsz22 hde22 22 rfl (by decide) fun K hK => ?_
  go_simp
  refine (values_any A n c wr).mono ?_
  rintro e1 w1 ⟨rfl, hw1⟩
  have hb1 : Below wr.heap.size wr w1 := by rw [hw1]; exact (Below.refl _ _).alloc (Nat.le_refl _) _
  have hcell1 : w1.cell? ⟨wr.heap.size, 0, none⟩ = some (.slice A L.length c) := by rw [hw1, ← Hn.out]; exact (Blk.new wr 22 #[.slice A n c]).cell 0
  have hso := sortedT_any wr.heap.size _ A c L w1 hcell1 (Hrd.out.grow hb1) (by rw [← Hn.out]; exact hl)
  rw [← HS.out] at hso
  have Hso := Lib.hid hso
  have Hb1 := Lib.hid (below_call Hbw.out hb1)
  clear hw1 hb1 hcell1 hso
  go_simp
  refine hK _ _ fun a23 hsz23 hde23 f22 hk => ?_
  clear hK K
  replace f0 := (hk 0 (by decide)).trans f0
  replace f6 := (hk 6 (by decide)).trans f6
  replace f22 : a23.tmps[22]?.getD undef = .func (.func 27) #[] #[.pointer (some ⟨wr.heap.size, 0, none⟩)] := f22
  clear hk hsz22 hde22 f21
  refine wpList_next rfl hsz23 hde23 23 rfl (by decide) fun K hK => ?_
  go_simp
  refine Hso.out.mono ?_
  rintro e2 w2 ⟨⟨vS, rfl, hts⟩, hb2⟩
  obtain ⟨AS, cS, hvS, hcS1, hcS2, hrS⟩ := hts
  rw [hSl] at hvS hcS1
  have Hts := Lib.hid (show TextsAt w2 vS S from ⟨AS, cS, by rw [hSl]; exact hvS, by rw [hSl]; exact hcS1, hcS2, hrS⟩)
  have HvS := Lib.hid hvS
  have Hb2 := Lib.hid (below_call Hb1.out hb2)
  clear hcS1 hcS2 hrS hvS hb2
  go_simp
  refine hK _ _ fun a24 hsz24 hde24 f23 hk => ?_
  clear hK K
  replace f0 := (hk 0 (by decide)).trans f0
  replace f6 := (hk 6 (by decide)).trans f6
  replace f23 : a24.tmps[23]?.getD undef = vS := f23
  clear hk hsz23 hde23 f22
  refine wpList_next rfl hsz24 hde24 24 rfl (by decide) fun K hK => ?_
  rw [HvS.out] at f23
  go_simp
  refine hK _ _ fun a25 hsz25 hde25 f24 hk => ?_
  clear hK K
  replace f0 := (hk 0 (by decide)).trans f0
  replace f6 := (hk 6 (by decide)).trans f6
  replace f23 := (hk 23 (by decide)).trans f23
  replace f24 : a25.tmps[24]?.getD undef = .int .i64 ((n : Nat) : Int) := f24
  clear hk hsz24 hde24
  rw [← HvS.out] at f23
  refine wpList_next rfl hsz25 hde25 25 rfl (by decide) fun K hK => ?_
  go_simp
  refine hK _ _ fun a26 hsz26 hde26 f25 hk => ?_
  clear hK K
  replace f0 := (hk 0 (by decide)).trans f0
  replace f6 := (hk 6 (by decide)).trans f6
  replace f23 := (hk 23 (by decide)).trans f23
  replace f24 := (hk 24 (by decide)).trans f24
  replace f25 : a26.tmps[25]?.getD undef = .int .i64 ((0 : Nat) : Int) := f25
  clear hk hsz25 hde25
  refine wpList_nil ?_
  clear f0
  clear Hso
  refine then_go ?_
  repeat with_reducible refine wp_seq ?_
  refine wp_block ?_
  refine wp_loop_ghost (C2Inv w2 vS S n) (n - 0) ?_ ?_
  · exact ⟨0, _, hsz26, hde26, f6, f23, f24, f25, Lib.hid (Nat.zero_le _), Lib.hid (by rw [List.take_zero]; exact Nat.zero_le _), Lib.hid (by rw [List.take_zero]; exact OwnK.nil _ _ _ _), Lib.hid (Below.refl _ _), rfl⟩
  clear hsz26 hde26 f6 f23 f24 f25 Hbw Hb1 Hrd Hi Hn2 Hall
  clear hlt
  clear n2 a19 i
  intro n2 a39 wq hI
  obtain ⟨i, u, hsz39, hde39, f6, f23, f24, f25, Hi, H8, Hown, Hbw, hn2⟩ := hI
  have Hn2 := Lib.hid hn2
  clear hn2
  repeat with_reducible refine wp_seq ?_
  by_cases hlt : i < n
  · skip
    refine wp_region_lit ?_
    refine wpList_next rfl hsz39 hde39 26 rfl (by decide) fun K hK => ?_
    go_simp
    refine hK _ _ fun a40 hsz40 hde40 f26 hk => ?_
    clear hK K
    replace f6 := (hk 6 (by decide)).trans f6
    replace f23 := (hk 23 (by decide)).trans f23
    replace f24 := (hk 24 (by decide)).trans f24
    replace f25 := (hk 25 (by decide)).trans f25
    clear hk hsz39 hde39
    replace f26 : a40.tmps[26]?.getD undef = .bool true := f26.trans (by first | rfl | (congr 1; first | exact decide_eq_true (by omega) | exact decide_eq_false (by omega)) | (simp; omega))
    refine wpList_nil ?_
    refine then_go ?_
    repeat with_reducible refine wp_seq ?_
    refine wp_cond_true (eval_at f26) ?_
    refine wp_skip ?_
    refine then_go ?_
    clear f26
    repeat with_reducible refine wp_seq ?_
    refine wp_block ?_
    repeat with_reducible refine wp_seq ?_
    have hil : i < S.length := by rw [hSl]; exact hlt
    obtain ⟨AS3, cS3, hv3, hcs1, hcs2, hr3⟩ := Hts.out
    rw [hSl] at hv3
    obtain ⟨b, off, rfl, hc⟩ := cells_at Hbw.out hr3 (by intro e; subst e; simp at hil)
    have c1 := hc i hil
    obtain ⟨x, hx⟩ : ∃ x, x = S[i] := ⟨_, rfl⟩
    rw [← hx] at c1
    have Hx := Lib.hid hx
    have Hxp := Lib.hid (show pathB x = true by rw [hx]; exact Hpa.out _ (by rw [← HS.out]; exact List.getElem_mem hil))
    obtain ⟨T, hT⟩ : ∃ T, T = topsF (S.take i) := ⟨_, rfl⟩
    rw [← hT] at H8 Hown
    have HT := Lib.hid hT
    obtain ⟨Au, cu, hu, hcu1, hcu2, hru⟩ := Hown.out.form
    obtain ⟨m, hm⟩ : ∃ m, m = T.length := ⟨_, rfl⟩
    have Hm := Lib.hid hm
    have Hm8 := Lib.hid (show m ≤ 8 by rw [hm]; exact H8.out)
    have Hru := Lib.hid hru
    rw [← hm] at hu
    have Hu := Lib.hid hu
    have Hv3 := Lib.hid hv3
    have hi0 : (0 : Int) ≤ (i : Int) := by omega
    have hinn : (i : Int) < (n : Int) := by omega
    rw [Hv3.out] at f23
    clear hc hx hT hcs1 hcs2 hr3 hcu1 hcu2 hru hm hu hv3
    refine wp_region_lit ?_
    refine wpList_next rfl hsz40 hde40 27 rfl (by decide) fun K hK => ?_
    go_simp
    refine hK _ _ fun a41 hsz41 hde41 f27 hk => ?_
    clear hK K
    replace f6 := (hk 6 (by decide)).trans f6
    replace f23 := (hk 23 (by decide)).trans f23
    replace f24 := (hk 24 (by decide)).trans f24
    replace f25 := (hk 25 (by decide)).trans f25
    replace f27 : a41.tmps[27]?.getD undef = .pointer (some ⟨b, off + i, none⟩) := f27
    clear hk hsz40 hde40
    refine wpList_next rfl hsz41 hde41 28 rfl (by decide) fun K hK => ?_
    go_simp
    refine hK _ _ fun a42 hsz42 hde42 f28 hk => ?_
    clear hK K
    replace f6 := (hk 6 (by decide)).trans f6
    replace f23 := (hk 23 (by decide)).trans f23
    replace f24 := (hk 24 (by decide)).trans f24
    replace f25 := (hk 25 (by decide)).trans f25
    replace f28 : a42.tmps[28]?.getD undef = .string ⟨x.toArray⟩ := f28
    clear hk hsz41 hde41 f27
    refine wpList_next rfl hsz42 hde42 8 rfl (by decide) fun K hK => ?_
    go_simp
    refine hK _ _ fun a43 hsz43 hde43 f8 hk => ?_
    clear hK K
    replace f6 := (hk 6 (by decide)).trans f6
    replace f23 := (hk 23 (by decide)).trans f23
    replace f24 := (hk 24 (by decide)).trans f24
    replace f25 := (hk 25 (by decide)).trans f25
    replace f8 : a43.tmps[8]?.getD undef = .string ⟨x.toArray⟩ := f8
    clear hk hsz42 hde42 f28
    refine wpList_nil ?_
    clear c1
    rw [← Hv3.out] at f23
    rw [Hu.out] at f6
    refine then_go ?_
    repeat with_reducible refine wp_seq ?_
    refine wp_region_lit ?_
    refine wpList_next rfl hsz43 hde43 29 rfl (by decide) fun K hK => ?_
    go_simp
    refine hK _ _ fun a44 hsz44 hde44 f29 hk => ?_
    clear hK K
    replace f6 := (hk 6 (by decide)).trans f6
    replace f23 := (hk 23 (by decide)).trans f23
    replace f24 := (hk 24 (by decide)).trans f24
    replace f25 := (hk 25 (by decide)).trans f25
    replace f8 := (hk 8 (by decide)).trans f8
    replace f29 : a44.tmps[29]?.getD undef = .slice Au m cu := f29
    clear hk hsz43 hde43
    refine wpList_next rfl hsz44 hde44 30 rfl (by decide) fun K hK => ?_
    go_simp
    refine hK _ _ fun a45 hsz45 hde45 f30 hk => ?_
    clear hK K
    replace f6 := (hk 6 (by decide)).trans f6
    replace f23 := (hk 23 (by decide)).trans f23
    replace f24 := (hk 24 (by decide)).trans f24
    replace f25 := (hk 25 (by decide)).trans f25
    replace f8 := (hk 8 (by decide)).trans f8
    replace f29 := (hk 29 (by decide)).trans f29
    replace f30 : a45.tmps[30]?.getD undef = .int .i64 ((m : Nat) : Int) := f30
    clear hk hsz44 hde44
    refine wpList_next rfl hsz45 hde45 31 rfl (by decide) fun K hK => ?_
    go_simp
    refine hK _ _ fun a46 hsz46 hde46 f31 hk => ?_
    clear hK K
    replace f6 := (hk 6 (by decide)).trans f6
    replace f23 := (hk 23 (by decide)).trans f23
    replace f24 := (hk 24 (by decide)).trans f24
    replace f25 := (hk 25 (by decide)).trans f25
    replace f8 := (hk 8 (by decide)).trans f8
    replace f29 := (hk 29 (by decide)).trans f29
    replace f30 := (hk 30 (by decide)).trans f30
    replace f31 : a46.tmps[31]?.getD undef = .int .i64 ((0 : Nat) : Int) := f31
    clear hk hsz45 hde45
    refine wpList_nil ?_
    rw [← Hu.out] at f6 f29
    refine then_go ?_
    repeat with_reducible refine wp_seq ?_
    refine wp_block ?_
    refine wp_loop_ghost (C3Inv wq vS u (.string ⟨x.toArray⟩) n i m T x) (m - 0) ?_ ?_
    · exact ⟨0, hsz46, hde46, f6, f8, f23, f24, f25, f29, f30, f31, Lib.hid (Nat.zero_le _), Lib.hid (by rw [List.take_zero]; rfl), Lib.hid (Below.refl _ _), rfl⟩
    clear hsz46 hde46 f6 f23 f24 f25 f8 f29 f30 f31
    intro n3 a59 wp hI
    obtain ⟨j, hsz59, hde59, f6, f8, f23, f24, f25, f29, f30, f31, Hj, Hno, Hbp, hn3⟩ := hI
    have Hn3 := Lib.hid hn3
    clear hn3
    repeat with_reducible refine wp_seq ?_
    by_cases hjt : j < m
    · skip
      refine wp_region_lit ?_
      refine wpList_next rfl hsz59 hde59 32 rfl (by decide) fun K hK => ?_
      go_simp
      refine hK _ _ fun a60 hsz60 hde60 f32 hk => ?_
      clear hK K
      replace f6 := (hk 6 (by decide)).trans f6
      replace f8 := (hk 8 (by decide)).trans f8
      replace f23 := (hk 23 (by decide)).trans f23
      replace f24 := (hk 24 (by decide)).trans f24
      replace f25 := (hk 25 (by decide)).trans f25
      replace f29 := (hk 29 (by decide)).trans f29
      replace f30 := (hk 30 (by decide)).trans f30
      replace f31 := (hk 31 (by decide)).trans f31
      clear hk hsz59 hde59
      replace f32 : a60.tmps[32]?.getD undef = .bool true := f32.trans (by first | rfl | (congr 1; first | exact decide_eq_true (by omega) | exact decide_eq_false (by omega)) | (simp; omega))
      refine wpList_nil ?_
      refine then_go ?_
      repeat with_reducible refine wp_seq ?_
      refine wp_cond_true (eval_at f32) ?_
      refine wp_skip ?_
      refine then_go ?_
      clear f32
      repeat with_reducible refine wp_seq ?_
      refine wp_block ?_
      repeat with_reducible refine wp_seq ?_
      have hm8 := Hm8.out
      have hjl : j < T.length := by rw [← Hm.out]; exact hjt
      obtain ⟨b2, off2, hA2, hc⟩ := cells_at Hbp.out Hru.out (by intro e; subst e; simp at hjl)
      have c1 := hc j hjl
      obtain ⟨t9, ht9⟩ : ∃ t9, t9 = T[j] := ⟨_, rfl⟩
      rw [← ht9] at c1
      have Ht9 := Lib.hid ht9
      have Hbq := Lib.hid (Hbw.out.trans (Hbp.out.mono Hbw.out.size))
      have Hwi := Lib.hid (pwithin_any x t9 wp (He.out.grow (below_call Hb2.out Hbq.out)))
      obtain ⟨q, hq⟩ : ∃ q, q = withinV x t9 := ⟨_, rfl⟩
      rw [← hq] at Hwi
      have Hq := Lib.hid hq
      have hj0 : (0 : Int) ≤ (j : Int) := by omega
      have hjnn : (j : Int) < (m : Int) := by omega
      rw [Hu.out, hA2] at f29
      have HA2 := Lib.hid hA2
      clear hc ht9 hq hA2
      refine wp_region_lit ?_
      refine wpList_next rfl hsz60 hde60 33 rfl (by decide) fun K hK => ?_
      go_simp
      refine hK _ _ fun a61 hsz61 hde61 f33 hk => ?_
      clear hK K
      replace f6 := (hk 6 (by decide)).trans f6
      replace f8 := (hk 8 (by decide)).trans f8
      replace f23 := (hk 23 (by decide)).trans f23
      replace f24 := (hk 24 (by decide)).trans f24
      replace f25 := (hk 25 (by decide)).trans f25
      replace f29 := (hk 29 (by decide)).trans f29
      replace f30 := (hk 30 (by decide)).trans f30
      replace f31 := (hk 31 (by decide)).trans f31
      replace f33 : a61.tmps[33]?.getD undef = .pointer (some ⟨b2, off2 + j, none⟩) := f33
      clear hk hsz60 hde60
      refine wpList_next rfl hsz61 hde61 34 rfl (by decide) fun K hK => ?_
      go_simp
      refine hK _ _ fun a62 hsz62 hde62 f34 hk => ?_
      clear hK K
      replace f6 := (hk 6 (by decide)).trans f6
      replace f8 := (hk 8 (by decide)).trans f8
      replace f23 := (hk 23 (by decide)).trans f23
      replace f24 := (hk 24 (by decide)).trans f24
      replace f25 := (hk 25 (by decide)).trans f25
      replace f29 := (hk 29 (by decide)).trans f29
      replace f30 := (hk 30 (by decide)).trans f30
      replace f31 := (hk 31 (by decide)).trans f31
      replace f34 : a62.tmps[34]?.getD undef = .string ⟨t9.toArray⟩ := f34
      clear hk hsz61 hde61 f33
      refine wpList_next rfl hsz62 hde62 10 rfl (by decide) fun K hK => ?_
      go_simp
      refine hK _ _ fun a63 hsz63 hde63 f10 hk => ?_
      clear hK K
      replace f6 := (hk 6 (by decide)).trans f6
      replace f8 := (hk 8 (by decide)).trans f8
      replace f23 := (hk 23 (by decide)).trans f23
      replace f24 := (hk 24 (by decide)).trans f24
      replace f25 := (hk 25 (by decide)).trans f25
      replace f29 := (hk 29 (by decide)).trans f29
      replace f30 := (hk 30 (by decide)).trans f30
      replace f31 := (hk 31 (by decide)).trans f31
      replace f10 : a63.tmps[10]?.getD undef = .string ⟨t9.toArray⟩ := f10
      clear hk hsz62 hde62 f34
      refine wpList_nil ?_
      clear c1
      rw [← HA2.out, ← Hu.out] at f29
      refine then_go ?_
      repeat with_reducible refine wp_seq ?_
      refine wp_region_lit ?_
      refine wpList_next rfl hsz63 hde63 35 rfl (by decide) fun K hK => ?_
      go_simp
      refine hK _ _ fun a64 hsz64 hde64 f35 hk => ?_
      clear hK K
      replace f6 := (hk 6 (by decide)).trans f6
      replace f8 := (hk 8 (by decide)).trans f8
      replace f23 := (hk 23 (by decide)).trans f23
      replace f24 := (hk 24 (by decide)).trans f24
      replace f25 := (hk 25 (by decide)).trans f25
      replace f29 := (hk 29 (by decide)).trans f29
      replace f30 := (hk 30 (by decide)).trans f30
      replace f31 := (hk 31 (by decide)).trans f31
      replace f10 := (hk 10 (by decide)).trans f10
      replace f35 : a64.tmps[35]?.getD undef = .string ⟨x.toArray⟩ := f35
      clear hk hsz63 hde63
      refine wpList_next rfl hsz64 hde64 36 rfl (by decide) fun K hK => ?_
      go_simp
      refine hK _ _ fun a65 hsz65 hde65 f36 hk => ?_
      clear hK K
      replace f6 := (hk 6 (by decide)).trans f6
      replace f8 := (hk 8 (by decide)).trans f8
      replace f23 := (hk 23 (by decide)).trans f23
      replace f24 := (hk 24 (by decide)).trans f24
      replace f25 := (hk 25 (by decide)).trans f25
      replace f29 := (hk 29 (by decide)).trans f29
      replace f30 := (hk 30 (by decide)).trans f30
      replace f31 := (hk 31 (by decide)).trans f31
      replace f10 := (hk 10 (by decide)).trans f10
      replace f35 := (hk 35 (by decide)).trans f35
      replace f36 : a65.tmps[36]?.getD undef = .string ⟨t9.toArray⟩ := f36
      clear hk hsz64 hde64
      refine wpList_next rfl hsz65 hde65 37 rfl (by decide) fun K hK => ?_
      go_simp
      refine (Hwi.out).mono ?_
      rintro e1 w1 ⟨rfl, hb1⟩
      go_simp
      refine hK _ _ fun a66 hsz66 hde66 f37 hk => ?_
      clear hK K
      replace f6 := (hk 6 (by decide)).trans f6
      replace f8 := (hk 8 (by decide)).trans f8
      replace f23 := (hk 23 (by decide)).trans f23
      replace f24 := (hk 24 (by decide)).trans f24
      replace f25 := (hk 25 (by decide)).trans f25
      replace f29 := (hk 29 (by decide)).trans f29
      replace f30 := (hk 30 (by decide)).trans f30
      replace f31 := (hk 31 (by decide)).trans f31
      replace f10 := (hk 10 (by decide)).trans f10
      replace f37 : a66.tmps[37]?.getD undef = .bool q := f37
      clear hk hsz65 hde65 f35 f36
      have Hb1 := Lib.hid (below_call Hbp.out hb1)
      clear hb1
      refine wpList_nil ?_
      refine then_go ?_
      repeat with_reducible refine wp_seq ?_
      clear f10
      cases q with
      | true =>
        refine wp_cond_true (eval_at f37) ?_
        clear f37 f29 f30 f31 f8
        refine wp_exit ?_
        repeat first | with_reducible refine then_exit ?_ | with_reducible refine block_other (by decide) ?_
        refine block_exit ?_
        repeat first | with_reducible refine block_go ?_ | with_reducible refine then_go ?_
        repeat with_reducible refine wp_seq ?_
        refine wp_region_lit ?_
        refine wpList_next rfl hsz66 hde66 47 rfl (by decide) fun K hK => ?_
        go_simp
        refine hK _ _ fun a67 hsz67 hde67 f47 hk => ?_
        clear hK K
        replace f6 := (hk 6 (by decide)).trans f6
        replace f23 := (hk 23 (by decide)).trans f23
        replace f24 := (hk 24 (by decide)).trans f24
        replace f25 := (hk 25 (by decide)).trans f25
        clear hk hsz66 hde66
        replace f47 : a67.tmps[47]?.getD undef = .int .i64 (((i + 1 : Nat) : Int)) := f47.trans (by first | rfl | (congr 1; done) | (congr 1; omega) | (congr 1; rw [IntKind.wrap_i64] <;> omega))
        refine wpList_next rfl hsz67 hde67 25 rfl (by decide) fun K hK => ?_
        go_simp
        refine hK _ _ fun a68 hsz68 hde68 f25 hk => ?_
        clear hK K
        replace f6 := (hk 6 (by decide)).trans f6
        replace f23 := (hk 23 (by decide)).trans f23
        replace f24 := (hk 24 (by decide)).trans f24
        replace f25 : a68.tmps[25]?.getD undef = .int .i64 ((i + 1 : Nat) : Int) := f25
        clear hk hsz67 hde67 f47
        refine wpList_nil ?_
        refine then_go ?_
        have hsame : topsF (S.take (i + 1)) = T := by
          rw [topsF_step hil, ← HT.out, ← Hx.out]
          unfold topStep
          rw [if_pos (any_at hjl (by rw [← Ht9.out]; exact Hq.out.symm))]
        exact ⟨n - (i + 1), by rw [Hn2.out]; omega, i + 1, u, hsz68, hde68, f6, f23, f24, f25, Lib.hid (by omega), Lib.hid (by rw [hsame]; exact H8.out), Lib.hid (by rw [hsame]; exact OwnK.grow Hown.out Hb1.out), Lib.hid (below_call Hbw.out Hb1.out), rfl⟩
      | false =>
        refine wp_cond_false (eval_at f37) ?_
        refine wp_skip ?_
        repeat first | with_reducible refine block_go ?_ | with_reducible refine then_go ?_
        clear f37
        repeat with_reducible refine wp_seq ?_
        refine wp_region_lit ?_
        refine wpList_next rfl hsz66 hde66 38 rfl (by decide) fun K hK => ?_
        go_simp
        refine hK _ _ fun a67 hsz67 hde67 f38 hk => ?_
        clear hK K
        replace f6 := (hk 6 (by decide)).trans f6
        replace f8 := (hk 8 (by decide)).trans f8
        replace f23 := (hk 23 (by decide)).trans f23
        replace f24 := (hk 24 (by decide)).trans f24
        replace f25 := (hk 25 (by decide)).trans f25
        replace f29 := (hk 29 (by decide)).trans f29
        replace f30 := (hk 30 (by decide)).trans f30
        replace f31 := (hk 31 (by decide)).trans f31
        clear hk hsz66 hde66
        replace f38 : a67.tmps[38]?.getD undef = .int .i64 (((j + 1 : Nat) : Int)) := f38.trans (by first | rfl | (congr 1; done) | (congr 1; omega) | (congr 1; rw [IntKind.wrap_i64] <;> omega))
        refine wpList_next rfl hsz67 hde67 31 rfl (by decide) fun K hK => ?_
        go_simp
        refine hK _ _ fun a68 hsz68 hde68 f31 hk => ?_
        clear hK K
        replace f6 := (hk 6 (by decide)).trans f6
        replace f8 := (hk 8 (by decide)).trans f8
        replace f23 := (hk 23 (by decide)).trans f23
        replace f24 := (hk 24 (by decide)).trans f24
        replace f25 := (hk 25 (by decide)).trans f25
        replace f29 := (hk 29 (by decide)).trans f29
        replace f30 := (hk 30 (by decide)).trans f30
        replace f31 : a68.tmps[31]?.getD undef = .int .i64 ((j + 1 : Nat) : Int) := f31
        clear hk hsz67 hde67 f38
        refine wpList_nil ?_
        refine then_go ?_
        exact ⟨m - (j + 1), by rw [Hn3.out]; omega, j + 1, hsz68, hde68, f6, f8, f23, f24, f25, f29, f30, f31, Lib.hid (by omega), Lib.hid (any_take hjl Hno.out (by rw [← Ht9.out]; exact Hq.out.symm)), Hb1, rfl⟩
    refine wp_region_lit ?_
    refine wpList_next rfl hsz59 hde59 32 rfl (by decide) fun K hK => ?_
    go_simp
    refine hK _ _ fun a60 hsz60 hde60 f32 hk => ?_
    clear hK K
    replace f6 := (hk 6 (by decide)).trans f6
    replace f8 := (hk 8 (by decide)).trans f8
    replace f23 := (hk 23 (by decide)).trans f23
    replace f24 := (hk 24 (by decide)).trans f24
    replace f25 := (hk 25 (by decide)).trans f25
    replace f29 := (hk 29 (by decide)).trans f29
    replace f30 := (hk 30 (by decide)).trans f30
    replace f31 := (hk 31 (by decide)).trans f31
    clear hk hsz59 hde59
    replace f32 : a60.tmps[32]?.getD undef = .bool false := f32.trans (by first | rfl | (congr 1; first | exact decide_eq_true (by omega) | exact decide_eq_false (by omega)) | (simp; omega))
    refine wpList_nil ?_
    refine then_go ?_
    repeat with_reducible refine wp_seq ?_
    refine wp_cond_false (eval_at f32) ?_
    refine wp_exit ?_
    repeat with_reducible refine then_exit ?_
    refine block_exit ?_
    repeat first | with_reducible refine block_go ?_ | with_reducible refine then_go ?_
    clear f32 f29 f30 f31
    repeat with_reducible refine wp_seq ?_
    have hno := Hno.out
    rw [List.take_of_length_le (by have := Hj.out; have := Hm.out; omega)] at hno
    have Hna := Lib.hid hno
    have Hbq := Lib.hid (Hbw.out.trans (Hbp.out.mono Hbw.out.size))
    clear hno
    rw [Hu.out] at f6
    by_cases h8 : m = 8
    · have H8m := Lib.hid h8
      clear h8
      refine wp_region_lit ?_
      refine wpList_next rfl hsz60 hde60 39 rfl (by decide) fun K hK => ?_
      go_simp
      refine hK _ _ fun a61 hsz61 hde61 f39 hk => ?_
      clear hK K
      replace f6 := (hk 6 (by decide)).trans f6
      replace f8 := (hk 8 (by decide)).trans f8
      replace f23 := (hk 23 (by decide)).trans f23
      replace f24 := (hk 24 (by decide)).trans f24
      replace f25 := (hk 25 (by decide)).trans f25
      replace f39 : a61.tmps[39]?.getD undef = .slice Au m cu := f39
      clear hk hsz60 hde60
      refine wpList_next rfl hsz61 hde61 40 rfl (by decide) fun K hK => ?_
      go_simp
      refine hK _ _ fun a62 hsz62 hde62 f40 hk => ?_
      clear hK K
      replace f6 := (hk 6 (by decide)).trans f6
      replace f8 := (hk 8 (by decide)).trans f8
      replace f23 := (hk 23 (by decide)).trans f23
      replace f24 := (hk 24 (by decide)).trans f24
      replace f25 := (hk 25 (by decide)).trans f25
      replace f40 : a62.tmps[40]?.getD undef = .int .i64 ((m : Nat) : Int) := f40
      clear hk hsz61 hde61 f39
      refine wpList_next rfl hsz62 hde62 41 rfl (by decide) fun K hK => ?_
      go_simp
      refine hK _ _ fun a63 hsz63 hde63 f41 hk => ?_
      clear hK K
      replace f6 := (hk 6 (by decide)).trans f6
      replace f8 := (hk 8 (by decide)).trans f8
      replace f23 := (hk 23 (by decide)).trans f23
      replace f24 := (hk 24 (by decide)).trans f24
      replace f25 := (hk 25 (by decide)).trans f25
      clear hk hsz62 hde62 f40
      replace f41 : a63.tmps[41]?.getD undef = .bool true := f41.trans (by have h7 := H8m.out; first | (rw [h7]; rfl) | (simp [h7]; done))
      refine wpList_nil ?_
      refine then_go ?_
      repeat with_reducible refine wp_seq ?_
      refine wp_cond_true (eval_at f41) ?_
      clear f41
      repeat with_reducible refine wp_seq ?_
      refine wp_region_lit ?_
      refine wpList_next rfl hsz63 hde63 2 rfl (by decide) fun K hK => ?_
      go_simp
      refine hK _ _ fun a64 hsz64 hde64 f2 hk => ?_
      clear hK K
      replace f6 := (hk 6 (by decide)).trans f6
      replace f8 := (hk 8 (by decide)).trans f8
      replace f23 := (hk 23 (by decide)).trans f23
      replace f24 := (hk 24 (by decide)).trans f24
      replace f25 := (hk 25 (by decide)).trans f25
      replace f2 : a64.tmps[2]?.getD undef = .slice none 0 0 := f2
      clear hk hsz63 hde63
      refine wpList_next rfl hsz64 hde64 3 rfl (by decide) fun K hK => ?_
      go_simp
      refine hK _ _ fun a65 hsz65 hde65 f3 hk => ?_
      clear hK K
      replace f6 := (hk 6 (by decide)).trans f6
      replace f8 := (hk 8 (by decide)).trans f8
      replace f23 := (hk 23 (by decide)).trans f23
      replace f24 := (hk 24 (by decide)).trans f24
      replace f25 := (hk 25 (by decide)).trans f25
      replace f2 := (hk 2 (by decide)).trans f2
      replace f3 : a65.tmps[3]?.getD undef = .int .i64 4 := f3
      clear hk hsz64 hde64
      refine wpList_nil ?_
      refine then_go ?_
      have hmore := topsF_more hil HT.out (by rw [← Hm.out]; exact H8m.out) (by rw [← Hx.out]; exact Hna.out)
      rw [HS.out] at hmore
      have hcv : cleanV L = ([], 4) := by unfold cleanV; rw [if_pos Hal.out, if_pos (show 8 < (cleanT L).length from hmore)]
      refine wp_ret ?_
      repeat first | with_reducible refine then_ret ?_ | with_reducible refine block_ret ?_ | with_reducible refine nogoto_ret ?_
      refine ret_two Tryz.results6 hde65 f2 f3 ?_
      rw [hcv]
      exact ⟨⟨_, rfl, textsAt_nil _⟩, below_call Hb2.out Hbq.out⟩
    refine wp_region_lit ?_
    refine wpList_next rfl hsz60 hde60 39 rfl (by decide) fun K hK => ?_
    go_simp
    refine hK _ _ fun a61 hsz61 hde61 f39 hk => ?_
    clear hK K
    replace f6 := (hk 6 (by decide)).trans f6
    replace f8 := (hk 8 (by decide)).trans f8
    replace f23 := (hk 23 (by decide)).trans f23
    replace f24 := (hk 24 (by decide)).trans f24
    replace f25 := (hk 25 (by decide)).trans f25
    replace f39 : a61.tmps[39]?.getD undef = .slice Au m cu := f39
    clear hk hsz60 hde60
    refine wpList_next rfl hsz61 hde61 40 rfl (by decide) fun K hK => ?_
    go_simp
    refine hK _ _ fun a62 hsz62 hde62 f40 hk => ?_
    clear hK K
    replace f6 := (hk 6 (by decide)).trans f6
    replace f8 := (hk 8 (by decide)).trans f8
    replace f23 := (hk 23 (by decide)).trans f23
    replace f24 := (hk 24 (by decide)).trans f24
    replace f25 := (hk 25 (by decide)).trans f25
    replace f40 : a62.tmps[40]?.getD undef = .int .i64 ((m : Nat) : Int) := f40
    clear hk hsz61 hde61 f39
    refine wpList_next rfl hsz62 hde62 41 rfl (by decide) fun K hK => ?_
    go_simp
    refine hK _ _ fun a63 hsz63 hde63 f41 hk => ?_
    clear hK K
    replace f6 := (hk 6 (by decide)).trans f6
    replace f8 := (hk 8 (by decide)).trans f8
    replace f23 := (hk 23 (by decide)).trans f23
    replace f24 := (hk 24 (by decide)).trans f24
    replace f25 := (hk 25 (by decide)).trans f25
    clear hk hsz62 hde62 f40
    replace f41 : a63.tmps[41]?.getD undef = .bool false := f41.trans (by first | rfl | (congr 1; done) | (congr 1; exact decide_eq_true (by omega)) | (congr 1; exact decide_eq_false (by omega)) | (simp; done) | (simp; omega))
    refine wpList_nil ?_
    refine then_go ?_
    repeat with_reducible refine wp_seq ?_
    refine wp_cond_false (eval_at f41) ?_
    refine wp_skip ?_
    refine then_go ?_
    clear f41
    repeat with_reducible refine wp_seq ?_
    have Hcl := Lib.hid (strclone_any x (path_len Hxp.out) wp)
    rw [← Hu.out] at f6
    refine wp_region_lit ?_
    refine wpList_next rfl hsz63 hde63 42 rfl (by decide) fun K hK => ?_
    go_simp
    refine hK _ _ fun a64 hsz64 hde64 f42 hk => ?_
    clear hK K
    replace f6 := (hk 6 (by decide)).trans f6
    replace f8 := (hk 8 (by decide)).trans f8
    replace f23 := (hk 23 (by decide)).trans f23
    replace f24 := (hk 24 (by decide)).trans f24
    replace f25 := (hk 25 (by decide)).trans f25
    replace f42 : a64.tmps[42]?.getD undef = u := f42
    clear hk hsz63 hde63
    refine wpList_next rfl hsz64 hde64 43 rfl (by decide) fun K hK => ?_
    go_simp
    refine hK _ _ fun a65 hsz65 hde65 f43 hk => ?_
    clear hK K
    replace f6 := (hk 6 (by decide)).trans f6
    replace f8 := (hk 8 (by decide)).trans f8
    replace f23 := (hk 23 (by decide)).trans f23
    replace f24 := (hk 24 (by decide)).trans f24
    replace f25 := (hk 25 (by decide)).trans f25
    replace f42 := (hk 42 (by decide)).trans f42
    replace f43 : a65.tmps[43]?.getD undef = .string ⟨x.toArray⟩ := f43
    clear hk hsz64 hde64
    refine wpList_next rfl hsz65 hde65 44 rfl (by decide) fun K hK => ?_
    go_simp
    refine (Hcl.out).mono ?_
    rintro e1 w1 ⟨rfl, hb1⟩
    go_simp
    refine hK _ _ fun a66 hsz66 hde66 f44 hk => ?_
    clear hK K
    replace f6 := (hk 6 (by decide)).trans f6
    replace f8 := (hk 8 (by decide)).trans f8
    replace f23 := (hk 23 (by decide)).trans f23
    replace f24 := (hk 24 (by decide)).trans f24
    replace f25 := (hk 25 (by decide)).trans f25
    replace f42 := (hk 42 (by decide)).trans f42
    replace f44 : a66.tmps[44]?.getD undef = .string ⟨x.toArray⟩ := f44
    clear hk hsz65 hde65 f43
    have Hb1 := Lib.hid (below_call Hbp.out hb1)
    have Hown1 := Lib.hid (show OwnK w1 w2.heap.size 9 1 u m (T.map str) by rw [Hm.out]; exact OwnK.grow Hown.out (below_call Hbp.out hb1))
    have Hbz := Lib.hid (below_call Hbw.out (below_call Hbp.out hb1))
    have Hbzs := Lib.hid (show w2.heap.size ≤ w1.heap.size from (below_call Hbw.out (below_call Hbp.out hb1)).size)
    clear hb1
    refine wpList_next rfl hsz66 hde66 45 rfl (by decide) fun K hK => ?_
    go_simp
    refine hK _ _ fun a67 hsz67 hde67 f45 hk => ?_
    clear hK K
    replace f6 := (hk 6 (by decide)).trans f6
    replace f8 := (hk 8 (by decide)).trans f8
    replace f23 := (hk 23 (by decide)).trans f23
    replace f24 := (hk 24 (by decide)).trans f24
    replace f25 := (hk 25 (by decide)).trans f25
    replace f42 := (hk 42 (by decide)).trans f42
    replace f45 : a67.tmps[45]?.getD undef = .slice (some ⟨w1.heap.size, 0, none⟩) 1 1 := f45
    clear hk hsz66 hde66 f44
    refine wpList_next rfl hsz67 hde67 46 rfl (by decide) fun K hK => ?_
    refine wp_appK_new w1 elemS1 (.tmp 42) (.tmp 45) rfl w2.heap.size m u (T.map str) (eval_at f42) Hown1.out [.string ⟨x.toArray⟩] 1 rfl 9 (eval_at f45) (by intro q hq; simp at hq; subst hq; rfl) (by have := Hm8.out; omega) (by have := Hm8.out; omega) Hbzs.out ?_
    intro v9 w9 hown9 hg9
    refine hK _ _ fun a68 hsz68 hde68 f46 hk => ?_
    clear hK K
    replace f6 := (hk 6 (by decide)).trans f6
    replace f8 := (hk 8 (by decide)).trans f8
    replace f23 := (hk 23 (by decide)).trans f23
    replace f24 := (hk 24 (by decide)).trans f24
    replace f25 := (hk 25 (by decide)).trans f25
    replace f46 : a68.tmps[46]?.getD undef = v9 := f46
    clear hk hsz67 hde67 f42 f45
    refine wpList_next rfl hsz68 hde68 6 rfl (by decide) fun K hK => ?_
    go_simp
    refine hK _ _ fun a69 hsz69 hde69 f6 hk => ?_
    clear hK K
    replace f8 := (hk 8 (by decide)).trans f8
    replace f23 := (hk 23 (by decide)).trans f23
    replace f24 := (hk 24 (by decide)).trans f24
    replace f25 := (hk 25 (by decide)).trans f25
    replace f6 : a69.tmps[6]?.getD undef = v9 := f6
    clear hk hsz68 hde68 f46
    refine wpList_nil ?_
    clear f8
    repeat first | with_reducible refine block_go ?_ | with_reducible refine then_go ?_
    repeat with_reducible refine wp_seq ?_
    have Hgb := Lib.hid (Hown1.out.below_of hg9 Hbzs.out (Nat.le_refl _))
    have Htop := Lib.hid (show topsF (S.take (i + 1)) = T ++ [x] by
      rw [topsF_step hil, ← HT.out, ← Hx.out]
      unfold topStep
      rw [if_neg (by rw [Hna.out]; simp)])
    refine wp_region_lit ?_
    refine wpList_next rfl hsz69 hde69 47 rfl (by decide) fun K hK => ?_
    go_simp
    refine hK _ _ fun a70 hsz70 hde70 f47 hk => ?_
    clear hK K
    replace f23 := (hk 23 (by decide)).trans f23
    replace f24 := (hk 24 (by decide)).trans f24
    replace f25 := (hk 25 (by decide)).trans f25
    replace f6 := (hk 6 (by decide)).trans f6
    clear hk hsz69 hde69
    replace f47 : a70.tmps[47]?.getD undef = .int .i64 (((i + 1 : Nat) : Int)) := f47.trans (by first | rfl | (congr 1; done) | (congr 1; omega) | (congr 1; rw [IntKind.wrap_i64] <;> omega))
    refine wpList_next rfl hsz70 hde70 25 rfl (by decide) fun K hK => ?_
    go_simp
    refine hK _ _ fun a71 hsz71 hde71 f25 hk => ?_
    clear hK K
    replace f23 := (hk 23 (by decide)).trans f23
    replace f24 := (hk 24 (by decide)).trans f24
    replace f6 := (hk 6 (by decide)).trans f6
    replace f25 : a71.tmps[25]?.getD undef = .int .i64 ((i + 1 : Nat) : Int) := f25
    clear hk hsz70 hde70 f47
    refine wpList_nil ?_
    refine then_go ?_
    exact ⟨n - (i + 1), by rw [Hn2.out]; omega, i + 1, v9, hsz71, hde71, f6, f23, f24, f25, Lib.hid (by omega), Lib.hid (by rw [Htop.out, List.length_append, ← Hm.out]; have := Hm8.out; simp; omega), Lib.hid (by rw [Htop.out]; unfold OwnT; rw [List.map_append, List.length_append, ← Hm.out]; exact hown9), Lib.hid (Hbz.out.trans Hgb.out), rfl⟩
  refine wp_region_lit ?_
  refine wpList_next rfl hsz39 hde39 26 rfl (by decide) fun K hK => ?_
  go_simp
  refine hK _ _ fun a40 hsz40 hde40 f26 hk => ?_
  clear hK K
  replace f6 := (hk 6 (by decide)).trans f6
  replace f23 := (hk 23 (by decide)).trans f23
  replace f24 := (hk 24 (by decide)).trans f24
  replace f25 := (hk 25 (by decide)).trans f25
  clear hk hsz39 hde39
  replace f26 : a40.tmps[26]?.getD undef = .bool false := f26.trans (by first | rfl | (congr 1; first | exact decide_eq_true (by omega) | exact decide_eq_false (by omega)) | (simp; omega))
  refine wpList_nil ?_
  refine then_go ?_
  repeat with_reducible refine wp_seq ?_
  refine wp_cond_false (eval_at f26) ?_
  refine wp_exit ?_
  repeat with_reducible refine then_exit ?_
  refine block_exit ?_
  repeat first | with_reducible refine block_go ?_ | with_reducible refine then_go ?_
  clear f26 f23 f24 f25
  repeat with_reducible refine wp_seq ?_
  have hfin := Hown.out
  have h8 := H8.out
  rw [List.take_of_length_le (by have := Hi.out; omega)] at hfin h8
  have Hf := Lib.hid hfin
  have H8f := Lib.hid h8
  clear hfin h8
  refine wp_region_lit ?_
  refine wpList_next rfl hsz40 hde40 48 rfl (by decide) fun K hK => ?_
  go_simp
  refine hK _ _ fun a41 hsz41 hde41 f48 hk => ?_
  clear hK K
  replace f6 := (hk 6 (by decide)).trans f6
  replace f48 : a41.tmps[48]?.getD undef = u := f48
  clear hk hsz40 hde40
  refine wpList_next rfl hsz41 hde41 2 rfl (by decide) fun K hK => ?_
  go_simp
  refine hK _ _ fun a42 hsz42 hde42 f2 hk => ?_
  clear hK K
  replace f6 := (hk 6 (by decide)).trans f6
  replace f2 : a42.tmps[2]?.getD undef = u := f2
  clear hk hsz41 hde41 f48
  refine wpList_next rfl hsz42 hde42 3 rfl (by decide) fun K hK => ?_
  go_simp
  refine hK _ _ fun a43 hsz43 hde43 f3 hk => ?_
  clear hK K
  replace f6 := (hk 6 (by decide)).trans f6
  replace f2 := (hk 2 (by decide)).trans f2
  replace f3 : a43.tmps[3]?.getD undef = .int .i64 0 := f3
  clear hk hsz42 hde42
  refine wpList_nil ?_
  refine then_go ?_
  have hcv : cleanV L = (topsF S, 0) := by unfold cleanV; rw [if_pos Hal.out, if_neg (by unfold cleanT; rw [← HS.out]; have := H8f.out; omega), HS.out]; rfl
  refine wp_ret ?_
  repeat first | with_reducible refine then_ret ?_ | with_reducible refine block_ret ?_ | with_reducible refine nogoto_ret ?_
  refine ret_two Tryz.results6 hde43 f2 f3 ?_
  rw [hcv]
  exact ⟨⟨_, rfl, OwnT.texts Hf.out⟩, below_call Hb2.out Hbw.out⟩
end Go.Proofs.YtgebodibamgipaaGreatDoor
