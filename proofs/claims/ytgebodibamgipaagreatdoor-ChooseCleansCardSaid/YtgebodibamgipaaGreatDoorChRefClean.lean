/-
  The document's Clean.
-/
import Derived.Test.YtgebodibamgipaaGreatDoorChRefCheck
import Derived.Test.YtgebodibamgipaaGreatDoorCh2
namespace Go.Proofs.YtgebodibamgipaaGreatDoor
open Go.RowKit
set_option maxRecDepth 100000

theorem fromT_run {A : Option Addr} {n c k : Nat} (hk : k ≤ n) (W : World) : (Instr.sliceAt 22 (.slice A n c) (some (.int .i64 ((k : Nat) : Int))) none none).run Tryz.prog W = .ok (.slice (if c = k then A else A.map (·.add (k * 1))) (n - k) (c - k)) W := by
  have h1 : ((k : Nat) : Int) ≤ (n : Int) := by omega
  rw [run_sliceAt_slice (h := Tryz.underlying22), run_slice_l (ht := Tryz.underlying22) (h0 := by omega) (h1 := h1)]
  have hs : (sizeOf (Tryz.prog.elem 22)).run Tryz.prog W = .ok 1 W := by kernel_rfl
  rw [hs]
  show Result.ok (sliced A ((k : Nat) : Int).toNat n c 1) W = _
  rw [Int.toNat_natCast]
  rfl
theorem uptoT_run {A : Option Addr} {n c k : Nat} (hk : k ≤ c) (W : World) : (Instr.sliceAt 22 (.slice A n c) none (some (.int .i64 ((k : Nat) : Int))) none).run Tryz.prog W = .ok (.slice (if c = 0 then A else A.map (·.add (0 * 1))) k c) W := by
  have h2 : ((k : Nat) : Int) ≤ (c : Int) := by omega
  rw [run_sliceAt_slice (h := Tryz.underlying22), run_slice_h (ht := Tryz.underlying22) (h0 := by omega) (h2 := h2)]
  have hs : (sizeOf (Tryz.prog.elem 22)).run Tryz.prog W = .ok 1 W := by kernel_rfl
  rw [hs]
  show Result.ok (sliced A 0 ((k : Nat) : Int).toNat c 1) W = _
  rw [Int.toNat_natCast]
  rfl
theorem wp_fromT {P : Program} {Q : Exit → Act → World → Prop} {o : Oper} {a : Act} {w : World} {K : Act → World → Prop} {t : TypeId} {v v' h : Value} (x y : Operand)
    (ho : o.op = .slice t x (some y) none none) (hx : a.eval x = v) (hy : a.eval y = h) (hrun : ∀ W : World, (Instr.sliceAt t v (some h) none none).run P W = .ok v' W) (hk : K (a.put o.dst v') w) : o.wp P a w K Q := by
  unfold Oper.wp execOp
  simp only [ho, Option.map, Act.eval, Sem.run_bind, Sem.run_pure] at hx hy ⊢
  rw [hx, hy, hrun]
  exact hk
theorem wp_uptoT {P : Program} {Q : Exit → Act → World → Prop} {o : Oper} {a : Act} {w : World} {K : Act → World → Prop} {t : TypeId} {v v' h : Value} (x y : Operand)
    (ho : o.op = .slice t x none (some y) none) (hx : a.eval x = v) (hy : a.eval y = h) (hrun : ∀ W : World, (Instr.sliceAt t v none (some h) none).run P W = .ok v' W) (hk : K (a.put o.dst v') w) : o.wp P a w K Q := by
  unfold Oper.wp execOp
  simp only [ho, Option.map, Act.eval, Sem.run_bind, Sem.run_pure] at hx hy ⊢
  rw [hx, hy, hrun]
  exact hk
theorem Rd.from_ {w : World} {ok : Nat → Prop} {A : Option Addr} {xs : List Value} {c k : Nat} (h : Rd w ok A xs) (hc : xs.length ≤ c) : Rd w ok (if c = k then A else A.map (·.add (k * 1))) (xs.drop k) := by
  rw [Nat.mul_one]
  exact h.drop hc
theorem Rd.upto_ {w : World} {ok : Nat → Prop} {A : Option Addr} {xs : List Value} {c k : Nat} (h : Rd w ok A xs) : Rd w ok (if c = 0 then A else A.map (·.add (0 * 1))) (xs.take k) := by
  have h2 := h.take (k := k)
  by_cases hc : c = 0
  · rw [if_pos hc]; exact h2
  · rw [if_neg hc]
    intro hn
    obtain ⟨ad, h3, h4, h5⟩ := h2 hn
    refine ⟨ad.add 0, by rw [h3]; rfl, by unfold Addr.add; split <;> exact h4, fun j u hu => ?_⟩
    rw [add_add', Nat.zero_add]
    exact h5 j u hu
/-- One text ahead of others, in a list of its own. -/
theorem consT_run (W : World) (x : Txt) (C2 : List Txt) (hl : C2.length ≤ 100000) {ok : Nat → Prop} {A : Option Addr} {m c : Nat} (hm : m = C2.length) (hr : Rd W ok A (C2.map str)) :
    ∃ u2 W2, (Builtin.append_ #[22, 22] 22 #[.slice (some ⟨W.heap.size, 0, none⟩) 1 1, .slice A m c]).run Tryz.prog (W.drew.alloc (.cells #[.string ⟨x.toArray⟩] 9)) = .ok u2 W2 ∧ OwnT W2 W.heap.size u2 (x :: C2) ∧ Below W.heap.size W W2 := by
  subst hm
  have hs : W.drew.heap.size = W.heap.size := rfl
  have hnew : OwnK (W.drew.alloc (.cells #[.string ⟨x.toArray⟩] 9)) W.heap.size 9 1 (.slice (some ⟨W.heap.size, 0, none⟩) 1 1) 1 [.string ⟨x.toArray⟩] :=
    ⟨rfl, .inr ⟨W.heap.size, 1, #[.string ⟨x.toArray⟩], rfl, Nat.le_refl _, Blk.new W.drew 9 #[.string ⟨x.toArray⟩], Nat.le_refl _, by unfold maxLen; omega, rfl, rfl⟩⟩
  have hbel : Below W.heap.size W (W.drew.alloc (.cells #[.string ⟨x.toArray⟩] 9)) := ((Below.refl _ _).drew).alloc (Nat.le_refl _) _
  obtain ⟨v2, W2, hrun, hown2, hg2, _⟩ := run_appK (P := Tryz.prog) (W.drew.alloc (.cells #[.string ⟨x.toArray⟩] 9)) (t := 22) (ty := 22) elemS1 hnew (ok := ok) (A := A) (m := C2.length) (c := c) (news := C2.map str) (by simp) (hr.grow hbel) (by intro u hu; obtain ⟨z, _, rfl⟩ := List.mem_map.1 hu; rfl) (by omega) (by omega) (by rw [World.size_alloc, hs]; omega)
  refine ⟨v2, W2, hrun, ?_, hbel.trans (hnew.below_of hg2 (by rw [World.size_alloc, hs]; omega) (Nat.le_refl _))⟩
  unfold OwnT
  rw [List.length_cons, Nat.add_comm]
  exact hown2
theorem refOut_same {L : List Txt} {i : Nat} (h : i < L.length) (hc : (underB L L[i] || ((refOut L i)[insAt (refOut L i) L[i]]? == some L[i])) = true) : refOut L (i + 1) = refOut L i := by
  rw [refOut_succ h]
  unfold refStep
  rw [if_pos hc]
theorem refOut_ins {L : List Txt} {i : Nat} (h : i < L.length) (hc : (underB L L[i] || ((refOut L i)[insAt (refOut L i) L[i]]? == some L[i])) = false) : refOut L (i + 1) = insT (refOut L i) L[i] := by
  rw [refOut_succ h]
  unfold refStep
  rw [if_neg (by rw [hc]; simp)]
def RcL (w : World) (v : Value) (L : List Txt) (n : Nat) (k9 : Nat) (a : Act) (x : World) : Prop :=
  ∃ (i : Nat) (u : Value), Hid (a.tmps.size = 81) ∧ Hid (a.defers = []) ∧ a.tmps[0]?.getD undef = v ∧ a.tmps[4]?.getD undef = u ∧ a.tmps[5]?.getD undef = .int .i64 ((i : Nat) : Int) ∧ Hid (i ≤ n) ∧ Hid ((L.take i).all pathB = true) ∧ Hid (TextsAt x u (refOut L i)) ∧ Hid (Below w.heap.size w x) ∧ k9 = n - i
def RcK (wr : World) (v u : Value) (O : List Txt) (tx : Txt) (i m : Nat) (k9 : Nat) (a : Act) (x : World) : Prop :=
  ∃ k : Nat, Hid (a.tmps.size = 81) ∧ Hid (a.defers = []) ∧ a.tmps[0]?.getD undef = v ∧ a.tmps[4]?.getD undef = u ∧ a.tmps[5]?.getD undef = .int .i64 ((i : Nat) : Int) ∧ a.tmps[6]?.getD undef = .int .i64 ((k : Nat) : Int) ∧ Hid (k ≤ m) ∧ Hid (∀ j, k ≤ j → (hj : j < O.length) → tx ≤ O[j]) ∧ Hid (Below wr.heap.size wr x) ∧ k9 = k

set_option maxHeartbeats 8000000 in
theorem refclean_any (ok : Nat → Prop) (A : Option Addr) (c : Nat) (L : List Txt) (w : World) (hL : Rd w ok A (L.map str)) (hl : L.length ≤ 1000) :
    Calls Tryz.prog 7 #[.slice A L.length c] w fun e w' => (∃ v, e = .returned (.tuple #[v, .int .i64 (cleanV L).2]) ∧ TextsAt w' v (cleanV L).1) ∧ Below w.heap.size w w' := by
  have HL := Lib.hid hL
  have Hun := Lib.hid fun s z (hz : Below w.heap.size w z) => refunder_any ok A c L s z (hL.grow hz) (by omega)
  obtain ⟨n, hn⟩ : ∃ n, n = L.length := ⟨_, rfl⟩
  rw [← hn] at hl Hun ⊢
  have Hn := Lib.hid hn
  clear hL hn
  go_enter Tryz.func7, Tryz.ntmps7
  refine enter_abs (N := 81) rfl rfl fun a0 hsz0 hde0 hk => ?_
  have f0 : a0.tmps[0]?.getD undef = .slice A n c := hk 0
  clear hk
  repeat with_reducible refine wp_seq ?_
  refine wp_region_lit ?_
  refine wpList_next rfl hsz0 hde0 2 rfl (by decide) fun K hK => ?_
  go_simp
  refine hK _ _ fun a1 hsz1 hde1 f2 hk => ?_
  clear hK K
  replace f0 := (hk 0 (by decide)).trans f0
  clear hk hsz0 hde0
  refine wpList_next rfl hsz1 hde1 3 rfl (by decide) fun K hK => ?_
  go_simp
  refine hK _ _ fun a2 hsz2 hde2 f3 hk => ?_
  clear hK K
  replace f0 := (hk 0 (by decide)).trans f0
  replace f2 := (hk 2 (by decide)).trans f2
  clear hk hsz1 hde1
  refine wpList_nil ?_
  clear f2 f3
  refine then_go ?_
  repeat with_reducible refine wp_seq ?_
  refine wp_region_lit ?_
  refine wpList_next rfl hsz2 hde2 4 rfl (by decide) fun K hK => ?_
  go_simp
  refine hK _ _ fun a3 hsz3 hde3 f4 hk => ?_
  clear hK K
  replace f0 := (hk 0 (by decide)).trans f0
  replace f4 : a3.tmps[4]?.getD undef = .slice none 0 0 := f4
  clear hk hsz2 hde2
  refine wpList_nil ?_
  refine then_go ?_
  repeat with_reducible refine wp_seq ?_
  refine wp_region_lit ?_
  refine wpList_next rfl hsz3 hde3 5 rfl (by decide) fun K hK => ?_
  go_simp
  refine hK _ _ fun a4 hsz4 hde4 f5 hk => ?_
  clear hK K
  replace f0 := (hk 0 (by decide)).trans f0
  replace f4 := (hk 4 (by decide)).trans f4
  replace f5 : a4.tmps[5]?.getD undef = .int .i64 ((0 : Nat) : Int) := f5
  clear hk hsz3 hde3
  refine wpList_nil ?_
  refine then_go ?_
  repeat with_reducible refine wp_seq ?_
  refine wp_block ?_
  refine wp_loop_ghost (RcL w (.slice A n c) L n) (n - 0) ?_ ?_
  · exact ⟨0, _, hsz4, hde4, f0, f4, f5, Lib.hid (Nat.zero_le _), Lib.hid (by rw [List.take_zero]; rfl), Lib.hid (textsAt_nil _), Lib.hid (Below.refl _ _), rfl⟩
  clear hsz4 hde4 f0 f4 f5
  intro n2 a19 wr hI
  obtain ⟨i, u, hsz19, hde19, f0, f4, f5, Hi, Hall, Hts, Hbw, hn2⟩ := hI
  have Hn2 := Lib.hid hn2
  clear hn2
  repeat with_reducible refine wp_seq ?_
  by_cases hlt : i < n
  · skip
    refine wp_region_lit ?_
    refine wpList_next rfl hsz19 hde19 8 rfl (by decide) fun K hK => ?_
    go_simp
    refine hK _ _ fun a20 hsz20 hde20 f8 hk => ?_
    clear hK K
    replace f0 := (hk 0 (by decide)).trans f0
    replace f4 := (hk 4 (by decide)).trans f4
    replace f5 := (hk 5 (by decide)).trans f5
    clear hk hsz19 hde19
    refine wpList_next rfl hsz20 hde20 9 rfl (by decide) fun K hK => ?_
    go_simp
    refine hK _ _ fun a21 hsz21 hde21 f9 hk => ?_
    clear hK K
    replace f0 := (hk 0 (by decide)).trans f0
    replace f4 := (hk 4 (by decide)).trans f4
    replace f5 := (hk 5 (by decide)).trans f5
    replace f8 := (hk 8 (by decide)).trans f8
    clear hk hsz20 hde20
    refine wpList_next rfl hsz21 hde21 10 rfl (by decide) fun K hK => ?_
    go_simp
    refine hK _ _ fun a22 hsz22 hde22 f10 hk => ?_
    clear hK K
    replace f0 := (hk 0 (by decide)).trans f0
    replace f4 := (hk 4 (by decide)).trans f4
    replace f5 := (hk 5 (by decide)).trans f5
    replace f8 := (hk 8 (by decide)).trans f8
    clear hk hsz21 hde21 f9
    refine wpList_next rfl hsz22 hde22 11 rfl (by decide) fun K hK => ?_
    go_simp
    refine hK _ _ fun a23 hsz23 hde23 f11 hk => ?_
    clear hK K
    replace f0 := (hk 0 (by decide)).trans f0
    replace f4 := (hk 4 (by decide)).trans f4
    replace f5 := (hk 5 (by decide)).trans f5
    clear hk hsz22 hde22 f8 f10
    replace f11 : a23.tmps[11]?.getD undef = .bool true := f11.trans (by first | rfl | (congr 1; first | exact decide_eq_true (by omega) | exact decide_eq_false (by omega)) | (simp; omega))
    refine wpList_nil ?_
    refine then_go ?_
    repeat with_reducible refine wp_seq ?_
    refine wp_cond_true (eval_at f11) ?_
    refine wp_skip ?_
    refine then_go ?_
    clear f11
    repeat with_reducible refine wp_seq ?_
    refine wp_block ?_
    repeat with_reducible refine wp_seq ?_
    have hil : i < L.length := by rw [← Hn.out]; exact hlt
    obtain ⟨b, off, hA, hc⟩ := cells_at Hbw.out HL.out (by intro e; subst e; simp at hil)
    have c1 := hc i hil
    obtain ⟨tx, hx⟩ : ∃ x, x = L[i] := ⟨_, rfl⟩
    rw [← hx] at c1
    have Hx := Lib.hid hx
    have hi0 : (0 : Int) ≤ (i : Int) := by omega
    have hinn : (i : Int) < (n : Int) := by omega
    subst hA
    have Hcx := Lib.hid (show ∀ z, Below wr.heap.size wr z → z.cell? ⟨b, off + i, none⟩ = some (.string ⟨tx.toArray⟩) from fun z hz => (hz.cell (p := ⟨b, off + i, none⟩) (World.block_lt_of_cell? _ _ c1)).trans c1)
    have Hip := Lib.hid (refpath_any tx wr)
    obtain ⟨p, hp⟩ : ∃ q, q = pathB tx := ⟨_, rfl⟩
    rw [← hp] at Hip
    have Hp := Lib.hid hp
    have Hux := Lib.hid fun z (hz : Below wr.heap.size wr z) => Hun.out tx z (Hbw.out.trans (hz.mono Hbw.out.size))
    obtain ⟨ub, hu⟩ : ∃ u, u = underB L tx := ⟨_, rfl⟩
    rw [← hu] at Hux
    have Hub := Lib.hid hu
    obtain ⟨O, hO⟩ : ∃ O, O = refOut L i := ⟨_, rfl⟩
    rw [← hO] at Hts
    have HO := Lib.hid hO
    have hOl : O.length ≤ 1000 := by rw [hO]; have := refOut_le L i (by omega); omega
    clear hc hx hp hu hO
    refine wp_region_lit ?_
    refine wpList_next rfl hsz23 hde23 14 rfl (by decide) fun K hK => ?_
    go_simp
    refine hK _ _ fun a24 hsz24 hde24 f14 hk => ?_
    clear hK K
    replace f0 := (hk 0 (by decide)).trans f0
    replace f4 := (hk 4 (by decide)).trans f4
    replace f5 := (hk 5 (by decide)).trans f5
    replace f14 : a24.tmps[14]?.getD undef = .slice (some ⟨b, off, none⟩) n c := f14
    clear hk hsz23 hde23
    refine wpList_next rfl hsz24 hde24 15 rfl (by decide) fun K hK => ?_
    go_simp
    refine hK _ _ fun a25 hsz25 hde25 f15 hk => ?_
    clear hK K
    replace f0 := (hk 0 (by decide)).trans f0
    replace f4 := (hk 4 (by decide)).trans f4
    replace f5 := (hk 5 (by decide)).trans f5
    replace f14 := (hk 14 (by decide)).trans f14
    replace f15 : a25.tmps[15]?.getD undef = .int .i64 ((i : Nat) : Int) := f15
    clear hk hsz24 hde24
    refine wpList_next rfl hsz25 hde25 16 rfl (by decide) fun K hK => ?_
    go_simp
    refine hK _ _ fun a26 hsz26 hde26 f16 hk => ?_
    clear hK K
    replace f0 := (hk 0 (by decide)).trans f0
    replace f4 := (hk 4 (by decide)).trans f4
    replace f5 := (hk 5 (by decide)).trans f5
    replace f16 : a26.tmps[16]?.getD undef = .pointer (some ⟨b, off + i, none⟩) := f16
    clear hk hsz25 hde25 f14 f15
    refine wpList_next rfl hsz26 hde26 17 rfl (by decide) fun K hK => ?_
    go_simp
    refine hK _ _ fun a27 hsz27 hde27 f17 hk => ?_
    clear hK K
    replace f0 := (hk 0 (by decide)).trans f0
    replace f4 := (hk 4 (by decide)).trans f4
    replace f5 := (hk 5 (by decide)).trans f5
    replace f17 : a27.tmps[17]?.getD undef = .string ⟨tx.toArray⟩ := f17
    clear hk hsz26 hde26 f16
    refine wpList_next rfl hsz27 hde27 18 rfl (by decide) fun K hK => ?_
    go_simp
    refine (Hip.out).mono ?_
    rintro e1 w1 ⟨rfl, hb1⟩
    go_simp
    refine hK _ _ fun a28 hsz28 hde28 f18 hk => ?_
    clear hK K
    replace f0 := (hk 0 (by decide)).trans f0
    replace f4 := (hk 4 (by decide)).trans f4
    replace f5 := (hk 5 (by decide)).trans f5
    replace f18 : a28.tmps[18]?.getD undef = .bool p := f18
    clear hk hsz27 hde27 f17
    have Hb1 := Lib.hid hb1
    clear hb1
    refine wpList_next rfl hsz28 hde28 19 rfl (by decide) fun K hK => ?_
    go_simp
    refine hK _ _ fun a29 hsz29 hde29 f19 hk => ?_
    clear hK K
    replace f0 := (hk 0 (by decide)).trans f0
    replace f4 := (hk 4 (by decide)).trans f4
    replace f5 := (hk 5 (by decide)).trans f5
    replace f19 : a29.tmps[19]?.getD undef = .bool (!p) := f19
    clear hk hsz28 hde28 f18
    refine wpList_nil ?_
    clear c1
    refine then_go ?_
    repeat with_reducible refine wp_seq ?_
    cases p with
    | false =>
      replace f19 : a29.tmps[19]?.getD undef = .bool true := f19
      refine wp_cond_true (eval_at f19) ?_
      clear f19
      repeat with_reducible refine wp_seq ?_
      refine wp_region_lit ?_
      refine wpList_next rfl hsz29 hde29 2 rfl (by decide) fun K hK => ?_
      go_simp
      refine hK _ _ fun a30 hsz30 hde30 f2 hk => ?_
      clear hK K
      replace f0 := (hk 0 (by decide)).trans f0
      replace f4 := (hk 4 (by decide)).trans f4
      replace f5 := (hk 5 (by decide)).trans f5
      replace f2 : a30.tmps[2]?.getD undef = .slice none 0 0 := f2
      clear hk hsz29 hde29
      refine wpList_next rfl hsz30 hde30 3 rfl (by decide) fun K hK => ?_
      go_simp
      refine hK _ _ fun a31 hsz31 hde31 f3 hk => ?_
      clear hK K
      replace f0 := (hk 0 (by decide)).trans f0
      replace f4 := (hk 4 (by decide)).trans f4
      replace f5 := (hk 5 (by decide)).trans f5
      replace f2 := (hk 2 (by decide)).trans f2
      replace f3 : a31.tmps[3]?.getD undef = .int .i64 20 := f3
      clear hk hsz30 hde30
      refine wpList_nil ?_
      refine then_go ?_
      have hcv : cleanV L = ([], 20) := by unfold cleanV; rw [if_neg (by rw [all_not hil (by rw [← Hx.out]; exact Hp.out.symm)]; simp)]
      refine wp_ret ?_
      repeat first | with_reducible refine then_ret ?_ | with_reducible refine block_ret ?_
      refine ret_two Tryz.results7 hde31 f2 f3 ?_
      rw [hcv]
      exact ⟨⟨_, rfl, textsAt_nil _⟩, below_call Hbw.out Hb1.out⟩
    | true =>
      replace f19 : a29.tmps[19]?.getD undef = .bool false := f19
      refine wp_cond_false (eval_at f19) ?_
      refine wp_skip ?_
      refine then_go ?_
      clear f19
      repeat with_reducible refine wp_seq ?_
      obtain ⟨Au, cu, hu, hcu1, hcu2, hru⟩ := Hts.out
      obtain ⟨m, hm⟩ : ∃ m, m = O.length := ⟨_, rfl⟩
      rw [← hm] at hu hcu1
      have Hm := Lib.hid hm
      have Hru := Lib.hid hru
      subst hu
      have Hall2 := Lib.hid (all_take hil Hall.out (by rw [← Hx.out]; exact Hp.out.symm))
      clear hm hru
      refine wp_region_lit ?_
      refine wpList_next rfl hsz29 hde29 20 rfl (by decide) fun K hK => ?_
      go_simp
      refine hK _ _ fun a30 hsz30 hde30 f20 hk => ?_
      clear hK K
      replace f0 := (hk 0 (by decide)).trans f0
      replace f4 := (hk 4 (by decide)).trans f4
      replace f5 := (hk 5 (by decide)).trans f5
      replace f20 : a30.tmps[20]?.getD undef = .slice Au m cu := f20
      clear hk hsz29 hde29
      refine wpList_next rfl hsz30 hde30 21 rfl (by decide) fun K hK => ?_
      go_simp
      refine hK _ _ fun a31 hsz31 hde31 f21 hk => ?_
      clear hK K
      replace f0 := (hk 0 (by decide)).trans f0
      replace f4 := (hk 4 (by decide)).trans f4
      replace f5 := (hk 5 (by decide)).trans f5
      replace f21 : a31.tmps[21]?.getD undef = .int .i64 ((m : Nat) : Int) := f21
      clear hk hsz30 hde30 f20
      refine wpList_next rfl hsz31 hde31 6 rfl (by decide) fun K hK => ?_
      go_simp
      refine hK _ _ fun a32 hsz32 hde32 f6 hk => ?_
      clear hK K
      replace f0 := (hk 0 (by decide)).trans f0
      replace f4 := (hk 4 (by decide)).trans f4
      replace f5 := (hk 5 (by decide)).trans f5
      replace f6 : a32.tmps[6]?.getD undef = .int .i64 ((m : Nat) : Int) := f6
      clear hk hsz31 hde31 f21
      refine wpList_nil ?_
      refine then_go ?_
      repeat with_reducible refine wp_seq ?_
      refine wp_block ?_
      refine wp_loop_ghost (RcK wr (.slice (some ⟨b, off, none⟩) n c) (.slice Au m cu) O tx i m) m ?_ ?_
      · exact ⟨m, hsz32, hde32, f0, f4, f5, f6, Lib.hid (Nat.le_refl _), Lib.hid (fun j h1 h2 => by have := Hm.out; omega), Hb1, rfl⟩
      clear hsz32 hde32 f0 f4 f5 f6 Hb1
      intro n3 a49 wq hI
      obtain ⟨k, hsz49, hde49, f0, f4, f5, f6, Hk, Hge, Hbq, hn3⟩ := hI
      have Hn3 := Lib.hid hn3
      clear hn3
      repeat with_reducible refine wp_seq ?_
      by_cases h0 : k = 0
      · have H0 := Lib.hid h0
        have h0n : ¬ 0 < k := by omega
        clear h0
        refine wp_region_goodg (tblG [(22, .int .i64 ((k : Nat) : Int)), (23, .bool false), (24, .bool false), (25, undef), (26, undef), (27, undef), (28, undef), (29, undef), (30, undef), (31, undef), (32, undef), (33, undef), (34, undef), (35, .bool false)]) 81 (by kernel_rfl) (by kernel_rfl) (by kernel_rfl) (by kernel_rfl) hsz49.out ?_ ?_ ?_
        · intro t v7 x x' h _ _
          exact h
        · intro i7 o hi7 a x hbx hsame hpre K hK
          have hlt7 : i7 < 14 := (Array.getElem?_eq_some_iff.1 hi7).1
          rcases (show i7 = 0 ∨ i7 = 1 ∨ i7 = 2 ∨ i7 = 3 ∨ i7 = 4 ∨ i7 = 5 ∨ i7 = 6 ∨ i7 = 7 ∨ i7 = 8 ∨ i7 = 9 ∨ i7 = 10 ∨ i7 = 11 ∨ i7 = 12 ∨ i7 = 13 by omega) with rfl | rfl | rfl | rfl | rfl | rfl | rfl | rfl | rfl | rfl | rfl | rfl | rfl | rfl
          all_goals (have ho := Option.some.inj hi7; subst ho; clear hi7 hlt7)
          · have q6 : a.tmps[6]?.getD undef = .int .i64 ((k : Nat) : Int) := (hsame 6 (by decide +kernel)).trans f6
            refine step_plain rfl ?_
            have hk := Lib.hid (show ∀ v7 x', v7 = .int .i64 ((k : Nat) : Int) → Below x.heap.size x x' → K (a.put (some 22) v7) x' from hK)
            have Hbx := Lib.hid hbx
            clear hsame hpre hK hbx
            go_simp
            exact hk.out _ _ rfl (Below.refl _ _)
          · have q22 : a.tmps[22]?.getD undef = .int .i64 ((k : Nat) : Int) := hpre ⟨0, .data⟩ (by simp) rfl (by decide)
            refine step_plain rfl ?_
            have hk := Lib.hid (show ∀ v7 x', v7 = .bool false → Below x.heap.size x x' → K (a.put (some 23) v7) x' from hK)
            have Hbx := Lib.hid hbx
            clear hsame hpre hK hbx
            go_simp
            exact hk.out _ _ (by first | rfl | (congr 1; exact decide_eq_false (by omega)) | (simp; omega)) (Below.refl _ _)
          · have q23 : a.tmps[23]?.getD undef = .bool false := hpre ⟨1, .data⟩ (by simp) rfl (by decide)
            refine step_plain rfl ?_
            have hk := Lib.hid (show ∀ v7 x', v7 = .bool false → Below x.heap.size x x' → K (a.put (some 24) v7) x' from hK)
            have Hbx := Lib.hid hbx
            clear hsame hpre hK hbx
            go_simp
            exact hk.out _ _ rfl (Below.refl _ _)
          · have w24 : a.tmps[24]?.getD undef = .bool false := hpre ⟨2, .guard⟩ (by simp) rfl (by decide)
            refine step_left (not_wanted (j := 2) (t := 24) (b := true) rfl rfl (.inr w24)) ?_
            have hk := Lib.hid (show ∀ v7 x', v7 = undef → Below x.heap.size x x' → K (a.put (some 25) v7) x' from hK)
            have Hbx := Lib.hid hbx
            clear hsame hpre hK hbx w24
            exact hk.out _ _ rfl (Below.refl _ _)
          · have w24 : a.tmps[24]?.getD undef = .bool false := hpre ⟨2, .guard⟩ (by simp) rfl (by decide)
            refine step_left (not_wanted (j := 2) (t := 24) (b := true) rfl rfl (.inr w24)) ?_
            have hk := Lib.hid (show ∀ v7 x', v7 = undef → Below x.heap.size x x' → K (a.put (some 26) v7) x' from hK)
            have Hbx := Lib.hid hbx
            clear hsame hpre hK hbx w24
            exact hk.out _ _ rfl (Below.refl _ _)
          · have w24 : a.tmps[24]?.getD undef = .bool false := hpre ⟨2, .guard⟩ (by simp) rfl (by decide)
            refine step_left (not_wanted (j := 2) (t := 24) (b := true) rfl rfl (.inr w24)) ?_
            have hk := Lib.hid (show ∀ v7 x', v7 = undef → Below x.heap.size x x' → K (a.put (some 27) v7) x' from hK)
            have Hbx := Lib.hid hbx
            clear hsame hpre hK hbx w24
            exact hk.out _ _ rfl (Below.refl _ _)
          · have w24 : a.tmps[24]?.getD undef = .bool false := hpre ⟨2, .guard⟩ (by simp) rfl (by decide)
            refine step_left (not_wanted (j := 2) (t := 24) (b := true) rfl rfl (.inr w24)) ?_
            have hk := Lib.hid (show ∀ v7 x', v7 = undef → Below x.heap.size x x' → K (a.put (some 28) v7) x' from hK)
            have Hbx := Lib.hid hbx
            clear hsame hpre hK hbx w24
            exact hk.out _ _ rfl (Below.refl _ _)
          · have w24 : a.tmps[24]?.getD undef = .bool false := hpre ⟨2, .guard⟩ (by simp) rfl (by decide)
            refine step_left (not_wanted (j := 2) (t := 24) (b := true) rfl rfl (.inr w24)) ?_
            have hk := Lib.hid (show ∀ v7 x', v7 = undef → Below x.heap.size x x' → K (a.put (some 29) v7) x' from hK)
            have Hbx := Lib.hid hbx
            clear hsame hpre hK hbx w24
            exact hk.out _ _ rfl (Below.refl _ _)
          · have w24 : a.tmps[24]?.getD undef = .bool false := hpre ⟨2, .guard⟩ (by simp) rfl (by decide)
            refine step_left (not_wanted (j := 2) (t := 24) (b := true) rfl rfl (.inr w24)) ?_
            have hk := Lib.hid (show ∀ v7 x', v7 = undef → Below x.heap.size x x' → K (a.put (some 30) v7) x' from hK)
            have Hbx := Lib.hid hbx
            clear hsame hpre hK hbx w24
            exact hk.out _ _ rfl (Below.refl _ _)
          · have w24 : a.tmps[24]?.getD undef = .bool false := hpre ⟨2, .guard⟩ (by simp) rfl (by decide)
            refine step_left (not_wanted (j := 2) (t := 24) (b := true) rfl rfl (.inr w24)) ?_
            have hk := Lib.hid (show ∀ v7 x', v7 = undef → Below x.heap.size x x' → K (a.put (some 31) v7) x' from hK)
            have Hbx := Lib.hid hbx
            clear hsame hpre hK hbx w24
            exact hk.out _ _ rfl (Below.refl _ _)
          · have w24 : a.tmps[24]?.getD undef = .bool false := hpre ⟨2, .guard⟩ (by simp) rfl (by decide)
            refine step_left (not_wanted (j := 2) (t := 24) (b := true) rfl rfl (.inr w24)) ?_
            have hk := Lib.hid (show ∀ v7 x', v7 = undef → Below x.heap.size x x' → K (a.put (some 32) v7) x' from hK)
            have Hbx := Lib.hid hbx
            clear hsame hpre hK hbx w24
            exact hk.out _ _ rfl (Below.refl _ _)
          · have w24 : a.tmps[24]?.getD undef = .bool false := hpre ⟨2, .guard⟩ (by simp) rfl (by decide)
            refine step_left (not_wanted (j := 2) (t := 24) (b := true) rfl rfl (.inr w24)) ?_
            have hk := Lib.hid (show ∀ v7 x', v7 = undef → Below x.heap.size x x' → K (a.put (some 33) v7) x' from hK)
            have Hbx := Lib.hid hbx
            clear hsame hpre hK hbx w24
            exact hk.out _ _ rfl (Below.refl _ _)
          · have w24 : a.tmps[24]?.getD undef = .bool false := hpre ⟨2, .guard⟩ (by simp) rfl (by decide)
            refine step_left (not_wanted (j := 2) (t := 24) (b := true) rfl rfl (.inr w24)) ?_
            have hk := Lib.hid (show ∀ v7 x', v7 = undef → Below x.heap.size x x' → K (a.put (some 34) v7) x' from hK)
            have Hbx := Lib.hid hbx
            clear hsame hpre hK hbx w24
            exact hk.out _ _ rfl (Below.refl _ _)
          · have q24 : a.tmps[24]?.getD undef = .bool false := hpre ⟨2, .data⟩ (by simp) rfl (by decide)
            have q34 : a.tmps[34]?.getD undef = undef := hpre ⟨12, .data⟩ (by simp) rfl (by decide)
            refine step_plain rfl ?_
            have hk := Lib.hid (show ∀ v7 x', v7 = .bool false → Below x.heap.size x x' → K (a.put (some 35) v7) x' from hK)
            have Hbx := Lib.hid hbx
            clear hsame hpre hK hbx
            go_simp
            exact hk.out _ _ rfl (Below.refl _ _)
        intro a50 x50 hbx hsame hG hsz50 hde50
        replace f0 := (hsame 0 (by decide +kernel)).trans f0
        replace f4 := (hsame 4 (by decide +kernel)).trans f4
        replace f5 := (hsame 5 (by decide +kernel)).trans f5
        replace f6 := (hsame 6 (by decide +kernel)).trans f6
        have f35 : a50.tmps[35]?.getD undef = .bool false := hG 13 (by decide)
        have Hbx50 := Lib.hid hbx
        have hsz50h := Lib.hid hsz50
        have hde50h := Lib.hid (hde50.trans hde49.out)
        clear hsame hG hbx hsz50 hde50 hsz49 hde49
        have Hbr := Lib.hid (below_call Hbq.out Hbx50.out)
        refine then_go ?_
        repeat with_reducible refine wp_seq ?_
        refine wp_cond_false (eval_at f35) ?_
        refine wp_exit ?_
        repeat with_reducible refine then_exit ?_
        refine block_exit ?_
        repeat first | with_reducible refine block_go ?_ | with_reducible refine then_go ?_
        clear f35
        repeat with_reducible refine wp_seq ?_
        have Hat := Lib.hid (show insAt O tx = k from insAt_eq (by have := Hk.out; have := Hm.out; omega) Hge.out (.inl H0.out))
        cases ub with
        | true =>
          refine wp_region_goodg (tblG [(38, .slice (some ⟨b, off, none⟩) n c), (39, .slice (some ⟨b, off, none⟩) n c), (40, .int .i64 ((i : Nat) : Int)), (41, .pointer (some ⟨b, off + i, none⟩)), (42, .string ⟨tx.toArray⟩), (43, .bool true), (44, .bool true), (45, undef), (46, undef), (47, undef), (48, undef), (49, undef), (50, undef), (51, undef), (52, undef), (53, undef), (54, undef), (55, undef), (56, undef), (57, undef), (58, undef), (59, undef), (60, .bool true)]) 81 (by kernel_rfl) (by kernel_rfl) (by kernel_rfl) (by kernel_rfl) hsz50h.out ?_ ?_ ?_
          · intro t v7 x x' h _ _
            exact h
          · intro i7 o hi7 a x hbx hsame hpre K hK
            have hlt7 : i7 < 23 := (Array.getElem?_eq_some_iff.1 hi7).1
            rcases (show i7 = 0 ∨ i7 = 1 ∨ i7 = 2 ∨ i7 = 3 ∨ i7 = 4 ∨ i7 = 5 ∨ i7 = 6 ∨ i7 = 7 ∨ i7 = 8 ∨ i7 = 9 ∨ i7 = 10 ∨ i7 = 11 ∨ i7 = 12 ∨ i7 = 13 ∨ i7 = 14 ∨ i7 = 15 ∨ i7 = 16 ∨ i7 = 17 ∨ i7 = 18 ∨ i7 = 19 ∨ i7 = 20 ∨ i7 = 21 ∨ i7 = 22 by omega) with rfl | rfl | rfl | rfl | rfl | rfl | rfl | rfl | rfl | rfl | rfl | rfl | rfl | rfl | rfl | rfl | rfl | rfl | rfl | rfl | rfl | rfl | rfl
            all_goals (have ho := Option.some.inj hi7; subst ho; clear hi7 hlt7)
            · have q0 : a.tmps[0]?.getD undef = .slice (some ⟨b, off, none⟩) n c := (hsame 0 (by decide +kernel)).trans f0
              refine step_plain rfl ?_
              have hk := Lib.hid (show ∀ v7 x', v7 = .slice (some ⟨b, off, none⟩) n c → Below x.heap.size x x' → K (a.put (some 38) v7) x' from hK)
              have Hbx := Lib.hid hbx
              clear hsame hpre hK hbx
              go_simp
              exact hk.out _ _ rfl (Below.refl _ _)
            · have q0 : a.tmps[0]?.getD undef = .slice (some ⟨b, off, none⟩) n c := (hsame 0 (by decide +kernel)).trans f0
              refine step_plain rfl ?_
              have hk := Lib.hid (show ∀ v7 x', v7 = .slice (some ⟨b, off, none⟩) n c → Below x.heap.size x x' → K (a.put (some 39) v7) x' from hK)
              have Hbx := Lib.hid hbx
              clear hsame hpre hK hbx
              go_simp
              exact hk.out _ _ rfl (Below.refl _ _)
            · have q5 : a.tmps[5]?.getD undef = .int .i64 ((i : Nat) : Int) := (hsame 5 (by decide +kernel)).trans f5
              refine step_plain rfl ?_
              have hk := Lib.hid (show ∀ v7 x', v7 = .int .i64 ((i : Nat) : Int) → Below x.heap.size x x' → K (a.put (some 40) v7) x' from hK)
              have Hbx := Lib.hid hbx
              clear hsame hpre hK hbx
              go_simp
              exact hk.out _ _ rfl (Below.refl _ _)
            · have q39 : a.tmps[39]?.getD undef = .slice (some ⟨b, off, none⟩) n c := hpre ⟨1, .data⟩ (by simp) rfl (by decide)
              have q40 : a.tmps[40]?.getD undef = .int .i64 ((i : Nat) : Int) := hpre ⟨2, .data⟩ (by simp) rfl (by decide)
              refine step_plain rfl ?_
              have hk := Lib.hid (show ∀ v7 x', v7 = .pointer (some ⟨b, off + i, none⟩) → Below x.heap.size x x' → K (a.put (some 41) v7) x' from hK)
              have Hbx := Lib.hid hbx
              clear hsame hpre hK hbx
              go_simp
              exact hk.out _ _ rfl (Below.refl _ _)
            · have q41 : a.tmps[41]?.getD undef = .pointer (some ⟨b, off + i, none⟩) := hpre ⟨3, .data⟩ (by simp) rfl (by decide)
              refine step_plain rfl ?_
              have hk := Lib.hid (show ∀ v7 x', v7 = .string ⟨tx.toArray⟩ → Below x.heap.size x x' → K (a.put (some 42) v7) x' from hK)
              have Hbx := Lib.hid hbx
              clear hsame hpre hK hbx
              have c8 := Hcx.out _ (below_call Hbr.out Hbx.out)
              go_simp
              exact hk.out _ _ rfl (Below.refl _ _)
            · have q38 : a.tmps[38]?.getD undef = .slice (some ⟨b, off, none⟩) n c := hpre ⟨0, .data⟩ (by simp) rfl (by decide)
              have q42 : a.tmps[42]?.getD undef = .string ⟨tx.toArray⟩ := hpre ⟨4, .data⟩ (by simp) rfl (by decide)
              refine step_plain rfl ?_
              have hk := Lib.hid (show ∀ v7 x', v7 = .bool true → Below x.heap.size x x' → K (a.put (some 43) v7) x' from hK)
              have Hbx := Lib.hid hbx
              clear hsame hpre hK hbx
              go_simp
              refine (Hux.out _ (below_call Hbr.out Hbx.out)).mono ?_
              rintro e2 w2 ⟨rfl, hb2⟩
              go_simp
              exact hk.out _ _ rfl hb2
            · have q43 : a.tmps[43]?.getD undef = .bool true := hpre ⟨5, .data⟩ (by simp) rfl (by decide)
              refine step_plain rfl ?_
              have hk := Lib.hid (show ∀ v7 x', v7 = .bool true → Below x.heap.size x x' → K (a.put (some 44) v7) x' from hK)
              have Hbx := Lib.hid hbx
              clear hsame hpre hK hbx
              go_simp
              exact hk.out _ _ rfl (Below.refl _ _)
            · have w44 : a.tmps[44]?.getD undef = .bool true := hpre ⟨6, .guard⟩ (by simp) rfl (by decide)
              refine step_left (not_wanted (j := 6) (t := 44) (b := false) rfl rfl (.inr w44)) ?_
              have hk := Lib.hid (show ∀ v7 x', v7 = undef → Below x.heap.size x x' → K (a.put (some 45) v7) x' from hK)
              have Hbx := Lib.hid hbx
              clear hsame hpre hK hbx w44
              exact hk.out _ _ rfl (Below.refl _ _)
            · have w44 : a.tmps[44]?.getD undef = .bool true := hpre ⟨6, .guard⟩ (by simp) rfl (by decide)
              refine step_left (not_wanted (j := 6) (t := 44) (b := false) rfl rfl (.inr w44)) ?_
              have hk := Lib.hid (show ∀ v7 x', v7 = undef → Below x.heap.size x x' → K (a.put (some 46) v7) x' from hK)
              have Hbx := Lib.hid hbx
              clear hsame hpre hK hbx w44
              exact hk.out _ _ rfl (Below.refl _ _)
            · have w44 : a.tmps[44]?.getD undef = .bool true := hpre ⟨6, .guard⟩ (by simp) rfl (by decide)
              refine step_left (not_wanted (j := 6) (t := 44) (b := false) rfl rfl (.inr w44)) ?_
              have hk := Lib.hid (show ∀ v7 x', v7 = undef → Below x.heap.size x x' → K (a.put (some 47) v7) x' from hK)
              have Hbx := Lib.hid hbx
              clear hsame hpre hK hbx w44
              exact hk.out _ _ rfl (Below.refl _ _)
            · have w44 : a.tmps[44]?.getD undef = .bool true := hpre ⟨6, .guard⟩ (by simp) rfl (by decide)
              refine step_left (not_wanted (j := 6) (t := 44) (b := false) rfl rfl (.inr w44)) ?_
              have hk := Lib.hid (show ∀ v7 x', v7 = undef → Below x.heap.size x x' → K (a.put (some 48) v7) x' from hK)
              have Hbx := Lib.hid hbx
              clear hsame hpre hK hbx w44
              exact hk.out _ _ rfl (Below.refl _ _)
            · have w44 : a.tmps[44]?.getD undef = .bool true := hpre ⟨6, .guard⟩ (by simp) rfl (by decide)
              refine step_left (not_wanted (j := 6) (t := 44) (b := false) rfl rfl (.inr w44)) ?_
              have hk := Lib.hid (show ∀ v7 x', v7 = undef → Below x.heap.size x x' → K (a.put (some 49) v7) x' from hK)
              have Hbx := Lib.hid hbx
              clear hsame hpre hK hbx w44
              exact hk.out _ _ rfl (Below.refl _ _)
            · have w49 : a.tmps[49]?.getD undef = undef := hpre ⟨11, .guard⟩ (by simp) rfl (by decide)
              refine step_left (not_wanted (j := 11) (t := 49) (b := true) rfl rfl (.inl w49)) ?_
              have hk := Lib.hid (show ∀ v7 x', v7 = undef → Below x.heap.size x x' → K (a.put (some 50) v7) x' from hK)
              have Hbx := Lib.hid hbx
              clear hsame hpre hK hbx w49
              exact hk.out _ _ rfl (Below.refl _ _)
            · have w49 : a.tmps[49]?.getD undef = undef := hpre ⟨11, .guard⟩ (by simp) rfl (by decide)
              refine step_left (not_wanted (j := 11) (t := 49) (b := true) rfl rfl (.inl w49)) ?_
              have hk := Lib.hid (show ∀ v7 x', v7 = undef → Below x.heap.size x x' → K (a.put (some 51) v7) x' from hK)
              have Hbx := Lib.hid hbx
              clear hsame hpre hK hbx w49
              exact hk.out _ _ rfl (Below.refl _ _)
            · have w49 : a.tmps[49]?.getD undef = undef := hpre ⟨11, .guard⟩ (by simp) rfl (by decide)
              refine step_left (not_wanted (j := 11) (t := 49) (b := true) rfl rfl (.inl w49)) ?_
              have hk := Lib.hid (show ∀ v7 x', v7 = undef → Below x.heap.size x x' → K (a.put (some 52) v7) x' from hK)
              have Hbx := Lib.hid hbx
              clear hsame hpre hK hbx w49
              exact hk.out _ _ rfl (Below.refl _ _)
            · have w49 : a.tmps[49]?.getD undef = undef := hpre ⟨11, .guard⟩ (by simp) rfl (by decide)
              refine step_left (not_wanted (j := 11) (t := 49) (b := true) rfl rfl (.inl w49)) ?_
              have hk := Lib.hid (show ∀ v7 x', v7 = undef → Below x.heap.size x x' → K (a.put (some 53) v7) x' from hK)
              have Hbx := Lib.hid hbx
              clear hsame hpre hK hbx w49
              exact hk.out _ _ rfl (Below.refl _ _)
            · have w49 : a.tmps[49]?.getD undef = undef := hpre ⟨11, .guard⟩ (by simp) rfl (by decide)
              refine step_left (not_wanted (j := 11) (t := 49) (b := true) rfl rfl (.inl w49)) ?_
              have hk := Lib.hid (show ∀ v7 x', v7 = undef → Below x.heap.size x x' → K (a.put (some 54) v7) x' from hK)
              have Hbx := Lib.hid hbx
              clear hsame hpre hK hbx w49
              exact hk.out _ _ rfl (Below.refl _ _)
            · have w49 : a.tmps[49]?.getD undef = undef := hpre ⟨11, .guard⟩ (by simp) rfl (by decide)
              refine step_left (not_wanted (j := 11) (t := 49) (b := true) rfl rfl (.inl w49)) ?_
              have hk := Lib.hid (show ∀ v7 x', v7 = undef → Below x.heap.size x x' → K (a.put (some 55) v7) x' from hK)
              have Hbx := Lib.hid hbx
              clear hsame hpre hK hbx w49
              exact hk.out _ _ rfl (Below.refl _ _)
            · have w49 : a.tmps[49]?.getD undef = undef := hpre ⟨11, .guard⟩ (by simp) rfl (by decide)
              refine step_left (not_wanted (j := 11) (t := 49) (b := true) rfl rfl (.inl w49)) ?_
              have hk := Lib.hid (show ∀ v7 x', v7 = undef → Below x.heap.size x x' → K (a.put (some 56) v7) x' from hK)
              have Hbx := Lib.hid hbx
              clear hsame hpre hK hbx w49
              exact hk.out _ _ rfl (Below.refl _ _)
            · have w49 : a.tmps[49]?.getD undef = undef := hpre ⟨11, .guard⟩ (by simp) rfl (by decide)
              refine step_left (not_wanted (j := 11) (t := 49) (b := true) rfl rfl (.inl w49)) ?_
              have hk := Lib.hid (show ∀ v7 x', v7 = undef → Below x.heap.size x x' → K (a.put (some 57) v7) x' from hK)
              have Hbx := Lib.hid hbx
              clear hsame hpre hK hbx w49
              exact hk.out _ _ rfl (Below.refl _ _)
            · have w49 : a.tmps[49]?.getD undef = undef := hpre ⟨11, .guard⟩ (by simp) rfl (by decide)
              refine step_left (not_wanted (j := 11) (t := 49) (b := true) rfl rfl (.inl w49)) ?_
              have hk := Lib.hid (show ∀ v7 x', v7 = undef → Below x.heap.size x x' → K (a.put (some 58) v7) x' from hK)
              have Hbx := Lib.hid hbx
              clear hsame hpre hK hbx w49
              exact hk.out _ _ rfl (Below.refl _ _)
            · have w44 : a.tmps[44]?.getD undef = .bool true := hpre ⟨6, .guard⟩ (by simp) rfl (by decide)
              refine step_left (not_wanted (j := 6) (t := 44) (b := false) rfl rfl (.inr w44)) ?_
              have hk := Lib.hid (show ∀ v7 x', v7 = undef → Below x.heap.size x x' → K (a.put (some 59) v7) x' from hK)
              have Hbx := Lib.hid hbx
              clear hsame hpre hK hbx w44
              exact hk.out _ _ rfl (Below.refl _ _)
            · have q44 : a.tmps[44]?.getD undef = .bool true := hpre ⟨6, .data⟩ (by simp) rfl (by decide)
              have q59 : a.tmps[59]?.getD undef = undef := hpre ⟨21, .data⟩ (by simp) rfl (by decide)
              refine step_plain rfl ?_
              have hk := Lib.hid (show ∀ v7 x', v7 = .bool true → Below x.heap.size x x' → K (a.put (some 60) v7) x' from hK)
              have Hbx := Lib.hid hbx
              clear hsame hpre hK hbx
              go_simp
              exact hk.out _ _ rfl (Below.refl _ _)
          intro a51 x51 hbx hsame hG hsz51 hde51
          replace f0 := (hsame 0 (by decide +kernel)).trans f0
          replace f4 := (hsame 4 (by decide +kernel)).trans f4
          replace f5 := (hsame 5 (by decide +kernel)).trans f5
          replace f6 := (hsame 6 (by decide +kernel)).trans f6
          have f60 : a51.tmps[60]?.getD undef = .bool true := hG 22 (by decide)
          have Hbx51 := Lib.hid hbx
          have hsz51h := Lib.hid hsz51
          have hde51h := Lib.hid (hde51.trans hde50h.out)
          clear hsame hG hbx hsz51 hde51 hsz50h hde50h
          have Hbs := Lib.hid (below_call Hbr.out Hbx51.out)
          refine then_go ?_
          repeat with_reducible refine wp_seq ?_
          refine wp_cond_true (eval_at f60) ?_
          clear f60 f6
          refine wp_exit ?_
          repeat first | with_reducible refine then_exit ?_ | with_reducible refine block_other (by decide) ?_
          refine block_exit ?_
          repeat first | with_reducible refine block_go ?_ | with_reducible refine then_go ?_
          repeat with_reducible refine wp_seq ?_
          refine wp_region_lit ?_
          refine wpList_next rfl hsz51h hde51h 12 rfl (by decide) fun K hK => ?_
          go_simp
          refine hK _ _ fun a52 hsz52 hde52 f12 hk => ?_
          clear hK K
          replace f0 := (hk 0 (by decide)).trans f0
          replace f4 := (hk 4 (by decide)).trans f4
          replace f5 := (hk 5 (by decide)).trans f5
          clear hk hsz51h hde51h
          refine wpList_next rfl hsz52 hde52 13 rfl (by decide) fun K hK => ?_
          go_simp
          refine hK _ _ fun a53 hsz53 hde53 f13 hk => ?_
          clear hK K
          replace f0 := (hk 0 (by decide)).trans f0
          replace f4 := (hk 4 (by decide)).trans f4
          replace f5 := (hk 5 (by decide)).trans f5
          clear hk hsz52 hde52 f12
          replace f13 : a53.tmps[13]?.getD undef = .int .i64 (((i + 1 : Nat) : Int)) := f13.trans (by first | rfl | (congr 1; done) | (congr 1; omega) | (congr 1; rw [IntKind.wrap_i64] <;> omega))
          refine wpList_next rfl hsz53 hde53 5 rfl (by decide) fun K hK => ?_
          go_simp
          refine hK _ _ fun a54 hsz54 hde54 f5 hk => ?_
          clear hK K
          replace f0 := (hk 0 (by decide)).trans f0
          replace f4 := (hk 4 (by decide)).trans f4
          replace f5 : a54.tmps[5]?.getD undef = .int .i64 ((i + 1 : Nat) : Int) := f5
          clear hk hsz53 hde53 f13
          refine wpList_nil ?_
          refine then_go ?_
          have hsm : refOut L (i + 1) = O := by rw [refOut_same hil (by rw [← Hx.out, ← HO.out, ← Hub.out]; rfl), HO.out]
          exact ⟨n - (i + 1), by rw [Hn2.out]; omega, i + 1, _, hsz54, hde54, f0, f4, f5, Lib.hid (by omega), Hall2, Lib.hid (by rw [hsm]; exact Hts.out.grow Hbs.out), Lib.hid (below_call Hbw.out Hbs.out), rfl⟩
        | false =>
          by_cases hkm : k < m
          · skip
            have hkO : k < O.length := by have := Hm.out; omega
            obtain ⟨b3, off3, hA3, hc3⟩ := cells_at (Below.refl _ wr) Hru.out (by intro e; subst e; simp at hkO)
            have c3 := hc3 k hkO
            obtain ⟨tz, hz⟩ : ∃ z, z = O[k] := ⟨_, rfl⟩
            rw [← hz] at c3
            have Hz := Lib.hid (show O[k]? = some tz by rw [hz]; exact List.getElem?_eq_getElem hkO)
            have Hcz := Lib.hid (show ∀ z, Below wr.heap.size wr z → z.cell? ⟨b3, off3 + k, none⟩ = some (.string ⟨tz.toArray⟩) from fun z hz => (hz.cell (p := ⟨b3, off3 + k, none⟩) (World.block_lt_of_cell? _ _ c3)).trans c3)
            have hk0 : (0 : Int) ≤ (k : Int) := by omega
            have hkmi : (k : Int) < (m : Int) := by omega
            obtain ⟨dz, hdz⟩ : ∃ d, d = (tz == tx) := ⟨_, rfl⟩
            have Hdz := Lib.hid hdz
            subst hA3
            clear hc3 c3 hz hdz hkO
            cases dz with
            | true =>
              refine wp_region_goodg (tblG [(38, .slice (some ⟨b, off, none⟩) n c), (39, .slice (some ⟨b, off, none⟩) n c), (40, .int .i64 ((i : Nat) : Int)), (41, .pointer (some ⟨b, off + i, none⟩)), (42, .string ⟨tx.toArray⟩), (43, .bool false), (44, .bool false), (45, .int .i64 ((k : Nat) : Int)), (46, .slice (some ⟨b3, off3, none⟩) m cu), (47, .int .i64 ((m : Nat) : Int)), (48, .bool true), (49, .bool true), (50, .slice (some ⟨b3, off3, none⟩) m cu), (51, .int .i64 ((k : Nat) : Int)), (52, .pointer (some ⟨b3, off3 + k, none⟩)), (53, .string ⟨tz.toArray⟩), (54, .slice (some ⟨b, off, none⟩) n c), (55, .int .i64 ((i : Nat) : Int)), (56, .pointer (some ⟨b, off + i, none⟩)), (57, .string ⟨tx.toArray⟩), (58, .bool true), (59, .bool true), (60, .bool true)]) 81 (by kernel_rfl) (by kernel_rfl) (by kernel_rfl) (by kernel_rfl) hsz50h.out ?_ ?_ ?_
              · intro t v7 x x' h _ _
                exact h
              · intro i7 o hi7 a x hbx hsame hpre K hK
                have hlt7 : i7 < 23 := (Array.getElem?_eq_some_iff.1 hi7).1
                rcases (show i7 = 0 ∨ i7 = 1 ∨ i7 = 2 ∨ i7 = 3 ∨ i7 = 4 ∨ i7 = 5 ∨ i7 = 6 ∨ i7 = 7 ∨ i7 = 8 ∨ i7 = 9 ∨ i7 = 10 ∨ i7 = 11 ∨ i7 = 12 ∨ i7 = 13 ∨ i7 = 14 ∨ i7 = 15 ∨ i7 = 16 ∨ i7 = 17 ∨ i7 = 18 ∨ i7 = 19 ∨ i7 = 20 ∨ i7 = 21 ∨ i7 = 22 by omega) with rfl | rfl | rfl | rfl | rfl | rfl | rfl | rfl | rfl | rfl | rfl | rfl | rfl | rfl | rfl | rfl | rfl | rfl | rfl | rfl | rfl | rfl | rfl
                all_goals (have ho := Option.some.inj hi7; subst ho; clear hi7 hlt7)
                · have q0 : a.tmps[0]?.getD undef = .slice (some ⟨b, off, none⟩) n c := (hsame 0 (by decide +kernel)).trans f0
                  refine step_plain rfl ?_
                  have hk := Lib.hid (show ∀ v7 x', v7 = .slice (some ⟨b, off, none⟩) n c → Below x.heap.size x x' → K (a.put (some 38) v7) x' from hK)
                  have Hbx := Lib.hid hbx
                  clear hsame hpre hK hbx
                  go_simp
                  exact hk.out _ _ rfl (Below.refl _ _)
                · have q0 : a.tmps[0]?.getD undef = .slice (some ⟨b, off, none⟩) n c := (hsame 0 (by decide +kernel)).trans f0
                  refine step_plain rfl ?_
                  have hk := Lib.hid (show ∀ v7 x', v7 = .slice (some ⟨b, off, none⟩) n c → Below x.heap.size x x' → K (a.put (some 39) v7) x' from hK)
                  have Hbx := Lib.hid hbx
                  clear hsame hpre hK hbx
                  go_simp
                  exact hk.out _ _ rfl (Below.refl _ _)
                · have q5 : a.tmps[5]?.getD undef = .int .i64 ((i : Nat) : Int) := (hsame 5 (by decide +kernel)).trans f5
                  refine step_plain rfl ?_
                  have hk := Lib.hid (show ∀ v7 x', v7 = .int .i64 ((i : Nat) : Int) → Below x.heap.size x x' → K (a.put (some 40) v7) x' from hK)
                  have Hbx := Lib.hid hbx
                  clear hsame hpre hK hbx
                  go_simp
                  exact hk.out _ _ rfl (Below.refl _ _)
                · have q39 : a.tmps[39]?.getD undef = .slice (some ⟨b, off, none⟩) n c := hpre ⟨1, .data⟩ (by simp) rfl (by decide)
                  have q40 : a.tmps[40]?.getD undef = .int .i64 ((i : Nat) : Int) := hpre ⟨2, .data⟩ (by simp) rfl (by decide)
                  refine step_plain rfl ?_
                  have hk := Lib.hid (show ∀ v7 x', v7 = .pointer (some ⟨b, off + i, none⟩) → Below x.heap.size x x' → K (a.put (some 41) v7) x' from hK)
                  have Hbx := Lib.hid hbx
                  clear hsame hpre hK hbx
                  go_simp
                  exact hk.out _ _ rfl (Below.refl _ _)
                · have q41 : a.tmps[41]?.getD undef = .pointer (some ⟨b, off + i, none⟩) := hpre ⟨3, .data⟩ (by simp) rfl (by decide)
                  refine step_plain rfl ?_
                  have hk := Lib.hid (show ∀ v7 x', v7 = .string ⟨tx.toArray⟩ → Below x.heap.size x x' → K (a.put (some 42) v7) x' from hK)
                  have Hbx := Lib.hid hbx
                  clear hsame hpre hK hbx
                  have c8 := Hcx.out _ (below_call Hbr.out Hbx.out)
                  go_simp
                  exact hk.out _ _ rfl (Below.refl _ _)
                · have q38 : a.tmps[38]?.getD undef = .slice (some ⟨b, off, none⟩) n c := hpre ⟨0, .data⟩ (by simp) rfl (by decide)
                  have q42 : a.tmps[42]?.getD undef = .string ⟨tx.toArray⟩ := hpre ⟨4, .data⟩ (by simp) rfl (by decide)
                  refine step_plain rfl ?_
                  have hk := Lib.hid (show ∀ v7 x', v7 = .bool false → Below x.heap.size x x' → K (a.put (some 43) v7) x' from hK)
                  have Hbx := Lib.hid hbx
                  clear hsame hpre hK hbx
                  go_simp
                  refine (Hux.out _ (below_call Hbr.out Hbx.out)).mono ?_
                  rintro e2 w2 ⟨rfl, hb2⟩
                  go_simp
                  exact hk.out _ _ rfl hb2
                · have q43 : a.tmps[43]?.getD undef = .bool false := hpre ⟨5, .data⟩ (by simp) rfl (by decide)
                  refine step_plain rfl ?_
                  have hk := Lib.hid (show ∀ v7 x', v7 = .bool false → Below x.heap.size x x' → K (a.put (some 44) v7) x' from hK)
                  have Hbx := Lib.hid hbx
                  clear hsame hpre hK hbx
                  go_simp
                  exact hk.out _ _ rfl (Below.refl _ _)
                · have q6 : a.tmps[6]?.getD undef = .int .i64 ((k : Nat) : Int) := (hsame 6 (by decide +kernel)).trans f6
                  have w44 : a.tmps[44]?.getD undef = .bool false := hpre ⟨6, .guard⟩ (by simp) rfl (by decide)
                  refine step_wanted (wanted_of (j := 6) (t := 44) (b := false) rfl rfl w44) ?_
                  have hk := Lib.hid (show ∀ v7 x', v7 = .int .i64 ((k : Nat) : Int) → Below x.heap.size x x' → K (a.put (some 45) v7) x' from hK)
                  have Hbx := Lib.hid hbx
                  clear hsame hpre hK hbx w44
                  go_simp
                  exact hk.out _ _ rfl (Below.refl _ _)
                · have q4 : a.tmps[4]?.getD undef = .slice (some ⟨b3, off3, none⟩) m cu := (hsame 4 (by decide +kernel)).trans f4
                  have w44 : a.tmps[44]?.getD undef = .bool false := hpre ⟨6, .guard⟩ (by simp) rfl (by decide)
                  refine step_wanted (wanted_of (j := 6) (t := 44) (b := false) rfl rfl w44) ?_
                  have hk := Lib.hid (show ∀ v7 x', v7 = .slice (some ⟨b3, off3, none⟩) m cu → Below x.heap.size x x' → K (a.put (some 46) v7) x' from hK)
                  have Hbx := Lib.hid hbx
                  clear hsame hpre hK hbx w44
                  go_simp
                  exact hk.out _ _ rfl (Below.refl _ _)
                · have q46 : a.tmps[46]?.getD undef = .slice (some ⟨b3, off3, none⟩) m cu := hpre ⟨8, .data⟩ (by simp) rfl (by decide)
                  have w44 : a.tmps[44]?.getD undef = .bool false := hpre ⟨6, .guard⟩ (by simp) rfl (by decide)
                  refine step_wanted (wanted_of (j := 6) (t := 44) (b := false) rfl rfl w44) ?_
                  have hk := Lib.hid (show ∀ v7 x', v7 = .int .i64 ((m : Nat) : Int) → Below x.heap.size x x' → K (a.put (some 47) v7) x' from hK)
                  have Hbx := Lib.hid hbx
                  clear hsame hpre hK hbx w44
                  go_simp
                  exact hk.out _ _ rfl (Below.refl _ _)
                · have q45 : a.tmps[45]?.getD undef = .int .i64 ((k : Nat) : Int) := hpre ⟨7, .data⟩ (by simp) rfl (by decide)
                  have q47 : a.tmps[47]?.getD undef = .int .i64 ((m : Nat) : Int) := hpre ⟨9, .data⟩ (by simp) rfl (by decide)
                  have w44 : a.tmps[44]?.getD undef = .bool false := hpre ⟨6, .guard⟩ (by simp) rfl (by decide)
                  refine step_wanted (wanted_of (j := 6) (t := 44) (b := false) rfl rfl w44) ?_
                  have hk := Lib.hid (show ∀ v7 x', v7 = .bool true → Below x.heap.size x x' → K (a.put (some 48) v7) x' from hK)
                  have Hbx := Lib.hid hbx
                  clear hsame hpre hK hbx w44
                  go_simp
                  exact hk.out _ _ (by first | rfl | (congr 1; exact decide_eq_true (by omega)) | (simp; omega)) (Below.refl _ _)
                · have q48 : a.tmps[48]?.getD undef = .bool true := hpre ⟨10, .data⟩ (by simp) rfl (by decide)
                  have w44 : a.tmps[44]?.getD undef = .bool false := hpre ⟨6, .guard⟩ (by simp) rfl (by decide)
                  refine step_wanted (wanted_of (j := 6) (t := 44) (b := false) rfl rfl w44) ?_
                  have hk := Lib.hid (show ∀ v7 x', v7 = .bool true → Below x.heap.size x x' → K (a.put (some 49) v7) x' from hK)
                  have Hbx := Lib.hid hbx
                  clear hsame hpre hK hbx w44
                  go_simp
                  exact hk.out _ _ rfl (Below.refl _ _)
                · have q4 : a.tmps[4]?.getD undef = .slice (some ⟨b3, off3, none⟩) m cu := (hsame 4 (by decide +kernel)).trans f4
                  have w49 : a.tmps[49]?.getD undef = .bool true := hpre ⟨11, .guard⟩ (by simp) rfl (by decide)
                  refine step_wanted (wanted_of (j := 11) (t := 49) (b := true) rfl rfl w49) ?_
                  have hk := Lib.hid (show ∀ v7 x', v7 = .slice (some ⟨b3, off3, none⟩) m cu → Below x.heap.size x x' → K (a.put (some 50) v7) x' from hK)
                  have Hbx := Lib.hid hbx
                  clear hsame hpre hK hbx w49
                  go_simp
                  exact hk.out _ _ rfl (Below.refl _ _)
                · have q6 : a.tmps[6]?.getD undef = .int .i64 ((k : Nat) : Int) := (hsame 6 (by decide +kernel)).trans f6
                  have w49 : a.tmps[49]?.getD undef = .bool true := hpre ⟨11, .guard⟩ (by simp) rfl (by decide)
                  refine step_wanted (wanted_of (j := 11) (t := 49) (b := true) rfl rfl w49) ?_
                  have hk := Lib.hid (show ∀ v7 x', v7 = .int .i64 ((k : Nat) : Int) → Below x.heap.size x x' → K (a.put (some 51) v7) x' from hK)
                  have Hbx := Lib.hid hbx
                  clear hsame hpre hK hbx w49
                  go_simp
                  exact hk.out _ _ rfl (Below.refl _ _)
                · have q50 : a.tmps[50]?.getD undef = .slice (some ⟨b3, off3, none⟩) m cu := hpre ⟨12, .data⟩ (by simp) rfl (by decide)
                  have q51 : a.tmps[51]?.getD undef = .int .i64 ((k : Nat) : Int) := hpre ⟨13, .data⟩ (by simp) rfl (by decide)
                  have w49 : a.tmps[49]?.getD undef = .bool true := hpre ⟨11, .guard⟩ (by simp) rfl (by decide)
                  refine step_wanted (wanted_of (j := 11) (t := 49) (b := true) rfl rfl w49) ?_
                  have hk := Lib.hid (show ∀ v7 x', v7 = .pointer (some ⟨b3, off3 + k, none⟩) → Below x.heap.size x x' → K (a.put (some 52) v7) x' from hK)
                  have Hbx := Lib.hid hbx
                  clear hsame hpre hK hbx w49
                  go_simp
                  exact hk.out _ _ rfl (Below.refl _ _)
                · have q52 : a.tmps[52]?.getD undef = .pointer (some ⟨b3, off3 + k, none⟩) := hpre ⟨14, .data⟩ (by simp) rfl (by decide)
                  have w49 : a.tmps[49]?.getD undef = .bool true := hpre ⟨11, .guard⟩ (by simp) rfl (by decide)
                  refine step_wanted (wanted_of (j := 11) (t := 49) (b := true) rfl rfl w49) ?_
                  have hk := Lib.hid (show ∀ v7 x', v7 = .string ⟨tz.toArray⟩ → Below x.heap.size x x' → K (a.put (some 53) v7) x' from hK)
                  have Hbx := Lib.hid hbx
                  clear hsame hpre hK hbx w49
                  have c8 := Hcz.out _ (below_call Hbr.out Hbx.out)
                  go_simp
                  exact hk.out _ _ rfl (Below.refl _ _)
                · have q0 : a.tmps[0]?.getD undef = .slice (some ⟨b, off, none⟩) n c := (hsame 0 (by decide +kernel)).trans f0
                  have w49 : a.tmps[49]?.getD undef = .bool true := hpre ⟨11, .guard⟩ (by simp) rfl (by decide)
                  refine step_wanted (wanted_of (j := 11) (t := 49) (b := true) rfl rfl w49) ?_
                  have hk := Lib.hid (show ∀ v7 x', v7 = .slice (some ⟨b, off, none⟩) n c → Below x.heap.size x x' → K (a.put (some 54) v7) x' from hK)
                  have Hbx := Lib.hid hbx
                  clear hsame hpre hK hbx w49
                  go_simp
                  exact hk.out _ _ rfl (Below.refl _ _)
                · have q5 : a.tmps[5]?.getD undef = .int .i64 ((i : Nat) : Int) := (hsame 5 (by decide +kernel)).trans f5
                  have w49 : a.tmps[49]?.getD undef = .bool true := hpre ⟨11, .guard⟩ (by simp) rfl (by decide)
                  refine step_wanted (wanted_of (j := 11) (t := 49) (b := true) rfl rfl w49) ?_
                  have hk := Lib.hid (show ∀ v7 x', v7 = .int .i64 ((i : Nat) : Int) → Below x.heap.size x x' → K (a.put (some 55) v7) x' from hK)
                  have Hbx := Lib.hid hbx
                  clear hsame hpre hK hbx w49
                  go_simp
                  exact hk.out _ _ rfl (Below.refl _ _)
                · have q54 : a.tmps[54]?.getD undef = .slice (some ⟨b, off, none⟩) n c := hpre ⟨16, .data⟩ (by simp) rfl (by decide)
                  have q55 : a.tmps[55]?.getD undef = .int .i64 ((i : Nat) : Int) := hpre ⟨17, .data⟩ (by simp) rfl (by decide)
                  have w49 : a.tmps[49]?.getD undef = .bool true := hpre ⟨11, .guard⟩ (by simp) rfl (by decide)
                  refine step_wanted (wanted_of (j := 11) (t := 49) (b := true) rfl rfl w49) ?_
                  have hk := Lib.hid (show ∀ v7 x', v7 = .pointer (some ⟨b, off + i, none⟩) → Below x.heap.size x x' → K (a.put (some 56) v7) x' from hK)
                  have Hbx := Lib.hid hbx
                  clear hsame hpre hK hbx w49
                  go_simp
                  exact hk.out _ _ rfl (Below.refl _ _)
                · have q56 : a.tmps[56]?.getD undef = .pointer (some ⟨b, off + i, none⟩) := hpre ⟨18, .data⟩ (by simp) rfl (by decide)
                  have w49 : a.tmps[49]?.getD undef = .bool true := hpre ⟨11, .guard⟩ (by simp) rfl (by decide)
                  refine step_wanted (wanted_of (j := 11) (t := 49) (b := true) rfl rfl w49) ?_
                  have hk := Lib.hid (show ∀ v7 x', v7 = .string ⟨tx.toArray⟩ → Below x.heap.size x x' → K (a.put (some 57) v7) x' from hK)
                  have Hbx := Lib.hid hbx
                  clear hsame hpre hK hbx w49
                  have c8 := Hcx.out _ (below_call Hbr.out Hbx.out)
                  go_simp
                  exact hk.out _ _ rfl (Below.refl _ _)
                · have q53 : a.tmps[53]?.getD undef = .string ⟨tz.toArray⟩ := hpre ⟨15, .data⟩ (by simp) rfl (by decide)
                  have q57 : a.tmps[57]?.getD undef = .string ⟨tx.toArray⟩ := hpre ⟨19, .data⟩ (by simp) rfl (by decide)
                  have w49 : a.tmps[49]?.getD undef = .bool true := hpre ⟨11, .guard⟩ (by simp) rfl (by decide)
                  refine step_wanted (wanted_of (j := 11) (t := 49) (b := true) rfl rfl w49) ?_
                  have hk := Lib.hid (show ∀ v7 x', v7 = .bool true → Below x.heap.size x x' → K (a.put (some 58) v7) x' from hK)
                  have Hbx := Lib.hid hbx
                  clear hsame hpre hK hbx w49
                  go_simp
                  exact hk.out _ _ (by have h7 := Hdz.out; first | (rw [h7]; done) | (rw [h7]; rfl)) (Below.refl _ _)
                · have q49 : a.tmps[49]?.getD undef = .bool true := hpre ⟨11, .data⟩ (by simp) rfl (by decide)
                  have q58 : a.tmps[58]?.getD undef = .bool true := hpre ⟨20, .data⟩ (by simp) rfl (by decide)
                  have w44 : a.tmps[44]?.getD undef = .bool false := hpre ⟨6, .guard⟩ (by simp) rfl (by decide)
                  refine step_wanted (wanted_of (j := 6) (t := 44) (b := false) rfl rfl w44) ?_
                  have hk := Lib.hid (show ∀ v7 x', v7 = .bool true → Below x.heap.size x x' → K (a.put (some 59) v7) x' from hK)
                  have Hbx := Lib.hid hbx
                  clear hsame hpre hK hbx w44
                  go_simp
                  exact hk.out _ _ rfl (Below.refl _ _)
                · have q44 : a.tmps[44]?.getD undef = .bool false := hpre ⟨6, .data⟩ (by simp) rfl (by decide)
                  have q59 : a.tmps[59]?.getD undef = .bool true := hpre ⟨21, .data⟩ (by simp) rfl (by decide)
                  refine step_plain rfl ?_
                  have hk := Lib.hid (show ∀ v7 x', v7 = .bool true → Below x.heap.size x x' → K (a.put (some 60) v7) x' from hK)
                  have Hbx := Lib.hid hbx
                  clear hsame hpre hK hbx
                  go_simp
                  exact hk.out _ _ rfl (Below.refl _ _)
              intro a51 x51 hbx hsame hG hsz51 hde51
              replace f0 := (hsame 0 (by decide +kernel)).trans f0
              replace f4 := (hsame 4 (by decide +kernel)).trans f4
              replace f5 := (hsame 5 (by decide +kernel)).trans f5
              replace f6 := (hsame 6 (by decide +kernel)).trans f6
              have f60 : a51.tmps[60]?.getD undef = .bool true := hG 22 (by decide)
              have Hbx51 := Lib.hid hbx
              have hsz51h := Lib.hid hsz51
              have hde51h := Lib.hid (hde51.trans hde50h.out)
              clear hsame hG hbx hsz51 hde51 hsz50h hde50h
              have Hbs := Lib.hid (below_call Hbr.out Hbx51.out)
              refine then_go ?_
              repeat with_reducible refine wp_seq ?_
              have htzx : tz = tx := by have h7 := Hdz.out; simpa using h7.symm
              refine wp_cond_true (eval_at f60) ?_
              clear f60 f6
              refine wp_exit ?_
              repeat first | with_reducible refine then_exit ?_ | with_reducible refine block_other (by decide) ?_
              refine block_exit ?_
              repeat first | with_reducible refine block_go ?_ | with_reducible refine then_go ?_
              repeat with_reducible refine wp_seq ?_
              refine wp_region_lit ?_
              refine wpList_next rfl hsz51h hde51h 12 rfl (by decide) fun K hK => ?_
              go_simp
              refine hK _ _ fun a52 hsz52 hde52 f12 hk => ?_
              clear hK K
              replace f0 := (hk 0 (by decide)).trans f0
              replace f4 := (hk 4 (by decide)).trans f4
              replace f5 := (hk 5 (by decide)).trans f5
              clear hk hsz51h hde51h
              refine wpList_next rfl hsz52 hde52 13 rfl (by decide) fun K hK => ?_
              go_simp
              refine hK _ _ fun a53 hsz53 hde53 f13 hk => ?_
              clear hK K
              replace f0 := (hk 0 (by decide)).trans f0
              replace f4 := (hk 4 (by decide)).trans f4
              replace f5 := (hk 5 (by decide)).trans f5
              clear hk hsz52 hde52 f12
              replace f13 : a53.tmps[13]?.getD undef = .int .i64 (((i + 1 : Nat) : Int)) := f13.trans (by first | rfl | (congr 1; done) | (congr 1; omega) | (congr 1; rw [IntKind.wrap_i64] <;> omega))
              refine wpList_next rfl hsz53 hde53 5 rfl (by decide) fun K hK => ?_
              go_simp
              refine hK _ _ fun a54 hsz54 hde54 f5 hk => ?_
              clear hK K
              replace f0 := (hk 0 (by decide)).trans f0
              replace f4 := (hk 4 (by decide)).trans f4
              replace f5 : a54.tmps[5]?.getD undef = .int .i64 ((i + 1 : Nat) : Int) := f5
              clear hk hsz53 hde53 f13
              refine wpList_nil ?_
              refine then_go ?_
              have hsm : refOut L (i + 1) = O := by rw [refOut_same hil (by rw [← Hx.out, ← HO.out, ← Hub.out]; rw [Hat.out, Hz.out, htzx]; simp), HO.out]
              exact ⟨n - (i + 1), by rw [Hn2.out]; omega, i + 1, _, hsz54, hde54, f0, f4, f5, Lib.hid (by omega), Hall2, Lib.hid (by rw [hsm]; exact Hts.out.grow Hbs.out), Lib.hid (below_call Hbw.out Hbs.out), rfl⟩
            | false =>
              refine wp_region_goodg (tblG [(38, .slice (some ⟨b, off, none⟩) n c), (39, .slice (some ⟨b, off, none⟩) n c), (40, .int .i64 ((i : Nat) : Int)), (41, .pointer (some ⟨b, off + i, none⟩)), (42, .string ⟨tx.toArray⟩), (43, .bool false), (44, .bool false), (45, .int .i64 ((k : Nat) : Int)), (46, .slice (some ⟨b3, off3, none⟩) m cu), (47, .int .i64 ((m : Nat) : Int)), (48, .bool true), (49, .bool true), (50, .slice (some ⟨b3, off3, none⟩) m cu), (51, .int .i64 ((k : Nat) : Int)), (52, .pointer (some ⟨b3, off3 + k, none⟩)), (53, .string ⟨tz.toArray⟩), (54, .slice (some ⟨b, off, none⟩) n c), (55, .int .i64 ((i : Nat) : Int)), (56, .pointer (some ⟨b, off + i, none⟩)), (57, .string ⟨tx.toArray⟩), (58, .bool false), (59, .bool false), (60, .bool false)]) 81 (by kernel_rfl) (by kernel_rfl) (by kernel_rfl) (by kernel_rfl) hsz50h.out ?_ ?_ ?_
              · intro t v7 x x' h _ _
                exact h
              · intro i7 o hi7 a x hbx hsame hpre K hK
                have hlt7 : i7 < 23 := (Array.getElem?_eq_some_iff.1 hi7).1
                rcases (show i7 = 0 ∨ i7 = 1 ∨ i7 = 2 ∨ i7 = 3 ∨ i7 = 4 ∨ i7 = 5 ∨ i7 = 6 ∨ i7 = 7 ∨ i7 = 8 ∨ i7 = 9 ∨ i7 = 10 ∨ i7 = 11 ∨ i7 = 12 ∨ i7 = 13 ∨ i7 = 14 ∨ i7 = 15 ∨ i7 = 16 ∨ i7 = 17 ∨ i7 = 18 ∨ i7 = 19 ∨ i7 = 20 ∨ i7 = 21 ∨ i7 = 22 by omega) with rfl | rfl | rfl | rfl | rfl | rfl | rfl | rfl | rfl | rfl | rfl | rfl | rfl | rfl | rfl | rfl | rfl | rfl | rfl | rfl | rfl | rfl | rfl
                all_goals (have ho := Option.some.inj hi7; subst ho; clear hi7 hlt7)
                · have q0 : a.tmps[0]?.getD undef = .slice (some ⟨b, off, none⟩) n c := (hsame 0 (by decide +kernel)).trans f0
                  refine step_plain rfl ?_
                  have hk := Lib.hid (show ∀ v7 x', v7 = .slice (some ⟨b, off, none⟩) n c → Below x.heap.size x x' → K (a.put (some 38) v7) x' from hK)
                  have Hbx := Lib.hid hbx
                  clear hsame hpre hK hbx
                  go_simp
                  exact hk.out _ _ rfl (Below.refl _ _)
                · have q0 : a.tmps[0]?.getD undef = .slice (some ⟨b, off, none⟩) n c := (hsame 0 (by decide +kernel)).trans f0
                  refine step_plain rfl ?_
                  have hk := Lib.hid (show ∀ v7 x', v7 = .slice (some ⟨b, off, none⟩) n c → Below x.heap.size x x' → K (a.put (some 39) v7) x' from hK)
                  have Hbx := Lib.hid hbx
                  clear hsame hpre hK hbx
                  go_simp
                  exact hk.out _ _ rfl (Below.refl _ _)
                · have q5 : a.tmps[5]?.getD undef = .int .i64 ((i : Nat) : Int) := (hsame 5 (by decide +kernel)).trans f5
                  refine step_plain rfl ?_
                  have hk := Lib.hid (show ∀ v7 x', v7 = .int .i64 ((i : Nat) : Int) → Below x.heap.size x x' → K (a.put (some 40) v7) x' from hK)
                  have Hbx := Lib.hid hbx
                  clear hsame hpre hK hbx
                  go_simp
                  exact hk.out _ _ rfl (Below.refl _ _)
                · have q39 : a.tmps[39]?.getD undef = .slice (some ⟨b, off, none⟩) n c := hpre ⟨1, .data⟩ (by simp) rfl (by decide)
                  have q40 : a.tmps[40]?.getD undef = .int .i64 ((i : Nat) : Int) := hpre ⟨2, .data⟩ (by simp) rfl (by decide)
                  refine step_plain rfl ?_
                  have hk := Lib.hid (show ∀ v7 x', v7 = .pointer (some ⟨b, off + i, none⟩) → Below x.heap.size x x' → K (a.put (some 41) v7) x' from hK)
                  have Hbx := Lib.hid hbx
                  clear hsame hpre hK hbx
                  go_simp
                  exact hk.out _ _ rfl (Below.refl _ _)
                · have q41 : a.tmps[41]?.getD undef = .pointer (some ⟨b, off + i, none⟩) := hpre ⟨3, .data⟩ (by simp) rfl (by decide)
                  refine step_plain rfl ?_
                  have hk := Lib.hid (show ∀ v7 x', v7 = .string ⟨tx.toArray⟩ → Below x.heap.size x x' → K (a.put (some 42) v7) x' from hK)
                  have Hbx := Lib.hid hbx
                  clear hsame hpre hK hbx
                  have c8 := Hcx.out _ (below_call Hbr.out Hbx.out)
                  go_simp
                  exact hk.out _ _ rfl (Below.refl _ _)
                · have q38 : a.tmps[38]?.getD undef = .slice (some ⟨b, off, none⟩) n c := hpre ⟨0, .data⟩ (by simp) rfl (by decide)
                  have q42 : a.tmps[42]?.getD undef = .string ⟨tx.toArray⟩ := hpre ⟨4, .data⟩ (by simp) rfl (by decide)
                  refine step_plain rfl ?_
                  have hk := Lib.hid (show ∀ v7 x', v7 = .bool false → Below x.heap.size x x' → K (a.put (some 43) v7) x' from hK)
                  have Hbx := Lib.hid hbx
                  clear hsame hpre hK hbx
                  go_simp
                  refine (Hux.out _ (below_call Hbr.out Hbx.out)).mono ?_
                  rintro e2 w2 ⟨rfl, hb2⟩
                  go_simp
                  exact hk.out _ _ rfl hb2
                · have q43 : a.tmps[43]?.getD undef = .bool false := hpre ⟨5, .data⟩ (by simp) rfl (by decide)
                  refine step_plain rfl ?_
                  have hk := Lib.hid (show ∀ v7 x', v7 = .bool false → Below x.heap.size x x' → K (a.put (some 44) v7) x' from hK)
                  have Hbx := Lib.hid hbx
                  clear hsame hpre hK hbx
                  go_simp
                  exact hk.out _ _ rfl (Below.refl _ _)
                · have q6 : a.tmps[6]?.getD undef = .int .i64 ((k : Nat) : Int) := (hsame 6 (by decide +kernel)).trans f6
                  have w44 : a.tmps[44]?.getD undef = .bool false := hpre ⟨6, .guard⟩ (by simp) rfl (by decide)
                  refine step_wanted (wanted_of (j := 6) (t := 44) (b := false) rfl rfl w44) ?_
                  have hk := Lib.hid (show ∀ v7 x', v7 = .int .i64 ((k : Nat) : Int) → Below x.heap.size x x' → K (a.put (some 45) v7) x' from hK)
                  have Hbx := Lib.hid hbx
                  clear hsame hpre hK hbx w44
                  go_simp
                  exact hk.out _ _ rfl (Below.refl _ _)
                · have q4 : a.tmps[4]?.getD undef = .slice (some ⟨b3, off3, none⟩) m cu := (hsame 4 (by decide +kernel)).trans f4
                  have w44 : a.tmps[44]?.getD undef = .bool false := hpre ⟨6, .guard⟩ (by simp) rfl (by decide)
                  refine step_wanted (wanted_of (j := 6) (t := 44) (b := false) rfl rfl w44) ?_
                  have hk := Lib.hid (show ∀ v7 x', v7 = .slice (some ⟨b3, off3, none⟩) m cu → Below x.heap.size x x' → K (a.put (some 46) v7) x' from hK)
                  have Hbx := Lib.hid hbx
                  clear hsame hpre hK hbx w44
                  go_simp
                  exact hk.out _ _ rfl (Below.refl _ _)
                · have q46 : a.tmps[46]?.getD undef = .slice (some ⟨b3, off3, none⟩) m cu := hpre ⟨8, .data⟩ (by simp) rfl (by decide)
                  have w44 : a.tmps[44]?.getD undef = .bool false := hpre ⟨6, .guard⟩ (by simp) rfl (by decide)
                  refine step_wanted (wanted_of (j := 6) (t := 44) (b := false) rfl rfl w44) ?_
                  have hk := Lib.hid (show ∀ v7 x', v7 = .int .i64 ((m : Nat) : Int) → Below x.heap.size x x' → K (a.put (some 47) v7) x' from hK)
                  have Hbx := Lib.hid hbx
                  clear hsame hpre hK hbx w44
                  go_simp
                  exact hk.out _ _ rfl (Below.refl _ _)
                · have q45 : a.tmps[45]?.getD undef = .int .i64 ((k : Nat) : Int) := hpre ⟨7, .data⟩ (by simp) rfl (by decide)
                  have q47 : a.tmps[47]?.getD undef = .int .i64 ((m : Nat) : Int) := hpre ⟨9, .data⟩ (by simp) rfl (by decide)
                  have w44 : a.tmps[44]?.getD undef = .bool false := hpre ⟨6, .guard⟩ (by simp) rfl (by decide)
                  refine step_wanted (wanted_of (j := 6) (t := 44) (b := false) rfl rfl w44) ?_
                  have hk := Lib.hid (show ∀ v7 x', v7 = .bool true → Below x.heap.size x x' → K (a.put (some 48) v7) x' from hK)
                  have Hbx := Lib.hid hbx
                  clear hsame hpre hK hbx w44
                  go_simp
                  exact hk.out _ _ (by first | rfl | (congr 1; exact decide_eq_true (by omega)) | (simp; omega)) (Below.refl _ _)
                · have q48 : a.tmps[48]?.getD undef = .bool true := hpre ⟨10, .data⟩ (by simp) rfl (by decide)
                  have w44 : a.tmps[44]?.getD undef = .bool false := hpre ⟨6, .guard⟩ (by simp) rfl (by decide)
                  refine step_wanted (wanted_of (j := 6) (t := 44) (b := false) rfl rfl w44) ?_
                  have hk := Lib.hid (show ∀ v7 x', v7 = .bool true → Below x.heap.size x x' → K (a.put (some 49) v7) x' from hK)
                  have Hbx := Lib.hid hbx
                  clear hsame hpre hK hbx w44
                  go_simp
                  exact hk.out _ _ rfl (Below.refl _ _)
                · have q4 : a.tmps[4]?.getD undef = .slice (some ⟨b3, off3, none⟩) m cu := (hsame 4 (by decide +kernel)).trans f4
                  have w49 : a.tmps[49]?.getD undef = .bool true := hpre ⟨11, .guard⟩ (by simp) rfl (by decide)
                  refine step_wanted (wanted_of (j := 11) (t := 49) (b := true) rfl rfl w49) ?_
                  have hk := Lib.hid (show ∀ v7 x', v7 = .slice (some ⟨b3, off3, none⟩) m cu → Below x.heap.size x x' → K (a.put (some 50) v7) x' from hK)
                  have Hbx := Lib.hid hbx
                  clear hsame hpre hK hbx w49
                  go_simp
                  exact hk.out _ _ rfl (Below.refl _ _)
                · have q6 : a.tmps[6]?.getD undef = .int .i64 ((k : Nat) : Int) := (hsame 6 (by decide +kernel)).trans f6
                  have w49 : a.tmps[49]?.getD undef = .bool true := hpre ⟨11, .guard⟩ (by simp) rfl (by decide)
                  refine step_wanted (wanted_of (j := 11) (t := 49) (b := true) rfl rfl w49) ?_
                  have hk := Lib.hid (show ∀ v7 x', v7 = .int .i64 ((k : Nat) : Int) → Below x.heap.size x x' → K (a.put (some 51) v7) x' from hK)
                  have Hbx := Lib.hid hbx
                  clear hsame hpre hK hbx w49
                  go_simp
                  exact hk.out _ _ rfl (Below.refl _ _)
                · have q50 : a.tmps[50]?.getD undef = .slice (some ⟨b3, off3, none⟩) m cu := hpre ⟨12, .data⟩ (by simp) rfl (by decide)
                  have q51 : a.tmps[51]?.getD undef = .int .i64 ((k : Nat) : Int) := hpre ⟨13, .data⟩ (by simp) rfl (by decide)
                  have w49 : a.tmps[49]?.getD undef = .bool true := hpre ⟨11, .guard⟩ (by simp) rfl (by decide)
                  refine step_wanted (wanted_of (j := 11) (t := 49) (b := true) rfl rfl w49) ?_
                  have hk := Lib.hid (show ∀ v7 x', v7 = .pointer (some ⟨b3, off3 + k, none⟩) → Below x.heap.size x x' → K (a.put (some 52) v7) x' from hK)
                  have Hbx := Lib.hid hbx
                  clear hsame hpre hK hbx w49
                  go_simp
                  exact hk.out _ _ rfl (Below.refl _ _)
                · have q52 : a.tmps[52]?.getD undef = .pointer (some ⟨b3, off3 + k, none⟩) := hpre ⟨14, .data⟩ (by simp) rfl (by decide)
                  have w49 : a.tmps[49]?.getD undef = .bool true := hpre ⟨11, .guard⟩ (by simp) rfl (by decide)
                  refine step_wanted (wanted_of (j := 11) (t := 49) (b := true) rfl rfl w49) ?_
                  have hk := Lib.hid (show ∀ v7 x', v7 = .string ⟨tz.toArray⟩ → Below x.heap.size x x' → K (a.put (some 53) v7) x' from hK)
                  have Hbx := Lib.hid hbx
                  clear hsame hpre hK hbx w49
                  have c8 := Hcz.out _ (below_call Hbr.out Hbx.out)
                  go_simp
                  exact hk.out _ _ rfl (Below.refl _ _)
                · have q0 : a.tmps[0]?.getD undef = .slice (some ⟨b, off, none⟩) n c := (hsame 0 (by decide +kernel)).trans f0
                  have w49 : a.tmps[49]?.getD undef = .bool true := hpre ⟨11, .guard⟩ (by simp) rfl (by decide)
                  refine step_wanted (wanted_of (j := 11) (t := 49) (b := true) rfl rfl w49) ?_
                  have hk := Lib.hid (show ∀ v7 x', v7 = .slice (some ⟨b, off, none⟩) n c → Below x.heap.size x x' → K (a.put (some 54) v7) x' from hK)
                  have Hbx := Lib.hid hbx
                  clear hsame hpre hK hbx w49
                  go_simp
                  exact hk.out _ _ rfl (Below.refl _ _)
                · have q5 : a.tmps[5]?.getD undef = .int .i64 ((i : Nat) : Int) := (hsame 5 (by decide +kernel)).trans f5
                  have w49 : a.tmps[49]?.getD undef = .bool true := hpre ⟨11, .guard⟩ (by simp) rfl (by decide)
                  refine step_wanted (wanted_of (j := 11) (t := 49) (b := true) rfl rfl w49) ?_
                  have hk := Lib.hid (show ∀ v7 x', v7 = .int .i64 ((i : Nat) : Int) → Below x.heap.size x x' → K (a.put (some 55) v7) x' from hK)
                  have Hbx := Lib.hid hbx
                  clear hsame hpre hK hbx w49
                  go_simp
                  exact hk.out _ _ rfl (Below.refl _ _)
                · have q54 : a.tmps[54]?.getD undef = .slice (some ⟨b, off, none⟩) n c := hpre ⟨16, .data⟩ (by simp) rfl (by decide)
                  have q55 : a.tmps[55]?.getD undef = .int .i64 ((i : Nat) : Int) := hpre ⟨17, .data⟩ (by simp) rfl (by decide)
                  have w49 : a.tmps[49]?.getD undef = .bool true := hpre ⟨11, .guard⟩ (by simp) rfl (by decide)
                  refine step_wanted (wanted_of (j := 11) (t := 49) (b := true) rfl rfl w49) ?_
                  have hk := Lib.hid (show ∀ v7 x', v7 = .pointer (some ⟨b, off + i, none⟩) → Below x.heap.size x x' → K (a.put (some 56) v7) x' from hK)
                  have Hbx := Lib.hid hbx
                  clear hsame hpre hK hbx w49
                  go_simp
                  exact hk.out _ _ rfl (Below.refl _ _)
                · have q56 : a.tmps[56]?.getD undef = .pointer (some ⟨b, off + i, none⟩) := hpre ⟨18, .data⟩ (by simp) rfl (by decide)
                  have w49 : a.tmps[49]?.getD undef = .bool true := hpre ⟨11, .guard⟩ (by simp) rfl (by decide)
                  refine step_wanted (wanted_of (j := 11) (t := 49) (b := true) rfl rfl w49) ?_
                  have hk := Lib.hid (show ∀ v7 x', v7 = .string ⟨tx.toArray⟩ → Below x.heap.size x x' → K (a.put (some 57) v7) x' from hK)
                  have Hbx := Lib.hid hbx
                  clear hsame hpre hK hbx w49
                  have c8 := Hcx.out _ (below_call Hbr.out Hbx.out)
                  go_simp
                  exact hk.out _ _ rfl (Below.refl _ _)
                · have q53 : a.tmps[53]?.getD undef = .string ⟨tz.toArray⟩ := hpre ⟨15, .data⟩ (by simp) rfl (by decide)
                  have q57 : a.tmps[57]?.getD undef = .string ⟨tx.toArray⟩ := hpre ⟨19, .data⟩ (by simp) rfl (by decide)
                  have w49 : a.tmps[49]?.getD undef = .bool true := hpre ⟨11, .guard⟩ (by simp) rfl (by decide)
                  refine step_wanted (wanted_of (j := 11) (t := 49) (b := true) rfl rfl w49) ?_
                  have hk := Lib.hid (show ∀ v7 x', v7 = .bool false → Below x.heap.size x x' → K (a.put (some 58) v7) x' from hK)
                  have Hbx := Lib.hid hbx
                  clear hsame hpre hK hbx w49
                  go_simp
                  exact hk.out _ _ (by have h7 := Hdz.out; first | (rw [h7]; done) | (rw [h7]; rfl)) (Below.refl _ _)
                · have q49 : a.tmps[49]?.getD undef = .bool true := hpre ⟨11, .data⟩ (by simp) rfl (by decide)
                  have q58 : a.tmps[58]?.getD undef = .bool false := hpre ⟨20, .data⟩ (by simp) rfl (by decide)
                  have w44 : a.tmps[44]?.getD undef = .bool false := hpre ⟨6, .guard⟩ (by simp) rfl (by decide)
                  refine step_wanted (wanted_of (j := 6) (t := 44) (b := false) rfl rfl w44) ?_
                  have hk := Lib.hid (show ∀ v7 x', v7 = .bool false → Below x.heap.size x x' → K (a.put (some 59) v7) x' from hK)
                  have Hbx := Lib.hid hbx
                  clear hsame hpre hK hbx w44
                  go_simp
                  exact hk.out _ _ rfl (Below.refl _ _)
                · have q44 : a.tmps[44]?.getD undef = .bool false := hpre ⟨6, .data⟩ (by simp) rfl (by decide)
                  have q59 : a.tmps[59]?.getD undef = .bool false := hpre ⟨21, .data⟩ (by simp) rfl (by decide)
                  refine step_plain rfl ?_
                  have hk := Lib.hid (show ∀ v7 x', v7 = .bool false → Below x.heap.size x x' → K (a.put (some 60) v7) x' from hK)
                  have Hbx := Lib.hid hbx
                  clear hsame hpre hK hbx
                  go_simp
                  exact hk.out _ _ rfl (Below.refl _ _)
              intro a51 x51 hbx hsame hG hsz51 hde51
              replace f0 := (hsame 0 (by decide +kernel)).trans f0
              replace f4 := (hsame 4 (by decide +kernel)).trans f4
              replace f5 := (hsame 5 (by decide +kernel)).trans f5
              replace f6 := (hsame 6 (by decide +kernel)).trans f6
              have f60 : a51.tmps[60]?.getD undef = .bool false := hG 22 (by decide)
              have Hbx51 := Lib.hid hbx
              have hsz51h := Lib.hid hsz51
              have hde51h := Lib.hid (hde51.trans hde50h.out)
              clear hsame hG hbx hsz51 hde51 hsz50h hde50h
              have Hbs := Lib.hid (below_call Hbr.out Hbx51.out)
              refine then_go ?_
              repeat with_reducible refine wp_seq ?_
              have htzx : tz ≠ tx := by have h7 := Hdz.out; simpa using h7.symm
              refine wp_cond_false (eval_at f60) ?_
              refine wp_skip ?_
              refine then_go ?_
              clear f60
              repeat with_reducible refine wp_seq ?_
              have hins : refOut L (i + 1) = insT O tx := by rw [refOut_ins hil (by rw [← Hx.out, ← HO.out, ← Hub.out]; rw [Hat.out, Hz.out]; simp [htzx]), ← Hx.out, ← HO.out]
              unfold insT at hins
              rw [Hat.out] at hins
              have Hins := Lib.hid hins
              clear hins
              obtain ⟨ws, hws⟩ : ∃ z, z = x51 := ⟨_, rfl⟩
              rw [← hws] at Hbs ⊢
              clear hws
              have hm1 : m ≤ 1000 := by rw [Hm.out]; exact hOl
              have hrs := Hru.out.grow Hbs.out
              have Hrs := Lib.hid hrs
              have hkm : k ≤ m := Hk.out
              have hkc : k ≤ cu := by omega
              have hrf := Rd.from_ (c := cu) (k := k) hrs (by rw [List.length_map, ← Hm.out]; exact hcu1)
              rw [← List.map_drop] at hrf
              have hdl : m - k = (O.drop k).length := by rw [List.length_drop, ← Hm.out]
              obtain ⟨v2, W2, hrun, hownc, hbc⟩ := consT_run ws tx (O.drop k) (by rw [List.length_drop]; omega) (c := cu - k) hdl hrf
              obtain ⟨A3, hA3⟩ : ∃ B, B = (if cu = k then ((some ⟨b3, off3, none⟩) : Option Addr) else ((some ⟨b3, off3, none⟩) : Option Addr).map (·.add (k * 1))) := ⟨_, rfl⟩
              rw [← hA3] at hrun
              obtain ⟨m3, hm3⟩ : ∃ q, q = m - k := ⟨_, rfl⟩
              obtain ⟨c3, hc3⟩ : ∃ q, q = cu - k := ⟨_, rfl⟩
              rw [← hm3, ← hc3] at hrun
              have hfr := fun W : World => fromT_run (A := (some ⟨b3, off3, none⟩)) (c := cu) hkm W
              rw [← hA3, ← hm3, ← hc3] at hfr
              have Hfr := Lib.hid hfr
              have Hrun := Lib.hid hrun
              have Hownc := Lib.hid hownc
              have Hbc := Lib.hid hbc
              have Hz1 := Lib.hid (show Below ws.heap.size ws (ws.drew.alloc (.cells #[.string ⟨tx.toArray⟩] 9)) from ((Below.refl _ _).drew).alloc (Nat.le_refl _) _)
              have Hz0 := Lib.hid (show Below ws.heap.size ws ws.drew from (Below.refl _ _).drew)
              clear hfr hrun hownc hbc hA3 hm3 hc3 hrs hrf hdl
              refine wp_region_fix2 (fun t => match t with | 61 => .slice (some ⟨b, off, none⟩) n c | 62 => .int .i64 ((i : Nat) : Int) | 63 => .pointer (some ⟨b, off + i, none⟩) | 64 => .string ⟨tx.toArray⟩ | 65 => .slice (some ⟨ws.heap.size, 0, none⟩) 1 1 | 66 => .slice (some ⟨b3, off3, none⟩) m cu | 67 => .int .i64 ((k : Nat) : Int) | 68 => .slice A3 m3 c3 | 69 => v2 | 7 => v2 | _ => undef) (Ch2 4 8 ws.drew (ws.drew.alloc (.cells #[.string ⟨tx.toArray⟩] 9)) W2) 81 (by kernel_rfl) (by kernel_rfl) (by kernel_rfl) hsz51h.out Ch2.start ?_ ?_
              · intro i0 o0 hi0 dn aw xw hJ hd hpre hcl hsame hV K hK
                have hlt0 : i0 < 10 := (Array.getElem?_eq_some_iff.1 hi0).1
                rcases (show i0 = 0 ∨ i0 = 1 ∨ i0 = 2 ∨ i0 = 3 ∨ i0 = 4 ∨ i0 = 5 ∨ i0 = 6 ∨ i0 = 7 ∨ i0 = 8 ∨ i0 = 9 by omega) with rfl | rfl | rfl | rfl | rfl | rfl | rfl | rfl | rfl | rfl
                all_goals (have ho0 := Option.some.inj hi0; subst ho0; clear hi0 hlt0)
                · have q0 : aw.tmps[0]?.getD undef = .slice (some ⟨b, off, none⟩) n c := (hsame 0 (fun j hj => absurd hj (slot_free (by decide +kernel) j))).trans f0
                  have hk := Lib.hid (show ∀ v x', v = .slice (some ⟨b, off, none⟩) n c → (Ch2 4 8 ws.drew (ws.drew.alloc (.cells #[.string ⟨tx.toArray⟩] 9)) W2) (also dn 0) x' → K (aw.put (some 61) v) x' from fun v x' h1 h2 => hK v x' (fun s hs => by cases hs; exact h1) h2)
                  have HJ2 := Lib.hid hJ
                  clear hsame hpre hcl hK hV hJ hd
                  go_simp
                  exact hk.out _ _ rfl (HJ2.out.more (by decide) (by decide))
                · have q5 : aw.tmps[5]?.getD undef = .int .i64 ((i : Nat) : Int) := (hsame 5 (fun j hj => absurd hj (slot_free (by decide +kernel) j))).trans f5
                  have hk := Lib.hid (show ∀ v x', v = .int .i64 ((i : Nat) : Int) → (Ch2 4 8 ws.drew (ws.drew.alloc (.cells #[.string ⟨tx.toArray⟩] 9)) W2) (also dn 1) x' → K (aw.put (some 62) v) x' from fun v x' h1 h2 => hK v x' (fun s hs => by cases hs; exact h1) h2)
                  have HJ2 := Lib.hid hJ
                  clear hsame hpre hcl hK hV hJ hd
                  go_simp
                  exact hk.out _ _ rfl (HJ2.out.more (by decide) (by decide))
                · have q61 : aw.tmps[61]?.getD undef = .slice (some ⟨b, off, none⟩) n c := hV 0 61 (hpre ⟨0, .data⟩ (by simp) rfl) rfl
                  have q62 : aw.tmps[62]?.getD undef = .int .i64 ((i : Nat) : Int) := hV 1 62 (hpre ⟨1, .data⟩ (by simp) rfl) rfl
                  have hk := Lib.hid (show ∀ v x', v = .pointer (some ⟨b, off + i, none⟩) → (Ch2 4 8 ws.drew (ws.drew.alloc (.cells #[.string ⟨tx.toArray⟩] 9)) W2) (also dn 2) x' → K (aw.put (some 63) v) x' from fun v x' h1 h2 => hK v x' (fun s hs => by cases hs; exact h1) h2)
                  have HJ2 := Lib.hid hJ
                  clear hsame hpre hcl hK hV hJ hd
                  go_simp
                  exact hk.out _ _ rfl (HJ2.out.more (by decide) (by decide))
                · have q63 : aw.tmps[63]?.getD undef = .pointer (some ⟨b, off + i, none⟩) := hV 2 63 (hpre ⟨2, .data⟩ (by simp) rfl) rfl
                  have hk := Lib.hid (show ∀ v x', v = .string ⟨tx.toArray⟩ → (Ch2 4 8 ws.drew (ws.drew.alloc (.cells #[.string ⟨tx.toArray⟩] 9)) W2) (also dn 3) x' → K (aw.put (some 64) v) x' from fun v x' h1 h2 => hK v x' (fun s hs => by cases hs; exact h1) h2)
                  have HJ2 := Lib.hid hJ
                  clear hsame hpre hcl hK hV hJ hd
                  have c8 := Hcx.out _ (below_call Hbs.out (HJ2.out.all (p := fun z => Below ws.heap.size ws z) Hz0.out Hz1.out Hbc.out))
                  go_simp
                  exact hk.out _ _ rfl (HJ2.out.more (by decide) (by decide))
                · have q64 : aw.tmps[64]?.getD undef = .string ⟨tx.toArray⟩ := hV 3 64 (hpre ⟨3, .data⟩ (by simp) rfl) rfl
                  have hk := Lib.hid (show ∀ v x', v = .slice (some ⟨ws.heap.size, 0, none⟩) 1 1 → (Ch2 4 8 ws.drew (ws.drew.alloc (.cells #[.string ⟨tx.toArray⟩] 9)) W2) (also dn 4) x' → K (aw.put (some 65) v) x' from fun v x' h1 h2 => hK v x' (fun s hs => by cases hs; exact h1) h2)
                  obtain ⟨hxe, hJ3⟩ := hJ.first hd (by decide)
                  subst hxe
                  have HJ3 := Lib.hid hJ3
                  clear hsame hpre hcl hK hV hJ hJ3 hd
                  go_simp
                  exact hk.out _ _ rfl HJ3.out
                · have q4 : aw.tmps[4]?.getD undef = .slice (some ⟨b3, off3, none⟩) m cu := (hsame 4 (fun j hj => absurd hj (slot_free (by decide +kernel) j))).trans f4
                  have hk := Lib.hid (show ∀ v x', v = .slice (some ⟨b3, off3, none⟩) m cu → (Ch2 4 8 ws.drew (ws.drew.alloc (.cells #[.string ⟨tx.toArray⟩] 9)) W2) (also dn 5) x' → K (aw.put (some 66) v) x' from fun v x' h1 h2 => hK v x' (fun s hs => by cases hs; exact h1) h2)
                  have HJ2 := Lib.hid hJ
                  clear hsame hpre hcl hK hV hJ hd
                  go_simp
                  exact hk.out _ _ rfl (HJ2.out.more (by decide) (by decide))
                · have q6 : aw.tmps[6]?.getD undef = .int .i64 ((k : Nat) : Int) := (hsame 6 (fun j hj => absurd hj (slot_free (by decide +kernel) j))).trans f6
                  have hk := Lib.hid (show ∀ v x', v = .int .i64 ((k : Nat) : Int) → (Ch2 4 8 ws.drew (ws.drew.alloc (.cells #[.string ⟨tx.toArray⟩] 9)) W2) (also dn 6) x' → K (aw.put (some 67) v) x' from fun v x' h1 h2 => hK v x' (fun s hs => by cases hs; exact h1) h2)
                  have HJ2 := Lib.hid hJ
                  clear hsame hpre hcl hK hV hJ hd
                  go_simp
                  exact hk.out _ _ rfl (HJ2.out.more (by decide) (by decide))
                · have q66 : aw.tmps[66]?.getD undef = .slice (some ⟨b3, off3, none⟩) m cu := hV 5 66 (hpre ⟨5, .data⟩ (by simp) rfl) rfl
                  have q67 : aw.tmps[67]?.getD undef = .int .i64 ((k : Nat) : Int) := hV 6 67 (hpre ⟨6, .data⟩ (by simp) rfl) rfl
                  have hk := Lib.hid (show ∀ v x', v = .slice A3 m3 c3 → (Ch2 4 8 ws.drew (ws.drew.alloc (.cells #[.string ⟨tx.toArray⟩] 9)) W2) (also dn 7) x' → K (aw.put (some 68) v) x' from fun v x' h1 h2 => hK v x' (fun s hs => by cases hs; exact h1) h2)
                  have HJ2 := Lib.hid hJ
                  clear hsame hpre hcl hK hV hJ hd
                  refine wp_fromT (.tmp 66) (.tmp 67) rfl (eval_at q66) (eval_at q67) Hfr.out ?_
                  exact hk.out _ _ rfl (HJ2.out.more (by decide) (by decide))
                · have q65 : aw.tmps[65]?.getD undef = .slice (some ⟨ws.heap.size, 0, none⟩) 1 1 := hV 4 65 (hpre ⟨4, .data⟩ (by simp) rfl) rfl
                  have q68 : aw.tmps[68]?.getD undef = .slice A3 m3 c3 := hV 7 68 (hpre ⟨7, .data⟩ (by simp) rfl) rfl
                  have hk := Lib.hid (show ∀ v x', v = v2 → (Ch2 4 8 ws.drew (ws.drew.alloc (.cells #[.string ⟨tx.toArray⟩] 9)) W2) (also dn 8) x' → K (aw.put (some 69) v) x' from fun v x' h1 h2 => hK v x' (fun s hs => by cases hs; exact h1) h2)
                  obtain ⟨hxe, hJ3⟩ := hJ.second (hpre ⟨4, .data⟩ (by simp) rfl) hd (by decide)
                  subst hxe
                  refine wp_append (.tmp 65) (.tmp 68) 22 rfl (by rw [eval_at q65, eval_at q68]; exact Hrun.out) ?_
                  exact hk.out _ _ rfl hJ3
                · have q69 : aw.tmps[69]?.getD undef = v2 := hV 8 69 (hpre ⟨8, .data⟩ (by simp) rfl) rfl
                  have hk := Lib.hid (show ∀ v x', v = v2 → (Ch2 4 8 ws.drew (ws.drew.alloc (.cells #[.string ⟨tx.toArray⟩] 9)) W2) (also dn 9) x' → K (aw.put (some 7) v) x' from fun v x' h1 h2 => hK v x' (fun s hs => by cases hs; exact h1) h2)
                  have HJ2 := Lib.hid hJ
                  clear hsame hpre hcl hK hV hJ hd
                  go_simp
                  exact hk.out _ _ rfl (HJ2.out.more (by decide) (by decide))
              intro dn a52 x52 hall hJ hsame hV hsz52 hde52
              have hx := hJ.done (hall 8 (by decide))
              rw [hx]
              clear hx
              replace f0 := (hsame 0 (slot_free (by decide +kernel))).trans f0
              replace f4 := (hsame 4 (slot_free (by decide +kernel))).trans f4
              replace f5 := (hsame 5 (slot_free (by decide +kernel))).trans f5
              replace f6 := (hsame 6 (slot_free (by decide +kernel))).trans f6
              have f7 : a52.tmps[7]?.getD undef = v2 := hV 9 7 (by decide) rfl
              have hsz52h := Lib.hid hsz52
              have hde52h := Lib.hid (hde52.trans hde51h.out)
              clear hsame hV hJ hall hsz52 hde52 hsz51h hde51h
              refine then_go ?_
              repeat with_reducible refine wp_seq ?_
              obtain ⟨Av, cv, hv2, hcv1, hcv2, hrv⟩ := OwnT.form Hownc.out
              obtain ⟨q, hq⟩ : ∃ q, q = (tx :: O.drop k).length := ⟨_, rfl⟩
              have hqm : q ≤ 1001 := by rw [hq]; simp; omega
              rw [← hq] at hv2 hcv1
              have Hq := Lib.hid hq
              subst hv2
              have Hrv := Lib.hid hrv
              have Hb2 := Lib.hid (below_call Hbs.out Hbc.out)
              have hru2 := Rd.upto_ (c := cu) (k := k) (Hru.out.grow Hb2.out)
              rw [← List.map_take] at hru2
              obtain ⟨A4, hA4⟩ : ∃ B, B = (if cu = 0 then ((some ⟨b3, off3, none⟩) : Option Addr) else ((some ⟨b3, off3, none⟩) : Option Addr).map (·.add (0 * 1))) := ⟨_, rfl⟩
              rw [← hA4] at hru2
              have hup := fun W : World => uptoT_run (A := (some ⟨b3, off3, none⟩)) (n := m) hkc W
              rw [← hA4] at hup
              have Hup := Lib.hid hup
              have Hru2 := Lib.hid hru2
              have Htl := Lib.hid (show (O.take k).length = k by rw [List.length_take, ← Hm.out]; omega)
              clear hq hrv hru2 hA4 hup
              refine wp_region_lit ?_
              refine wpList_next rfl hsz52h hde52h 70 rfl (by decide) fun K hK => ?_
              go_simp
              refine hK _ _ fun a53 hsz53 hde53 f70 hk => ?_
              clear hK K
              replace f0 := (hk 0 (by decide)).trans f0
              replace f4 := (hk 4 (by decide)).trans f4
              replace f5 := (hk 5 (by decide)).trans f5
              replace f6 := (hk 6 (by decide)).trans f6
              replace f7 := (hk 7 (by decide)).trans f7
              replace f70 : a53.tmps[70]?.getD undef = .slice (some ⟨W2.heap.size, 0, none⟩) 0 0 := f70
              clear hk hsz52h hde52h
              refine wpList_next rfl hsz53 hde53 71 rfl (by decide) fun K hK => ?_
              go_simp
              refine hK _ _ fun a54 hsz54 hde54 f71 hk => ?_
              clear hK K
              replace f0 := (hk 0 (by decide)).trans f0
              replace f4 := (hk 4 (by decide)).trans f4
              replace f5 := (hk 5 (by decide)).trans f5
              replace f6 := (hk 6 (by decide)).trans f6
              replace f7 := (hk 7 (by decide)).trans f7
              replace f70 := (hk 70 (by decide)).trans f70
              replace f71 : a54.tmps[71]?.getD undef = .slice (some ⟨b3, off3, none⟩) m cu := f71
              clear hk hsz53 hde53
              refine wpList_next rfl hsz54 hde54 72 rfl (by decide) fun K hK => ?_
              go_simp
              refine hK _ _ fun a55 hsz55 hde55 f72 hk => ?_
              clear hK K
              replace f0 := (hk 0 (by decide)).trans f0
              replace f4 := (hk 4 (by decide)).trans f4
              replace f5 := (hk 5 (by decide)).trans f5
              replace f6 := (hk 6 (by decide)).trans f6
              replace f7 := (hk 7 (by decide)).trans f7
              replace f70 := (hk 70 (by decide)).trans f70
              replace f71 := (hk 71 (by decide)).trans f71
              replace f72 : a55.tmps[72]?.getD undef = .int .i64 ((k : Nat) : Int) := f72
              clear hk hsz54 hde54
              refine wpList_next rfl hsz55 hde55 73 rfl (by decide) fun K hK => ?_
              refine wp_uptoT (.tmp 71) (.tmp 72) rfl (eval_at f71) (eval_at f72) Hup.out ?_
              refine hK _ _ fun a56 hsz56 hde56 f73 hk => ?_
              clear hK K
              replace f0 := (hk 0 (by decide)).trans f0
              replace f4 := (hk 4 (by decide)).trans f4
              replace f5 := (hk 5 (by decide)).trans f5
              replace f6 := (hk 6 (by decide)).trans f6
              replace f7 := (hk 7 (by decide)).trans f7
              replace f70 := (hk 70 (by decide)).trans f70
              replace f73 : a56.tmps[73]?.getD undef = .slice A4 k cu := f73
              clear hk hsz55 hde55 f71 f72
              refine wpList_next rfl hsz56 hde56 74 rfl (by decide) fun K hK => ?_
              obtain ⟨we, hwe⟩ : ∃ z, z = W2.alloc (.cells #[] 9) := ⟨_, rfl⟩
              have Hoe := Lib.hid (show OwnK we W2.heap.size 9 1 (.slice (some ⟨W2.heap.size, 0, none⟩) 0 0) 0 [] by rw [hwe]; exact OwnK.empty W2 9 1)
              have Hbe := Lib.hid (show Below W2.heap.size W2 we by rw [hwe]; exact (Below.refl _ _).alloc (Nat.le_refl _) _)
              rw [← hwe]
              clear hwe
              refine wp_appK elemS1 (.tmp 70) (.tmp 73) rfl W2.heap.size 0 _ [] (eval_at f70) Hoe.out _ A4 k cu ((O.take k).map str) (by rw [List.length_map, Htl.out]; omega) (eval_at f73) (Hru2.out.grow Hbe.out) (by intro u hu; obtain ⟨z, _, rfl⟩ := List.mem_map.1 hu; rfl) (by omega) (by omega) Hbe.out.size ?_
              intro v5 w5 hown5 hg5 hat5
              rw [Nat.zero_add, List.nil_append] at hown5
              refine hK _ _ fun a57 hsz57 hde57 f74 hk => ?_
              clear hK K
              replace f0 := (hk 0 (by decide)).trans f0
              replace f4 := (hk 4 (by decide)).trans f4
              replace f5 := (hk 5 (by decide)).trans f5
              replace f6 := (hk 6 (by decide)).trans f6
              replace f7 := (hk 7 (by decide)).trans f7
              replace f74 : a57.tmps[74]?.getD undef = v5 := f74
              clear hk hsz56 hde56 f70 f73
              have Hbf := Lib.hid (Hbe.out.trans (OwnK.below_of Hoe.out hg5 Hbe.out.size (Nat.le_refl _)))
              have Hown5 := Lib.hid hown5
              clear hown5 hg5 hat5
              refine wpList_next rfl hsz57 hde57 75 rfl (by decide) fun K hK => ?_
              go_simp
              refine hK _ _ fun a58 hsz58 hde58 f75 hk => ?_
              clear hK K
              replace f0 := (hk 0 (by decide)).trans f0
              replace f4 := (hk 4 (by decide)).trans f4
              replace f5 := (hk 5 (by decide)).trans f5
              replace f6 := (hk 6 (by decide)).trans f6
              replace f7 := (hk 7 (by decide)).trans f7
              replace f74 := (hk 74 (by decide)).trans f74
              replace f75 : a58.tmps[75]?.getD undef = .slice Av q cv := f75
              clear hk hsz57 hde57
              refine wpList_next rfl hsz58 hde58 76 rfl (by decide) fun K hK => ?_
              refine wp_appK elemS1 (.tmp 74) (.tmp 75) rfl W2.heap.size k _ ((O.take k).map str) (eval_at f74) Hown5.out _ Av q cv ((tx :: O.drop k).map str) (by rw [List.length_map, Hq.out, Nat.mul_one]) (eval_at f75) (Hrv.out.grow Hbf.out) (by intro u hu; obtain ⟨z, _, rfl⟩ := List.mem_map.1 hu; rfl) (by omega) (by omega) Hbf.out.size ?_
              intro v6 w6 hown6 hg6 hat6
              refine hK _ _ fun a59 hsz59 hde59 f76 hk => ?_
              clear hK K
              replace f0 := (hk 0 (by decide)).trans f0
              replace f4 := (hk 4 (by decide)).trans f4
              replace f5 := (hk 5 (by decide)).trans f5
              replace f6 := (hk 6 (by decide)).trans f6
              replace f7 := (hk 7 (by decide)).trans f7
              replace f76 : a59.tmps[76]?.getD undef = v6 := f76
              clear hk hsz58 hde58 f74 f75
              have Hbg := Lib.hid (Hbf.out.trans (OwnK.below_of Hown5.out hg6 Hbf.out.size (Nat.le_refl _)))
              have Hown6 := Lib.hid hown6
              clear hown6 hg6 hat6
              refine wpList_next rfl hsz59 hde59 4 rfl (by decide) fun K hK => ?_
              go_simp
              refine hK _ _ fun a60 hsz60 hde60 f4 hk => ?_
              clear hK K
              replace f0 := (hk 0 (by decide)).trans f0
              replace f5 := (hk 5 (by decide)).trans f5
              replace f6 := (hk 6 (by decide)).trans f6
              replace f7 := (hk 7 (by decide)).trans f7
              replace f4 : a60.tmps[4]?.getD undef = v6 := f4
              clear hk hsz59 hde59 f76
              refine wpList_nil ?_
              clear f6 f7
              repeat first | with_reducible refine block_go ?_ | with_reducible refine then_go ?_
              repeat with_reducible refine wp_seq ?_
              refine wp_region_lit ?_
              refine wpList_next rfl hsz60 hde60 12 rfl (by decide) fun K hK => ?_
              go_simp
              refine hK _ _ fun a61 hsz61 hde61 f12 hk => ?_
              clear hK K
              replace f0 := (hk 0 (by decide)).trans f0
              replace f5 := (hk 5 (by decide)).trans f5
              replace f4 := (hk 4 (by decide)).trans f4
              clear hk hsz60 hde60
              refine wpList_next rfl hsz61 hde61 13 rfl (by decide) fun K hK => ?_
              go_simp
              refine hK _ _ fun a62 hsz62 hde62 f13 hk => ?_
              clear hK K
              replace f0 := (hk 0 (by decide)).trans f0
              replace f5 := (hk 5 (by decide)).trans f5
              replace f4 := (hk 4 (by decide)).trans f4
              clear hk hsz61 hde61 f12
              replace f13 : a62.tmps[13]?.getD undef = .int .i64 (((i + 1 : Nat) : Int)) := f13.trans (by first | rfl | (congr 1; done) | (congr 1; omega) | (congr 1; rw [IntKind.wrap_i64] <;> omega))
              refine wpList_next rfl hsz62 hde62 5 rfl (by decide) fun K hK => ?_
              go_simp
              refine hK _ _ fun a63 hsz63 hde63 f5 hk => ?_
              clear hK K
              replace f0 := (hk 0 (by decide)).trans f0
              replace f4 := (hk 4 (by decide)).trans f4
              replace f5 : a63.tmps[5]?.getD undef = .int .i64 ((i + 1 : Nat) : Int) := f5
              clear hk hsz62 hde62 f13
              refine wpList_nil ?_
              refine then_go ?_
              have Hts6 := Lib.hid (show TextsAt w6 v6 (refOut L (i + 1)) by
                rw [Hins.out]
                refine OwnT.texts (base := W2.heap.size) ?_
                unfold OwnT
                rw [List.length_append, List.map_append, Htl.out, ← Hq.out]
                exact Hown6.out)
              exact ⟨n - (i + 1), by rw [Hn2.out]; omega, i + 1, v6, hsz63, hde63, f0, f4, f5, Lib.hid (by omega), Hall2, Hts6, Lib.hid (below_call Hbw.out (below_call Hb2.out Hbg.out)), rfl⟩
          refine wp_region_goodg (tblG [(38, .slice (some ⟨b, off, none⟩) n c), (39, .slice (some ⟨b, off, none⟩) n c), (40, .int .i64 ((i : Nat) : Int)), (41, .pointer (some ⟨b, off + i, none⟩)), (42, .string ⟨tx.toArray⟩), (43, .bool false), (44, .bool false), (45, .int .i64 ((k : Nat) : Int)), (46, .slice Au m cu), (47, .int .i64 ((m : Nat) : Int)), (48, .bool false), (49, .bool false), (50, undef), (51, undef), (52, undef), (53, undef), (54, undef), (55, undef), (56, undef), (57, undef), (58, undef), (59, .bool false), (60, .bool false)]) 81 (by kernel_rfl) (by kernel_rfl) (by kernel_rfl) (by kernel_rfl) hsz50h.out ?_ ?_ ?_
          · intro t v7 x x' h _ _
            exact h
          · intro i7 o hi7 a x hbx hsame hpre K hK
            have hlt7 : i7 < 23 := (Array.getElem?_eq_some_iff.1 hi7).1
            rcases (show i7 = 0 ∨ i7 = 1 ∨ i7 = 2 ∨ i7 = 3 ∨ i7 = 4 ∨ i7 = 5 ∨ i7 = 6 ∨ i7 = 7 ∨ i7 = 8 ∨ i7 = 9 ∨ i7 = 10 ∨ i7 = 11 ∨ i7 = 12 ∨ i7 = 13 ∨ i7 = 14 ∨ i7 = 15 ∨ i7 = 16 ∨ i7 = 17 ∨ i7 = 18 ∨ i7 = 19 ∨ i7 = 20 ∨ i7 = 21 ∨ i7 = 22 by omega) with rfl | rfl | rfl | rfl | rfl | rfl | rfl | rfl | rfl | rfl | rfl | rfl | rfl | rfl | rfl | rfl | rfl | rfl | rfl | rfl | rfl | rfl | rfl
            all_goals (have ho := Option.some.inj hi7; subst ho; clear hi7 hlt7)
            · have q0 : a.tmps[0]?.getD undef = .slice (some ⟨b, off, none⟩) n c := (hsame 0 (by decide +kernel)).trans f0
              refine step_plain rfl ?_
              have hk := Lib.hid (show ∀ v7 x', v7 = .slice (some ⟨b, off, none⟩) n c → Below x.heap.size x x' → K (a.put (some 38) v7) x' from hK)
              have Hbx := Lib.hid hbx
              clear hsame hpre hK hbx
              go_simp
              exact hk.out _ _ rfl (Below.refl _ _)
            · have q0 : a.tmps[0]?.getD undef = .slice (some ⟨b, off, none⟩) n c := (hsame 0 (by decide +kernel)).trans f0
              refine step_plain rfl ?_
              have hk := Lib.hid (show ∀ v7 x', v7 = .slice (some ⟨b, off, none⟩) n c → Below x.heap.size x x' → K (a.put (some 39) v7) x' from hK)
              have Hbx := Lib.hid hbx
              clear hsame hpre hK hbx
              go_simp
              exact hk.out _ _ rfl (Below.refl _ _)
            · have q5 : a.tmps[5]?.getD undef = .int .i64 ((i : Nat) : Int) := (hsame 5 (by decide +kernel)).trans f5
              refine step_plain rfl ?_
              have hk := Lib.hid (show ∀ v7 x', v7 = .int .i64 ((i : Nat) : Int) → Below x.heap.size x x' → K (a.put (some 40) v7) x' from hK)
              have Hbx := Lib.hid hbx
              clear hsame hpre hK hbx
              go_simp
              exact hk.out _ _ rfl (Below.refl _ _)
            · have q39 : a.tmps[39]?.getD undef = .slice (some ⟨b, off, none⟩) n c := hpre ⟨1, .data⟩ (by simp) rfl (by decide)
              have q40 : a.tmps[40]?.getD undef = .int .i64 ((i : Nat) : Int) := hpre ⟨2, .data⟩ (by simp) rfl (by decide)
              refine step_plain rfl ?_
              have hk := Lib.hid (show ∀ v7 x', v7 = .pointer (some ⟨b, off + i, none⟩) → Below x.heap.size x x' → K (a.put (some 41) v7) x' from hK)
              have Hbx := Lib.hid hbx
              clear hsame hpre hK hbx
              go_simp
              exact hk.out _ _ rfl (Below.refl _ _)
            · have q41 : a.tmps[41]?.getD undef = .pointer (some ⟨b, off + i, none⟩) := hpre ⟨3, .data⟩ (by simp) rfl (by decide)
              refine step_plain rfl ?_
              have hk := Lib.hid (show ∀ v7 x', v7 = .string ⟨tx.toArray⟩ → Below x.heap.size x x' → K (a.put (some 42) v7) x' from hK)
              have Hbx := Lib.hid hbx
              clear hsame hpre hK hbx
              have c8 := Hcx.out _ (below_call Hbr.out Hbx.out)
              go_simp
              exact hk.out _ _ rfl (Below.refl _ _)
            · have q38 : a.tmps[38]?.getD undef = .slice (some ⟨b, off, none⟩) n c := hpre ⟨0, .data⟩ (by simp) rfl (by decide)
              have q42 : a.tmps[42]?.getD undef = .string ⟨tx.toArray⟩ := hpre ⟨4, .data⟩ (by simp) rfl (by decide)
              refine step_plain rfl ?_
              have hk := Lib.hid (show ∀ v7 x', v7 = .bool false → Below x.heap.size x x' → K (a.put (some 43) v7) x' from hK)
              have Hbx := Lib.hid hbx
              clear hsame hpre hK hbx
              go_simp
              refine (Hux.out _ (below_call Hbr.out Hbx.out)).mono ?_
              rintro e2 w2 ⟨rfl, hb2⟩
              go_simp
              exact hk.out _ _ rfl hb2
            · have q43 : a.tmps[43]?.getD undef = .bool false := hpre ⟨5, .data⟩ (by simp) rfl (by decide)
              refine step_plain rfl ?_
              have hk := Lib.hid (show ∀ v7 x', v7 = .bool false → Below x.heap.size x x' → K (a.put (some 44) v7) x' from hK)
              have Hbx := Lib.hid hbx
              clear hsame hpre hK hbx
              go_simp
              exact hk.out _ _ rfl (Below.refl _ _)
            · have q6 : a.tmps[6]?.getD undef = .int .i64 ((k : Nat) : Int) := (hsame 6 (by decide +kernel)).trans f6
              have w44 : a.tmps[44]?.getD undef = .bool false := hpre ⟨6, .guard⟩ (by simp) rfl (by decide)
              refine step_wanted (wanted_of (j := 6) (t := 44) (b := false) rfl rfl w44) ?_
              have hk := Lib.hid (show ∀ v7 x', v7 = .int .i64 ((k : Nat) : Int) → Below x.heap.size x x' → K (a.put (some 45) v7) x' from hK)
              have Hbx := Lib.hid hbx
              clear hsame hpre hK hbx w44
              go_simp
              exact hk.out _ _ rfl (Below.refl _ _)
            · have q4 : a.tmps[4]?.getD undef = .slice Au m cu := (hsame 4 (by decide +kernel)).trans f4
              have w44 : a.tmps[44]?.getD undef = .bool false := hpre ⟨6, .guard⟩ (by simp) rfl (by decide)
              refine step_wanted (wanted_of (j := 6) (t := 44) (b := false) rfl rfl w44) ?_
              have hk := Lib.hid (show ∀ v7 x', v7 = .slice Au m cu → Below x.heap.size x x' → K (a.put (some 46) v7) x' from hK)
              have Hbx := Lib.hid hbx
              clear hsame hpre hK hbx w44
              go_simp
              exact hk.out _ _ rfl (Below.refl _ _)
            · have q46 : a.tmps[46]?.getD undef = .slice Au m cu := hpre ⟨8, .data⟩ (by simp) rfl (by decide)
              have w44 : a.tmps[44]?.getD undef = .bool false := hpre ⟨6, .guard⟩ (by simp) rfl (by decide)
              refine step_wanted (wanted_of (j := 6) (t := 44) (b := false) rfl rfl w44) ?_
              have hk := Lib.hid (show ∀ v7 x', v7 = .int .i64 ((m : Nat) : Int) → Below x.heap.size x x' → K (a.put (some 47) v7) x' from hK)
              have Hbx := Lib.hid hbx
              clear hsame hpre hK hbx w44
              go_simp
              exact hk.out _ _ rfl (Below.refl _ _)
            · have q45 : a.tmps[45]?.getD undef = .int .i64 ((k : Nat) : Int) := hpre ⟨7, .data⟩ (by simp) rfl (by decide)
              have q47 : a.tmps[47]?.getD undef = .int .i64 ((m : Nat) : Int) := hpre ⟨9, .data⟩ (by simp) rfl (by decide)
              have w44 : a.tmps[44]?.getD undef = .bool false := hpre ⟨6, .guard⟩ (by simp) rfl (by decide)
              refine step_wanted (wanted_of (j := 6) (t := 44) (b := false) rfl rfl w44) ?_
              have hk := Lib.hid (show ∀ v7 x', v7 = .bool false → Below x.heap.size x x' → K (a.put (some 48) v7) x' from hK)
              have Hbx := Lib.hid hbx
              clear hsame hpre hK hbx w44
              go_simp
              exact hk.out _ _ (by first | rfl | (congr 1; exact decide_eq_false (by omega)) | (simp; omega)) (Below.refl _ _)
            · have q48 : a.tmps[48]?.getD undef = .bool false := hpre ⟨10, .data⟩ (by simp) rfl (by decide)
              have w44 : a.tmps[44]?.getD undef = .bool false := hpre ⟨6, .guard⟩ (by simp) rfl (by decide)
              refine step_wanted (wanted_of (j := 6) (t := 44) (b := false) rfl rfl w44) ?_
              have hk := Lib.hid (show ∀ v7 x', v7 = .bool false → Below x.heap.size x x' → K (a.put (some 49) v7) x' from hK)
              have Hbx := Lib.hid hbx
              clear hsame hpre hK hbx w44
              go_simp
              exact hk.out _ _ rfl (Below.refl _ _)
            · have w49 : a.tmps[49]?.getD undef = .bool false := hpre ⟨11, .guard⟩ (by simp) rfl (by decide)
              refine step_left (not_wanted (j := 11) (t := 49) (b := true) rfl rfl (.inr w49)) ?_
              have hk := Lib.hid (show ∀ v7 x', v7 = undef → Below x.heap.size x x' → K (a.put (some 50) v7) x' from hK)
              have Hbx := Lib.hid hbx
              clear hsame hpre hK hbx w49
              exact hk.out _ _ rfl (Below.refl _ _)
            · have w49 : a.tmps[49]?.getD undef = .bool false := hpre ⟨11, .guard⟩ (by simp) rfl (by decide)
              refine step_left (not_wanted (j := 11) (t := 49) (b := true) rfl rfl (.inr w49)) ?_
              have hk := Lib.hid (show ∀ v7 x', v7 = undef → Below x.heap.size x x' → K (a.put (some 51) v7) x' from hK)
              have Hbx := Lib.hid hbx
              clear hsame hpre hK hbx w49
              exact hk.out _ _ rfl (Below.refl _ _)
            · have w49 : a.tmps[49]?.getD undef = .bool false := hpre ⟨11, .guard⟩ (by simp) rfl (by decide)
              refine step_left (not_wanted (j := 11) (t := 49) (b := true) rfl rfl (.inr w49)) ?_
              have hk := Lib.hid (show ∀ v7 x', v7 = undef → Below x.heap.size x x' → K (a.put (some 52) v7) x' from hK)
              have Hbx := Lib.hid hbx
              clear hsame hpre hK hbx w49
              exact hk.out _ _ rfl (Below.refl _ _)
            · have w49 : a.tmps[49]?.getD undef = .bool false := hpre ⟨11, .guard⟩ (by simp) rfl (by decide)
              refine step_left (not_wanted (j := 11) (t := 49) (b := true) rfl rfl (.inr w49)) ?_
              have hk := Lib.hid (show ∀ v7 x', v7 = undef → Below x.heap.size x x' → K (a.put (some 53) v7) x' from hK)
              have Hbx := Lib.hid hbx
              clear hsame hpre hK hbx w49
              exact hk.out _ _ rfl (Below.refl _ _)
            · have w49 : a.tmps[49]?.getD undef = .bool false := hpre ⟨11, .guard⟩ (by simp) rfl (by decide)
              refine step_left (not_wanted (j := 11) (t := 49) (b := true) rfl rfl (.inr w49)) ?_
              have hk := Lib.hid (show ∀ v7 x', v7 = undef → Below x.heap.size x x' → K (a.put (some 54) v7) x' from hK)
              have Hbx := Lib.hid hbx
              clear hsame hpre hK hbx w49
              exact hk.out _ _ rfl (Below.refl _ _)
            · have w49 : a.tmps[49]?.getD undef = .bool false := hpre ⟨11, .guard⟩ (by simp) rfl (by decide)
              refine step_left (not_wanted (j := 11) (t := 49) (b := true) rfl rfl (.inr w49)) ?_
              have hk := Lib.hid (show ∀ v7 x', v7 = undef → Below x.heap.size x x' → K (a.put (some 55) v7) x' from hK)
              have Hbx := Lib.hid hbx
              clear hsame hpre hK hbx w49
              exact hk.out _ _ rfl (Below.refl _ _)
            · have w49 : a.tmps[49]?.getD undef = .bool false := hpre ⟨11, .guard⟩ (by simp) rfl (by decide)
              refine step_left (not_wanted (j := 11) (t := 49) (b := true) rfl rfl (.inr w49)) ?_
              have hk := Lib.hid (show ∀ v7 x', v7 = undef → Below x.heap.size x x' → K (a.put (some 56) v7) x' from hK)
              have Hbx := Lib.hid hbx
              clear hsame hpre hK hbx w49
              exact hk.out _ _ rfl (Below.refl _ _)
            · have w49 : a.tmps[49]?.getD undef = .bool false := hpre ⟨11, .guard⟩ (by simp) rfl (by decide)
              refine step_left (not_wanted (j := 11) (t := 49) (b := true) rfl rfl (.inr w49)) ?_
              have hk := Lib.hid (show ∀ v7 x', v7 = undef → Below x.heap.size x x' → K (a.put (some 57) v7) x' from hK)
              have Hbx := Lib.hid hbx
              clear hsame hpre hK hbx w49
              exact hk.out _ _ rfl (Below.refl _ _)
            · have w49 : a.tmps[49]?.getD undef = .bool false := hpre ⟨11, .guard⟩ (by simp) rfl (by decide)
              refine step_left (not_wanted (j := 11) (t := 49) (b := true) rfl rfl (.inr w49)) ?_
              have hk := Lib.hid (show ∀ v7 x', v7 = undef → Below x.heap.size x x' → K (a.put (some 58) v7) x' from hK)
              have Hbx := Lib.hid hbx
              clear hsame hpre hK hbx w49
              exact hk.out _ _ rfl (Below.refl _ _)
            · have q49 : a.tmps[49]?.getD undef = .bool false := hpre ⟨11, .data⟩ (by simp) rfl (by decide)
              have q58 : a.tmps[58]?.getD undef = undef := hpre ⟨20, .data⟩ (by simp) rfl (by decide)
              have w44 : a.tmps[44]?.getD undef = .bool false := hpre ⟨6, .guard⟩ (by simp) rfl (by decide)
              refine step_wanted (wanted_of (j := 6) (t := 44) (b := false) rfl rfl w44) ?_
              have hk := Lib.hid (show ∀ v7 x', v7 = .bool false → Below x.heap.size x x' → K (a.put (some 59) v7) x' from hK)
              have Hbx := Lib.hid hbx
              clear hsame hpre hK hbx w44
              go_simp
              exact hk.out _ _ rfl (Below.refl _ _)
            · have q44 : a.tmps[44]?.getD undef = .bool false := hpre ⟨6, .data⟩ (by simp) rfl (by decide)
              have q59 : a.tmps[59]?.getD undef = .bool false := hpre ⟨21, .data⟩ (by simp) rfl (by decide)
              refine step_plain rfl ?_
              have hk := Lib.hid (show ∀ v7 x', v7 = .bool false → Below x.heap.size x x' → K (a.put (some 60) v7) x' from hK)
              have Hbx := Lib.hid hbx
              clear hsame hpre hK hbx
              go_simp
              exact hk.out _ _ rfl (Below.refl _ _)
          intro a51 x51 hbx hsame hG hsz51 hde51
          replace f0 := (hsame 0 (by decide +kernel)).trans f0
          replace f4 := (hsame 4 (by decide +kernel)).trans f4
          replace f5 := (hsame 5 (by decide +kernel)).trans f5
          replace f6 := (hsame 6 (by decide +kernel)).trans f6
          have f60 : a51.tmps[60]?.getD undef = .bool false := hG 22 (by decide)
          have Hbx51 := Lib.hid hbx
          have hsz51h := Lib.hid hsz51
          have hde51h := Lib.hid (hde51.trans hde50h.out)
          clear hsame hG hbx hsz51 hde51 hsz50h hde50h
          have Hbs := Lib.hid (below_call Hbr.out Hbx51.out)
          refine then_go ?_
          repeat with_reducible refine wp_seq ?_
          refine wp_cond_false (eval_at f60) ?_
          refine wp_skip ?_
          refine then_go ?_
          clear f60
          repeat with_reducible refine wp_seq ?_
          have hins : refOut L (i + 1) = insT O tx := by rw [refOut_ins hil (by rw [← Hx.out, ← HO.out, ← Hub.out]; rw [Hat.out, List.getElem?_eq_none (by have := Hm.out; omega)]; rfl), ← Hx.out, ← HO.out]
          unfold insT at hins
          rw [Hat.out] at hins
          have Hins := Lib.hid hins
          clear hins
          obtain ⟨ws, hws⟩ : ∃ z, z = x51 := ⟨_, rfl⟩
          rw [← hws] at Hbs ⊢
          clear hws
          have hm1 : m ≤ 1000 := by rw [Hm.out]; exact hOl
          have hrs := Hru.out.grow Hbs.out
          have Hrs := Lib.hid hrs
          have hkm : k ≤ m := Hk.out
          have hkc : k ≤ cu := by omega
          have hrf := Rd.from_ (c := cu) (k := k) hrs (by rw [List.length_map, ← Hm.out]; exact hcu1)
          rw [← List.map_drop] at hrf
          have hdl : m - k = (O.drop k).length := by rw [List.length_drop, ← Hm.out]
          obtain ⟨v2, W2, hrun, hownc, hbc⟩ := consT_run ws tx (O.drop k) (by rw [List.length_drop]; omega) (c := cu - k) hdl hrf
          obtain ⟨A3, hA3⟩ : ∃ B, B = (if cu = k then (Au : Option Addr) else (Au : Option Addr).map (·.add (k * 1))) := ⟨_, rfl⟩
          rw [← hA3] at hrun
          obtain ⟨m3, hm3⟩ : ∃ q, q = m - k := ⟨_, rfl⟩
          obtain ⟨c3, hc3⟩ : ∃ q, q = cu - k := ⟨_, rfl⟩
          rw [← hm3, ← hc3] at hrun
          have hfr := fun W : World => fromT_run (A := Au) (c := cu) hkm W
          rw [← hA3, ← hm3, ← hc3] at hfr
          have Hfr := Lib.hid hfr
          have Hrun := Lib.hid hrun
          have Hownc := Lib.hid hownc
          have Hbc := Lib.hid hbc
          have Hz1 := Lib.hid (show Below ws.heap.size ws (ws.drew.alloc (.cells #[.string ⟨tx.toArray⟩] 9)) from ((Below.refl _ _).drew).alloc (Nat.le_refl _) _)
          have Hz0 := Lib.hid (show Below ws.heap.size ws ws.drew from (Below.refl _ _).drew)
          clear hfr hrun hownc hbc hA3 hm3 hc3 hrs hrf hdl
          refine wp_region_fix2 (fun t => match t with | 61 => .slice (some ⟨b, off, none⟩) n c | 62 => .int .i64 ((i : Nat) : Int) | 63 => .pointer (some ⟨b, off + i, none⟩) | 64 => .string ⟨tx.toArray⟩ | 65 => .slice (some ⟨ws.heap.size, 0, none⟩) 1 1 | 66 => .slice Au m cu | 67 => .int .i64 ((k : Nat) : Int) | 68 => .slice A3 m3 c3 | 69 => v2 | 7 => v2 | _ => undef) (Ch2 4 8 ws.drew (ws.drew.alloc (.cells #[.string ⟨tx.toArray⟩] 9)) W2) 81 (by kernel_rfl) (by kernel_rfl) (by kernel_rfl) hsz51h.out Ch2.start ?_ ?_
          · intro i0 o0 hi0 dn aw xw hJ hd hpre hcl hsame hV K hK
            have hlt0 : i0 < 10 := (Array.getElem?_eq_some_iff.1 hi0).1
            rcases (show i0 = 0 ∨ i0 = 1 ∨ i0 = 2 ∨ i0 = 3 ∨ i0 = 4 ∨ i0 = 5 ∨ i0 = 6 ∨ i0 = 7 ∨ i0 = 8 ∨ i0 = 9 by omega) with rfl | rfl | rfl | rfl | rfl | rfl | rfl | rfl | rfl | rfl
            all_goals (have ho0 := Option.some.inj hi0; subst ho0; clear hi0 hlt0)
            · have q0 : aw.tmps[0]?.getD undef = .slice (some ⟨b, off, none⟩) n c := (hsame 0 (fun j hj => absurd hj (slot_free (by decide +kernel) j))).trans f0
              have hk := Lib.hid (show ∀ v x', v = .slice (some ⟨b, off, none⟩) n c → (Ch2 4 8 ws.drew (ws.drew.alloc (.cells #[.string ⟨tx.toArray⟩] 9)) W2) (also dn 0) x' → K (aw.put (some 61) v) x' from fun v x' h1 h2 => hK v x' (fun s hs => by cases hs; exact h1) h2)
              have HJ2 := Lib.hid hJ
              clear hsame hpre hcl hK hV hJ hd
              go_simp
              exact hk.out _ _ rfl (HJ2.out.more (by decide) (by decide))
            · have q5 : aw.tmps[5]?.getD undef = .int .i64 ((i : Nat) : Int) := (hsame 5 (fun j hj => absurd hj (slot_free (by decide +kernel) j))).trans f5
              have hk := Lib.hid (show ∀ v x', v = .int .i64 ((i : Nat) : Int) → (Ch2 4 8 ws.drew (ws.drew.alloc (.cells #[.string ⟨tx.toArray⟩] 9)) W2) (also dn 1) x' → K (aw.put (some 62) v) x' from fun v x' h1 h2 => hK v x' (fun s hs => by cases hs; exact h1) h2)
              have HJ2 := Lib.hid hJ
              clear hsame hpre hcl hK hV hJ hd
              go_simp
              exact hk.out _ _ rfl (HJ2.out.more (by decide) (by decide))
            · have q61 : aw.tmps[61]?.getD undef = .slice (some ⟨b, off, none⟩) n c := hV 0 61 (hpre ⟨0, .data⟩ (by simp) rfl) rfl
              have q62 : aw.tmps[62]?.getD undef = .int .i64 ((i : Nat) : Int) := hV 1 62 (hpre ⟨1, .data⟩ (by simp) rfl) rfl
              have hk := Lib.hid (show ∀ v x', v = .pointer (some ⟨b, off + i, none⟩) → (Ch2 4 8 ws.drew (ws.drew.alloc (.cells #[.string ⟨tx.toArray⟩] 9)) W2) (also dn 2) x' → K (aw.put (some 63) v) x' from fun v x' h1 h2 => hK v x' (fun s hs => by cases hs; exact h1) h2)
              have HJ2 := Lib.hid hJ
              clear hsame hpre hcl hK hV hJ hd
              go_simp
              exact hk.out _ _ rfl (HJ2.out.more (by decide) (by decide))
            · have q63 : aw.tmps[63]?.getD undef = .pointer (some ⟨b, off + i, none⟩) := hV 2 63 (hpre ⟨2, .data⟩ (by simp) rfl) rfl
              have hk := Lib.hid (show ∀ v x', v = .string ⟨tx.toArray⟩ → (Ch2 4 8 ws.drew (ws.drew.alloc (.cells #[.string ⟨tx.toArray⟩] 9)) W2) (also dn 3) x' → K (aw.put (some 64) v) x' from fun v x' h1 h2 => hK v x' (fun s hs => by cases hs; exact h1) h2)
              have HJ2 := Lib.hid hJ
              clear hsame hpre hcl hK hV hJ hd
              have c8 := Hcx.out _ (below_call Hbs.out (HJ2.out.all (p := fun z => Below ws.heap.size ws z) Hz0.out Hz1.out Hbc.out))
              go_simp
              exact hk.out _ _ rfl (HJ2.out.more (by decide) (by decide))
            · have q64 : aw.tmps[64]?.getD undef = .string ⟨tx.toArray⟩ := hV 3 64 (hpre ⟨3, .data⟩ (by simp) rfl) rfl
              have hk := Lib.hid (show ∀ v x', v = .slice (some ⟨ws.heap.size, 0, none⟩) 1 1 → (Ch2 4 8 ws.drew (ws.drew.alloc (.cells #[.string ⟨tx.toArray⟩] 9)) W2) (also dn 4) x' → K (aw.put (some 65) v) x' from fun v x' h1 h2 => hK v x' (fun s hs => by cases hs; exact h1) h2)
              obtain ⟨hxe, hJ3⟩ := hJ.first hd (by decide)
              subst hxe
              have HJ3 := Lib.hid hJ3
              clear hsame hpre hcl hK hV hJ hJ3 hd
              go_simp
              exact hk.out _ _ rfl HJ3.out
            · have q4 : aw.tmps[4]?.getD undef = .slice Au m cu := (hsame 4 (fun j hj => absurd hj (slot_free (by decide +kernel) j))).trans f4
              have hk := Lib.hid (show ∀ v x', v = .slice Au m cu → (Ch2 4 8 ws.drew (ws.drew.alloc (.cells #[.string ⟨tx.toArray⟩] 9)) W2) (also dn 5) x' → K (aw.put (some 66) v) x' from fun v x' h1 h2 => hK v x' (fun s hs => by cases hs; exact h1) h2)
              have HJ2 := Lib.hid hJ
              clear hsame hpre hcl hK hV hJ hd
              go_simp
              exact hk.out _ _ rfl (HJ2.out.more (by decide) (by decide))
            · have q6 : aw.tmps[6]?.getD undef = .int .i64 ((k : Nat) : Int) := (hsame 6 (fun j hj => absurd hj (slot_free (by decide +kernel) j))).trans f6
              have hk := Lib.hid (show ∀ v x', v = .int .i64 ((k : Nat) : Int) → (Ch2 4 8 ws.drew (ws.drew.alloc (.cells #[.string ⟨tx.toArray⟩] 9)) W2) (also dn 6) x' → K (aw.put (some 67) v) x' from fun v x' h1 h2 => hK v x' (fun s hs => by cases hs; exact h1) h2)
              have HJ2 := Lib.hid hJ
              clear hsame hpre hcl hK hV hJ hd
              go_simp
              exact hk.out _ _ rfl (HJ2.out.more (by decide) (by decide))
            · have q66 : aw.tmps[66]?.getD undef = .slice Au m cu := hV 5 66 (hpre ⟨5, .data⟩ (by simp) rfl) rfl
              have q67 : aw.tmps[67]?.getD undef = .int .i64 ((k : Nat) : Int) := hV 6 67 (hpre ⟨6, .data⟩ (by simp) rfl) rfl
              have hk := Lib.hid (show ∀ v x', v = .slice A3 m3 c3 → (Ch2 4 8 ws.drew (ws.drew.alloc (.cells #[.string ⟨tx.toArray⟩] 9)) W2) (also dn 7) x' → K (aw.put (some 68) v) x' from fun v x' h1 h2 => hK v x' (fun s hs => by cases hs; exact h1) h2)
              have HJ2 := Lib.hid hJ
              clear hsame hpre hcl hK hV hJ hd
              refine wp_fromT (.tmp 66) (.tmp 67) rfl (eval_at q66) (eval_at q67) Hfr.out ?_
              exact hk.out _ _ rfl (HJ2.out.more (by decide) (by decide))
            · have q65 : aw.tmps[65]?.getD undef = .slice (some ⟨ws.heap.size, 0, none⟩) 1 1 := hV 4 65 (hpre ⟨4, .data⟩ (by simp) rfl) rfl
              have q68 : aw.tmps[68]?.getD undef = .slice A3 m3 c3 := hV 7 68 (hpre ⟨7, .data⟩ (by simp) rfl) rfl
              have hk := Lib.hid (show ∀ v x', v = v2 → (Ch2 4 8 ws.drew (ws.drew.alloc (.cells #[.string ⟨tx.toArray⟩] 9)) W2) (also dn 8) x' → K (aw.put (some 69) v) x' from fun v x' h1 h2 => hK v x' (fun s hs => by cases hs; exact h1) h2)
              obtain ⟨hxe, hJ3⟩ := hJ.second (hpre ⟨4, .data⟩ (by simp) rfl) hd (by decide)
              subst hxe
              refine wp_append (.tmp 65) (.tmp 68) 22 rfl (by rw [eval_at q65, eval_at q68]; exact Hrun.out) ?_
              exact hk.out _ _ rfl hJ3
            · have q69 : aw.tmps[69]?.getD undef = v2 := hV 8 69 (hpre ⟨8, .data⟩ (by simp) rfl) rfl
              have hk := Lib.hid (show ∀ v x', v = v2 → (Ch2 4 8 ws.drew (ws.drew.alloc (.cells #[.string ⟨tx.toArray⟩] 9)) W2) (also dn 9) x' → K (aw.put (some 7) v) x' from fun v x' h1 h2 => hK v x' (fun s hs => by cases hs; exact h1) h2)
              have HJ2 := Lib.hid hJ
              clear hsame hpre hcl hK hV hJ hd
              go_simp
              exact hk.out _ _ rfl (HJ2.out.more (by decide) (by decide))
          intro dn a52 x52 hall hJ hsame hV hsz52 hde52
          have hx := hJ.done (hall 8 (by decide))
          rw [hx]
          clear hx
          replace f0 := (hsame 0 (slot_free (by decide +kernel))).trans f0
          replace f4 := (hsame 4 (slot_free (by decide +kernel))).trans f4
          replace f5 := (hsame 5 (slot_free (by decide +kernel))).trans f5
          replace f6 := (hsame 6 (slot_free (by decide +kernel))).trans f6
          have f7 : a52.tmps[7]?.getD undef = v2 := hV 9 7 (by decide) rfl
          have hsz52h := Lib.hid hsz52
          have hde52h := Lib.hid (hde52.trans hde51h.out)
          clear hsame hV hJ hall hsz52 hde52 hsz51h hde51h
          refine then_go ?_
          repeat with_reducible refine wp_seq ?_
          obtain ⟨Av, cv, hv2, hcv1, hcv2, hrv⟩ := OwnT.form Hownc.out
          obtain ⟨q, hq⟩ : ∃ q, q = (tx :: O.drop k).length := ⟨_, rfl⟩
          have hqm : q ≤ 1001 := by rw [hq]; simp; omega
          rw [← hq] at hv2 hcv1
          have Hq := Lib.hid hq
          subst hv2
          have Hrv := Lib.hid hrv
          have Hb2 := Lib.hid (below_call Hbs.out Hbc.out)
          have hru2 := Rd.upto_ (c := cu) (k := k) (Hru.out.grow Hb2.out)
          rw [← List.map_take] at hru2
          obtain ⟨A4, hA4⟩ : ∃ B, B = (if cu = 0 then (Au : Option Addr) else (Au : Option Addr).map (·.add (0 * 1))) := ⟨_, rfl⟩
          rw [← hA4] at hru2
          have hup := fun W : World => uptoT_run (A := Au) (n := m) hkc W
          rw [← hA4] at hup
          have Hup := Lib.hid hup
          have Hru2 := Lib.hid hru2
          have Htl := Lib.hid (show (O.take k).length = k by rw [List.length_take, ← Hm.out]; omega)
          clear hq hrv hru2 hA4 hup
          refine wp_region_lit ?_
          refine wpList_next rfl hsz52h hde52h 70 rfl (by decide) fun K hK => ?_
          go_simp
          refine hK _ _ fun a53 hsz53 hde53 f70 hk => ?_
          clear hK K
          replace f0 := (hk 0 (by decide)).trans f0
          replace f4 := (hk 4 (by decide)).trans f4
          replace f5 := (hk 5 (by decide)).trans f5
          replace f6 := (hk 6 (by decide)).trans f6
          replace f7 := (hk 7 (by decide)).trans f7
          replace f70 : a53.tmps[70]?.getD undef = .slice (some ⟨W2.heap.size, 0, none⟩) 0 0 := f70
          clear hk hsz52h hde52h
          refine wpList_next rfl hsz53 hde53 71 rfl (by decide) fun K hK => ?_
          go_simp
          refine hK _ _ fun a54 hsz54 hde54 f71 hk => ?_
          clear hK K
          replace f0 := (hk 0 (by decide)).trans f0
          replace f4 := (hk 4 (by decide)).trans f4
          replace f5 := (hk 5 (by decide)).trans f5
          replace f6 := (hk 6 (by decide)).trans f6
          replace f7 := (hk 7 (by decide)).trans f7
          replace f70 := (hk 70 (by decide)).trans f70
          replace f71 : a54.tmps[71]?.getD undef = .slice Au m cu := f71
          clear hk hsz53 hde53
          refine wpList_next rfl hsz54 hde54 72 rfl (by decide) fun K hK => ?_
          go_simp
          refine hK _ _ fun a55 hsz55 hde55 f72 hk => ?_
          clear hK K
          replace f0 := (hk 0 (by decide)).trans f0
          replace f4 := (hk 4 (by decide)).trans f4
          replace f5 := (hk 5 (by decide)).trans f5
          replace f6 := (hk 6 (by decide)).trans f6
          replace f7 := (hk 7 (by decide)).trans f7
          replace f70 := (hk 70 (by decide)).trans f70
          replace f71 := (hk 71 (by decide)).trans f71
          replace f72 : a55.tmps[72]?.getD undef = .int .i64 ((k : Nat) : Int) := f72
          clear hk hsz54 hde54
          refine wpList_next rfl hsz55 hde55 73 rfl (by decide) fun K hK => ?_
          refine wp_uptoT (.tmp 71) (.tmp 72) rfl (eval_at f71) (eval_at f72) Hup.out ?_
          refine hK _ _ fun a56 hsz56 hde56 f73 hk => ?_
          clear hK K
          replace f0 := (hk 0 (by decide)).trans f0
          replace f4 := (hk 4 (by decide)).trans f4
          replace f5 := (hk 5 (by decide)).trans f5
          replace f6 := (hk 6 (by decide)).trans f6
          replace f7 := (hk 7 (by decide)).trans f7
          replace f70 := (hk 70 (by decide)).trans f70
          replace f73 : a56.tmps[73]?.getD undef = .slice A4 k cu := f73
          clear hk hsz55 hde55 f71 f72
          refine wpList_next rfl hsz56 hde56 74 rfl (by decide) fun K hK => ?_
          obtain ⟨we, hwe⟩ : ∃ z, z = W2.alloc (.cells #[] 9) := ⟨_, rfl⟩
          have Hoe := Lib.hid (show OwnK we W2.heap.size 9 1 (.slice (some ⟨W2.heap.size, 0, none⟩) 0 0) 0 [] by rw [hwe]; exact OwnK.empty W2 9 1)
          have Hbe := Lib.hid (show Below W2.heap.size W2 we by rw [hwe]; exact (Below.refl _ _).alloc (Nat.le_refl _) _)
          rw [← hwe]
          clear hwe
          refine wp_appK elemS1 (.tmp 70) (.tmp 73) rfl W2.heap.size 0 _ [] (eval_at f70) Hoe.out _ A4 k cu ((O.take k).map str) (by rw [List.length_map, Htl.out]; omega) (eval_at f73) (Hru2.out.grow Hbe.out) (by intro u hu; obtain ⟨z, _, rfl⟩ := List.mem_map.1 hu; rfl) (by omega) (by omega) Hbe.out.size ?_
          intro v5 w5 hown5 hg5 hat5
          rw [Nat.zero_add, List.nil_append] at hown5
          refine hK _ _ fun a57 hsz57 hde57 f74 hk => ?_
          clear hK K
          replace f0 := (hk 0 (by decide)).trans f0
          replace f4 := (hk 4 (by decide)).trans f4
          replace f5 := (hk 5 (by decide)).trans f5
          replace f6 := (hk 6 (by decide)).trans f6
          replace f7 := (hk 7 (by decide)).trans f7
          replace f74 : a57.tmps[74]?.getD undef = v5 := f74
          clear hk hsz56 hde56 f70 f73
          have Hbf := Lib.hid (Hbe.out.trans (OwnK.below_of Hoe.out hg5 Hbe.out.size (Nat.le_refl _)))
          have Hown5 := Lib.hid hown5
          clear hown5 hg5 hat5
          refine wpList_next rfl hsz57 hde57 75 rfl (by decide) fun K hK => ?_
          go_simp
          refine hK _ _ fun a58 hsz58 hde58 f75 hk => ?_
          clear hK K
          replace f0 := (hk 0 (by decide)).trans f0
          replace f4 := (hk 4 (by decide)).trans f4
          replace f5 := (hk 5 (by decide)).trans f5
          replace f6 := (hk 6 (by decide)).trans f6
          replace f7 := (hk 7 (by decide)).trans f7
          replace f74 := (hk 74 (by decide)).trans f74
          replace f75 : a58.tmps[75]?.getD undef = .slice Av q cv := f75
          clear hk hsz57 hde57
          refine wpList_next rfl hsz58 hde58 76 rfl (by decide) fun K hK => ?_
          refine wp_appK elemS1 (.tmp 74) (.tmp 75) rfl W2.heap.size k _ ((O.take k).map str) (eval_at f74) Hown5.out _ Av q cv ((tx :: O.drop k).map str) (by rw [List.length_map, Hq.out, Nat.mul_one]) (eval_at f75) (Hrv.out.grow Hbf.out) (by intro u hu; obtain ⟨z, _, rfl⟩ := List.mem_map.1 hu; rfl) (by omega) (by omega) Hbf.out.size ?_
          intro v6 w6 hown6 hg6 hat6
          refine hK _ _ fun a59 hsz59 hde59 f76 hk => ?_
          clear hK K
          replace f0 := (hk 0 (by decide)).trans f0
          replace f4 := (hk 4 (by decide)).trans f4
          replace f5 := (hk 5 (by decide)).trans f5
          replace f6 := (hk 6 (by decide)).trans f6
          replace f7 := (hk 7 (by decide)).trans f7
          replace f76 : a59.tmps[76]?.getD undef = v6 := f76
          clear hk hsz58 hde58 f74 f75
          have Hbg := Lib.hid (Hbf.out.trans (OwnK.below_of Hown5.out hg6 Hbf.out.size (Nat.le_refl _)))
          have Hown6 := Lib.hid hown6
          clear hown6 hg6 hat6
          refine wpList_next rfl hsz59 hde59 4 rfl (by decide) fun K hK => ?_
          go_simp
          refine hK _ _ fun a60 hsz60 hde60 f4 hk => ?_
          clear hK K
          replace f0 := (hk 0 (by decide)).trans f0
          replace f5 := (hk 5 (by decide)).trans f5
          replace f6 := (hk 6 (by decide)).trans f6
          replace f7 := (hk 7 (by decide)).trans f7
          replace f4 : a60.tmps[4]?.getD undef = v6 := f4
          clear hk hsz59 hde59 f76
          refine wpList_nil ?_
          clear f6 f7
          repeat first | with_reducible refine block_go ?_ | with_reducible refine then_go ?_
          repeat with_reducible refine wp_seq ?_
          refine wp_region_lit ?_
          refine wpList_next rfl hsz60 hde60 12 rfl (by decide) fun K hK => ?_
          go_simp
          refine hK _ _ fun a61 hsz61 hde61 f12 hk => ?_
          clear hK K
          replace f0 := (hk 0 (by decide)).trans f0
          replace f5 := (hk 5 (by decide)).trans f5
          replace f4 := (hk 4 (by decide)).trans f4
          clear hk hsz60 hde60
          refine wpList_next rfl hsz61 hde61 13 rfl (by decide) fun K hK => ?_
          go_simp
          refine hK _ _ fun a62 hsz62 hde62 f13 hk => ?_
          clear hK K
          replace f0 := (hk 0 (by decide)).trans f0
          replace f5 := (hk 5 (by decide)).trans f5
          replace f4 := (hk 4 (by decide)).trans f4
          clear hk hsz61 hde61 f12
          replace f13 : a62.tmps[13]?.getD undef = .int .i64 (((i + 1 : Nat) : Int)) := f13.trans (by first | rfl | (congr 1; done) | (congr 1; omega) | (congr 1; rw [IntKind.wrap_i64] <;> omega))
          refine wpList_next rfl hsz62 hde62 5 rfl (by decide) fun K hK => ?_
          go_simp
          refine hK _ _ fun a63 hsz63 hde63 f5 hk => ?_
          clear hK K
          replace f0 := (hk 0 (by decide)).trans f0
          replace f4 := (hk 4 (by decide)).trans f4
          replace f5 : a63.tmps[5]?.getD undef = .int .i64 ((i + 1 : Nat) : Int) := f5
          clear hk hsz62 hde62 f13
          refine wpList_nil ?_
          refine then_go ?_
          have Hts6 := Lib.hid (show TextsAt w6 v6 (refOut L (i + 1)) by
            rw [Hins.out]
            refine OwnT.texts (base := W2.heap.size) ?_
            unfold OwnT
            rw [List.length_append, List.map_append, Htl.out, ← Hq.out]
            exact Hown6.out)
          exact ⟨n - (i + 1), by rw [Hn2.out]; omega, i + 1, v6, hsz63, hde63, f0, f4, f5, Lib.hid (by omega), Hall2, Hts6, Lib.hid (below_call Hbw.out (below_call Hb2.out Hbg.out)), rfl⟩
      have h0n : 0 < k := by omega
      obtain ⟨j, hj⟩ : ∃ j, j = k - 1 := ⟨_, rfl⟩
      have Hj := Lib.hid hj
      have hji : (k : Int) - 1 = (j : Int) := by omega
      have hj0 : (0 : Int) ≤ (j : Int) := by omega
      have hkm0 := Hk.out
      have hjm : (j : Int) < (m : Int) := by omega
      have hjO : j < O.length := by rw [← Hm.out]; omega
      have Hji := Lib.hid hji
      obtain ⟨b2, off2, hA2, hc2⟩ := cells_at (Below.refl _ wr) Hru.out (by intro e; subst e; simp at hjO)
      have c2 := hc2 j hjO
      obtain ⟨ty, hy⟩ : ∃ z, z = O[j] := ⟨_, rfl⟩
      rw [← hy] at c2
      have Hy := Lib.hid hy
      have Hcy := Lib.hid (show ∀ z, Below wr.heap.size wr z → z.cell? ⟨b2, off2 + j, none⟩ = some (.string ⟨ty.toArray⟩) from fun z hz => (hz.cell (p := ⟨b2, off2 + j, none⟩) (World.block_lt_of_cell? _ _ c2)).trans c2)
      obtain ⟨d, hd⟩ : ∃ d, d = decide (tx ≤ ty) := ⟨_, rfl⟩
      have Hd := Lib.hid hd
      have HA2 := Lib.hid hA2
      rw [hA2] at f4
      clear hc2 c2 hy hd hA2 hj hji hkm0
      cases d with
      | true =>
        refine wp_region_goodg (tblG [(22, .int .i64 ((k : Nat) : Int)), (23, .bool true), (24, .bool true), (25, .slice (some ⟨b, off, none⟩) n c), (26, .int .i64 ((i : Nat) : Int)), (27, .pointer (some ⟨b, off + i, none⟩)), (28, .string ⟨tx.toArray⟩), (29, .slice (some ⟨b2, off2, none⟩) m cu), (30, .int .i64 ((k : Nat) : Int)), (31, .int .i64 ((j : Nat) : Int)), (32, .pointer (some ⟨b2, off2 + j, none⟩)), (33, .string ⟨ty.toArray⟩), (34, .bool true), (35, .bool true)]) 81 (by kernel_rfl) (by kernel_rfl) (by kernel_rfl) (by kernel_rfl) hsz49.out ?_ ?_ ?_
        · intro t v7 x x' h _ _
          exact h
        · intro i7 o hi7 a x hbx hsame hpre K hK
          have hlt7 : i7 < 14 := (Array.getElem?_eq_some_iff.1 hi7).1
          rcases (show i7 = 0 ∨ i7 = 1 ∨ i7 = 2 ∨ i7 = 3 ∨ i7 = 4 ∨ i7 = 5 ∨ i7 = 6 ∨ i7 = 7 ∨ i7 = 8 ∨ i7 = 9 ∨ i7 = 10 ∨ i7 = 11 ∨ i7 = 12 ∨ i7 = 13 by omega) with rfl | rfl | rfl | rfl | rfl | rfl | rfl | rfl | rfl | rfl | rfl | rfl | rfl | rfl
          all_goals (have ho := Option.some.inj hi7; subst ho; clear hi7 hlt7)
          · have q6 : a.tmps[6]?.getD undef = .int .i64 ((k : Nat) : Int) := (hsame 6 (by decide +kernel)).trans f6
            refine step_plain rfl ?_
            have hk := Lib.hid (show ∀ v7 x', v7 = .int .i64 ((k : Nat) : Int) → Below x.heap.size x x' → K (a.put (some 22) v7) x' from hK)
            have Hbx := Lib.hid hbx
            clear hsame hpre hK hbx
            go_simp
            exact hk.out _ _ rfl (Below.refl _ _)
          · have q22 : a.tmps[22]?.getD undef = .int .i64 ((k : Nat) : Int) := hpre ⟨0, .data⟩ (by simp) rfl (by decide)
            refine step_plain rfl ?_
            have hk := Lib.hid (show ∀ v7 x', v7 = .bool true → Below x.heap.size x x' → K (a.put (some 23) v7) x' from hK)
            have Hbx := Lib.hid hbx
            clear hsame hpre hK hbx
            go_simp
            exact hk.out _ _ (by first | rfl | (congr 1; exact decide_eq_true (by omega)) | (simp; omega)) (Below.refl _ _)
          · have q23 : a.tmps[23]?.getD undef = .bool true := hpre ⟨1, .data⟩ (by simp) rfl (by decide)
            refine step_plain rfl ?_
            have hk := Lib.hid (show ∀ v7 x', v7 = .bool true → Below x.heap.size x x' → K (a.put (some 24) v7) x' from hK)
            have Hbx := Lib.hid hbx
            clear hsame hpre hK hbx
            go_simp
            exact hk.out _ _ rfl (Below.refl _ _)
          · have q0 : a.tmps[0]?.getD undef = .slice (some ⟨b, off, none⟩) n c := (hsame 0 (by decide +kernel)).trans f0
            have w24 : a.tmps[24]?.getD undef = .bool true := hpre ⟨2, .guard⟩ (by simp) rfl (by decide)
            refine step_wanted (wanted_of (j := 2) (t := 24) (b := true) rfl rfl w24) ?_
            have hk := Lib.hid (show ∀ v7 x', v7 = .slice (some ⟨b, off, none⟩) n c → Below x.heap.size x x' → K (a.put (some 25) v7) x' from hK)
            have Hbx := Lib.hid hbx
            clear hsame hpre hK hbx w24
            go_simp
            exact hk.out _ _ rfl (Below.refl _ _)
          · have q5 : a.tmps[5]?.getD undef = .int .i64 ((i : Nat) : Int) := (hsame 5 (by decide +kernel)).trans f5
            have w24 : a.tmps[24]?.getD undef = .bool true := hpre ⟨2, .guard⟩ (by simp) rfl (by decide)
            refine step_wanted (wanted_of (j := 2) (t := 24) (b := true) rfl rfl w24) ?_
            have hk := Lib.hid (show ∀ v7 x', v7 = .int .i64 ((i : Nat) : Int) → Below x.heap.size x x' → K (a.put (some 26) v7) x' from hK)
            have Hbx := Lib.hid hbx
            clear hsame hpre hK hbx w24
            go_simp
            exact hk.out _ _ rfl (Below.refl _ _)
          · have q25 : a.tmps[25]?.getD undef = .slice (some ⟨b, off, none⟩) n c := hpre ⟨3, .data⟩ (by simp) rfl (by decide)
            have q26 : a.tmps[26]?.getD undef = .int .i64 ((i : Nat) : Int) := hpre ⟨4, .data⟩ (by simp) rfl (by decide)
            have w24 : a.tmps[24]?.getD undef = .bool true := hpre ⟨2, .guard⟩ (by simp) rfl (by decide)
            refine step_wanted (wanted_of (j := 2) (t := 24) (b := true) rfl rfl w24) ?_
            have hk := Lib.hid (show ∀ v7 x', v7 = .pointer (some ⟨b, off + i, none⟩) → Below x.heap.size x x' → K (a.put (some 27) v7) x' from hK)
            have Hbx := Lib.hid hbx
            clear hsame hpre hK hbx w24
            go_simp
            exact hk.out _ _ rfl (Below.refl _ _)
          · have q27 : a.tmps[27]?.getD undef = .pointer (some ⟨b, off + i, none⟩) := hpre ⟨5, .data⟩ (by simp) rfl (by decide)
            have w24 : a.tmps[24]?.getD undef = .bool true := hpre ⟨2, .guard⟩ (by simp) rfl (by decide)
            refine step_wanted (wanted_of (j := 2) (t := 24) (b := true) rfl rfl w24) ?_
            have hk := Lib.hid (show ∀ v7 x', v7 = .string ⟨tx.toArray⟩ → Below x.heap.size x x' → K (a.put (some 28) v7) x' from hK)
            have Hbx := Lib.hid hbx
            clear hsame hpre hK hbx w24
            have c8 := Hcx.out _ (below_call Hbq.out Hbx.out)
            go_simp
            exact hk.out _ _ rfl (Below.refl _ _)
          · have q4 : a.tmps[4]?.getD undef = .slice (some ⟨b2, off2, none⟩) m cu := (hsame 4 (by decide +kernel)).trans f4
            have w24 : a.tmps[24]?.getD undef = .bool true := hpre ⟨2, .guard⟩ (by simp) rfl (by decide)
            refine step_wanted (wanted_of (j := 2) (t := 24) (b := true) rfl rfl w24) ?_
            have hk := Lib.hid (show ∀ v7 x', v7 = .slice (some ⟨b2, off2, none⟩) m cu → Below x.heap.size x x' → K (a.put (some 29) v7) x' from hK)
            have Hbx := Lib.hid hbx
            clear hsame hpre hK hbx w24
            go_simp
            exact hk.out _ _ rfl (Below.refl _ _)
          · have q6 : a.tmps[6]?.getD undef = .int .i64 ((k : Nat) : Int) := (hsame 6 (by decide +kernel)).trans f6
            have w24 : a.tmps[24]?.getD undef = .bool true := hpre ⟨2, .guard⟩ (by simp) rfl (by decide)
            refine step_wanted (wanted_of (j := 2) (t := 24) (b := true) rfl rfl w24) ?_
            have hk := Lib.hid (show ∀ v7 x', v7 = .int .i64 ((k : Nat) : Int) → Below x.heap.size x x' → K (a.put (some 30) v7) x' from hK)
            have Hbx := Lib.hid hbx
            clear hsame hpre hK hbx w24
            go_simp
            exact hk.out _ _ rfl (Below.refl _ _)
          · have q30 : a.tmps[30]?.getD undef = .int .i64 ((k : Nat) : Int) := hpre ⟨8, .data⟩ (by simp) rfl (by decide)
            have w24 : a.tmps[24]?.getD undef = .bool true := hpre ⟨2, .guard⟩ (by simp) rfl (by decide)
            refine step_wanted (wanted_of (j := 2) (t := 24) (b := true) rfl rfl w24) ?_
            have hk := Lib.hid (show ∀ v7 x', v7 = .int .i64 ((j : Nat) : Int) → Below x.heap.size x x' → K (a.put (some 31) v7) x' from hK)
            have Hbx := Lib.hid hbx
            clear hsame hpre hK hbx w24
            have h7 := Hji.out
            go_simp
            exact hk.out _ _ (by first | rfl | (rw [h7]; done) | (congr 1; done) | (congr 1; omega) | (congr 1; rw [IntKind.wrap_i64] <;> omega)) (Below.refl _ _)
          · have q29 : a.tmps[29]?.getD undef = .slice (some ⟨b2, off2, none⟩) m cu := hpre ⟨7, .data⟩ (by simp) rfl (by decide)
            have q31 : a.tmps[31]?.getD undef = .int .i64 ((j : Nat) : Int) := hpre ⟨9, .data⟩ (by simp) rfl (by decide)
            have w24 : a.tmps[24]?.getD undef = .bool true := hpre ⟨2, .guard⟩ (by simp) rfl (by decide)
            refine step_wanted (wanted_of (j := 2) (t := 24) (b := true) rfl rfl w24) ?_
            have hk := Lib.hid (show ∀ v7 x', v7 = .pointer (some ⟨b2, off2 + j, none⟩) → Below x.heap.size x x' → K (a.put (some 32) v7) x' from hK)
            have Hbx := Lib.hid hbx
            clear hsame hpre hK hbx w24
            go_simp
            exact hk.out _ _ rfl (Below.refl _ _)
          · have q32 : a.tmps[32]?.getD undef = .pointer (some ⟨b2, off2 + j, none⟩) := hpre ⟨10, .data⟩ (by simp) rfl (by decide)
            have w24 : a.tmps[24]?.getD undef = .bool true := hpre ⟨2, .guard⟩ (by simp) rfl (by decide)
            refine step_wanted (wanted_of (j := 2) (t := 24) (b := true) rfl rfl w24) ?_
            have hk := Lib.hid (show ∀ v7 x', v7 = .string ⟨ty.toArray⟩ → Below x.heap.size x x' → K (a.put (some 33) v7) x' from hK)
            have Hbx := Lib.hid hbx
            clear hsame hpre hK hbx w24
            have c8 := Hcy.out _ (below_call Hbq.out Hbx.out)
            go_simp
            exact hk.out _ _ rfl (Below.refl _ _)
          · have q28 : a.tmps[28]?.getD undef = .string ⟨tx.toArray⟩ := hpre ⟨6, .data⟩ (by simp) rfl (by decide)
            have q33 : a.tmps[33]?.getD undef = .string ⟨ty.toArray⟩ := hpre ⟨11, .data⟩ (by simp) rfl (by decide)
            have w24 : a.tmps[24]?.getD undef = .bool true := hpre ⟨2, .guard⟩ (by simp) rfl (by decide)
            refine step_wanted (wanted_of (j := 2) (t := 24) (b := true) rfl rfl w24) ?_
            have hk := Lib.hid (show ∀ v7 x', v7 = .bool true → Below x.heap.size x x' → K (a.put (some 34) v7) x' from hK)
            have Hbx := Lib.hid hbx
            clear hsame hpre hK hbx w24
            go_simp
            exact hk.out _ _ (by rw [leq_val, ← Hd.out]) (Below.refl _ _)
          · have q24 : a.tmps[24]?.getD undef = .bool true := hpre ⟨2, .data⟩ (by simp) rfl (by decide)
            have q34 : a.tmps[34]?.getD undef = .bool true := hpre ⟨12, .data⟩ (by simp) rfl (by decide)
            refine step_plain rfl ?_
            have hk := Lib.hid (show ∀ v7 x', v7 = .bool true → Below x.heap.size x x' → K (a.put (some 35) v7) x' from hK)
            have Hbx := Lib.hid hbx
            clear hsame hpre hK hbx
            go_simp
            exact hk.out _ _ rfl (Below.refl _ _)
        intro a50 x50 hbx hsame hG hsz50 hde50
        replace f0 := (hsame 0 (by decide +kernel)).trans f0
        replace f4 := (hsame 4 (by decide +kernel)).trans f4
        replace f5 := (hsame 5 (by decide +kernel)).trans f5
        replace f6 := (hsame 6 (by decide +kernel)).trans f6
        have f35 : a50.tmps[35]?.getD undef = .bool true := hG 13 (by decide)
        have Hbx50 := Lib.hid hbx
        have hsz50h := Lib.hid hsz50
        have hde50h := Lib.hid (hde50.trans hde49.out)
        clear hsame hG hbx hsz50 hde50 hsz49 hde49
        rw [← HA2.out] at f4
        have Hbr := Lib.hid (below_call Hbq.out Hbx50.out)
        refine then_go ?_
        repeat with_reducible refine wp_seq ?_
        refine wp_cond_true (eval_at f35) ?_
        refine wp_skip ?_
        refine then_go ?_
        clear f35
        repeat with_reducible refine wp_seq ?_
        refine wp_block ?_
        repeat with_reducible refine wp_seq ?_
        refine wp_region_lit ?_
        refine wpList_next rfl hsz50h hde50h 36 rfl (by decide) fun K hK => ?_
        go_simp
        refine hK _ _ fun a51 hsz51 hde51 f36 hk => ?_
        clear hK K
        replace f0 := (hk 0 (by decide)).trans f0
        replace f4 := (hk 4 (by decide)).trans f4
        replace f5 := (hk 5 (by decide)).trans f5
        replace f6 := (hk 6 (by decide)).trans f6
        replace f36 : a51.tmps[36]?.getD undef = .int .i64 ((k : Nat) : Int) := f36
        clear hk hsz50h hde50h
        refine wpList_next rfl hsz51 hde51 37 rfl (by decide) fun K hK => ?_
        have h7 := Hji.out
        go_simp
        refine hK _ _ fun a52 hsz52 hde52 f37 hk => ?_
        clear hK K
        replace f0 := (hk 0 (by decide)).trans f0
        replace f4 := (hk 4 (by decide)).trans f4
        replace f5 := (hk 5 (by decide)).trans f5
        replace f6 := (hk 6 (by decide)).trans f6
        clear hk hsz51 hde51 f36
        replace f37 : a52.tmps[37]?.getD undef = .int .i64 ((j : Nat) : Int) := f37.trans (by first | rfl | (rw [h7]; done) | (congr 1; done) | (congr 1; omega) | (congr 1; rw [IntKind.wrap_i64] <;> omega))
        clear h7
        refine wpList_next rfl hsz52 hde52 6 rfl (by decide) fun K hK => ?_
        go_simp
        refine hK _ _ fun a53 hsz53 hde53 f6 hk => ?_
        clear hK K
        replace f0 := (hk 0 (by decide)).trans f0
        replace f4 := (hk 4 (by decide)).trans f4
        replace f5 := (hk 5 (by decide)).trans f5
        replace f6 : a53.tmps[6]?.getD undef = .int .i64 ((j : Nat) : Int) := f6
        clear hk hsz52 hde52 f37
        refine wpList_nil ?_
        repeat first | with_reducible refine block_go ?_ | with_reducible refine then_go ?_
        exact ⟨j, by rw [Hn3.out]; have := Hj.out; omega, j, hsz53, hde53, f0, f4, f5, f6, Lib.hid (by have := Hk.out; have := Hj.out; omega), Lib.hid (fun t h1 h2 => by
          by_cases e : t = j
          · subst e; rw [← Hy.out]; exact of_decide_eq_true Hd.out.symm
          · exact Hge.out t (by have := Hj.out; omega) h2), Hbr, rfl⟩
      | false =>
        refine wp_region_goodg (tblG [(22, .int .i64 ((k : Nat) : Int)), (23, .bool true), (24, .bool true), (25, .slice (some ⟨b, off, none⟩) n c), (26, .int .i64 ((i : Nat) : Int)), (27, .pointer (some ⟨b, off + i, none⟩)), (28, .string ⟨tx.toArray⟩), (29, .slice (some ⟨b2, off2, none⟩) m cu), (30, .int .i64 ((k : Nat) : Int)), (31, .int .i64 ((j : Nat) : Int)), (32, .pointer (some ⟨b2, off2 + j, none⟩)), (33, .string ⟨ty.toArray⟩), (34, .bool false), (35, .bool false)]) 81 (by kernel_rfl) (by kernel_rfl) (by kernel_rfl) (by kernel_rfl) hsz49.out ?_ ?_ ?_
        · intro t v7 x x' h _ _
          exact h
        · intro i7 o hi7 a x hbx hsame hpre K hK
          have hlt7 : i7 < 14 := (Array.getElem?_eq_some_iff.1 hi7).1
          rcases (show i7 = 0 ∨ i7 = 1 ∨ i7 = 2 ∨ i7 = 3 ∨ i7 = 4 ∨ i7 = 5 ∨ i7 = 6 ∨ i7 = 7 ∨ i7 = 8 ∨ i7 = 9 ∨ i7 = 10 ∨ i7 = 11 ∨ i7 = 12 ∨ i7 = 13 by omega) with rfl | rfl | rfl | rfl | rfl | rfl | rfl | rfl | rfl | rfl | rfl | rfl | rfl | rfl
          all_goals (have ho := Option.some.inj hi7; subst ho; clear hi7 hlt7)
          · have q6 : a.tmps[6]?.getD undef = .int .i64 ((k : Nat) : Int) := (hsame 6 (by decide +kernel)).trans f6
            refine step_plain rfl ?_
            have hk := Lib.hid (show ∀ v7 x', v7 = .int .i64 ((k : Nat) : Int) → Below x.heap.size x x' → K (a.put (some 22) v7) x' from hK)
            have Hbx := Lib.hid hbx
            clear hsame hpre hK hbx
            go_simp
            exact hk.out _ _ rfl (Below.refl _ _)
          · have q22 : a.tmps[22]?.getD undef = .int .i64 ((k : Nat) : Int) := hpre ⟨0, .data⟩ (by simp) rfl (by decide)
            refine step_plain rfl ?_
            have hk := Lib.hid (show ∀ v7 x', v7 = .bool true → Below x.heap.size x x' → K (a.put (some 23) v7) x' from hK)
            have Hbx := Lib.hid hbx
            clear hsame hpre hK hbx
            go_simp
            exact hk.out _ _ (by first | rfl | (congr 1; exact decide_eq_true (by omega)) | (simp; omega)) (Below.refl _ _)
          · have q23 : a.tmps[23]?.getD undef = .bool true := hpre ⟨1, .data⟩ (by simp) rfl (by decide)
            refine step_plain rfl ?_
            have hk := Lib.hid (show ∀ v7 x', v7 = .bool true → Below x.heap.size x x' → K (a.put (some 24) v7) x' from hK)
            have Hbx := Lib.hid hbx
            clear hsame hpre hK hbx
            go_simp
            exact hk.out _ _ rfl (Below.refl _ _)
          · have q0 : a.tmps[0]?.getD undef = .slice (some ⟨b, off, none⟩) n c := (hsame 0 (by decide +kernel)).trans f0
            have w24 : a.tmps[24]?.getD undef = .bool true := hpre ⟨2, .guard⟩ (by simp) rfl (by decide)
            refine step_wanted (wanted_of (j := 2) (t := 24) (b := true) rfl rfl w24) ?_
            have hk := Lib.hid (show ∀ v7 x', v7 = .slice (some ⟨b, off, none⟩) n c → Below x.heap.size x x' → K (a.put (some 25) v7) x' from hK)
            have Hbx := Lib.hid hbx
            clear hsame hpre hK hbx w24
            go_simp
            exact hk.out _ _ rfl (Below.refl _ _)
          · have q5 : a.tmps[5]?.getD undef = .int .i64 ((i : Nat) : Int) := (hsame 5 (by decide +kernel)).trans f5
            have w24 : a.tmps[24]?.getD undef = .bool true := hpre ⟨2, .guard⟩ (by simp) rfl (by decide)
            refine step_wanted (wanted_of (j := 2) (t := 24) (b := true) rfl rfl w24) ?_
            have hk := Lib.hid (show ∀ v7 x', v7 = .int .i64 ((i : Nat) : Int) → Below x.heap.size x x' → K (a.put (some 26) v7) x' from hK)
            have Hbx := Lib.hid hbx
            clear hsame hpre hK hbx w24
            go_simp
            exact hk.out _ _ rfl (Below.refl _ _)
          · have q25 : a.tmps[25]?.getD undef = .slice (some ⟨b, off, none⟩) n c := hpre ⟨3, .data⟩ (by simp) rfl (by decide)
            have q26 : a.tmps[26]?.getD undef = .int .i64 ((i : Nat) : Int) := hpre ⟨4, .data⟩ (by simp) rfl (by decide)
            have w24 : a.tmps[24]?.getD undef = .bool true := hpre ⟨2, .guard⟩ (by simp) rfl (by decide)
            refine step_wanted (wanted_of (j := 2) (t := 24) (b := true) rfl rfl w24) ?_
            have hk := Lib.hid (show ∀ v7 x', v7 = .pointer (some ⟨b, off + i, none⟩) → Below x.heap.size x x' → K (a.put (some 27) v7) x' from hK)
            have Hbx := Lib.hid hbx
            clear hsame hpre hK hbx w24
            go_simp
            exact hk.out _ _ rfl (Below.refl _ _)
          · have q27 : a.tmps[27]?.getD undef = .pointer (some ⟨b, off + i, none⟩) := hpre ⟨5, .data⟩ (by simp) rfl (by decide)
            have w24 : a.tmps[24]?.getD undef = .bool true := hpre ⟨2, .guard⟩ (by simp) rfl (by decide)
            refine step_wanted (wanted_of (j := 2) (t := 24) (b := true) rfl rfl w24) ?_
            have hk := Lib.hid (show ∀ v7 x', v7 = .string ⟨tx.toArray⟩ → Below x.heap.size x x' → K (a.put (some 28) v7) x' from hK)
            have Hbx := Lib.hid hbx
            clear hsame hpre hK hbx w24
            have c8 := Hcx.out _ (below_call Hbq.out Hbx.out)
            go_simp
            exact hk.out _ _ rfl (Below.refl _ _)
          · have q4 : a.tmps[4]?.getD undef = .slice (some ⟨b2, off2, none⟩) m cu := (hsame 4 (by decide +kernel)).trans f4
            have w24 : a.tmps[24]?.getD undef = .bool true := hpre ⟨2, .guard⟩ (by simp) rfl (by decide)
            refine step_wanted (wanted_of (j := 2) (t := 24) (b := true) rfl rfl w24) ?_
            have hk := Lib.hid (show ∀ v7 x', v7 = .slice (some ⟨b2, off2, none⟩) m cu → Below x.heap.size x x' → K (a.put (some 29) v7) x' from hK)
            have Hbx := Lib.hid hbx
            clear hsame hpre hK hbx w24
            go_simp
            exact hk.out _ _ rfl (Below.refl _ _)
          · have q6 : a.tmps[6]?.getD undef = .int .i64 ((k : Nat) : Int) := (hsame 6 (by decide +kernel)).trans f6
            have w24 : a.tmps[24]?.getD undef = .bool true := hpre ⟨2, .guard⟩ (by simp) rfl (by decide)
            refine step_wanted (wanted_of (j := 2) (t := 24) (b := true) rfl rfl w24) ?_
            have hk := Lib.hid (show ∀ v7 x', v7 = .int .i64 ((k : Nat) : Int) → Below x.heap.size x x' → K (a.put (some 30) v7) x' from hK)
            have Hbx := Lib.hid hbx
            clear hsame hpre hK hbx w24
            go_simp
            exact hk.out _ _ rfl (Below.refl _ _)
          · have q30 : a.tmps[30]?.getD undef = .int .i64 ((k : Nat) : Int) := hpre ⟨8, .data⟩ (by simp) rfl (by decide)
            have w24 : a.tmps[24]?.getD undef = .bool true := hpre ⟨2, .guard⟩ (by simp) rfl (by decide)
            refine step_wanted (wanted_of (j := 2) (t := 24) (b := true) rfl rfl w24) ?_
            have hk := Lib.hid (show ∀ v7 x', v7 = .int .i64 ((j : Nat) : Int) → Below x.heap.size x x' → K (a.put (some 31) v7) x' from hK)
            have Hbx := Lib.hid hbx
            clear hsame hpre hK hbx w24
            have h7 := Hji.out
            go_simp
            exact hk.out _ _ (by first | rfl | (rw [h7]; done) | (congr 1; done) | (congr 1; omega) | (congr 1; rw [IntKind.wrap_i64] <;> omega)) (Below.refl _ _)
          · have q29 : a.tmps[29]?.getD undef = .slice (some ⟨b2, off2, none⟩) m cu := hpre ⟨7, .data⟩ (by simp) rfl (by decide)
            have q31 : a.tmps[31]?.getD undef = .int .i64 ((j : Nat) : Int) := hpre ⟨9, .data⟩ (by simp) rfl (by decide)
            have w24 : a.tmps[24]?.getD undef = .bool true := hpre ⟨2, .guard⟩ (by simp) rfl (by decide)
            refine step_wanted (wanted_of (j := 2) (t := 24) (b := true) rfl rfl w24) ?_
            have hk := Lib.hid (show ∀ v7 x', v7 = .pointer (some ⟨b2, off2 + j, none⟩) → Below x.heap.size x x' → K (a.put (some 32) v7) x' from hK)
            have Hbx := Lib.hid hbx
            clear hsame hpre hK hbx w24
            go_simp
            exact hk.out _ _ rfl (Below.refl _ _)
          · have q32 : a.tmps[32]?.getD undef = .pointer (some ⟨b2, off2 + j, none⟩) := hpre ⟨10, .data⟩ (by simp) rfl (by decide)
            have w24 : a.tmps[24]?.getD undef = .bool true := hpre ⟨2, .guard⟩ (by simp) rfl (by decide)
            refine step_wanted (wanted_of (j := 2) (t := 24) (b := true) rfl rfl w24) ?_
            have hk := Lib.hid (show ∀ v7 x', v7 = .string ⟨ty.toArray⟩ → Below x.heap.size x x' → K (a.put (some 33) v7) x' from hK)
            have Hbx := Lib.hid hbx
            clear hsame hpre hK hbx w24
            have c8 := Hcy.out _ (below_call Hbq.out Hbx.out)
            go_simp
            exact hk.out _ _ rfl (Below.refl _ _)
          · have q28 : a.tmps[28]?.getD undef = .string ⟨tx.toArray⟩ := hpre ⟨6, .data⟩ (by simp) rfl (by decide)
            have q33 : a.tmps[33]?.getD undef = .string ⟨ty.toArray⟩ := hpre ⟨11, .data⟩ (by simp) rfl (by decide)
            have w24 : a.tmps[24]?.getD undef = .bool true := hpre ⟨2, .guard⟩ (by simp) rfl (by decide)
            refine step_wanted (wanted_of (j := 2) (t := 24) (b := true) rfl rfl w24) ?_
            have hk := Lib.hid (show ∀ v7 x', v7 = .bool false → Below x.heap.size x x' → K (a.put (some 34) v7) x' from hK)
            have Hbx := Lib.hid hbx
            clear hsame hpre hK hbx w24
            go_simp
            exact hk.out _ _ (by rw [leq_val, ← Hd.out]) (Below.refl _ _)
          · have q24 : a.tmps[24]?.getD undef = .bool true := hpre ⟨2, .data⟩ (by simp) rfl (by decide)
            have q34 : a.tmps[34]?.getD undef = .bool false := hpre ⟨12, .data⟩ (by simp) rfl (by decide)
            refine step_plain rfl ?_
            have hk := Lib.hid (show ∀ v7 x', v7 = .bool false → Below x.heap.size x x' → K (a.put (some 35) v7) x' from hK)
            have Hbx := Lib.hid hbx
            clear hsame hpre hK hbx
            go_simp
            exact hk.out _ _ rfl (Below.refl _ _)
        intro a50 x50 hbx hsame hG hsz50 hde50
        replace f0 := (hsame 0 (by decide +kernel)).trans f0
        replace f4 := (hsame 4 (by decide +kernel)).trans f4
        replace f5 := (hsame 5 (by decide +kernel)).trans f5
        replace f6 := (hsame 6 (by decide +kernel)).trans f6
        have f35 : a50.tmps[35]?.getD undef = .bool false := hG 13 (by decide)
        have Hbx50 := Lib.hid hbx
        have hsz50h := Lib.hid hsz50
        have hde50h := Lib.hid (hde50.trans hde49.out)
        clear hsame hG hbx hsz50 hde50 hsz49 hde49
        rw [← HA2.out] at f4
        have Hbr := Lib.hid (below_call Hbq.out Hbx50.out)
        refine then_go ?_
        repeat with_reducible refine wp_seq ?_
        refine wp_cond_false (eval_at f35) ?_
        refine wp_exit ?_
        repeat with_reducible refine then_exit ?_
        refine block_exit ?_
        repeat first | with_reducible refine block_go ?_ | with_reducible refine then_go ?_
        clear f35
        repeat with_reducible refine wp_seq ?_
        have Hat := Lib.hid (show insAt O tx = k from insAt_eq (by have := Hk.out; have := Hm.out; omega) Hge.out (.inr ⟨by rw [← Hj.out]; exact hjO, by have h7 := Hd.out; have h8 := Hy.out; have h9 := Hj.out; subst h9; rw [← h8]; exact of_decide_eq_false h7.symm⟩))
        cases ub with
        | true =>
          refine wp_region_goodg (tblG [(38, .slice (some ⟨b, off, none⟩) n c), (39, .slice (some ⟨b, off, none⟩) n c), (40, .int .i64 ((i : Nat) : Int)), (41, .pointer (some ⟨b, off + i, none⟩)), (42, .string ⟨tx.toArray⟩), (43, .bool true), (44, .bool true), (45, undef), (46, undef), (47, undef), (48, undef), (49, undef), (50, undef), (51, undef), (52, undef), (53, undef), (54, undef), (55, undef), (56, undef), (57, undef), (58, undef), (59, undef), (60, .bool true)]) 81 (by kernel_rfl) (by kernel_rfl) (by kernel_rfl) (by kernel_rfl) hsz50h.out ?_ ?_ ?_
          · intro t v7 x x' h _ _
            exact h
          · intro i7 o hi7 a x hbx hsame hpre K hK
            have hlt7 : i7 < 23 := (Array.getElem?_eq_some_iff.1 hi7).1
            rcases (show i7 = 0 ∨ i7 = 1 ∨ i7 = 2 ∨ i7 = 3 ∨ i7 = 4 ∨ i7 = 5 ∨ i7 = 6 ∨ i7 = 7 ∨ i7 = 8 ∨ i7 = 9 ∨ i7 = 10 ∨ i7 = 11 ∨ i7 = 12 ∨ i7 = 13 ∨ i7 = 14 ∨ i7 = 15 ∨ i7 = 16 ∨ i7 = 17 ∨ i7 = 18 ∨ i7 = 19 ∨ i7 = 20 ∨ i7 = 21 ∨ i7 = 22 by omega) with rfl | rfl | rfl | rfl | rfl | rfl | rfl | rfl | rfl | rfl | rfl | rfl | rfl | rfl | rfl | rfl | rfl | rfl | rfl | rfl | rfl | rfl | rfl
            all_goals (have ho := Option.some.inj hi7; subst ho; clear hi7 hlt7)
            · have q0 : a.tmps[0]?.getD undef = .slice (some ⟨b, off, none⟩) n c := (hsame 0 (by decide +kernel)).trans f0
              refine step_plain rfl ?_
              have hk := Lib.hid (show ∀ v7 x', v7 = .slice (some ⟨b, off, none⟩) n c → Below x.heap.size x x' → K (a.put (some 38) v7) x' from hK)
              have Hbx := Lib.hid hbx
              clear hsame hpre hK hbx
              go_simp
              exact hk.out _ _ rfl (Below.refl _ _)
            · have q0 : a.tmps[0]?.getD undef = .slice (some ⟨b, off, none⟩) n c := (hsame 0 (by decide +kernel)).trans f0
              refine step_plain rfl ?_
              have hk := Lib.hid (show ∀ v7 x', v7 = .slice (some ⟨b, off, none⟩) n c → Below x.heap.size x x' → K (a.put (some 39) v7) x' from hK)
              have Hbx := Lib.hid hbx
              clear hsame hpre hK hbx
              go_simp
              exact hk.out _ _ rfl (Below.refl _ _)
            · have q5 : a.tmps[5]?.getD undef = .int .i64 ((i : Nat) : Int) := (hsame 5 (by decide +kernel)).trans f5
              refine step_plain rfl ?_
              have hk := Lib.hid (show ∀ v7 x', v7 = .int .i64 ((i : Nat) : Int) → Below x.heap.size x x' → K (a.put (some 40) v7) x' from hK)
              have Hbx := Lib.hid hbx
              clear hsame hpre hK hbx
              go_simp
              exact hk.out _ _ rfl (Below.refl _ _)
            · have q39 : a.tmps[39]?.getD undef = .slice (some ⟨b, off, none⟩) n c := hpre ⟨1, .data⟩ (by simp) rfl (by decide)
              have q40 : a.tmps[40]?.getD undef = .int .i64 ((i : Nat) : Int) := hpre ⟨2, .data⟩ (by simp) rfl (by decide)
              refine step_plain rfl ?_
              have hk := Lib.hid (show ∀ v7 x', v7 = .pointer (some ⟨b, off + i, none⟩) → Below x.heap.size x x' → K (a.put (some 41) v7) x' from hK)
              have Hbx := Lib.hid hbx
              clear hsame hpre hK hbx
              go_simp
              exact hk.out _ _ rfl (Below.refl _ _)
            · have q41 : a.tmps[41]?.getD undef = .pointer (some ⟨b, off + i, none⟩) := hpre ⟨3, .data⟩ (by simp) rfl (by decide)
              refine step_plain rfl ?_
              have hk := Lib.hid (show ∀ v7 x', v7 = .string ⟨tx.toArray⟩ → Below x.heap.size x x' → K (a.put (some 42) v7) x' from hK)
              have Hbx := Lib.hid hbx
              clear hsame hpre hK hbx
              have c8 := Hcx.out _ (below_call Hbr.out Hbx.out)
              go_simp
              exact hk.out _ _ rfl (Below.refl _ _)
            · have q38 : a.tmps[38]?.getD undef = .slice (some ⟨b, off, none⟩) n c := hpre ⟨0, .data⟩ (by simp) rfl (by decide)
              have q42 : a.tmps[42]?.getD undef = .string ⟨tx.toArray⟩ := hpre ⟨4, .data⟩ (by simp) rfl (by decide)
              refine step_plain rfl ?_
              have hk := Lib.hid (show ∀ v7 x', v7 = .bool true → Below x.heap.size x x' → K (a.put (some 43) v7) x' from hK)
              have Hbx := Lib.hid hbx
              clear hsame hpre hK hbx
              go_simp
              refine (Hux.out _ (below_call Hbr.out Hbx.out)).mono ?_
              rintro e2 w2 ⟨rfl, hb2⟩
              go_simp
              exact hk.out _ _ rfl hb2
            · have q43 : a.tmps[43]?.getD undef = .bool true := hpre ⟨5, .data⟩ (by simp) rfl (by decide)
              refine step_plain rfl ?_
              have hk := Lib.hid (show ∀ v7 x', v7 = .bool true → Below x.heap.size x x' → K (a.put (some 44) v7) x' from hK)
              have Hbx := Lib.hid hbx
              clear hsame hpre hK hbx
              go_simp
              exact hk.out _ _ rfl (Below.refl _ _)
            · have w44 : a.tmps[44]?.getD undef = .bool true := hpre ⟨6, .guard⟩ (by simp) rfl (by decide)
              refine step_left (not_wanted (j := 6) (t := 44) (b := false) rfl rfl (.inr w44)) ?_
              have hk := Lib.hid (show ∀ v7 x', v7 = undef → Below x.heap.size x x' → K (a.put (some 45) v7) x' from hK)
              have Hbx := Lib.hid hbx
              clear hsame hpre hK hbx w44
              exact hk.out _ _ rfl (Below.refl _ _)
            · have w44 : a.tmps[44]?.getD undef = .bool true := hpre ⟨6, .guard⟩ (by simp) rfl (by decide)
              refine step_left (not_wanted (j := 6) (t := 44) (b := false) rfl rfl (.inr w44)) ?_
              have hk := Lib.hid (show ∀ v7 x', v7 = undef → Below x.heap.size x x' → K (a.put (some 46) v7) x' from hK)
              have Hbx := Lib.hid hbx
              clear hsame hpre hK hbx w44
              exact hk.out _ _ rfl (Below.refl _ _)
            · have w44 : a.tmps[44]?.getD undef = .bool true := hpre ⟨6, .guard⟩ (by simp) rfl (by decide)
              refine step_left (not_wanted (j := 6) (t := 44) (b := false) rfl rfl (.inr w44)) ?_
              have hk := Lib.hid (show ∀ v7 x', v7 = undef → Below x.heap.size x x' → K (a.put (some 47) v7) x' from hK)
              have Hbx := Lib.hid hbx
              clear hsame hpre hK hbx w44
              exact hk.out _ _ rfl (Below.refl _ _)
            · have w44 : a.tmps[44]?.getD undef = .bool true := hpre ⟨6, .guard⟩ (by simp) rfl (by decide)
              refine step_left (not_wanted (j := 6) (t := 44) (b := false) rfl rfl (.inr w44)) ?_
              have hk := Lib.hid (show ∀ v7 x', v7 = undef → Below x.heap.size x x' → K (a.put (some 48) v7) x' from hK)
              have Hbx := Lib.hid hbx
              clear hsame hpre hK hbx w44
              exact hk.out _ _ rfl (Below.refl _ _)
            · have w44 : a.tmps[44]?.getD undef = .bool true := hpre ⟨6, .guard⟩ (by simp) rfl (by decide)
              refine step_left (not_wanted (j := 6) (t := 44) (b := false) rfl rfl (.inr w44)) ?_
              have hk := Lib.hid (show ∀ v7 x', v7 = undef → Below x.heap.size x x' → K (a.put (some 49) v7) x' from hK)
              have Hbx := Lib.hid hbx
              clear hsame hpre hK hbx w44
              exact hk.out _ _ rfl (Below.refl _ _)
            · have w49 : a.tmps[49]?.getD undef = undef := hpre ⟨11, .guard⟩ (by simp) rfl (by decide)
              refine step_left (not_wanted (j := 11) (t := 49) (b := true) rfl rfl (.inl w49)) ?_
              have hk := Lib.hid (show ∀ v7 x', v7 = undef → Below x.heap.size x x' → K (a.put (some 50) v7) x' from hK)
              have Hbx := Lib.hid hbx
              clear hsame hpre hK hbx w49
              exact hk.out _ _ rfl (Below.refl _ _)
            · have w49 : a.tmps[49]?.getD undef = undef := hpre ⟨11, .guard⟩ (by simp) rfl (by decide)
              refine step_left (not_wanted (j := 11) (t := 49) (b := true) rfl rfl (.inl w49)) ?_
              have hk := Lib.hid (show ∀ v7 x', v7 = undef → Below x.heap.size x x' → K (a.put (some 51) v7) x' from hK)
              have Hbx := Lib.hid hbx
              clear hsame hpre hK hbx w49
              exact hk.out _ _ rfl (Below.refl _ _)
            · have w49 : a.tmps[49]?.getD undef = undef := hpre ⟨11, .guard⟩ (by simp) rfl (by decide)
              refine step_left (not_wanted (j := 11) (t := 49) (b := true) rfl rfl (.inl w49)) ?_
              have hk := Lib.hid (show ∀ v7 x', v7 = undef → Below x.heap.size x x' → K (a.put (some 52) v7) x' from hK)
              have Hbx := Lib.hid hbx
              clear hsame hpre hK hbx w49
              exact hk.out _ _ rfl (Below.refl _ _)
            · have w49 : a.tmps[49]?.getD undef = undef := hpre ⟨11, .guard⟩ (by simp) rfl (by decide)
              refine step_left (not_wanted (j := 11) (t := 49) (b := true) rfl rfl (.inl w49)) ?_
              have hk := Lib.hid (show ∀ v7 x', v7 = undef → Below x.heap.size x x' → K (a.put (some 53) v7) x' from hK)
              have Hbx := Lib.hid hbx
              clear hsame hpre hK hbx w49
              exact hk.out _ _ rfl (Below.refl _ _)
            · have w49 : a.tmps[49]?.getD undef = undef := hpre ⟨11, .guard⟩ (by simp) rfl (by decide)
              refine step_left (not_wanted (j := 11) (t := 49) (b := true) rfl rfl (.inl w49)) ?_
              have hk := Lib.hid (show ∀ v7 x', v7 = undef → Below x.heap.size x x' → K (a.put (some 54) v7) x' from hK)
              have Hbx := Lib.hid hbx
              clear hsame hpre hK hbx w49
              exact hk.out _ _ rfl (Below.refl _ _)
            · have w49 : a.tmps[49]?.getD undef = undef := hpre ⟨11, .guard⟩ (by simp) rfl (by decide)
              refine step_left (not_wanted (j := 11) (t := 49) (b := true) rfl rfl (.inl w49)) ?_
              have hk := Lib.hid (show ∀ v7 x', v7 = undef → Below x.heap.size x x' → K (a.put (some 55) v7) x' from hK)
              have Hbx := Lib.hid hbx
              clear hsame hpre hK hbx w49
              exact hk.out _ _ rfl (Below.refl _ _)
            · have w49 : a.tmps[49]?.getD undef = undef := hpre ⟨11, .guard⟩ (by simp) rfl (by decide)
              refine step_left (not_wanted (j := 11) (t := 49) (b := true) rfl rfl (.inl w49)) ?_
              have hk := Lib.hid (show ∀ v7 x', v7 = undef → Below x.heap.size x x' → K (a.put (some 56) v7) x' from hK)
              have Hbx := Lib.hid hbx
              clear hsame hpre hK hbx w49
              exact hk.out _ _ rfl (Below.refl _ _)
            · have w49 : a.tmps[49]?.getD undef = undef := hpre ⟨11, .guard⟩ (by simp) rfl (by decide)
              refine step_left (not_wanted (j := 11) (t := 49) (b := true) rfl rfl (.inl w49)) ?_
              have hk := Lib.hid (show ∀ v7 x', v7 = undef → Below x.heap.size x x' → K (a.put (some 57) v7) x' from hK)
              have Hbx := Lib.hid hbx
              clear hsame hpre hK hbx w49
              exact hk.out _ _ rfl (Below.refl _ _)
            · have w49 : a.tmps[49]?.getD undef = undef := hpre ⟨11, .guard⟩ (by simp) rfl (by decide)
              refine step_left (not_wanted (j := 11) (t := 49) (b := true) rfl rfl (.inl w49)) ?_
              have hk := Lib.hid (show ∀ v7 x', v7 = undef → Below x.heap.size x x' → K (a.put (some 58) v7) x' from hK)
              have Hbx := Lib.hid hbx
              clear hsame hpre hK hbx w49
              exact hk.out _ _ rfl (Below.refl _ _)
            · have w44 : a.tmps[44]?.getD undef = .bool true := hpre ⟨6, .guard⟩ (by simp) rfl (by decide)
              refine step_left (not_wanted (j := 6) (t := 44) (b := false) rfl rfl (.inr w44)) ?_
              have hk := Lib.hid (show ∀ v7 x', v7 = undef → Below x.heap.size x x' → K (a.put (some 59) v7) x' from hK)
              have Hbx := Lib.hid hbx
              clear hsame hpre hK hbx w44
              exact hk.out _ _ rfl (Below.refl _ _)
            · have q44 : a.tmps[44]?.getD undef = .bool true := hpre ⟨6, .data⟩ (by simp) rfl (by decide)
              have q59 : a.tmps[59]?.getD undef = undef := hpre ⟨21, .data⟩ (by simp) rfl (by decide)
              refine step_plain rfl ?_
              have hk := Lib.hid (show ∀ v7 x', v7 = .bool true → Below x.heap.size x x' → K (a.put (some 60) v7) x' from hK)
              have Hbx := Lib.hid hbx
              clear hsame hpre hK hbx
              go_simp
              exact hk.out _ _ rfl (Below.refl _ _)
          intro a51 x51 hbx hsame hG hsz51 hde51
          replace f0 := (hsame 0 (by decide +kernel)).trans f0
          replace f4 := (hsame 4 (by decide +kernel)).trans f4
          replace f5 := (hsame 5 (by decide +kernel)).trans f5
          replace f6 := (hsame 6 (by decide +kernel)).trans f6
          have f60 : a51.tmps[60]?.getD undef = .bool true := hG 22 (by decide)
          have Hbx51 := Lib.hid hbx
          have hsz51h := Lib.hid hsz51
          have hde51h := Lib.hid (hde51.trans hde50h.out)
          clear hsame hG hbx hsz51 hde51 hsz50h hde50h
          have Hbs := Lib.hid (below_call Hbr.out Hbx51.out)
          refine then_go ?_
          repeat with_reducible refine wp_seq ?_
          refine wp_cond_true (eval_at f60) ?_
          clear f60 f6
          refine wp_exit ?_
          repeat first | with_reducible refine then_exit ?_ | with_reducible refine block_other (by decide) ?_
          refine block_exit ?_
          repeat first | with_reducible refine block_go ?_ | with_reducible refine then_go ?_
          repeat with_reducible refine wp_seq ?_
          refine wp_region_lit ?_
          refine wpList_next rfl hsz51h hde51h 12 rfl (by decide) fun K hK => ?_
          go_simp
          refine hK _ _ fun a52 hsz52 hde52 f12 hk => ?_
          clear hK K
          replace f0 := (hk 0 (by decide)).trans f0
          replace f4 := (hk 4 (by decide)).trans f4
          replace f5 := (hk 5 (by decide)).trans f5
          clear hk hsz51h hde51h
          refine wpList_next rfl hsz52 hde52 13 rfl (by decide) fun K hK => ?_
          go_simp
          refine hK _ _ fun a53 hsz53 hde53 f13 hk => ?_
          clear hK K
          replace f0 := (hk 0 (by decide)).trans f0
          replace f4 := (hk 4 (by decide)).trans f4
          replace f5 := (hk 5 (by decide)).trans f5
          clear hk hsz52 hde52 f12
          replace f13 : a53.tmps[13]?.getD undef = .int .i64 (((i + 1 : Nat) : Int)) := f13.trans (by first | rfl | (congr 1; done) | (congr 1; omega) | (congr 1; rw [IntKind.wrap_i64] <;> omega))
          refine wpList_next rfl hsz53 hde53 5 rfl (by decide) fun K hK => ?_
          go_simp
          refine hK _ _ fun a54 hsz54 hde54 f5 hk => ?_
          clear hK K
          replace f0 := (hk 0 (by decide)).trans f0
          replace f4 := (hk 4 (by decide)).trans f4
          replace f5 : a54.tmps[5]?.getD undef = .int .i64 ((i + 1 : Nat) : Int) := f5
          clear hk hsz53 hde53 f13
          refine wpList_nil ?_
          refine then_go ?_
          have hsm : refOut L (i + 1) = O := by rw [refOut_same hil (by rw [← Hx.out, ← HO.out, ← Hub.out]; rfl), HO.out]
          exact ⟨n - (i + 1), by rw [Hn2.out]; omega, i + 1, _, hsz54, hde54, f0, f4, f5, Lib.hid (by omega), Hall2, Lib.hid (by rw [hsm]; exact Hts.out.grow Hbs.out), Lib.hid (below_call Hbw.out Hbs.out), rfl⟩
        | false =>
          by_cases hkm : k < m
          · skip
            have hkO : k < O.length := by have := Hm.out; omega
            obtain ⟨b3, off3, hA3, hc3⟩ := cells_at (Below.refl _ wr) Hru.out (by intro e; subst e; simp at hkO)
            have c3 := hc3 k hkO
            obtain ⟨tz, hz⟩ : ∃ z, z = O[k] := ⟨_, rfl⟩
            rw [← hz] at c3
            have Hz := Lib.hid (show O[k]? = some tz by rw [hz]; exact List.getElem?_eq_getElem hkO)
            have Hcz := Lib.hid (show ∀ z, Below wr.heap.size wr z → z.cell? ⟨b3, off3 + k, none⟩ = some (.string ⟨tz.toArray⟩) from fun z hz => (hz.cell (p := ⟨b3, off3 + k, none⟩) (World.block_lt_of_cell? _ _ c3)).trans c3)
            have hk0 : (0 : Int) ≤ (k : Int) := by omega
            have hkmi : (k : Int) < (m : Int) := by omega
            obtain ⟨dz, hdz⟩ : ∃ d, d = (tz == tx) := ⟨_, rfl⟩
            have Hdz := Lib.hid hdz
            subst hA3
            clear hc3 c3 hz hdz hkO
            cases dz with
            | true =>
              refine wp_region_goodg (tblG [(38, .slice (some ⟨b, off, none⟩) n c), (39, .slice (some ⟨b, off, none⟩) n c), (40, .int .i64 ((i : Nat) : Int)), (41, .pointer (some ⟨b, off + i, none⟩)), (42, .string ⟨tx.toArray⟩), (43, .bool false), (44, .bool false), (45, .int .i64 ((k : Nat) : Int)), (46, .slice (some ⟨b3, off3, none⟩) m cu), (47, .int .i64 ((m : Nat) : Int)), (48, .bool true), (49, .bool true), (50, .slice (some ⟨b3, off3, none⟩) m cu), (51, .int .i64 ((k : Nat) : Int)), (52, .pointer (some ⟨b3, off3 + k, none⟩)), (53, .string ⟨tz.toArray⟩), (54, .slice (some ⟨b, off, none⟩) n c), (55, .int .i64 ((i : Nat) : Int)), (56, .pointer (some ⟨b, off + i, none⟩)), (57, .string ⟨tx.toArray⟩), (58, .bool true), (59, .bool true), (60, .bool true)]) 81 (by kernel_rfl) (by kernel_rfl) (by kernel_rfl) (by kernel_rfl) hsz50h.out ?_ ?_ ?_
              · intro t v7 x x' h _ _
                exact h
              · intro i7 o hi7 a x hbx hsame hpre K hK
                have hlt7 : i7 < 23 := (Array.getElem?_eq_some_iff.1 hi7).1
                rcases (show i7 = 0 ∨ i7 = 1 ∨ i7 = 2 ∨ i7 = 3 ∨ i7 = 4 ∨ i7 = 5 ∨ i7 = 6 ∨ i7 = 7 ∨ i7 = 8 ∨ i7 = 9 ∨ i7 = 10 ∨ i7 = 11 ∨ i7 = 12 ∨ i7 = 13 ∨ i7 = 14 ∨ i7 = 15 ∨ i7 = 16 ∨ i7 = 17 ∨ i7 = 18 ∨ i7 = 19 ∨ i7 = 20 ∨ i7 = 21 ∨ i7 = 22 by omega) with rfl | rfl | rfl | rfl | rfl | rfl | rfl | rfl | rfl | rfl | rfl | rfl | rfl | rfl | rfl | rfl | rfl | rfl | rfl | rfl | rfl | rfl | rfl
                all_goals (have ho := Option.some.inj hi7; subst ho; clear hi7 hlt7)
                · have q0 : a.tmps[0]?.getD undef = .slice (some ⟨b, off, none⟩) n c := (hsame 0 (by decide +kernel)).trans f0
                  refine step_plain rfl ?_
                  have hk := Lib.hid (show ∀ v7 x', v7 = .slice (some ⟨b, off, none⟩) n c → Below x.heap.size x x' → K (a.put (some 38) v7) x' from hK)
                  have Hbx := Lib.hid hbx
                  clear hsame hpre hK hbx
                  go_simp
                  exact hk.out _ _ rfl (Below.refl _ _)
                · have q0 : a.tmps[0]?.getD undef = .slice (some ⟨b, off, none⟩) n c := (hsame 0 (by decide +kernel)).trans f0
                  refine step_plain rfl ?_
                  have hk := Lib.hid (show ∀ v7 x', v7 = .slice (some ⟨b, off, none⟩) n c → Below x.heap.size x x' → K (a.put (some 39) v7) x' from hK)
                  have Hbx := Lib.hid hbx
                  clear hsame hpre hK hbx
                  go_simp
                  exact hk.out _ _ rfl (Below.refl _ _)
                · have q5 : a.tmps[5]?.getD undef = .int .i64 ((i : Nat) : Int) := (hsame 5 (by decide +kernel)).trans f5
                  refine step_plain rfl ?_
                  have hk := Lib.hid (show ∀ v7 x', v7 = .int .i64 ((i : Nat) : Int) → Below x.heap.size x x' → K (a.put (some 40) v7) x' from hK)
                  have Hbx := Lib.hid hbx
                  clear hsame hpre hK hbx
                  go_simp
                  exact hk.out _ _ rfl (Below.refl _ _)
                · have q39 : a.tmps[39]?.getD undef = .slice (some ⟨b, off, none⟩) n c := hpre ⟨1, .data⟩ (by simp) rfl (by decide)
                  have q40 : a.tmps[40]?.getD undef = .int .i64 ((i : Nat) : Int) := hpre ⟨2, .data⟩ (by simp) rfl (by decide)
                  refine step_plain rfl ?_
                  have hk := Lib.hid (show ∀ v7 x', v7 = .pointer (some ⟨b, off + i, none⟩) → Below x.heap.size x x' → K (a.put (some 41) v7) x' from hK)
                  have Hbx := Lib.hid hbx
                  clear hsame hpre hK hbx
                  go_simp
                  exact hk.out _ _ rfl (Below.refl _ _)
                · have q41 : a.tmps[41]?.getD undef = .pointer (some ⟨b, off + i, none⟩) := hpre ⟨3, .data⟩ (by simp) rfl (by decide)
                  refine step_plain rfl ?_
                  have hk := Lib.hid (show ∀ v7 x', v7 = .string ⟨tx.toArray⟩ → Below x.heap.size x x' → K (a.put (some 42) v7) x' from hK)
                  have Hbx := Lib.hid hbx
                  clear hsame hpre hK hbx
                  have c8 := Hcx.out _ (below_call Hbr.out Hbx.out)
                  go_simp
                  exact hk.out _ _ rfl (Below.refl _ _)
                · have q38 : a.tmps[38]?.getD undef = .slice (some ⟨b, off, none⟩) n c := hpre ⟨0, .data⟩ (by simp) rfl (by decide)
                  have q42 : a.tmps[42]?.getD undef = .string ⟨tx.toArray⟩ := hpre ⟨4, .data⟩ (by simp) rfl (by decide)
                  refine step_plain rfl ?_
                  have hk := Lib.hid (show ∀ v7 x', v7 = .bool false → Below x.heap.size x x' → K (a.put (some 43) v7) x' from hK)
                  have Hbx := Lib.hid hbx
                  clear hsame hpre hK hbx
                  go_simp
                  refine (Hux.out _ (below_call Hbr.out Hbx.out)).mono ?_
                  rintro e2 w2 ⟨rfl, hb2⟩
                  go_simp
                  exact hk.out _ _ rfl hb2
                · have q43 : a.tmps[43]?.getD undef = .bool false := hpre ⟨5, .data⟩ (by simp) rfl (by decide)
                  refine step_plain rfl ?_
                  have hk := Lib.hid (show ∀ v7 x', v7 = .bool false → Below x.heap.size x x' → K (a.put (some 44) v7) x' from hK)
                  have Hbx := Lib.hid hbx
                  clear hsame hpre hK hbx
                  go_simp
                  exact hk.out _ _ rfl (Below.refl _ _)
                · have q6 : a.tmps[6]?.getD undef = .int .i64 ((k : Nat) : Int) := (hsame 6 (by decide +kernel)).trans f6
                  have w44 : a.tmps[44]?.getD undef = .bool false := hpre ⟨6, .guard⟩ (by simp) rfl (by decide)
                  refine step_wanted (wanted_of (j := 6) (t := 44) (b := false) rfl rfl w44) ?_
                  have hk := Lib.hid (show ∀ v7 x', v7 = .int .i64 ((k : Nat) : Int) → Below x.heap.size x x' → K (a.put (some 45) v7) x' from hK)
                  have Hbx := Lib.hid hbx
                  clear hsame hpre hK hbx w44
                  go_simp
                  exact hk.out _ _ rfl (Below.refl _ _)
                · have q4 : a.tmps[4]?.getD undef = .slice (some ⟨b3, off3, none⟩) m cu := (hsame 4 (by decide +kernel)).trans f4
                  have w44 : a.tmps[44]?.getD undef = .bool false := hpre ⟨6, .guard⟩ (by simp) rfl (by decide)
                  refine step_wanted (wanted_of (j := 6) (t := 44) (b := false) rfl rfl w44) ?_
                  have hk := Lib.hid (show ∀ v7 x', v7 = .slice (some ⟨b3, off3, none⟩) m cu → Below x.heap.size x x' → K (a.put (some 46) v7) x' from hK)
                  have Hbx := Lib.hid hbx
                  clear hsame hpre hK hbx w44
                  go_simp
                  exact hk.out _ _ rfl (Below.refl _ _)
                · have q46 : a.tmps[46]?.getD undef = .slice (some ⟨b3, off3, none⟩) m cu := hpre ⟨8, .data⟩ (by simp) rfl (by decide)
                  have w44 : a.tmps[44]?.getD undef = .bool false := hpre ⟨6, .guard⟩ (by simp) rfl (by decide)
                  refine step_wanted (wanted_of (j := 6) (t := 44) (b := false) rfl rfl w44) ?_
                  have hk := Lib.hid (show ∀ v7 x', v7 = .int .i64 ((m : Nat) : Int) → Below x.heap.size x x' → K (a.put (some 47) v7) x' from hK)
                  have Hbx := Lib.hid hbx
                  clear hsame hpre hK hbx w44
                  go_simp
                  exact hk.out _ _ rfl (Below.refl _ _)
                · have q45 : a.tmps[45]?.getD undef = .int .i64 ((k : Nat) : Int) := hpre ⟨7, .data⟩ (by simp) rfl (by decide)
                  have q47 : a.tmps[47]?.getD undef = .int .i64 ((m : Nat) : Int) := hpre ⟨9, .data⟩ (by simp) rfl (by decide)
                  have w44 : a.tmps[44]?.getD undef = .bool false := hpre ⟨6, .guard⟩ (by simp) rfl (by decide)
                  refine step_wanted (wanted_of (j := 6) (t := 44) (b := false) rfl rfl w44) ?_
                  have hk := Lib.hid (show ∀ v7 x', v7 = .bool true → Below x.heap.size x x' → K (a.put (some 48) v7) x' from hK)
                  have Hbx := Lib.hid hbx
                  clear hsame hpre hK hbx w44
                  go_simp
                  exact hk.out _ _ (by first | rfl | (congr 1; exact decide_eq_true (by omega)) | (simp; omega)) (Below.refl _ _)
                · have q48 : a.tmps[48]?.getD undef = .bool true := hpre ⟨10, .data⟩ (by simp) rfl (by decide)
                  have w44 : a.tmps[44]?.getD undef = .bool false := hpre ⟨6, .guard⟩ (by simp) rfl (by decide)
                  refine step_wanted (wanted_of (j := 6) (t := 44) (b := false) rfl rfl w44) ?_
                  have hk := Lib.hid (show ∀ v7 x', v7 = .bool true → Below x.heap.size x x' → K (a.put (some 49) v7) x' from hK)
                  have Hbx := Lib.hid hbx
                  clear hsame hpre hK hbx w44
                  go_simp
                  exact hk.out _ _ rfl (Below.refl _ _)
                · have q4 : a.tmps[4]?.getD undef = .slice (some ⟨b3, off3, none⟩) m cu := (hsame 4 (by decide +kernel)).trans f4
                  have w49 : a.tmps[49]?.getD undef = .bool true := hpre ⟨11, .guard⟩ (by simp) rfl (by decide)
                  refine step_wanted (wanted_of (j := 11) (t := 49) (b := true) rfl rfl w49) ?_
                  have hk := Lib.hid (show ∀ v7 x', v7 = .slice (some ⟨b3, off3, none⟩) m cu → Below x.heap.size x x' → K (a.put (some 50) v7) x' from hK)
                  have Hbx := Lib.hid hbx
                  clear hsame hpre hK hbx w49
                  go_simp
                  exact hk.out _ _ rfl (Below.refl _ _)
                · have q6 : a.tmps[6]?.getD undef = .int .i64 ((k : Nat) : Int) := (hsame 6 (by decide +kernel)).trans f6
                  have w49 : a.tmps[49]?.getD undef = .bool true := hpre ⟨11, .guard⟩ (by simp) rfl (by decide)
                  refine step_wanted (wanted_of (j := 11) (t := 49) (b := true) rfl rfl w49) ?_
                  have hk := Lib.hid (show ∀ v7 x', v7 = .int .i64 ((k : Nat) : Int) → Below x.heap.size x x' → K (a.put (some 51) v7) x' from hK)
                  have Hbx := Lib.hid hbx
                  clear hsame hpre hK hbx w49
                  go_simp
                  exact hk.out _ _ rfl (Below.refl _ _)
                · have q50 : a.tmps[50]?.getD undef = .slice (some ⟨b3, off3, none⟩) m cu := hpre ⟨12, .data⟩ (by simp) rfl (by decide)
                  have q51 : a.tmps[51]?.getD undef = .int .i64 ((k : Nat) : Int) := hpre ⟨13, .data⟩ (by simp) rfl (by decide)
                  have w49 : a.tmps[49]?.getD undef = .bool true := hpre ⟨11, .guard⟩ (by simp) rfl (by decide)
                  refine step_wanted (wanted_of (j := 11) (t := 49) (b := true) rfl rfl w49) ?_
                  have hk := Lib.hid (show ∀ v7 x', v7 = .pointer (some ⟨b3, off3 + k, none⟩) → Below x.heap.size x x' → K (a.put (some 52) v7) x' from hK)
                  have Hbx := Lib.hid hbx
                  clear hsame hpre hK hbx w49
                  go_simp
                  exact hk.out _ _ rfl (Below.refl _ _)
                · have q52 : a.tmps[52]?.getD undef = .pointer (some ⟨b3, off3 + k, none⟩) := hpre ⟨14, .data⟩ (by simp) rfl (by decide)
                  have w49 : a.tmps[49]?.getD undef = .bool true := hpre ⟨11, .guard⟩ (by simp) rfl (by decide)
                  refine step_wanted (wanted_of (j := 11) (t := 49) (b := true) rfl rfl w49) ?_
                  have hk := Lib.hid (show ∀ v7 x', v7 = .string ⟨tz.toArray⟩ → Below x.heap.size x x' → K (a.put (some 53) v7) x' from hK)
                  have Hbx := Lib.hid hbx
                  clear hsame hpre hK hbx w49
                  have c8 := Hcz.out _ (below_call Hbr.out Hbx.out)
                  go_simp
                  exact hk.out _ _ rfl (Below.refl _ _)
                · have q0 : a.tmps[0]?.getD undef = .slice (some ⟨b, off, none⟩) n c := (hsame 0 (by decide +kernel)).trans f0
                  have w49 : a.tmps[49]?.getD undef = .bool true := hpre ⟨11, .guard⟩ (by simp) rfl (by decide)
                  refine step_wanted (wanted_of (j := 11) (t := 49) (b := true) rfl rfl w49) ?_
                  have hk := Lib.hid (show ∀ v7 x', v7 = .slice (some ⟨b, off, none⟩) n c → Below x.heap.size x x' → K (a.put (some 54) v7) x' from hK)
                  have Hbx := Lib.hid hbx
                  clear hsame hpre hK hbx w49
                  go_simp
                  exact hk.out _ _ rfl (Below.refl _ _)
                · have q5 : a.tmps[5]?.getD undef = .int .i64 ((i : Nat) : Int) := (hsame 5 (by decide +kernel)).trans f5
                  have w49 : a.tmps[49]?.getD undef = .bool true := hpre ⟨11, .guard⟩ (by simp) rfl (by decide)
                  refine step_wanted (wanted_of (j := 11) (t := 49) (b := true) rfl rfl w49) ?_
                  have hk := Lib.hid (show ∀ v7 x', v7 = .int .i64 ((i : Nat) : Int) → Below x.heap.size x x' → K (a.put (some 55) v7) x' from hK)
                  have Hbx := Lib.hid hbx
                  clear hsame hpre hK hbx w49
                  go_simp
                  exact hk.out _ _ rfl (Below.refl _ _)
                · have q54 : a.tmps[54]?.getD undef = .slice (some ⟨b, off, none⟩) n c := hpre ⟨16, .data⟩ (by simp) rfl (by decide)
                  have q55 : a.tmps[55]?.getD undef = .int .i64 ((i : Nat) : Int) := hpre ⟨17, .data⟩ (by simp) rfl (by decide)
                  have w49 : a.tmps[49]?.getD undef = .bool true := hpre ⟨11, .guard⟩ (by simp) rfl (by decide)
                  refine step_wanted (wanted_of (j := 11) (t := 49) (b := true) rfl rfl w49) ?_
                  have hk := Lib.hid (show ∀ v7 x', v7 = .pointer (some ⟨b, off + i, none⟩) → Below x.heap.size x x' → K (a.put (some 56) v7) x' from hK)
                  have Hbx := Lib.hid hbx
                  clear hsame hpre hK hbx w49
                  go_simp
                  exact hk.out _ _ rfl (Below.refl _ _)
                · have q56 : a.tmps[56]?.getD undef = .pointer (some ⟨b, off + i, none⟩) := hpre ⟨18, .data⟩ (by simp) rfl (by decide)
                  have w49 : a.tmps[49]?.getD undef = .bool true := hpre ⟨11, .guard⟩ (by simp) rfl (by decide)
                  refine step_wanted (wanted_of (j := 11) (t := 49) (b := true) rfl rfl w49) ?_
                  have hk := Lib.hid (show ∀ v7 x', v7 = .string ⟨tx.toArray⟩ → Below x.heap.size x x' → K (a.put (some 57) v7) x' from hK)
                  have Hbx := Lib.hid hbx
                  clear hsame hpre hK hbx w49
                  have c8 := Hcx.out _ (below_call Hbr.out Hbx.out)
                  go_simp
                  exact hk.out _ _ rfl (Below.refl _ _)
                · have q53 : a.tmps[53]?.getD undef = .string ⟨tz.toArray⟩ := hpre ⟨15, .data⟩ (by simp) rfl (by decide)
                  have q57 : a.tmps[57]?.getD undef = .string ⟨tx.toArray⟩ := hpre ⟨19, .data⟩ (by simp) rfl (by decide)
                  have w49 : a.tmps[49]?.getD undef = .bool true := hpre ⟨11, .guard⟩ (by simp) rfl (by decide)
                  refine step_wanted (wanted_of (j := 11) (t := 49) (b := true) rfl rfl w49) ?_
                  have hk := Lib.hid (show ∀ v7 x', v7 = .bool true → Below x.heap.size x x' → K (a.put (some 58) v7) x' from hK)
                  have Hbx := Lib.hid hbx
                  clear hsame hpre hK hbx w49
                  go_simp
                  exact hk.out _ _ (by have h7 := Hdz.out; first | (rw [h7]; done) | (rw [h7]; rfl)) (Below.refl _ _)
                · have q49 : a.tmps[49]?.getD undef = .bool true := hpre ⟨11, .data⟩ (by simp) rfl (by decide)
                  have q58 : a.tmps[58]?.getD undef = .bool true := hpre ⟨20, .data⟩ (by simp) rfl (by decide)
                  have w44 : a.tmps[44]?.getD undef = .bool false := hpre ⟨6, .guard⟩ (by simp) rfl (by decide)
                  refine step_wanted (wanted_of (j := 6) (t := 44) (b := false) rfl rfl w44) ?_
                  have hk := Lib.hid (show ∀ v7 x', v7 = .bool true → Below x.heap.size x x' → K (a.put (some 59) v7) x' from hK)
                  have Hbx := Lib.hid hbx
                  clear hsame hpre hK hbx w44
                  go_simp
                  exact hk.out _ _ rfl (Below.refl _ _)
                · have q44 : a.tmps[44]?.getD undef = .bool false := hpre ⟨6, .data⟩ (by simp) rfl (by decide)
                  have q59 : a.tmps[59]?.getD undef = .bool true := hpre ⟨21, .data⟩ (by simp) rfl (by decide)
                  refine step_plain rfl ?_
                  have hk := Lib.hid (show ∀ v7 x', v7 = .bool true → Below x.heap.size x x' → K (a.put (some 60) v7) x' from hK)
                  have Hbx := Lib.hid hbx
                  clear hsame hpre hK hbx
                  go_simp
                  exact hk.out _ _ rfl (Below.refl _ _)
              intro a51 x51 hbx hsame hG hsz51 hde51
              replace f0 := (hsame 0 (by decide +kernel)).trans f0
              replace f4 := (hsame 4 (by decide +kernel)).trans f4
              replace f5 := (hsame 5 (by decide +kernel)).trans f5
              replace f6 := (hsame 6 (by decide +kernel)).trans f6
              have f60 : a51.tmps[60]?.getD undef = .bool true := hG 22 (by decide)
              have Hbx51 := Lib.hid hbx
              have hsz51h := Lib.hid hsz51
              have hde51h := Lib.hid (hde51.trans hde50h.out)
              clear hsame hG hbx hsz51 hde51 hsz50h hde50h
              have Hbs := Lib.hid (below_call Hbr.out Hbx51.out)
              refine then_go ?_
              repeat with_reducible refine wp_seq ?_
              have htzx : tz = tx := by have h7 := Hdz.out; simpa using h7.symm
              refine wp_cond_true (eval_at f60) ?_
              clear f60 f6
              refine wp_exit ?_
              repeat first | with_reducible refine then_exit ?_ | with_reducible refine block_other (by decide) ?_
              refine block_exit ?_
              repeat first | with_reducible refine block_go ?_ | with_reducible refine then_go ?_
              repeat with_reducible refine wp_seq ?_
              refine wp_region_lit ?_
              refine wpList_next rfl hsz51h hde51h 12 rfl (by decide) fun K hK => ?_
              go_simp
              refine hK _ _ fun a52 hsz52 hde52 f12 hk => ?_
              clear hK K
              replace f0 := (hk 0 (by decide)).trans f0
              replace f4 := (hk 4 (by decide)).trans f4
              replace f5 := (hk 5 (by decide)).trans f5
              clear hk hsz51h hde51h
              refine wpList_next rfl hsz52 hde52 13 rfl (by decide) fun K hK => ?_
              go_simp
              refine hK _ _ fun a53 hsz53 hde53 f13 hk => ?_
              clear hK K
              replace f0 := (hk 0 (by decide)).trans f0
              replace f4 := (hk 4 (by decide)).trans f4
              replace f5 := (hk 5 (by decide)).trans f5
              clear hk hsz52 hde52 f12
              replace f13 : a53.tmps[13]?.getD undef = .int .i64 (((i + 1 : Nat) : Int)) := f13.trans (by first | rfl | (congr 1; done) | (congr 1; omega) | (congr 1; rw [IntKind.wrap_i64] <;> omega))
              refine wpList_next rfl hsz53 hde53 5 rfl (by decide) fun K hK => ?_
              go_simp
              refine hK _ _ fun a54 hsz54 hde54 f5 hk => ?_
              clear hK K
              replace f0 := (hk 0 (by decide)).trans f0
              replace f4 := (hk 4 (by decide)).trans f4
              replace f5 : a54.tmps[5]?.getD undef = .int .i64 ((i + 1 : Nat) : Int) := f5
              clear hk hsz53 hde53 f13
              refine wpList_nil ?_
              refine then_go ?_
              have hsm : refOut L (i + 1) = O := by rw [refOut_same hil (by rw [← Hx.out, ← HO.out, ← Hub.out]; rw [Hat.out, Hz.out, htzx]; simp), HO.out]
              exact ⟨n - (i + 1), by rw [Hn2.out]; omega, i + 1, _, hsz54, hde54, f0, f4, f5, Lib.hid (by omega), Hall2, Lib.hid (by rw [hsm]; exact Hts.out.grow Hbs.out), Lib.hid (below_call Hbw.out Hbs.out), rfl⟩
            | false =>
              refine wp_region_goodg (tblG [(38, .slice (some ⟨b, off, none⟩) n c), (39, .slice (some ⟨b, off, none⟩) n c), (40, .int .i64 ((i : Nat) : Int)), (41, .pointer (some ⟨b, off + i, none⟩)), (42, .string ⟨tx.toArray⟩), (43, .bool false), (44, .bool false), (45, .int .i64 ((k : Nat) : Int)), (46, .slice (some ⟨b3, off3, none⟩) m cu), (47, .int .i64 ((m : Nat) : Int)), (48, .bool true), (49, .bool true), (50, .slice (some ⟨b3, off3, none⟩) m cu), (51, .int .i64 ((k : Nat) : Int)), (52, .pointer (some ⟨b3, off3 + k, none⟩)), (53, .string ⟨tz.toArray⟩), (54, .slice (some ⟨b, off, none⟩) n c), (55, .int .i64 ((i : Nat) : Int)), (56, .pointer (some ⟨b, off + i, none⟩)), (57, .string ⟨tx.toArray⟩), (58, .bool false), (59, .bool false), (60, .bool false)]) 81 (by kernel_rfl) (by kernel_rfl) (by kernel_rfl) (by kernel_rfl) hsz50h.out ?_ ?_ ?_
              · intro t v7 x x' h _ _
                exact h
              · intro i7 o hi7 a x hbx hsame hpre K hK
                have hlt7 : i7 < 23 := (Array.getElem?_eq_some_iff.1 hi7).1
                rcases (show i7 = 0 ∨ i7 = 1 ∨ i7 = 2 ∨ i7 = 3 ∨ i7 = 4 ∨ i7 = 5 ∨ i7 = 6 ∨ i7 = 7 ∨ i7 = 8 ∨ i7 = 9 ∨ i7 = 10 ∨ i7 = 11 ∨ i7 = 12 ∨ i7 = 13 ∨ i7 = 14 ∨ i7 = 15 ∨ i7 = 16 ∨ i7 = 17 ∨ i7 = 18 ∨ i7 = 19 ∨ i7 = 20 ∨ i7 = 21 ∨ i7 = 22 by omega) with rfl | rfl | rfl | rfl | rfl | rfl | rfl | rfl | rfl | rfl | rfl | rfl | rfl | rfl | rfl | rfl | rfl | rfl | rfl | rfl | rfl | rfl | rfl
                all_goals (have ho := Option.some.inj hi7; subst ho; clear hi7 hlt7)
                · have q0 : a.tmps[0]?.getD undef = .slice (some ⟨b, off, none⟩) n c := (hsame 0 (by decide +kernel)).trans f0
                  refine step_plain rfl ?_
                  have hk := Lib.hid (show ∀ v7 x', v7 = .slice (some ⟨b, off, none⟩) n c → Below x.heap.size x x' → K (a.put (some 38) v7) x' from hK)
                  have Hbx := Lib.hid hbx
                  clear hsame hpre hK hbx
                  go_simp
                  exact hk.out _ _ rfl (Below.refl _ _)
                · have q0 : a.tmps[0]?.getD undef = .slice (some ⟨b, off, none⟩) n c := (hsame 0 (by decide +kernel)).trans f0
                  refine step_plain rfl ?_
                  have hk := Lib.hid (show ∀ v7 x', v7 = .slice (some ⟨b, off, none⟩) n c → Below x.heap.size x x' → K (a.put (some 39) v7) x' from hK)
                  have Hbx := Lib.hid hbx
                  clear hsame hpre hK hbx
                  go_simp
                  exact hk.out _ _ rfl (Below.refl _ _)
                · have q5 : a.tmps[5]?.getD undef = .int .i64 ((i : Nat) : Int) := (hsame 5 (by decide +kernel)).trans f5
                  refine step_plain rfl ?_
                  have hk := Lib.hid (show ∀ v7 x', v7 = .int .i64 ((i : Nat) : Int) → Below x.heap.size x x' → K (a.put (some 40) v7) x' from hK)
                  have Hbx := Lib.hid hbx
                  clear hsame hpre hK hbx
                  go_simp
                  exact hk.out _ _ rfl (Below.refl _ _)
                · have q39 : a.tmps[39]?.getD undef = .slice (some ⟨b, off, none⟩) n c := hpre ⟨1, .data⟩ (by simp) rfl (by decide)
                  have q40 : a.tmps[40]?.getD undef = .int .i64 ((i : Nat) : Int) := hpre ⟨2, .data⟩ (by simp) rfl (by decide)
                  refine step_plain rfl ?_
                  have hk := Lib.hid (show ∀ v7 x', v7 = .pointer (some ⟨b, off + i, none⟩) → Below x.heap.size x x' → K (a.put (some 41) v7) x' from hK)
                  have Hbx := Lib.hid hbx
                  clear hsame hpre hK hbx
                  go_simp
                  exact hk.out _ _ rfl (Below.refl _ _)
                · have q41 : a.tmps[41]?.getD undef = .pointer (some ⟨b, off + i, none⟩) := hpre ⟨3, .data⟩ (by simp) rfl (by decide)
                  refine step_plain rfl ?_
                  have hk := Lib.hid (show ∀ v7 x', v7 = .string ⟨tx.toArray⟩ → Below x.heap.size x x' → K (a.put (some 42) v7) x' from hK)
                  have Hbx := Lib.hid hbx
                  clear hsame hpre hK hbx
                  have c8 := Hcx.out _ (below_call Hbr.out Hbx.out)
                  go_simp
                  exact hk.out _ _ rfl (Below.refl _ _)
                · have q38 : a.tmps[38]?.getD undef = .slice (some ⟨b, off, none⟩) n c := hpre ⟨0, .data⟩ (by simp) rfl (by decide)
                  have q42 : a.tmps[42]?.getD undef = .string ⟨tx.toArray⟩ := hpre ⟨4, .data⟩ (by simp) rfl (by decide)
                  refine step_plain rfl ?_
                  have hk := Lib.hid (show ∀ v7 x', v7 = .bool false → Below x.heap.size x x' → K (a.put (some 43) v7) x' from hK)
                  have Hbx := Lib.hid hbx
                  clear hsame hpre hK hbx
                  go_simp
                  refine (Hux.out _ (below_call Hbr.out Hbx.out)).mono ?_
                  rintro e2 w2 ⟨rfl, hb2⟩
                  go_simp
                  exact hk.out _ _ rfl hb2
                · have q43 : a.tmps[43]?.getD undef = .bool false := hpre ⟨5, .data⟩ (by simp) rfl (by decide)
                  refine step_plain rfl ?_
                  have hk := Lib.hid (show ∀ v7 x', v7 = .bool false → Below x.heap.size x x' → K (a.put (some 44) v7) x' from hK)
                  have Hbx := Lib.hid hbx
                  clear hsame hpre hK hbx
                  go_simp
                  exact hk.out _ _ rfl (Below.refl _ _)
                · have q6 : a.tmps[6]?.getD undef = .int .i64 ((k : Nat) : Int) := (hsame 6 (by decide +kernel)).trans f6
                  have w44 : a.tmps[44]?.getD undef = .bool false := hpre ⟨6, .guard⟩ (by simp) rfl (by decide)
                  refine step_wanted (wanted_of (j := 6) (t := 44) (b := false) rfl rfl w44) ?_
                  have hk := Lib.hid (show ∀ v7 x', v7 = .int .i64 ((k : Nat) : Int) → Below x.heap.size x x' → K (a.put (some 45) v7) x' from hK)
                  have Hbx := Lib.hid hbx
                  clear hsame hpre hK hbx w44
                  go_simp
                  exact hk.out _ _ rfl (Below.refl _ _)
                · have q4 : a.tmps[4]?.getD undef = .slice (some ⟨b3, off3, none⟩) m cu := (hsame 4 (by decide +kernel)).trans f4
                  have w44 : a.tmps[44]?.getD undef = .bool false := hpre ⟨6, .guard⟩ (by simp) rfl (by decide)
                  refine step_wanted (wanted_of (j := 6) (t := 44) (b := false) rfl rfl w44) ?_
                  have hk := Lib.hid (show ∀ v7 x', v7 = .slice (some ⟨b3, off3, none⟩) m cu → Below x.heap.size x x' → K (a.put (some 46) v7) x' from hK)
                  have Hbx := Lib.hid hbx
                  clear hsame hpre hK hbx w44
                  go_simp
                  exact hk.out _ _ rfl (Below.refl _ _)
                · have q46 : a.tmps[46]?.getD undef = .slice (some ⟨b3, off3, none⟩) m cu := hpre ⟨8, .data⟩ (by simp) rfl (by decide)
                  have w44 : a.tmps[44]?.getD undef = .bool false := hpre ⟨6, .guard⟩ (by simp) rfl (by decide)
                  refine step_wanted (wanted_of (j := 6) (t := 44) (b := false) rfl rfl w44) ?_
                  have hk := Lib.hid (show ∀ v7 x', v7 = .int .i64 ((m : Nat) : Int) → Below x.heap.size x x' → K (a.put (some 47) v7) x' from hK)
                  have Hbx := Lib.hid hbx
                  clear hsame hpre hK hbx w44
                  go_simp
                  exact hk.out _ _ rfl (Below.refl _ _)
                · have q45 : a.tmps[45]?.getD undef = .int .i64 ((k : Nat) : Int) := hpre ⟨7, .data⟩ (by simp) rfl (by decide)
                  have q47 : a.tmps[47]?.getD undef = .int .i64 ((m : Nat) : Int) := hpre ⟨9, .data⟩ (by simp) rfl (by decide)
                  have w44 : a.tmps[44]?.getD undef = .bool false := hpre ⟨6, .guard⟩ (by simp) rfl (by decide)
                  refine step_wanted (wanted_of (j := 6) (t := 44) (b := false) rfl rfl w44) ?_
                  have hk := Lib.hid (show ∀ v7 x', v7 = .bool true → Below x.heap.size x x' → K (a.put (some 48) v7) x' from hK)
                  have Hbx := Lib.hid hbx
                  clear hsame hpre hK hbx w44
                  go_simp
                  exact hk.out _ _ (by first | rfl | (congr 1; exact decide_eq_true (by omega)) | (simp; omega)) (Below.refl _ _)
                · have q48 : a.tmps[48]?.getD undef = .bool true := hpre ⟨10, .data⟩ (by simp) rfl (by decide)
                  have w44 : a.tmps[44]?.getD undef = .bool false := hpre ⟨6, .guard⟩ (by simp) rfl (by decide)
                  refine step_wanted (wanted_of (j := 6) (t := 44) (b := false) rfl rfl w44) ?_
                  have hk := Lib.hid (show ∀ v7 x', v7 = .bool true → Below x.heap.size x x' → K (a.put (some 49) v7) x' from hK)
                  have Hbx := Lib.hid hbx
                  clear hsame hpre hK hbx w44
                  go_simp
                  exact hk.out _ _ rfl (Below.refl _ _)
                · have q4 : a.tmps[4]?.getD undef = .slice (some ⟨b3, off3, none⟩) m cu := (hsame 4 (by decide +kernel)).trans f4
                  have w49 : a.tmps[49]?.getD undef = .bool true := hpre ⟨11, .guard⟩ (by simp) rfl (by decide)
                  refine step_wanted (wanted_of (j := 11) (t := 49) (b := true) rfl rfl w49) ?_
                  have hk := Lib.hid (show ∀ v7 x', v7 = .slice (some ⟨b3, off3, none⟩) m cu → Below x.heap.size x x' → K (a.put (some 50) v7) x' from hK)
                  have Hbx := Lib.hid hbx
                  clear hsame hpre hK hbx w49
                  go_simp
                  exact hk.out _ _ rfl (Below.refl _ _)
                · have q6 : a.tmps[6]?.getD undef = .int .i64 ((k : Nat) : Int) := (hsame 6 (by decide +kernel)).trans f6
                  have w49 : a.tmps[49]?.getD undef = .bool true := hpre ⟨11, .guard⟩ (by simp) rfl (by decide)
                  refine step_wanted (wanted_of (j := 11) (t := 49) (b := true) rfl rfl w49) ?_
                  have hk := Lib.hid (show ∀ v7 x', v7 = .int .i64 ((k : Nat) : Int) → Below x.heap.size x x' → K (a.put (some 51) v7) x' from hK)
                  have Hbx := Lib.hid hbx
                  clear hsame hpre hK hbx w49
                  go_simp
                  exact hk.out _ _ rfl (Below.refl _ _)
                · have q50 : a.tmps[50]?.getD undef = .slice (some ⟨b3, off3, none⟩) m cu := hpre ⟨12, .data⟩ (by simp) rfl (by decide)
                  have q51 : a.tmps[51]?.getD undef = .int .i64 ((k : Nat) : Int) := hpre ⟨13, .data⟩ (by simp) rfl (by decide)
                  have w49 : a.tmps[49]?.getD undef = .bool true := hpre ⟨11, .guard⟩ (by simp) rfl (by decide)
                  refine step_wanted (wanted_of (j := 11) (t := 49) (b := true) rfl rfl w49) ?_
                  have hk := Lib.hid (show ∀ v7 x', v7 = .pointer (some ⟨b3, off3 + k, none⟩) → Below x.heap.size x x' → K (a.put (some 52) v7) x' from hK)
                  have Hbx := Lib.hid hbx
                  clear hsame hpre hK hbx w49
                  go_simp
                  exact hk.out _ _ rfl (Below.refl _ _)
                · have q52 : a.tmps[52]?.getD undef = .pointer (some ⟨b3, off3 + k, none⟩) := hpre ⟨14, .data⟩ (by simp) rfl (by decide)
                  have w49 : a.tmps[49]?.getD undef = .bool true := hpre ⟨11, .guard⟩ (by simp) rfl (by decide)
                  refine step_wanted (wanted_of (j := 11) (t := 49) (b := true) rfl rfl w49) ?_
                  have hk := Lib.hid (show ∀ v7 x', v7 = .string ⟨tz.toArray⟩ → Below x.heap.size x x' → K (a.put (some 53) v7) x' from hK)
                  have Hbx := Lib.hid hbx
                  clear hsame hpre hK hbx w49
                  have c8 := Hcz.out _ (below_call Hbr.out Hbx.out)
                  go_simp
                  exact hk.out _ _ rfl (Below.refl _ _)
                · have q0 : a.tmps[0]?.getD undef = .slice (some ⟨b, off, none⟩) n c := (hsame 0 (by decide +kernel)).trans f0
                  have w49 : a.tmps[49]?.getD undef = .bool true := hpre ⟨11, .guard⟩ (by simp) rfl (by decide)
                  refine step_wanted (wanted_of (j := 11) (t := 49) (b := true) rfl rfl w49) ?_
                  have hk := Lib.hid (show ∀ v7 x', v7 = .slice (some ⟨b, off, none⟩) n c → Below x.heap.size x x' → K (a.put (some 54) v7) x' from hK)
                  have Hbx := Lib.hid hbx
                  clear hsame hpre hK hbx w49
                  go_simp
                  exact hk.out _ _ rfl (Below.refl _ _)
                · have q5 : a.tmps[5]?.getD undef = .int .i64 ((i : Nat) : Int) := (hsame 5 (by decide +kernel)).trans f5
                  have w49 : a.tmps[49]?.getD undef = .bool true := hpre ⟨11, .guard⟩ (by simp) rfl (by decide)
                  refine step_wanted (wanted_of (j := 11) (t := 49) (b := true) rfl rfl w49) ?_
                  have hk := Lib.hid (show ∀ v7 x', v7 = .int .i64 ((i : Nat) : Int) → Below x.heap.size x x' → K (a.put (some 55) v7) x' from hK)
                  have Hbx := Lib.hid hbx
                  clear hsame hpre hK hbx w49
                  go_simp
                  exact hk.out _ _ rfl (Below.refl _ _)
                · have q54 : a.tmps[54]?.getD undef = .slice (some ⟨b, off, none⟩) n c := hpre ⟨16, .data⟩ (by simp) rfl (by decide)
                  have q55 : a.tmps[55]?.getD undef = .int .i64 ((i : Nat) : Int) := hpre ⟨17, .data⟩ (by simp) rfl (by decide)
                  have w49 : a.tmps[49]?.getD undef = .bool true := hpre ⟨11, .guard⟩ (by simp) rfl (by decide)
                  refine step_wanted (wanted_of (j := 11) (t := 49) (b := true) rfl rfl w49) ?_
                  have hk := Lib.hid (show ∀ v7 x', v7 = .pointer (some ⟨b, off + i, none⟩) → Below x.heap.size x x' → K (a.put (some 56) v7) x' from hK)
                  have Hbx := Lib.hid hbx
                  clear hsame hpre hK hbx w49
                  go_simp
                  exact hk.out _ _ rfl (Below.refl _ _)
                · have q56 : a.tmps[56]?.getD undef = .pointer (some ⟨b, off + i, none⟩) := hpre ⟨18, .data⟩ (by simp) rfl (by decide)
                  have w49 : a.tmps[49]?.getD undef = .bool true := hpre ⟨11, .guard⟩ (by simp) rfl (by decide)
                  refine step_wanted (wanted_of (j := 11) (t := 49) (b := true) rfl rfl w49) ?_
                  have hk := Lib.hid (show ∀ v7 x', v7 = .string ⟨tx.toArray⟩ → Below x.heap.size x x' → K (a.put (some 57) v7) x' from hK)
                  have Hbx := Lib.hid hbx
                  clear hsame hpre hK hbx w49
                  have c8 := Hcx.out _ (below_call Hbr.out Hbx.out)
                  go_simp
                  exact hk.out _ _ rfl (Below.refl _ _)
                · have q53 : a.tmps[53]?.getD undef = .string ⟨tz.toArray⟩ := hpre ⟨15, .data⟩ (by simp) rfl (by decide)
                  have q57 : a.tmps[57]?.getD undef = .string ⟨tx.toArray⟩ := hpre ⟨19, .data⟩ (by simp) rfl (by decide)
                  have w49 : a.tmps[49]?.getD undef = .bool true := hpre ⟨11, .guard⟩ (by simp) rfl (by decide)
                  refine step_wanted (wanted_of (j := 11) (t := 49) (b := true) rfl rfl w49) ?_
                  have hk := Lib.hid (show ∀ v7 x', v7 = .bool false → Below x.heap.size x x' → K (a.put (some 58) v7) x' from hK)
                  have Hbx := Lib.hid hbx
                  clear hsame hpre hK hbx w49
                  go_simp
                  exact hk.out _ _ (by have h7 := Hdz.out; first | (rw [h7]; done) | (rw [h7]; rfl)) (Below.refl _ _)
                · have q49 : a.tmps[49]?.getD undef = .bool true := hpre ⟨11, .data⟩ (by simp) rfl (by decide)
                  have q58 : a.tmps[58]?.getD undef = .bool false := hpre ⟨20, .data⟩ (by simp) rfl (by decide)
                  have w44 : a.tmps[44]?.getD undef = .bool false := hpre ⟨6, .guard⟩ (by simp) rfl (by decide)
                  refine step_wanted (wanted_of (j := 6) (t := 44) (b := false) rfl rfl w44) ?_
                  have hk := Lib.hid (show ∀ v7 x', v7 = .bool false → Below x.heap.size x x' → K (a.put (some 59) v7) x' from hK)
                  have Hbx := Lib.hid hbx
                  clear hsame hpre hK hbx w44
                  go_simp
                  exact hk.out _ _ rfl (Below.refl _ _)
                · have q44 : a.tmps[44]?.getD undef = .bool false := hpre ⟨6, .data⟩ (by simp) rfl (by decide)
                  have q59 : a.tmps[59]?.getD undef = .bool false := hpre ⟨21, .data⟩ (by simp) rfl (by decide)
                  refine step_plain rfl ?_
                  have hk := Lib.hid (show ∀ v7 x', v7 = .bool false → Below x.heap.size x x' → K (a.put (some 60) v7) x' from hK)
                  have Hbx := Lib.hid hbx
                  clear hsame hpre hK hbx
                  go_simp
                  exact hk.out _ _ rfl (Below.refl _ _)
              intro a51 x51 hbx hsame hG hsz51 hde51
              replace f0 := (hsame 0 (by decide +kernel)).trans f0
              replace f4 := (hsame 4 (by decide +kernel)).trans f4
              replace f5 := (hsame 5 (by decide +kernel)).trans f5
              replace f6 := (hsame 6 (by decide +kernel)).trans f6
              have f60 : a51.tmps[60]?.getD undef = .bool false := hG 22 (by decide)
              have Hbx51 := Lib.hid hbx
              have hsz51h := Lib.hid hsz51
              have hde51h := Lib.hid (hde51.trans hde50h.out)
              clear hsame hG hbx hsz51 hde51 hsz50h hde50h
              have Hbs := Lib.hid (below_call Hbr.out Hbx51.out)
              refine then_go ?_
              repeat with_reducible refine wp_seq ?_
              have htzx : tz ≠ tx := by have h7 := Hdz.out; simpa using h7.symm
              refine wp_cond_false (eval_at f60) ?_
              refine wp_skip ?_
              refine then_go ?_
              clear f60
              repeat with_reducible refine wp_seq ?_
              have hins : refOut L (i + 1) = insT O tx := by rw [refOut_ins hil (by rw [← Hx.out, ← HO.out, ← Hub.out]; rw [Hat.out, Hz.out]; simp [htzx]), ← Hx.out, ← HO.out]
              unfold insT at hins
              rw [Hat.out] at hins
              have Hins := Lib.hid hins
              clear hins
              obtain ⟨ws, hws⟩ : ∃ z, z = x51 := ⟨_, rfl⟩
              rw [← hws] at Hbs ⊢
              clear hws
              have hm1 : m ≤ 1000 := by rw [Hm.out]; exact hOl
              have hrs := Hru.out.grow Hbs.out
              have Hrs := Lib.hid hrs
              have hkm : k ≤ m := Hk.out
              have hkc : k ≤ cu := by omega
              have hrf := Rd.from_ (c := cu) (k := k) hrs (by rw [List.length_map, ← Hm.out]; exact hcu1)
              rw [← List.map_drop] at hrf
              have hdl : m - k = (O.drop k).length := by rw [List.length_drop, ← Hm.out]
              obtain ⟨v2, W2, hrun, hownc, hbc⟩ := consT_run ws tx (O.drop k) (by rw [List.length_drop]; omega) (c := cu - k) hdl hrf
              obtain ⟨A3, hA3⟩ : ∃ B, B = (if cu = k then ((some ⟨b3, off3, none⟩) : Option Addr) else ((some ⟨b3, off3, none⟩) : Option Addr).map (·.add (k * 1))) := ⟨_, rfl⟩
              rw [← hA3] at hrun
              obtain ⟨m3, hm3⟩ : ∃ q, q = m - k := ⟨_, rfl⟩
              obtain ⟨c3, hc3⟩ : ∃ q, q = cu - k := ⟨_, rfl⟩
              rw [← hm3, ← hc3] at hrun
              have hfr := fun W : World => fromT_run (A := (some ⟨b3, off3, none⟩)) (c := cu) hkm W
              rw [← hA3, ← hm3, ← hc3] at hfr
              have Hfr := Lib.hid hfr
              have Hrun := Lib.hid hrun
              have Hownc := Lib.hid hownc
              have Hbc := Lib.hid hbc
              have Hz1 := Lib.hid (show Below ws.heap.size ws (ws.drew.alloc (.cells #[.string ⟨tx.toArray⟩] 9)) from ((Below.refl _ _).drew).alloc (Nat.le_refl _) _)
              have Hz0 := Lib.hid (show Below ws.heap.size ws ws.drew from (Below.refl _ _).drew)
              clear hfr hrun hownc hbc hA3 hm3 hc3 hrs hrf hdl
              refine wp_region_fix2 (fun t => match t with | 61 => .slice (some ⟨b, off, none⟩) n c | 62 => .int .i64 ((i : Nat) : Int) | 63 => .pointer (some ⟨b, off + i, none⟩) | 64 => .string ⟨tx.toArray⟩ | 65 => .slice (some ⟨ws.heap.size, 0, none⟩) 1 1 | 66 => .slice (some ⟨b3, off3, none⟩) m cu | 67 => .int .i64 ((k : Nat) : Int) | 68 => .slice A3 m3 c3 | 69 => v2 | 7 => v2 | _ => undef) (Ch2 4 8 ws.drew (ws.drew.alloc (.cells #[.string ⟨tx.toArray⟩] 9)) W2) 81 (by kernel_rfl) (by kernel_rfl) (by kernel_rfl) hsz51h.out Ch2.start ?_ ?_
              · intro i0 o0 hi0 dn aw xw hJ hd hpre hcl hsame hV K hK
                have hlt0 : i0 < 10 := (Array.getElem?_eq_some_iff.1 hi0).1
                rcases (show i0 = 0 ∨ i0 = 1 ∨ i0 = 2 ∨ i0 = 3 ∨ i0 = 4 ∨ i0 = 5 ∨ i0 = 6 ∨ i0 = 7 ∨ i0 = 8 ∨ i0 = 9 by omega) with rfl | rfl | rfl | rfl | rfl | rfl | rfl | rfl | rfl | rfl
                all_goals (have ho0 := Option.some.inj hi0; subst ho0; clear hi0 hlt0)
                · have q0 : aw.tmps[0]?.getD undef = .slice (some ⟨b, off, none⟩) n c := (hsame 0 (fun j hj => absurd hj (slot_free (by decide +kernel) j))).trans f0
                  have hk := Lib.hid (show ∀ v x', v = .slice (some ⟨b, off, none⟩) n c → (Ch2 4 8 ws.drew (ws.drew.alloc (.cells #[.string ⟨tx.toArray⟩] 9)) W2) (also dn 0) x' → K (aw.put (some 61) v) x' from fun v x' h1 h2 => hK v x' (fun s hs => by cases hs; exact h1) h2)
                  have HJ2 := Lib.hid hJ
                  clear hsame hpre hcl hK hV hJ hd
                  go_simp
                  exact hk.out _ _ rfl (HJ2.out.more (by decide) (by decide))
                · have q5 : aw.tmps[5]?.getD undef = .int .i64 ((i : Nat) : Int) := (hsame 5 (fun j hj => absurd hj (slot_free (by decide +kernel) j))).trans f5
                  have hk := Lib.hid (show ∀ v x', v = .int .i64 ((i : Nat) : Int) → (Ch2 4 8 ws.drew (ws.drew.alloc (.cells #[.string ⟨tx.toArray⟩] 9)) W2) (also dn 1) x' → K (aw.put (some 62) v) x' from fun v x' h1 h2 => hK v x' (fun s hs => by cases hs; exact h1) h2)
                  have HJ2 := Lib.hid hJ
                  clear hsame hpre hcl hK hV hJ hd
                  go_simp
                  exact hk.out _ _ rfl (HJ2.out.more (by decide) (by decide))
                · have q61 : aw.tmps[61]?.getD undef = .slice (some ⟨b, off, none⟩) n c := hV 0 61 (hpre ⟨0, .data⟩ (by simp) rfl) rfl
                  have q62 : aw.tmps[62]?.getD undef = .int .i64 ((i : Nat) : Int) := hV 1 62 (hpre ⟨1, .data⟩ (by simp) rfl) rfl
                  have hk := Lib.hid (show ∀ v x', v = .pointer (some ⟨b, off + i, none⟩) → (Ch2 4 8 ws.drew (ws.drew.alloc (.cells #[.string ⟨tx.toArray⟩] 9)) W2) (also dn 2) x' → K (aw.put (some 63) v) x' from fun v x' h1 h2 => hK v x' (fun s hs => by cases hs; exact h1) h2)
                  have HJ2 := Lib.hid hJ
                  clear hsame hpre hcl hK hV hJ hd
                  go_simp
                  exact hk.out _ _ rfl (HJ2.out.more (by decide) (by decide))
                · have q63 : aw.tmps[63]?.getD undef = .pointer (some ⟨b, off + i, none⟩) := hV 2 63 (hpre ⟨2, .data⟩ (by simp) rfl) rfl
                  have hk := Lib.hid (show ∀ v x', v = .string ⟨tx.toArray⟩ → (Ch2 4 8 ws.drew (ws.drew.alloc (.cells #[.string ⟨tx.toArray⟩] 9)) W2) (also dn 3) x' → K (aw.put (some 64) v) x' from fun v x' h1 h2 => hK v x' (fun s hs => by cases hs; exact h1) h2)
                  have HJ2 := Lib.hid hJ
                  clear hsame hpre hcl hK hV hJ hd
                  have c8 := Hcx.out _ (below_call Hbs.out (HJ2.out.all (p := fun z => Below ws.heap.size ws z) Hz0.out Hz1.out Hbc.out))
                  go_simp
                  exact hk.out _ _ rfl (HJ2.out.more (by decide) (by decide))
                · have q64 : aw.tmps[64]?.getD undef = .string ⟨tx.toArray⟩ := hV 3 64 (hpre ⟨3, .data⟩ (by simp) rfl) rfl
                  have hk := Lib.hid (show ∀ v x', v = .slice (some ⟨ws.heap.size, 0, none⟩) 1 1 → (Ch2 4 8 ws.drew (ws.drew.alloc (.cells #[.string ⟨tx.toArray⟩] 9)) W2) (also dn 4) x' → K (aw.put (some 65) v) x' from fun v x' h1 h2 => hK v x' (fun s hs => by cases hs; exact h1) h2)
                  obtain ⟨hxe, hJ3⟩ := hJ.first hd (by decide)
                  subst hxe
                  have HJ3 := Lib.hid hJ3
                  clear hsame hpre hcl hK hV hJ hJ3 hd
                  go_simp
                  exact hk.out _ _ rfl HJ3.out
                · have q4 : aw.tmps[4]?.getD undef = .slice (some ⟨b3, off3, none⟩) m cu := (hsame 4 (fun j hj => absurd hj (slot_free (by decide +kernel) j))).trans f4
                  have hk := Lib.hid (show ∀ v x', v = .slice (some ⟨b3, off3, none⟩) m cu → (Ch2 4 8 ws.drew (ws.drew.alloc (.cells #[.string ⟨tx.toArray⟩] 9)) W2) (also dn 5) x' → K (aw.put (some 66) v) x' from fun v x' h1 h2 => hK v x' (fun s hs => by cases hs; exact h1) h2)
                  have HJ2 := Lib.hid hJ
                  clear hsame hpre hcl hK hV hJ hd
                  go_simp
                  exact hk.out _ _ rfl (HJ2.out.more (by decide) (by decide))
                · have q6 : aw.tmps[6]?.getD undef = .int .i64 ((k : Nat) : Int) := (hsame 6 (fun j hj => absurd hj (slot_free (by decide +kernel) j))).trans f6
                  have hk := Lib.hid (show ∀ v x', v = .int .i64 ((k : Nat) : Int) → (Ch2 4 8 ws.drew (ws.drew.alloc (.cells #[.string ⟨tx.toArray⟩] 9)) W2) (also dn 6) x' → K (aw.put (some 67) v) x' from fun v x' h1 h2 => hK v x' (fun s hs => by cases hs; exact h1) h2)
                  have HJ2 := Lib.hid hJ
                  clear hsame hpre hcl hK hV hJ hd
                  go_simp
                  exact hk.out _ _ rfl (HJ2.out.more (by decide) (by decide))
                · have q66 : aw.tmps[66]?.getD undef = .slice (some ⟨b3, off3, none⟩) m cu := hV 5 66 (hpre ⟨5, .data⟩ (by simp) rfl) rfl
                  have q67 : aw.tmps[67]?.getD undef = .int .i64 ((k : Nat) : Int) := hV 6 67 (hpre ⟨6, .data⟩ (by simp) rfl) rfl
                  have hk := Lib.hid (show ∀ v x', v = .slice A3 m3 c3 → (Ch2 4 8 ws.drew (ws.drew.alloc (.cells #[.string ⟨tx.toArray⟩] 9)) W2) (also dn 7) x' → K (aw.put (some 68) v) x' from fun v x' h1 h2 => hK v x' (fun s hs => by cases hs; exact h1) h2)
                  have HJ2 := Lib.hid hJ
                  clear hsame hpre hcl hK hV hJ hd
                  refine wp_fromT (.tmp 66) (.tmp 67) rfl (eval_at q66) (eval_at q67) Hfr.out ?_
                  exact hk.out _ _ rfl (HJ2.out.more (by decide) (by decide))
                · have q65 : aw.tmps[65]?.getD undef = .slice (some ⟨ws.heap.size, 0, none⟩) 1 1 := hV 4 65 (hpre ⟨4, .data⟩ (by simp) rfl) rfl
                  have q68 : aw.tmps[68]?.getD undef = .slice A3 m3 c3 := hV 7 68 (hpre ⟨7, .data⟩ (by simp) rfl) rfl
                  have hk := Lib.hid (show ∀ v x', v = v2 → (Ch2 4 8 ws.drew (ws.drew.alloc (.cells #[.string ⟨tx.toArray⟩] 9)) W2) (also dn 8) x' → K (aw.put (some 69) v) x' from fun v x' h1 h2 => hK v x' (fun s hs => by cases hs; exact h1) h2)
                  obtain ⟨hxe, hJ3⟩ := hJ.second (hpre ⟨4, .data⟩ (by simp) rfl) hd (by decide)
                  subst hxe
                  refine wp_append (.tmp 65) (.tmp 68) 22 rfl (by rw [eval_at q65, eval_at q68]; exact Hrun.out) ?_
                  exact hk.out _ _ rfl hJ3
                · have q69 : aw.tmps[69]?.getD undef = v2 := hV 8 69 (hpre ⟨8, .data⟩ (by simp) rfl) rfl
                  have hk := Lib.hid (show ∀ v x', v = v2 → (Ch2 4 8 ws.drew (ws.drew.alloc (.cells #[.string ⟨tx.toArray⟩] 9)) W2) (also dn 9) x' → K (aw.put (some 7) v) x' from fun v x' h1 h2 => hK v x' (fun s hs => by cases hs; exact h1) h2)
                  have HJ2 := Lib.hid hJ
                  clear hsame hpre hcl hK hV hJ hd
                  go_simp
                  exact hk.out _ _ rfl (HJ2.out.more (by decide) (by decide))
              intro dn a52 x52 hall hJ hsame hV hsz52 hde52
              have hx := hJ.done (hall 8 (by decide))
              rw [hx]
              clear hx
              replace f0 := (hsame 0 (slot_free (by decide +kernel))).trans f0
              replace f4 := (hsame 4 (slot_free (by decide +kernel))).trans f4
              replace f5 := (hsame 5 (slot_free (by decide +kernel))).trans f5
              replace f6 := (hsame 6 (slot_free (by decide +kernel))).trans f6
              have f7 : a52.tmps[7]?.getD undef = v2 := hV 9 7 (by decide) rfl
              have hsz52h := Lib.hid hsz52
              have hde52h := Lib.hid (hde52.trans hde51h.out)
              clear hsame hV hJ hall hsz52 hde52 hsz51h hde51h
              refine then_go ?_
              repeat with_reducible refine wp_seq ?_
              obtain ⟨Av, cv, hv2, hcv1, hcv2, hrv⟩ := OwnT.form Hownc.out
              obtain ⟨q, hq⟩ : ∃ q, q = (tx :: O.drop k).length := ⟨_, rfl⟩
              have hqm : q ≤ 1001 := by rw [hq]; simp; omega
              rw [← hq] at hv2 hcv1
              have Hq := Lib.hid hq
              subst hv2
              have Hrv := Lib.hid hrv
              have Hb2 := Lib.hid (below_call Hbs.out Hbc.out)
              have hru2 := Rd.upto_ (c := cu) (k := k) (Hru.out.grow Hb2.out)
              rw [← List.map_take] at hru2
              obtain ⟨A4, hA4⟩ : ∃ B, B = (if cu = 0 then ((some ⟨b3, off3, none⟩) : Option Addr) else ((some ⟨b3, off3, none⟩) : Option Addr).map (·.add (0 * 1))) := ⟨_, rfl⟩
              rw [← hA4] at hru2
              have hup := fun W : World => uptoT_run (A := (some ⟨b3, off3, none⟩)) (n := m) hkc W
              rw [← hA4] at hup
              have Hup := Lib.hid hup
              have Hru2 := Lib.hid hru2
              have Htl := Lib.hid (show (O.take k).length = k by rw [List.length_take, ← Hm.out]; omega)
              clear hq hrv hru2 hA4 hup
              refine wp_region_lit ?_
              refine wpList_next rfl hsz52h hde52h 70 rfl (by decide) fun K hK => ?_
              go_simp
              refine hK _ _ fun a53 hsz53 hde53 f70 hk => ?_
              clear hK K
              replace f0 := (hk 0 (by decide)).trans f0
              replace f4 := (hk 4 (by decide)).trans f4
              replace f5 := (hk 5 (by decide)).trans f5
              replace f6 := (hk 6 (by decide)).trans f6
              replace f7 := (hk 7 (by decide)).trans f7
              replace f70 : a53.tmps[70]?.getD undef = .slice (some ⟨W2.heap.size, 0, none⟩) 0 0 := f70
              clear hk hsz52h hde52h
              refine wpList_next rfl hsz53 hde53 71 rfl (by decide) fun K hK => ?_
              go_simp
              refine hK _ _ fun a54 hsz54 hde54 f71 hk => ?_
              clear hK K
              replace f0 := (hk 0 (by decide)).trans f0
              replace f4 := (hk 4 (by decide)).trans f4
              replace f5 := (hk 5 (by decide)).trans f5
              replace f6 := (hk 6 (by decide)).trans f6
              replace f7 := (hk 7 (by decide)).trans f7
              replace f70 := (hk 70 (by decide)).trans f70
              replace f71 : a54.tmps[71]?.getD undef = .slice (some ⟨b3, off3, none⟩) m cu := f71
              clear hk hsz53 hde53
              refine wpList_next rfl hsz54 hde54 72 rfl (by decide) fun K hK => ?_
              go_simp
              refine hK _ _ fun a55 hsz55 hde55 f72 hk => ?_
              clear hK K
              replace f0 := (hk 0 (by decide)).trans f0
              replace f4 := (hk 4 (by decide)).trans f4
              replace f5 := (hk 5 (by decide)).trans f5
              replace f6 := (hk 6 (by decide)).trans f6
              replace f7 := (hk 7 (by decide)).trans f7
              replace f70 := (hk 70 (by decide)).trans f70
              replace f71 := (hk 71 (by decide)).trans f71
              replace f72 : a55.tmps[72]?.getD undef = .int .i64 ((k : Nat) : Int) := f72
              clear hk hsz54 hde54
              refine wpList_next rfl hsz55 hde55 73 rfl (by decide) fun K hK => ?_
              refine wp_uptoT (.tmp 71) (.tmp 72) rfl (eval_at f71) (eval_at f72) Hup.out ?_
              refine hK _ _ fun a56 hsz56 hde56 f73 hk => ?_
              clear hK K
              replace f0 := (hk 0 (by decide)).trans f0
              replace f4 := (hk 4 (by decide)).trans f4
              replace f5 := (hk 5 (by decide)).trans f5
              replace f6 := (hk 6 (by decide)).trans f6
              replace f7 := (hk 7 (by decide)).trans f7
              replace f70 := (hk 70 (by decide)).trans f70
              replace f73 : a56.tmps[73]?.getD undef = .slice A4 k cu := f73
              clear hk hsz55 hde55 f71 f72
              refine wpList_next rfl hsz56 hde56 74 rfl (by decide) fun K hK => ?_
              obtain ⟨we, hwe⟩ : ∃ z, z = W2.alloc (.cells #[] 9) := ⟨_, rfl⟩
              have Hoe := Lib.hid (show OwnK we W2.heap.size 9 1 (.slice (some ⟨W2.heap.size, 0, none⟩) 0 0) 0 [] by rw [hwe]; exact OwnK.empty W2 9 1)
              have Hbe := Lib.hid (show Below W2.heap.size W2 we by rw [hwe]; exact (Below.refl _ _).alloc (Nat.le_refl _) _)
              rw [← hwe]
              clear hwe
              refine wp_appK elemS1 (.tmp 70) (.tmp 73) rfl W2.heap.size 0 _ [] (eval_at f70) Hoe.out _ A4 k cu ((O.take k).map str) (by rw [List.length_map, Htl.out]; omega) (eval_at f73) (Hru2.out.grow Hbe.out) (by intro u hu; obtain ⟨z, _, rfl⟩ := List.mem_map.1 hu; rfl) (by omega) (by omega) Hbe.out.size ?_
              intro v5 w5 hown5 hg5 hat5
              rw [Nat.zero_add, List.nil_append] at hown5
              refine hK _ _ fun a57 hsz57 hde57 f74 hk => ?_
              clear hK K
              replace f0 := (hk 0 (by decide)).trans f0
              replace f4 := (hk 4 (by decide)).trans f4
              replace f5 := (hk 5 (by decide)).trans f5
              replace f6 := (hk 6 (by decide)).trans f6
              replace f7 := (hk 7 (by decide)).trans f7
              replace f74 : a57.tmps[74]?.getD undef = v5 := f74
              clear hk hsz56 hde56 f70 f73
              have Hbf := Lib.hid (Hbe.out.trans (OwnK.below_of Hoe.out hg5 Hbe.out.size (Nat.le_refl _)))
              have Hown5 := Lib.hid hown5
              clear hown5 hg5 hat5
              refine wpList_next rfl hsz57 hde57 75 rfl (by decide) fun K hK => ?_
              go_simp
              refine hK _ _ fun a58 hsz58 hde58 f75 hk => ?_
              clear hK K
              replace f0 := (hk 0 (by decide)).trans f0
              replace f4 := (hk 4 (by decide)).trans f4
              replace f5 := (hk 5 (by decide)).trans f5
              replace f6 := (hk 6 (by decide)).trans f6
              replace f7 := (hk 7 (by decide)).trans f7
              replace f74 := (hk 74 (by decide)).trans f74
              replace f75 : a58.tmps[75]?.getD undef = .slice Av q cv := f75
              clear hk hsz57 hde57
              refine wpList_next rfl hsz58 hde58 76 rfl (by decide) fun K hK => ?_
              refine wp_appK elemS1 (.tmp 74) (.tmp 75) rfl W2.heap.size k _ ((O.take k).map str) (eval_at f74) Hown5.out _ Av q cv ((tx :: O.drop k).map str) (by rw [List.length_map, Hq.out, Nat.mul_one]) (eval_at f75) (Hrv.out.grow Hbf.out) (by intro u hu; obtain ⟨z, _, rfl⟩ := List.mem_map.1 hu; rfl) (by omega) (by omega) Hbf.out.size ?_
              intro v6 w6 hown6 hg6 hat6
              refine hK _ _ fun a59 hsz59 hde59 f76 hk => ?_
              clear hK K
              replace f0 := (hk 0 (by decide)).trans f0
              replace f4 := (hk 4 (by decide)).trans f4
              replace f5 := (hk 5 (by decide)).trans f5
              replace f6 := (hk 6 (by decide)).trans f6
              replace f7 := (hk 7 (by decide)).trans f7
              replace f76 : a59.tmps[76]?.getD undef = v6 := f76
              clear hk hsz58 hde58 f74 f75
              have Hbg := Lib.hid (Hbf.out.trans (OwnK.below_of Hown5.out hg6 Hbf.out.size (Nat.le_refl _)))
              have Hown6 := Lib.hid hown6
              clear hown6 hg6 hat6
              refine wpList_next rfl hsz59 hde59 4 rfl (by decide) fun K hK => ?_
              go_simp
              refine hK _ _ fun a60 hsz60 hde60 f4 hk => ?_
              clear hK K
              replace f0 := (hk 0 (by decide)).trans f0
              replace f5 := (hk 5 (by decide)).trans f5
              replace f6 := (hk 6 (by decide)).trans f6
              replace f7 := (hk 7 (by decide)).trans f7
              replace f4 : a60.tmps[4]?.getD undef = v6 := f4
              clear hk hsz59 hde59 f76
              refine wpList_nil ?_
              clear f6 f7
              repeat first | with_reducible refine block_go ?_ | with_reducible refine then_go ?_
              repeat with_reducible refine wp_seq ?_
              refine wp_region_lit ?_
              refine wpList_next rfl hsz60 hde60 12 rfl (by decide) fun K hK => ?_
              go_simp
              refine hK _ _ fun a61 hsz61 hde61 f12 hk => ?_
              clear hK K
              replace f0 := (hk 0 (by decide)).trans f0
              replace f5 := (hk 5 (by decide)).trans f5
              replace f4 := (hk 4 (by decide)).trans f4
              clear hk hsz60 hde60
              refine wpList_next rfl hsz61 hde61 13 rfl (by decide) fun K hK => ?_
              go_simp
              refine hK _ _ fun a62 hsz62 hde62 f13 hk => ?_
              clear hK K
              replace f0 := (hk 0 (by decide)).trans f0
              replace f5 := (hk 5 (by decide)).trans f5
              replace f4 := (hk 4 (by decide)).trans f4
              clear hk hsz61 hde61 f12
              replace f13 : a62.tmps[13]?.getD undef = .int .i64 (((i + 1 : Nat) : Int)) := f13.trans (by first | rfl | (congr 1; done) | (congr 1; omega) | (congr 1; rw [IntKind.wrap_i64] <;> omega))
              refine wpList_next rfl hsz62 hde62 5 rfl (by decide) fun K hK => ?_
              go_simp
              refine hK _ _ fun a63 hsz63 hde63 f5 hk => ?_
              clear hK K
              replace f0 := (hk 0 (by decide)).trans f0
              replace f4 := (hk 4 (by decide)).trans f4
              replace f5 : a63.tmps[5]?.getD undef = .int .i64 ((i + 1 : Nat) : Int) := f5
              clear hk hsz62 hde62 f13
              refine wpList_nil ?_
              refine then_go ?_
              have Hts6 := Lib.hid (show TextsAt w6 v6 (refOut L (i + 1)) by
                rw [Hins.out]
                refine OwnT.texts (base := W2.heap.size) ?_
                unfold OwnT
                rw [List.length_append, List.map_append, Htl.out, ← Hq.out]
                exact Hown6.out)
              exact ⟨n - (i + 1), by rw [Hn2.out]; omega, i + 1, v6, hsz63, hde63, f0, f4, f5, Lib.hid (by omega), Hall2, Hts6, Lib.hid (below_call Hbw.out (below_call Hb2.out Hbg.out)), rfl⟩
          refine wp_region_goodg (tblG [(38, .slice (some ⟨b, off, none⟩) n c), (39, .slice (some ⟨b, off, none⟩) n c), (40, .int .i64 ((i : Nat) : Int)), (41, .pointer (some ⟨b, off + i, none⟩)), (42, .string ⟨tx.toArray⟩), (43, .bool false), (44, .bool false), (45, .int .i64 ((k : Nat) : Int)), (46, .slice Au m cu), (47, .int .i64 ((m : Nat) : Int)), (48, .bool false), (49, .bool false), (50, undef), (51, undef), (52, undef), (53, undef), (54, undef), (55, undef), (56, undef), (57, undef), (58, undef), (59, .bool false), (60, .bool false)]) 81 (by kernel_rfl) (by kernel_rfl) (by kernel_rfl) (by kernel_rfl) hsz50h.out ?_ ?_ ?_
          · intro t v7 x x' h _ _
            exact h
          · intro i7 o hi7 a x hbx hsame hpre K hK
            have hlt7 : i7 < 23 := (Array.getElem?_eq_some_iff.1 hi7).1
            rcases (show i7 = 0 ∨ i7 = 1 ∨ i7 = 2 ∨ i7 = 3 ∨ i7 = 4 ∨ i7 = 5 ∨ i7 = 6 ∨ i7 = 7 ∨ i7 = 8 ∨ i7 = 9 ∨ i7 = 10 ∨ i7 = 11 ∨ i7 = 12 ∨ i7 = 13 ∨ i7 = 14 ∨ i7 = 15 ∨ i7 = 16 ∨ i7 = 17 ∨ i7 = 18 ∨ i7 = 19 ∨ i7 = 20 ∨ i7 = 21 ∨ i7 = 22 by omega) with rfl | rfl | rfl | rfl | rfl | rfl | rfl | rfl | rfl | rfl | rfl | rfl | rfl | rfl | rfl | rfl | rfl | rfl | rfl | rfl | rfl | rfl | rfl
            all_goals (have ho := Option.some.inj hi7; subst ho; clear hi7 hlt7)
            · have q0 : a.tmps[0]?.getD undef = .slice (some ⟨b, off, none⟩) n c := (hsame 0 (by decide +kernel)).trans f0
              refine step_plain rfl ?_
              have hk := Lib.hid (show ∀ v7 x', v7 = .slice (some ⟨b, off, none⟩) n c → Below x.heap.size x x' → K (a.put (some 38) v7) x' from hK)
              have Hbx := Lib.hid hbx
              clear hsame hpre hK hbx
              go_simp
              exact hk.out _ _ rfl (Below.refl _ _)
            · have q0 : a.tmps[0]?.getD undef = .slice (some ⟨b, off, none⟩) n c := (hsame 0 (by decide +kernel)).trans f0
              refine step_plain rfl ?_
              have hk := Lib.hid (show ∀ v7 x', v7 = .slice (some ⟨b, off, none⟩) n c → Below x.heap.size x x' → K (a.put (some 39) v7) x' from hK)
              have Hbx := Lib.hid hbx
              clear hsame hpre hK hbx
              go_simp
              exact hk.out _ _ rfl (Below.refl _ _)
            · have q5 : a.tmps[5]?.getD undef = .int .i64 ((i : Nat) : Int) := (hsame 5 (by decide +kernel)).trans f5
              refine step_plain rfl ?_
              have hk := Lib.hid (show ∀ v7 x', v7 = .int .i64 ((i : Nat) : Int) → Below x.heap.size x x' → K (a.put (some 40) v7) x' from hK)
              have Hbx := Lib.hid hbx
              clear hsame hpre hK hbx
              go_simp
              exact hk.out _ _ rfl (Below.refl _ _)
            · have q39 : a.tmps[39]?.getD undef = .slice (some ⟨b, off, none⟩) n c := hpre ⟨1, .data⟩ (by simp) rfl (by decide)
              have q40 : a.tmps[40]?.getD undef = .int .i64 ((i : Nat) : Int) := hpre ⟨2, .data⟩ (by simp) rfl (by decide)
              refine step_plain rfl ?_
              have hk := Lib.hid (show ∀ v7 x', v7 = .pointer (some ⟨b, off + i, none⟩) → Below x.heap.size x x' → K (a.put (some 41) v7) x' from hK)
              have Hbx := Lib.hid hbx
              clear hsame hpre hK hbx
              go_simp
              exact hk.out _ _ rfl (Below.refl _ _)
            · have q41 : a.tmps[41]?.getD undef = .pointer (some ⟨b, off + i, none⟩) := hpre ⟨3, .data⟩ (by simp) rfl (by decide)
              refine step_plain rfl ?_
              have hk := Lib.hid (show ∀ v7 x', v7 = .string ⟨tx.toArray⟩ → Below x.heap.size x x' → K (a.put (some 42) v7) x' from hK)
              have Hbx := Lib.hid hbx
              clear hsame hpre hK hbx
              have c8 := Hcx.out _ (below_call Hbr.out Hbx.out)
              go_simp
              exact hk.out _ _ rfl (Below.refl _ _)
            · have q38 : a.tmps[38]?.getD undef = .slice (some ⟨b, off, none⟩) n c := hpre ⟨0, .data⟩ (by simp) rfl (by decide)
              have q42 : a.tmps[42]?.getD undef = .string ⟨tx.toArray⟩ := hpre ⟨4, .data⟩ (by simp) rfl (by decide)
              refine step_plain rfl ?_
              have hk := Lib.hid (show ∀ v7 x', v7 = .bool false → Below x.heap.size x x' → K (a.put (some 43) v7) x' from hK)
              have Hbx := Lib.hid hbx
              clear hsame hpre hK hbx
              go_simp
              refine (Hux.out _ (below_call Hbr.out Hbx.out)).mono ?_
              rintro e2 w2 ⟨rfl, hb2⟩
              go_simp
              exact hk.out _ _ rfl hb2
            · have q43 : a.tmps[43]?.getD undef = .bool false := hpre ⟨5, .data⟩ (by simp) rfl (by decide)
              refine step_plain rfl ?_
              have hk := Lib.hid (show ∀ v7 x', v7 = .bool false → Below x.heap.size x x' → K (a.put (some 44) v7) x' from hK)
              have Hbx := Lib.hid hbx
              clear hsame hpre hK hbx
              go_simp
              exact hk.out _ _ rfl (Below.refl _ _)
            · have q6 : a.tmps[6]?.getD undef = .int .i64 ((k : Nat) : Int) := (hsame 6 (by decide +kernel)).trans f6
              have w44 : a.tmps[44]?.getD undef = .bool false := hpre ⟨6, .guard⟩ (by simp) rfl (by decide)
              refine step_wanted (wanted_of (j := 6) (t := 44) (b := false) rfl rfl w44) ?_
              have hk := Lib.hid (show ∀ v7 x', v7 = .int .i64 ((k : Nat) : Int) → Below x.heap.size x x' → K (a.put (some 45) v7) x' from hK)
              have Hbx := Lib.hid hbx
              clear hsame hpre hK hbx w44
              go_simp
              exact hk.out _ _ rfl (Below.refl _ _)
            · have q4 : a.tmps[4]?.getD undef = .slice Au m cu := (hsame 4 (by decide +kernel)).trans f4
              have w44 : a.tmps[44]?.getD undef = .bool false := hpre ⟨6, .guard⟩ (by simp) rfl (by decide)
              refine step_wanted (wanted_of (j := 6) (t := 44) (b := false) rfl rfl w44) ?_
              have hk := Lib.hid (show ∀ v7 x', v7 = .slice Au m cu → Below x.heap.size x x' → K (a.put (some 46) v7) x' from hK)
              have Hbx := Lib.hid hbx
              clear hsame hpre hK hbx w44
              go_simp
              exact hk.out _ _ rfl (Below.refl _ _)
            · have q46 : a.tmps[46]?.getD undef = .slice Au m cu := hpre ⟨8, .data⟩ (by simp) rfl (by decide)
              have w44 : a.tmps[44]?.getD undef = .bool false := hpre ⟨6, .guard⟩ (by simp) rfl (by decide)
              refine step_wanted (wanted_of (j := 6) (t := 44) (b := false) rfl rfl w44) ?_
              have hk := Lib.hid (show ∀ v7 x', v7 = .int .i64 ((m : Nat) : Int) → Below x.heap.size x x' → K (a.put (some 47) v7) x' from hK)
              have Hbx := Lib.hid hbx
              clear hsame hpre hK hbx w44
              go_simp
              exact hk.out _ _ rfl (Below.refl _ _)
            · have q45 : a.tmps[45]?.getD undef = .int .i64 ((k : Nat) : Int) := hpre ⟨7, .data⟩ (by simp) rfl (by decide)
              have q47 : a.tmps[47]?.getD undef = .int .i64 ((m : Nat) : Int) := hpre ⟨9, .data⟩ (by simp) rfl (by decide)
              have w44 : a.tmps[44]?.getD undef = .bool false := hpre ⟨6, .guard⟩ (by simp) rfl (by decide)
              refine step_wanted (wanted_of (j := 6) (t := 44) (b := false) rfl rfl w44) ?_
              have hk := Lib.hid (show ∀ v7 x', v7 = .bool false → Below x.heap.size x x' → K (a.put (some 48) v7) x' from hK)
              have Hbx := Lib.hid hbx
              clear hsame hpre hK hbx w44
              go_simp
              exact hk.out _ _ (by first | rfl | (congr 1; exact decide_eq_false (by omega)) | (simp; omega)) (Below.refl _ _)
            · have q48 : a.tmps[48]?.getD undef = .bool false := hpre ⟨10, .data⟩ (by simp) rfl (by decide)
              have w44 : a.tmps[44]?.getD undef = .bool false := hpre ⟨6, .guard⟩ (by simp) rfl (by decide)
              refine step_wanted (wanted_of (j := 6) (t := 44) (b := false) rfl rfl w44) ?_
              have hk := Lib.hid (show ∀ v7 x', v7 = .bool false → Below x.heap.size x x' → K (a.put (some 49) v7) x' from hK)
              have Hbx := Lib.hid hbx
              clear hsame hpre hK hbx w44
              go_simp
              exact hk.out _ _ rfl (Below.refl _ _)
            · have w49 : a.tmps[49]?.getD undef = .bool false := hpre ⟨11, .guard⟩ (by simp) rfl (by decide)
              refine step_left (not_wanted (j := 11) (t := 49) (b := true) rfl rfl (.inr w49)) ?_
              have hk := Lib.hid (show ∀ v7 x', v7 = undef → Below x.heap.size x x' → K (a.put (some 50) v7) x' from hK)
              have Hbx := Lib.hid hbx
              clear hsame hpre hK hbx w49
              exact hk.out _ _ rfl (Below.refl _ _)
            · have w49 : a.tmps[49]?.getD undef = .bool false := hpre ⟨11, .guard⟩ (by simp) rfl (by decide)
              refine step_left (not_wanted (j := 11) (t := 49) (b := true) rfl rfl (.inr w49)) ?_
              have hk := Lib.hid (show ∀ v7 x', v7 = undef → Below x.heap.size x x' → K (a.put (some 51) v7) x' from hK)
              have Hbx := Lib.hid hbx
              clear hsame hpre hK hbx w49
              exact hk.out _ _ rfl (Below.refl _ _)
            · have w49 : a.tmps[49]?.getD undef = .bool false := hpre ⟨11, .guard⟩ (by simp) rfl (by decide)
              refine step_left (not_wanted (j := 11) (t := 49) (b := true) rfl rfl (.inr w49)) ?_
              have hk := Lib.hid (show ∀ v7 x', v7 = undef → Below x.heap.size x x' → K (a.put (some 52) v7) x' from hK)
              have Hbx := Lib.hid hbx
              clear hsame hpre hK hbx w49
              exact hk.out _ _ rfl (Below.refl _ _)
            · have w49 : a.tmps[49]?.getD undef = .bool false := hpre ⟨11, .guard⟩ (by simp) rfl (by decide)
              refine step_left (not_wanted (j := 11) (t := 49) (b := true) rfl rfl (.inr w49)) ?_
              have hk := Lib.hid (show ∀ v7 x', v7 = undef → Below x.heap.size x x' → K (a.put (some 53) v7) x' from hK)
              have Hbx := Lib.hid hbx
              clear hsame hpre hK hbx w49
              exact hk.out _ _ rfl (Below.refl _ _)
            · have w49 : a.tmps[49]?.getD undef = .bool false := hpre ⟨11, .guard⟩ (by simp) rfl (by decide)
              refine step_left (not_wanted (j := 11) (t := 49) (b := true) rfl rfl (.inr w49)) ?_
              have hk := Lib.hid (show ∀ v7 x', v7 = undef → Below x.heap.size x x' → K (a.put (some 54) v7) x' from hK)
              have Hbx := Lib.hid hbx
              clear hsame hpre hK hbx w49
              exact hk.out _ _ rfl (Below.refl _ _)
            · have w49 : a.tmps[49]?.getD undef = .bool false := hpre ⟨11, .guard⟩ (by simp) rfl (by decide)
              refine step_left (not_wanted (j := 11) (t := 49) (b := true) rfl rfl (.inr w49)) ?_
              have hk := Lib.hid (show ∀ v7 x', v7 = undef → Below x.heap.size x x' → K (a.put (some 55) v7) x' from hK)
              have Hbx := Lib.hid hbx
              clear hsame hpre hK hbx w49
              exact hk.out _ _ rfl (Below.refl _ _)
            · have w49 : a.tmps[49]?.getD undef = .bool false := hpre ⟨11, .guard⟩ (by simp) rfl (by decide)
              refine step_left (not_wanted (j := 11) (t := 49) (b := true) rfl rfl (.inr w49)) ?_
              have hk := Lib.hid (show ∀ v7 x', v7 = undef → Below x.heap.size x x' → K (a.put (some 56) v7) x' from hK)
              have Hbx := Lib.hid hbx
              clear hsame hpre hK hbx w49
              exact hk.out _ _ rfl (Below.refl _ _)
            · have w49 : a.tmps[49]?.getD undef = .bool false := hpre ⟨11, .guard⟩ (by simp) rfl (by decide)
              refine step_left (not_wanted (j := 11) (t := 49) (b := true) rfl rfl (.inr w49)) ?_
              have hk := Lib.hid (show ∀ v7 x', v7 = undef → Below x.heap.size x x' → K (a.put (some 57) v7) x' from hK)
              have Hbx := Lib.hid hbx
              clear hsame hpre hK hbx w49
              exact hk.out _ _ rfl (Below.refl _ _)
            · have w49 : a.tmps[49]?.getD undef = .bool false := hpre ⟨11, .guard⟩ (by simp) rfl (by decide)
              refine step_left (not_wanted (j := 11) (t := 49) (b := true) rfl rfl (.inr w49)) ?_
              have hk := Lib.hid (show ∀ v7 x', v7 = undef → Below x.heap.size x x' → K (a.put (some 58) v7) x' from hK)
              have Hbx := Lib.hid hbx
              clear hsame hpre hK hbx w49
              exact hk.out _ _ rfl (Below.refl _ _)
            · have q49 : a.tmps[49]?.getD undef = .bool false := hpre ⟨11, .data⟩ (by simp) rfl (by decide)
              have q58 : a.tmps[58]?.getD undef = undef := hpre ⟨20, .data⟩ (by simp) rfl (by decide)
              have w44 : a.tmps[44]?.getD undef = .bool false := hpre ⟨6, .guard⟩ (by simp) rfl (by decide)
              refine step_wanted (wanted_of (j := 6) (t := 44) (b := false) rfl rfl w44) ?_
              have hk := Lib.hid (show ∀ v7 x', v7 = .bool false → Below x.heap.size x x' → K (a.put (some 59) v7) x' from hK)
              have Hbx := Lib.hid hbx
              clear hsame hpre hK hbx w44
              go_simp
              exact hk.out _ _ rfl (Below.refl _ _)
            · have q44 : a.tmps[44]?.getD undef = .bool false := hpre ⟨6, .data⟩ (by simp) rfl (by decide)
              have q59 : a.tmps[59]?.getD undef = .bool false := hpre ⟨21, .data⟩ (by simp) rfl (by decide)
              refine step_plain rfl ?_
              have hk := Lib.hid (show ∀ v7 x', v7 = .bool false → Below x.heap.size x x' → K (a.put (some 60) v7) x' from hK)
              have Hbx := Lib.hid hbx
              clear hsame hpre hK hbx
              go_simp
              exact hk.out _ _ rfl (Below.refl _ _)
          intro a51 x51 hbx hsame hG hsz51 hde51
          replace f0 := (hsame 0 (by decide +kernel)).trans f0
          replace f4 := (hsame 4 (by decide +kernel)).trans f4
          replace f5 := (hsame 5 (by decide +kernel)).trans f5
          replace f6 := (hsame 6 (by decide +kernel)).trans f6
          have f60 : a51.tmps[60]?.getD undef = .bool false := hG 22 (by decide)
          have Hbx51 := Lib.hid hbx
          have hsz51h := Lib.hid hsz51
          have hde51h := Lib.hid (hde51.trans hde50h.out)
          clear hsame hG hbx hsz51 hde51 hsz50h hde50h
          have Hbs := Lib.hid (below_call Hbr.out Hbx51.out)
          refine then_go ?_
          repeat with_reducible refine wp_seq ?_
          refine wp_cond_false (eval_at f60) ?_
          refine wp_skip ?_
          refine then_go ?_
          clear f60
          repeat with_reducible refine wp_seq ?_
          have hins : refOut L (i + 1) = insT O tx := by rw [refOut_ins hil (by rw [← Hx.out, ← HO.out, ← Hub.out]; rw [Hat.out, List.getElem?_eq_none (by have := Hm.out; omega)]; rfl), ← Hx.out, ← HO.out]
          unfold insT at hins
          rw [Hat.out] at hins
          have Hins := Lib.hid hins
          clear hins
          obtain ⟨ws, hws⟩ : ∃ z, z = x51 := ⟨_, rfl⟩
          rw [← hws] at Hbs ⊢
          clear hws
          have hm1 : m ≤ 1000 := by rw [Hm.out]; exact hOl
          have hrs := Hru.out.grow Hbs.out
          have Hrs := Lib.hid hrs
          have hkm : k ≤ m := Hk.out
          have hkc : k ≤ cu := by omega
          have hrf := Rd.from_ (c := cu) (k := k) hrs (by rw [List.length_map, ← Hm.out]; exact hcu1)
          rw [← List.map_drop] at hrf
          have hdl : m - k = (O.drop k).length := by rw [List.length_drop, ← Hm.out]
          obtain ⟨v2, W2, hrun, hownc, hbc⟩ := consT_run ws tx (O.drop k) (by rw [List.length_drop]; omega) (c := cu - k) hdl hrf
          obtain ⟨A3, hA3⟩ : ∃ B, B = (if cu = k then (Au : Option Addr) else (Au : Option Addr).map (·.add (k * 1))) := ⟨_, rfl⟩
          rw [← hA3] at hrun
          obtain ⟨m3, hm3⟩ : ∃ q, q = m - k := ⟨_, rfl⟩
          obtain ⟨c3, hc3⟩ : ∃ q, q = cu - k := ⟨_, rfl⟩
          rw [← hm3, ← hc3] at hrun
          have hfr := fun W : World => fromT_run (A := Au) (c := cu) hkm W
          rw [← hA3, ← hm3, ← hc3] at hfr
          have Hfr := Lib.hid hfr
          have Hrun := Lib.hid hrun
          have Hownc := Lib.hid hownc
          have Hbc := Lib.hid hbc
          have Hz1 := Lib.hid (show Below ws.heap.size ws (ws.drew.alloc (.cells #[.string ⟨tx.toArray⟩] 9)) from ((Below.refl _ _).drew).alloc (Nat.le_refl _) _)
          have Hz0 := Lib.hid (show Below ws.heap.size ws ws.drew from (Below.refl _ _).drew)
          clear hfr hrun hownc hbc hA3 hm3 hc3 hrs hrf hdl
          refine wp_region_fix2 (fun t => match t with | 61 => .slice (some ⟨b, off, none⟩) n c | 62 => .int .i64 ((i : Nat) : Int) | 63 => .pointer (some ⟨b, off + i, none⟩) | 64 => .string ⟨tx.toArray⟩ | 65 => .slice (some ⟨ws.heap.size, 0, none⟩) 1 1 | 66 => .slice Au m cu | 67 => .int .i64 ((k : Nat) : Int) | 68 => .slice A3 m3 c3 | 69 => v2 | 7 => v2 | _ => undef) (Ch2 4 8 ws.drew (ws.drew.alloc (.cells #[.string ⟨tx.toArray⟩] 9)) W2) 81 (by kernel_rfl) (by kernel_rfl) (by kernel_rfl) hsz51h.out Ch2.start ?_ ?_
          · intro i0 o0 hi0 dn aw xw hJ hd hpre hcl hsame hV K hK
            have hlt0 : i0 < 10 := (Array.getElem?_eq_some_iff.1 hi0).1
            rcases (show i0 = 0 ∨ i0 = 1 ∨ i0 = 2 ∨ i0 = 3 ∨ i0 = 4 ∨ i0 = 5 ∨ i0 = 6 ∨ i0 = 7 ∨ i0 = 8 ∨ i0 = 9 by omega) with rfl | rfl | rfl | rfl | rfl | rfl | rfl | rfl | rfl | rfl
            all_goals (have ho0 := Option.some.inj hi0; subst ho0; clear hi0 hlt0)
            · have q0 : aw.tmps[0]?.getD undef = .slice (some ⟨b, off, none⟩) n c := (hsame 0 (fun j hj => absurd hj (slot_free (by decide +kernel) j))).trans f0
              have hk := Lib.hid (show ∀ v x', v = .slice (some ⟨b, off, none⟩) n c → (Ch2 4 8 ws.drew (ws.drew.alloc (.cells #[.string ⟨tx.toArray⟩] 9)) W2) (also dn 0) x' → K (aw.put (some 61) v) x' from fun v x' h1 h2 => hK v x' (fun s hs => by cases hs; exact h1) h2)
              have HJ2 := Lib.hid hJ
              clear hsame hpre hcl hK hV hJ hd
              go_simp
              exact hk.out _ _ rfl (HJ2.out.more (by decide) (by decide))
            · have q5 : aw.tmps[5]?.getD undef = .int .i64 ((i : Nat) : Int) := (hsame 5 (fun j hj => absurd hj (slot_free (by decide +kernel) j))).trans f5
              have hk := Lib.hid (show ∀ v x', v = .int .i64 ((i : Nat) : Int) → (Ch2 4 8 ws.drew (ws.drew.alloc (.cells #[.string ⟨tx.toArray⟩] 9)) W2) (also dn 1) x' → K (aw.put (some 62) v) x' from fun v x' h1 h2 => hK v x' (fun s hs => by cases hs; exact h1) h2)
              have HJ2 := Lib.hid hJ
              clear hsame hpre hcl hK hV hJ hd
              go_simp
              exact hk.out _ _ rfl (HJ2.out.more (by decide) (by decide))
            · have q61 : aw.tmps[61]?.getD undef = .slice (some ⟨b, off, none⟩) n c := hV 0 61 (hpre ⟨0, .data⟩ (by simp) rfl) rfl
              have q62 : aw.tmps[62]?.getD undef = .int .i64 ((i : Nat) : Int) := hV 1 62 (hpre ⟨1, .data⟩ (by simp) rfl) rfl
              have hk := Lib.hid (show ∀ v x', v = .pointer (some ⟨b, off + i, none⟩) → (Ch2 4 8 ws.drew (ws.drew.alloc (.cells #[.string ⟨tx.toArray⟩] 9)) W2) (also dn 2) x' → K (aw.put (some 63) v) x' from fun v x' h1 h2 => hK v x' (fun s hs => by cases hs; exact h1) h2)
              have HJ2 := Lib.hid hJ
              clear hsame hpre hcl hK hV hJ hd
              go_simp
              exact hk.out _ _ rfl (HJ2.out.more (by decide) (by decide))
            · have q63 : aw.tmps[63]?.getD undef = .pointer (some ⟨b, off + i, none⟩) := hV 2 63 (hpre ⟨2, .data⟩ (by simp) rfl) rfl
              have hk := Lib.hid (show ∀ v x', v = .string ⟨tx.toArray⟩ → (Ch2 4 8 ws.drew (ws.drew.alloc (.cells #[.string ⟨tx.toArray⟩] 9)) W2) (also dn 3) x' → K (aw.put (some 64) v) x' from fun v x' h1 h2 => hK v x' (fun s hs => by cases hs; exact h1) h2)
              have HJ2 := Lib.hid hJ
              clear hsame hpre hcl hK hV hJ hd
              have c8 := Hcx.out _ (below_call Hbs.out (HJ2.out.all (p := fun z => Below ws.heap.size ws z) Hz0.out Hz1.out Hbc.out))
              go_simp
              exact hk.out _ _ rfl (HJ2.out.more (by decide) (by decide))
            · have q64 : aw.tmps[64]?.getD undef = .string ⟨tx.toArray⟩ := hV 3 64 (hpre ⟨3, .data⟩ (by simp) rfl) rfl
              have hk := Lib.hid (show ∀ v x', v = .slice (some ⟨ws.heap.size, 0, none⟩) 1 1 → (Ch2 4 8 ws.drew (ws.drew.alloc (.cells #[.string ⟨tx.toArray⟩] 9)) W2) (also dn 4) x' → K (aw.put (some 65) v) x' from fun v x' h1 h2 => hK v x' (fun s hs => by cases hs; exact h1) h2)
              obtain ⟨hxe, hJ3⟩ := hJ.first hd (by decide)
              subst hxe
              have HJ3 := Lib.hid hJ3
              clear hsame hpre hcl hK hV hJ hJ3 hd
              go_simp
              exact hk.out _ _ rfl HJ3.out
            · have q4 : aw.tmps[4]?.getD undef = .slice Au m cu := (hsame 4 (fun j hj => absurd hj (slot_free (by decide +kernel) j))).trans f4
              have hk := Lib.hid (show ∀ v x', v = .slice Au m cu → (Ch2 4 8 ws.drew (ws.drew.alloc (.cells #[.string ⟨tx.toArray⟩] 9)) W2) (also dn 5) x' → K (aw.put (some 66) v) x' from fun v x' h1 h2 => hK v x' (fun s hs => by cases hs; exact h1) h2)
              have HJ2 := Lib.hid hJ
              clear hsame hpre hcl hK hV hJ hd
              go_simp
              exact hk.out _ _ rfl (HJ2.out.more (by decide) (by decide))
            · have q6 : aw.tmps[6]?.getD undef = .int .i64 ((k : Nat) : Int) := (hsame 6 (fun j hj => absurd hj (slot_free (by decide +kernel) j))).trans f6
              have hk := Lib.hid (show ∀ v x', v = .int .i64 ((k : Nat) : Int) → (Ch2 4 8 ws.drew (ws.drew.alloc (.cells #[.string ⟨tx.toArray⟩] 9)) W2) (also dn 6) x' → K (aw.put (some 67) v) x' from fun v x' h1 h2 => hK v x' (fun s hs => by cases hs; exact h1) h2)
              have HJ2 := Lib.hid hJ
              clear hsame hpre hcl hK hV hJ hd
              go_simp
              exact hk.out _ _ rfl (HJ2.out.more (by decide) (by decide))
            · have q66 : aw.tmps[66]?.getD undef = .slice Au m cu := hV 5 66 (hpre ⟨5, .data⟩ (by simp) rfl) rfl
              have q67 : aw.tmps[67]?.getD undef = .int .i64 ((k : Nat) : Int) := hV 6 67 (hpre ⟨6, .data⟩ (by simp) rfl) rfl
              have hk := Lib.hid (show ∀ v x', v = .slice A3 m3 c3 → (Ch2 4 8 ws.drew (ws.drew.alloc (.cells #[.string ⟨tx.toArray⟩] 9)) W2) (also dn 7) x' → K (aw.put (some 68) v) x' from fun v x' h1 h2 => hK v x' (fun s hs => by cases hs; exact h1) h2)
              have HJ2 := Lib.hid hJ
              clear hsame hpre hcl hK hV hJ hd
              refine wp_fromT (.tmp 66) (.tmp 67) rfl (eval_at q66) (eval_at q67) Hfr.out ?_
              exact hk.out _ _ rfl (HJ2.out.more (by decide) (by decide))
            · have q65 : aw.tmps[65]?.getD undef = .slice (some ⟨ws.heap.size, 0, none⟩) 1 1 := hV 4 65 (hpre ⟨4, .data⟩ (by simp) rfl) rfl
              have q68 : aw.tmps[68]?.getD undef = .slice A3 m3 c3 := hV 7 68 (hpre ⟨7, .data⟩ (by simp) rfl) rfl
              have hk := Lib.hid (show ∀ v x', v = v2 → (Ch2 4 8 ws.drew (ws.drew.alloc (.cells #[.string ⟨tx.toArray⟩] 9)) W2) (also dn 8) x' → K (aw.put (some 69) v) x' from fun v x' h1 h2 => hK v x' (fun s hs => by cases hs; exact h1) h2)
              obtain ⟨hxe, hJ3⟩ := hJ.second (hpre ⟨4, .data⟩ (by simp) rfl) hd (by decide)
              subst hxe
              refine wp_append (.tmp 65) (.tmp 68) 22 rfl (by rw [eval_at q65, eval_at q68]; exact Hrun.out) ?_
              exact hk.out _ _ rfl hJ3
            · have q69 : aw.tmps[69]?.getD undef = v2 := hV 8 69 (hpre ⟨8, .data⟩ (by simp) rfl) rfl
              have hk := Lib.hid (show ∀ v x', v = v2 → (Ch2 4 8 ws.drew (ws.drew.alloc (.cells #[.string ⟨tx.toArray⟩] 9)) W2) (also dn 9) x' → K (aw.put (some 7) v) x' from fun v x' h1 h2 => hK v x' (fun s hs => by cases hs; exact h1) h2)
              have HJ2 := Lib.hid hJ
              clear hsame hpre hcl hK hV hJ hd
              go_simp
              exact hk.out _ _ rfl (HJ2.out.more (by decide) (by decide))
          intro dn a52 x52 hall hJ hsame hV hsz52 hde52
          have hx := hJ.done (hall 8 (by decide))
          rw [hx]
          clear hx
          replace f0 := (hsame 0 (slot_free (by decide +kernel))).trans f0
          replace f4 := (hsame 4 (slot_free (by decide +kernel))).trans f4
          replace f5 := (hsame 5 (slot_free (by decide +kernel))).trans f5
          replace f6 := (hsame 6 (slot_free (by decide +kernel))).trans f6
          have f7 : a52.tmps[7]?.getD undef = v2 := hV 9 7 (by decide) rfl
          have hsz52h := Lib.hid hsz52
          have hde52h := Lib.hid (hde52.trans hde51h.out)
          clear hsame hV hJ hall hsz52 hde52 hsz51h hde51h
          refine then_go ?_
          repeat with_reducible refine wp_seq ?_
          obtain ⟨Av, cv, hv2, hcv1, hcv2, hrv⟩ := OwnT.form Hownc.out
          obtain ⟨q, hq⟩ : ∃ q, q = (tx :: O.drop k).length := ⟨_, rfl⟩
          have hqm : q ≤ 1001 := by rw [hq]; simp; omega
          rw [← hq] at hv2 hcv1
          have Hq := Lib.hid hq
          subst hv2
          have Hrv := Lib.hid hrv
          have Hb2 := Lib.hid (below_call Hbs.out Hbc.out)
          have hru2 := Rd.upto_ (c := cu) (k := k) (Hru.out.grow Hb2.out)
          rw [← List.map_take] at hru2
          obtain ⟨A4, hA4⟩ : ∃ B, B = (if cu = 0 then (Au : Option Addr) else (Au : Option Addr).map (·.add (0 * 1))) := ⟨_, rfl⟩
          rw [← hA4] at hru2
          have hup := fun W : World => uptoT_run (A := Au) (n := m) hkc W
          rw [← hA4] at hup
          have Hup := Lib.hid hup
          have Hru2 := Lib.hid hru2
          have Htl := Lib.hid (show (O.take k).length = k by rw [List.length_take, ← Hm.out]; omega)
          clear hq hrv hru2 hA4 hup
          refine wp_region_lit ?_
          refine wpList_next rfl hsz52h hde52h 70 rfl (by decide) fun K hK => ?_
          go_simp
          refine hK _ _ fun a53 hsz53 hde53 f70 hk => ?_
          clear hK K
          replace f0 := (hk 0 (by decide)).trans f0
          replace f4 := (hk 4 (by decide)).trans f4
          replace f5 := (hk 5 (by decide)).trans f5
          replace f6 := (hk 6 (by decide)).trans f6
          replace f7 := (hk 7 (by decide)).trans f7
          replace f70 : a53.tmps[70]?.getD undef = .slice (some ⟨W2.heap.size, 0, none⟩) 0 0 := f70
          clear hk hsz52h hde52h
          refine wpList_next rfl hsz53 hde53 71 rfl (by decide) fun K hK => ?_
          go_simp
          refine hK _ _ fun a54 hsz54 hde54 f71 hk => ?_
          clear hK K
          replace f0 := (hk 0 (by decide)).trans f0
          replace f4 := (hk 4 (by decide)).trans f4
          replace f5 := (hk 5 (by decide)).trans f5
          replace f6 := (hk 6 (by decide)).trans f6
          replace f7 := (hk 7 (by decide)).trans f7
          replace f70 := (hk 70 (by decide)).trans f70
          replace f71 : a54.tmps[71]?.getD undef = .slice Au m cu := f71
          clear hk hsz53 hde53
          refine wpList_next rfl hsz54 hde54 72 rfl (by decide) fun K hK => ?_
          go_simp
          refine hK _ _ fun a55 hsz55 hde55 f72 hk => ?_
          clear hK K
          replace f0 := (hk 0 (by decide)).trans f0
          replace f4 := (hk 4 (by decide)).trans f4
          replace f5 := (hk 5 (by decide)).trans f5
          replace f6 := (hk 6 (by decide)).trans f6
          replace f7 := (hk 7 (by decide)).trans f7
          replace f70 := (hk 70 (by decide)).trans f70
          replace f71 := (hk 71 (by decide)).trans f71
          replace f72 : a55.tmps[72]?.getD undef = .int .i64 ((k : Nat) : Int) := f72
          clear hk hsz54 hde54
          refine wpList_next rfl hsz55 hde55 73 rfl (by decide) fun K hK => ?_
          refine wp_uptoT (.tmp 71) (.tmp 72) rfl (eval_at f71) (eval_at f72) Hup.out ?_
          refine hK _ _ fun a56 hsz56 hde56 f73 hk => ?_
          clear hK K
          replace f0 := (hk 0 (by decide)).trans f0
          replace f4 := (hk 4 (by decide)).trans f4
          replace f5 := (hk 5 (by decide)).trans f5
          replace f6 := (hk 6 (by decide)).trans f6
          replace f7 := (hk 7 (by decide)).trans f7
          replace f70 := (hk 70 (by decide)).trans f70
          replace f73 : a56.tmps[73]?.getD undef = .slice A4 k cu := f73
          clear hk hsz55 hde55 f71 f72
          refine wpList_next rfl hsz56 hde56 74 rfl (by decide) fun K hK => ?_
          obtain ⟨we, hwe⟩ : ∃ z, z = W2.alloc (.cells #[] 9) := ⟨_, rfl⟩
          have Hoe := Lib.hid (show OwnK we W2.heap.size 9 1 (.slice (some ⟨W2.heap.size, 0, none⟩) 0 0) 0 [] by rw [hwe]; exact OwnK.empty W2 9 1)
          have Hbe := Lib.hid (show Below W2.heap.size W2 we by rw [hwe]; exact (Below.refl _ _).alloc (Nat.le_refl _) _)
          rw [← hwe]
          clear hwe
          refine wp_appK elemS1 (.tmp 70) (.tmp 73) rfl W2.heap.size 0 _ [] (eval_at f70) Hoe.out _ A4 k cu ((O.take k).map str) (by rw [List.length_map, Htl.out]; omega) (eval_at f73) (Hru2.out.grow Hbe.out) (by intro u hu; obtain ⟨z, _, rfl⟩ := List.mem_map.1 hu; rfl) (by omega) (by omega) Hbe.out.size ?_
          intro v5 w5 hown5 hg5 hat5
          rw [Nat.zero_add, List.nil_append] at hown5
          refine hK _ _ fun a57 hsz57 hde57 f74 hk => ?_
          clear hK K
          replace f0 := (hk 0 (by decide)).trans f0
          replace f4 := (hk 4 (by decide)).trans f4
          replace f5 := (hk 5 (by decide)).trans f5
          replace f6 := (hk 6 (by decide)).trans f6
          replace f7 := (hk 7 (by decide)).trans f7
          replace f74 : a57.tmps[74]?.getD undef = v5 := f74
          clear hk hsz56 hde56 f70 f73
          have Hbf := Lib.hid (Hbe.out.trans (OwnK.below_of Hoe.out hg5 Hbe.out.size (Nat.le_refl _)))
          have Hown5 := Lib.hid hown5
          clear hown5 hg5 hat5
          refine wpList_next rfl hsz57 hde57 75 rfl (by decide) fun K hK => ?_
          go_simp
          refine hK _ _ fun a58 hsz58 hde58 f75 hk => ?_
          clear hK K
          replace f0 := (hk 0 (by decide)).trans f0
          replace f4 := (hk 4 (by decide)).trans f4
          replace f5 := (hk 5 (by decide)).trans f5
          replace f6 := (hk 6 (by decide)).trans f6
          replace f7 := (hk 7 (by decide)).trans f7
          replace f74 := (hk 74 (by decide)).trans f74
          replace f75 : a58.tmps[75]?.getD undef = .slice Av q cv := f75
          clear hk hsz57 hde57
          refine wpList_next rfl hsz58 hde58 76 rfl (by decide) fun K hK => ?_
          refine wp_appK elemS1 (.tmp 74) (.tmp 75) rfl W2.heap.size k _ ((O.take k).map str) (eval_at f74) Hown5.out _ Av q cv ((tx :: O.drop k).map str) (by rw [List.length_map, Hq.out, Nat.mul_one]) (eval_at f75) (Hrv.out.grow Hbf.out) (by intro u hu; obtain ⟨z, _, rfl⟩ := List.mem_map.1 hu; rfl) (by omega) (by omega) Hbf.out.size ?_
          intro v6 w6 hown6 hg6 hat6
          refine hK _ _ fun a59 hsz59 hde59 f76 hk => ?_
          clear hK K
          replace f0 := (hk 0 (by decide)).trans f0
          replace f4 := (hk 4 (by decide)).trans f4
          replace f5 := (hk 5 (by decide)).trans f5
          replace f6 := (hk 6 (by decide)).trans f6
          replace f7 := (hk 7 (by decide)).trans f7
          replace f76 : a59.tmps[76]?.getD undef = v6 := f76
          clear hk hsz58 hde58 f74 f75
          have Hbg := Lib.hid (Hbf.out.trans (OwnK.below_of Hown5.out hg6 Hbf.out.size (Nat.le_refl _)))
          have Hown6 := Lib.hid hown6
          clear hown6 hg6 hat6
          refine wpList_next rfl hsz59 hde59 4 rfl (by decide) fun K hK => ?_
          go_simp
          refine hK _ _ fun a60 hsz60 hde60 f4 hk => ?_
          clear hK K
          replace f0 := (hk 0 (by decide)).trans f0
          replace f5 := (hk 5 (by decide)).trans f5
          replace f6 := (hk 6 (by decide)).trans f6
          replace f7 := (hk 7 (by decide)).trans f7
          replace f4 : a60.tmps[4]?.getD undef = v6 := f4
          clear hk hsz59 hde59 f76
          refine wpList_nil ?_
          clear f6 f7
          repeat first | with_reducible refine block_go ?_ | with_reducible refine then_go ?_
          repeat with_reducible refine wp_seq ?_
          refine wp_region_lit ?_
          refine wpList_next rfl hsz60 hde60 12 rfl (by decide) fun K hK => ?_
          go_simp
          refine hK _ _ fun a61 hsz61 hde61 f12 hk => ?_
          clear hK K
          replace f0 := (hk 0 (by decide)).trans f0
          replace f5 := (hk 5 (by decide)).trans f5
          replace f4 := (hk 4 (by decide)).trans f4
          clear hk hsz60 hde60
          refine wpList_next rfl hsz61 hde61 13 rfl (by decide) fun K hK => ?_
          go_simp
          refine hK _ _ fun a62 hsz62 hde62 f13 hk => ?_
          clear hK K
          replace f0 := (hk 0 (by decide)).trans f0
          replace f5 := (hk 5 (by decide)).trans f5
          replace f4 := (hk 4 (by decide)).trans f4
          clear hk hsz61 hde61 f12
          replace f13 : a62.tmps[13]?.getD undef = .int .i64 (((i + 1 : Nat) : Int)) := f13.trans (by first | rfl | (congr 1; done) | (congr 1; omega) | (congr 1; rw [IntKind.wrap_i64] <;> omega))
          refine wpList_next rfl hsz62 hde62 5 rfl (by decide) fun K hK => ?_
          go_simp
          refine hK _ _ fun a63 hsz63 hde63 f5 hk => ?_
          clear hK K
          replace f0 := (hk 0 (by decide)).trans f0
          replace f4 := (hk 4 (by decide)).trans f4
          replace f5 : a63.tmps[5]?.getD undef = .int .i64 ((i + 1 : Nat) : Int) := f5
          clear hk hsz62 hde62 f13
          refine wpList_nil ?_
          refine then_go ?_
          have Hts6 := Lib.hid (show TextsAt w6 v6 (refOut L (i + 1)) by
            rw [Hins.out]
            refine OwnT.texts (base := W2.heap.size) ?_
            unfold OwnT
            rw [List.length_append, List.map_append, Htl.out, ← Hq.out]
            exact Hown6.out)
          exact ⟨n - (i + 1), by rw [Hn2.out]; omega, i + 1, v6, hsz63, hde63, f0, f4, f5, Lib.hid (by omega), Hall2, Hts6, Lib.hid (below_call Hbw.out (below_call Hb2.out Hbg.out)), rfl⟩
  refine wp_region_lit ?_
  refine wpList_next rfl hsz19 hde19 8 rfl (by decide) fun K hK => ?_
  go_simp
  refine hK _ _ fun a20 hsz20 hde20 f8 hk => ?_
  clear hK K
  replace f0 := (hk 0 (by decide)).trans f0
  replace f4 := (hk 4 (by decide)).trans f4
  replace f5 := (hk 5 (by decide)).trans f5
  clear hk hsz19 hde19
  refine wpList_next rfl hsz20 hde20 9 rfl (by decide) fun K hK => ?_
  go_simp
  refine hK _ _ fun a21 hsz21 hde21 f9 hk => ?_
  clear hK K
  replace f0 := (hk 0 (by decide)).trans f0
  replace f4 := (hk 4 (by decide)).trans f4
  replace f5 := (hk 5 (by decide)).trans f5
  replace f8 := (hk 8 (by decide)).trans f8
  clear hk hsz20 hde20
  refine wpList_next rfl hsz21 hde21 10 rfl (by decide) fun K hK => ?_
  go_simp
  refine hK _ _ fun a22 hsz22 hde22 f10 hk => ?_
  clear hK K
  replace f0 := (hk 0 (by decide)).trans f0
  replace f4 := (hk 4 (by decide)).trans f4
  replace f5 := (hk 5 (by decide)).trans f5
  replace f8 := (hk 8 (by decide)).trans f8
  clear hk hsz21 hde21 f9
  refine wpList_next rfl hsz22 hde22 11 rfl (by decide) fun K hK => ?_
  go_simp
  refine hK _ _ fun a23 hsz23 hde23 f11 hk => ?_
  clear hK K
  replace f0 := (hk 0 (by decide)).trans f0
  replace f4 := (hk 4 (by decide)).trans f4
  replace f5 := (hk 5 (by decide)).trans f5
  clear hk hsz22 hde22 f8 f10
  replace f11 : a23.tmps[11]?.getD undef = .bool false := f11.trans (by first | rfl | (congr 1; first | exact decide_eq_true (by omega) | exact decide_eq_false (by omega)) | (simp; omega))
  refine wpList_nil ?_
  refine then_go ?_
  repeat with_reducible refine wp_seq ?_
  refine wp_cond_false (eval_at f11) ?_
  refine wp_exit ?_
  repeat with_reducible refine then_exit ?_
  refine block_exit ?_
  repeat first | with_reducible refine block_go ?_ | with_reducible refine then_go ?_
  clear f11 f0 f5
  repeat with_reducible refine wp_seq ?_
  have hin : i = L.length := by have := Hi.out; rw [← Hn.out]; omega
  have hall := Hall.out
  have hts := Hts.out
  rw [hin] at hall hts
  rw [List.take_length] at hall
  rw [refOut_clean (List.all_eq_true.1 hall)] at hts
  have Hal := Lib.hid hall
  have Htt := Lib.hid hts
  have hlen : (cleanT L).length ≤ 1000 := by rw [← refOut_clean (List.all_eq_true.1 hall)]; have := refOut_le L L.length (Nat.le_refl _); have := Hn.out; omega
  clear hall hts hin
  obtain ⟨Au, cu, hu, hcu1, hcu2, hru⟩ := Htt.out
  obtain ⟨m, hm⟩ : ∃ m, m = (cleanT L).length := ⟨_, rfl⟩
  rw [← hm] at hu hlen
  have Hm := Lib.hid hm
  have Hu := Lib.hid hu
  rw [hu] at f4
  clear hu hm hcu1 hcu2 hru
  by_cases h8 : 8 < m
  · skip
    refine wp_region_lit ?_
    refine wpList_next rfl hsz23 hde23 77 rfl (by decide) fun K hK => ?_
    go_simp
    refine hK _ _ fun a24 hsz24 hde24 f77 hk => ?_
    clear hK K
    replace f4 := (hk 4 (by decide)).trans f4
    replace f77 : a24.tmps[77]?.getD undef = .slice Au m cu := f77
    clear hk hsz23 hde23
    refine wpList_next rfl hsz24 hde24 78 rfl (by decide) fun K hK => ?_
    go_simp
    refine hK _ _ fun a25 hsz25 hde25 f78 hk => ?_
    clear hK K
    replace f4 := (hk 4 (by decide)).trans f4
    replace f78 : a25.tmps[78]?.getD undef = .int .i64 ((m : Nat) : Int) := f78
    clear hk hsz24 hde24 f77
    refine wpList_next rfl hsz25 hde25 79 rfl (by decide) fun K hK => ?_
    go_simp
    refine hK _ _ fun a26 hsz26 hde26 f79 hk => ?_
    clear hK K
    replace f4 := (hk 4 (by decide)).trans f4
    clear hk hsz25 hde25 f78
    replace f79 : a26.tmps[79]?.getD undef = .bool true := f79.trans (by first | rfl | (congr 1; first | exact decide_eq_true (by omega) | exact decide_eq_false (by omega)) | (simp; omega))
    refine wpList_nil ?_
    refine then_go ?_
    repeat with_reducible refine wp_seq ?_
    refine wp_cond_true (eval_at f79) ?_
    clear f79
    repeat with_reducible refine wp_seq ?_
    refine wp_region_lit ?_
    refine wpList_next rfl hsz26 hde26 2 rfl (by decide) fun K hK => ?_
    go_simp
    refine hK _ _ fun a27 hsz27 hde27 f2 hk => ?_
    clear hK K
    replace f4 := (hk 4 (by decide)).trans f4
    replace f2 : a27.tmps[2]?.getD undef = .slice none 0 0 := f2
    clear hk hsz26 hde26
    refine wpList_next rfl hsz27 hde27 3 rfl (by decide) fun K hK => ?_
    go_simp
    refine hK _ _ fun a28 hsz28 hde28 f3 hk => ?_
    clear hK K
    replace f4 := (hk 4 (by decide)).trans f4
    replace f2 := (hk 2 (by decide)).trans f2
    replace f3 : a28.tmps[3]?.getD undef = .int .i64 4 := f3
    clear hk hsz27 hde27
    refine wpList_nil ?_
    refine then_go ?_
    have hcv : cleanV L = ([], 4) := by unfold cleanV; rw [if_pos Hal.out, if_pos (by rw [← Hm.out]; exact h8)]
    refine wp_ret ?_
    repeat first | with_reducible refine then_ret ?_ | with_reducible refine block_ret ?_
    refine ret_two Tryz.results7 hde28 f2 f3 ?_
    rw [hcv]
    exact ⟨⟨_, rfl, textsAt_nil _⟩, Hbw.out⟩
  refine wp_region_lit ?_
  refine wpList_next rfl hsz23 hde23 77 rfl (by decide) fun K hK => ?_
  go_simp
  refine hK _ _ fun a24 hsz24 hde24 f77 hk => ?_
  clear hK K
  replace f4 := (hk 4 (by decide)).trans f4
  replace f77 : a24.tmps[77]?.getD undef = .slice Au m cu := f77
  clear hk hsz23 hde23
  refine wpList_next rfl hsz24 hde24 78 rfl (by decide) fun K hK => ?_
  go_simp
  refine hK _ _ fun a25 hsz25 hde25 f78 hk => ?_
  clear hK K
  replace f4 := (hk 4 (by decide)).trans f4
  replace f78 : a25.tmps[78]?.getD undef = .int .i64 ((m : Nat) : Int) := f78
  clear hk hsz24 hde24 f77
  refine wpList_next rfl hsz25 hde25 79 rfl (by decide) fun K hK => ?_
  go_simp
  refine hK _ _ fun a26 hsz26 hde26 f79 hk => ?_
  clear hK K
  replace f4 := (hk 4 (by decide)).trans f4
  clear hk hsz25 hde25 f78
  replace f79 : a26.tmps[79]?.getD undef = .bool false := f79.trans (by first | rfl | (congr 1; first | exact decide_eq_true (by omega) | exact decide_eq_false (by omega)) | (simp; omega))
  refine wpList_nil ?_
  refine then_go ?_
  repeat with_reducible refine wp_seq ?_
  refine wp_cond_false (eval_at f79) ?_
  refine wp_skip ?_
  refine then_go ?_
  clear f79
  repeat with_reducible refine wp_seq ?_
  rw [← Hu.out] at f4
  refine wp_region_lit ?_
  refine wpList_next rfl hsz26 hde26 80 rfl (by decide) fun K hK => ?_
  go_simp
  refine hK _ _ fun a27 hsz27 hde27 f80 hk => ?_
  clear hK K
  replace f4 := (hk 4 (by decide)).trans f4
  replace f80 : a27.tmps[80]?.getD undef = u := f80
  clear hk hsz26 hde26
  refine wpList_next rfl hsz27 hde27 2 rfl (by decide) fun K hK => ?_
  go_simp
  refine hK _ _ fun a28 hsz28 hde28 f2 hk => ?_
  clear hK K
  replace f4 := (hk 4 (by decide)).trans f4
  replace f2 : a28.tmps[2]?.getD undef = u := f2
  clear hk hsz27 hde27 f80
  refine wpList_next rfl hsz28 hde28 3 rfl (by decide) fun K hK => ?_
  go_simp
  refine hK _ _ fun a29 hsz29 hde29 f3 hk => ?_
  clear hK K
  replace f4 := (hk 4 (by decide)).trans f4
  replace f2 := (hk 2 (by decide)).trans f2
  replace f3 : a29.tmps[3]?.getD undef = .int .i64 0 := f3
  clear hk hsz28 hde28
  refine wpList_nil ?_
  refine then_go ?_
  have hcv : cleanV L = (cleanT L, 0) := by unfold cleanV; rw [if_pos Hal.out, if_neg (by rw [← Hm.out]; exact h8)]
  refine wp_ret ?_
  repeat first | with_reducible refine then_ret ?_ | with_reducible refine block_ret ?_
  refine ret_two Tryz.results7 hde29 f2 f3 ?_
  rw [hcv]
  exact ⟨⟨_, rfl, Htt.out⟩, Hbw.out⟩
end Go.Proofs.YtgebodibamgipaaGreatDoor
