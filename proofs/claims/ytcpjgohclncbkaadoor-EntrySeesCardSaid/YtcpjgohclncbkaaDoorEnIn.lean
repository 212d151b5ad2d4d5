/-
  entry.In, and the document's.
-/
import Derived.Test.YtcpjgohclncbkaaDoorEnStab
import Derived.Test.YtcpjgohclncbkaaDoorEnGone
namespace Go.Proofs.YtcpjgohclncbkaaDoor
open Go.RowKit
set_option maxRecDepth 100000

/-- The entries of a directory that are there. -/
def dirE (L : List Ent) (r : Int) (s : Nat) : List Ent := L.filter fun x => headE x && sameI x.drep x.dseq r s
/-- entry.In. -/
theorem in_any (ok : Nat → Prop) (v : Value) (L : List Ent) (r : Int) (s : Nat) (w : World) (hL : IsL kEnt w ok v L) (hd : ∀ x ∈ L, x.data.length ≤ 1000) (hl : L.length ≤ 1000) (hs : SortedE L) :
    Calls Tryd.prog 21 #[v, .agg (idC r s)] w fun e w' => (∃ u M, e = .returned u ∧ OwnE w' w.heap.size u M ∧ M.Perm (dirE L r s) ∧ M.Pairwise ltE) ∧ Below w.heap.size w w' := by
  obtain ⟨D, hD⟩ : ∃ D, D = dirE L r s := ⟨_, rfl⟩
  rw [← hD]
  have hDl : D.length ≤ 1000 := by rw [hD]; exact Nat.le_trans (List.length_filter_le _ _) hl
  have hDp : D.Pairwise prec := by rw [hD]; exact (sortedE_iff.1 hs).sublist List.filter_sublist
  obtain ⟨wb, hwb⟩ : ∃ wb, wb = w.alloc (.cells (idC r s) 25) := ⟨_, rfl⟩
  have hbel : Below w.heap.size w wb := by rw [hwb]; exact (Below.refl _ _).alloc (Nat.le_refl _) _
  have hB : Blk wb w.heap.size 25 (idC r s) := by rw [hwb]; exact Blk.new _ _ _
  have hth := ethose_any 47 #[.pointer (some ⟨w.heap.size, 0, none⟩)] _ (enters_of Tryd.func47 (by kernel_rfl) rfl) ok v L wb (hL.grow hbel) hd hl (predE_in r s w.heap.size wb hB)
  rw [show L.filter (fun x => headE x && sameI x.drep x.dseq r s) = D from hD.symm] at hth
  have Hth := Lib.hid hth
  have Hso := Lib.hid fun (u : Value) (z : World) (hu : OwnE z wb.heap.size u D) (hz : wb.heap.size ≤ z.heap.size) => sortstable_any wb.heap.size u D z hu hDp hDl hz
  have Hbel := Lib.hid hbel
  obtain ⟨I, hI⟩ : ∃ I, I = idC r s := ⟨_, rfl⟩
  rw [← hI] at hwb ⊢
  have HW := Lib.hid hwb
  clear hL hd hl hs hD hDl hDp hwb hbel hB hth hI
  go_enter Tryd.func21, Tryd.ntmps21
  refine enter_abs (N := 12) rfl rfl fun a0 hsz0 hde0 hk => ?_
  have f0 : a0.tmps[0]?.getD undef = v := hk 0
  have f1 : a0.tmps[1]?.getD undef = .agg I := hk 1
  clear hk
  repeat with_reducible refine wp_seq ?_
  refine wp_region_lit ?_
  refine wpList_next rfl hsz0 hde0 3 rfl (by decide) fun K hK => ?_
  go_simp
  refine hK _ _ fun a1 hsz1 hde1 f3 hk => ?_
  clear hK K
  replace f0 := (hk 0 (by decide)).trans f0
  replace f1 := (hk 1 (by decide)).trans f1
  replace f3 : a1.tmps[3]?.getD undef = .pointer (some ⟨w.heap.size, 0, none⟩) := f3
  clear hk hsz0 hde0
  refine wpList_next rfl hsz1 hde1 4 rfl (by decide) fun K hK => ?_
  go_simp
  refine hK _ _ fun a2 hsz2 hde2 f4 hk => ?_
  clear hK K
  replace f0 := (hk 0 (by decide)).trans f0
  replace f1 := (hk 1 (by decide)).trans f1
  replace f3 := (hk 3 (by decide)).trans f3
  replace f4 : a2.tmps[4]?.getD undef = .slice none 0 0 := f4
  clear hk hsz1 hde1
  refine wpList_nil ?_
  clear f1 f4
  rw [← HW.out]
  refine then_go ?_
  repeat with_reducible refine wp_seq ?_
  refine wp_region_lit ?_
  refine wpList_next rfl hsz2 hde2 6 rfl (by decide) fun K hK => ?_
  go_simp
  refine hK _ _ fun a3 hsz3 hde3 f6 hk => ?_
  clear hK K
  replace f0 := (hk 0 (by decide)).trans f0
  replace f3 := (hk 3 (by decide)).trans f3
  replace f6 : a3.tmps[6]?.getD undef = v := f6
  clear hk hsz2 hde2
  refine wpList_next rfl hsz3 hde3 7 rfl (by decide) fun K hK => ?_
  go_simp
  refine hK _ _ fun a4 hsz4 hde4 f7 hk => ?_
  clear hK K
  replace f0 := (hk 0 (by decide)).trans f0
  replace f3 := (hk 3 (by decide)).trans f3
  replace f6 := (hk 6 (by decide)).trans f6
  replace f7 : a4.tmps[7]?.getD undef = .func (.func 47) #[] #[.pointer (some ⟨w.heap.size, 0, none⟩)] := f7
  clear hk hsz3 hde3
  refine wpList_next rfl hsz4 hde4 8 rfl (by decide) fun K hK => ?_
  go_simp
  refine Hth.out.mono ?_
  rintro e1 w1 ⟨⟨u1, rfl, hown1⟩, hb1⟩
  go_simp
  refine hK _ _ fun a5 hsz5 hde5 f8 hk => ?_
  clear hK K
  replace f0 := (hk 0 (by decide)).trans f0
  replace f3 := (hk 3 (by decide)).trans f3
  replace f8 : a5.tmps[8]?.getD undef = u1 := f8
  clear hk hsz4 hde4 f6 f7
  refine wpList_next rfl hsz5 hde5 5 rfl (by decide) fun K hK => ?_
  go_simp
  refine hK _ _ fun a6 hsz6 hde6 f5 hk => ?_
  clear hK K
  replace f0 := (hk 0 (by decide)).trans f0
  replace f3 := (hk 3 (by decide)).trans f3
  replace f5 : a6.tmps[5]?.getD undef = u1 := f5
  clear hk hsz5 hde5 f8
  refine wpList_nil ?_
  have Hown1 := Lib.hid hown1
  have Hb1 := Lib.hid hb1
  clear hown1 hb1
  refine then_go ?_
  repeat with_reducible refine wp_seq ?_
  clear f0 f3
  refine wp_region_lit ?_
  refine wpList_next rfl hsz6 hde6 9 rfl (by decide) fun K hK => ?_
  go_simp
  refine hK _ _ fun a7 hsz7 hde7 f9 hk => ?_
  clear hK K
  replace f5 := (hk 5 (by decide)).trans f5
  replace f9 : a7.tmps[9]?.getD undef = u1 := f9
  clear hk hsz6 hde6
  refine wpList_next rfl hsz7 hde7 10 rfl (by decide) fun K hK => ?_
  go_simp
  refine (Hso.out u1 _ Hown1.out Hb1.out.size).mono ?_
  rintro e2 w2 ⟨rfl, ⟨M, hown2, hpm2, hps2⟩, hb2⟩
  go_simp
  refine hK _ _ fun a8 hsz8 hde8 f10 hk => ?_
  clear hK K
  replace f5 := (hk 5 (by decide)).trans f5
  clear hk hsz7 hde7 f9
  clear f10
  refine wpList_nil ?_
  refine then_go ?_
  repeat with_reducible refine wp_seq ?_
  refine wp_region_lit ?_
  refine wpList_next rfl hsz8 hde8 11 rfl (by decide) fun K hK => ?_
  go_simp
  refine hK _ _ fun a9 hsz9 hde9 f11 hk => ?_
  clear hK K
  replace f5 := (hk 5 (by decide)).trans f5
  replace f11 : a9.tmps[11]?.getD undef = u1 := f11
  clear hk hsz8 hde8
  refine wpList_next rfl hsz9 hde9 4 rfl (by decide) fun K hK => ?_
  go_simp
  refine hK _ _ fun a10 hsz10 hde10 f4 hk => ?_
  clear hK K
  replace f5 := (hk 5 (by decide)).trans f5
  replace f4 : a10.tmps[4]?.getD undef = u1 := f4
  clear hk hsz9 hde9 f11
  refine wpList_nil ?_
  refine then_go ?_
  refine wp_ret ?_
  repeat first | with_reducible refine then_ret ?_ | with_reducible refine block_ret ?_
  refine ret_tmp Tryd.results21 hde10 f4 ?_
  exact ⟨⟨u1, M, rfl, hown2.mono Hbel.out.size, hpm2, hps2⟩, below_call Hbel.out (Hb1.out.trans hb2)⟩

theorem less_cmp : ∀ a b : List UInt8, Op.bytesLess a b = decide (Lib.compareBytes a b < 0)
  | [], [] => rfl
  | [], _ :: _ => rfl
  | _ :: _, [] => rfl
  | x :: a, y :: b => by
    have ih := less_cmp a b
    unfold Op.bytesLess Lib.compareBytes
    by_cases h1 : x < y
    · rw [if_pos h1]; simp [h1]
    · rw [if_neg h1]
      by_cases h2 : y < x
      · rw [if_pos h2]
        have h3 : (x == y) = false := by
          rw [beq_eq_false_iff_ne]
          intro e
          rw [e, UInt8.lt_iff_toNat_lt] at h2
          omega
        simp [h1, h3]
      · rw [if_neg h2, ih, u8_tri x y h1 h2]
        simp
theorem idneq_run (r : Int) (s : Nat) (r' : Int) (s' : Nat) (w : World) : (binOp .neq 25 (.agg (idC r s)) (.agg (idC r' s'))).run Tryd.prog w = .ok (.bool (!sameI r s r' s')) w := by
  have h := ideq_run r s r' s' w
  rw [run_eql_struct] at h
  rw [run_neq_struct]
  cases hq : (Op.equalIn 10000 25 (.agg (idC r s)) (.agg (idC r' s'))).run Tryd.prog w with
  | ok b w' =>
    rw [hq] at h
    simp only [Result.andThen_ok] at h ⊢
    injection h with h1 h2
    injection h1 with h1
    subst h1 h2
    rfl
  | halt x w' => rw [hq] at h; cases h
theorem rd_from {W : World} {ok : Nat → Prop} {A : Option Addr} {C1 C2 : List Ent} {c : Nat} (h : Rd W ok A (entsC (C1 ++ C2))) (hc : C1.length + C2.length ≤ c) : Rd W ok (if c = C1.length then A else A.map (·.add (C1.length * 15))) (entsC C2) := by
  intro hn
  have hC2 : 0 < C2.length := by
    cases C2 with
    | nil => exact absurd rfl hn
    | cons y C2 => simp
  obtain ⟨ad, rfl, ho, hr⟩ := h (by rw [entsC_append]; intro e; exact hn (List.append_eq_nil_iff.1 e).2)
  refine ⟨ad.add (C1.length * 15), by rw [if_neg (by omega)]; rfl, by unfold Addr.add; split <;> exact ho, fun j u hu => ?_⟩
  rw [add_add']
  refine hr _ u ?_
  rw [entsC_append, List.getElem?_append_right (by rw [entsC_length]; omega), entsC_length, Nat.add_sub_cancel_left]
  exact hu
theorem rd_upto {W : World} {ok : Nat → Prop} {A : Option Addr} {C1 C2 : List Ent} {c : Nat} (h : Rd W ok A (entsC (C1 ++ C2))) : Rd W ok (if c = 0 then A else A.map (·.add (0 * 15))) (entsC C1) := by
  intro hn
  obtain ⟨ad, rfl, ho, hr⟩ := h (by rw [entsC_append]; intro e; exact hn (List.append_eq_nil_iff.1 e).1)
  have hr' : ∀ j u, (entsC C1)[j]? = some u → W.cell? (ad.add j) = some u := fun j u hu => hr j u (by rw [entsC_append, List.getElem?_append_left (List.getElem?_eq_some_iff.1 hu).1]; exact hu)
  by_cases hc : c = 0
  · exact ⟨ad, by rw [if_pos hc], ho, hr'⟩
  · exact ⟨ad.add 0, by rw [if_neg hc]; rfl, by unfold Addr.add; split <;> exact ho, fun j u hu => by rw [add_add', Nat.zero_add]; exact hr' j u hu⟩
theorem from_run {A : Option Addr} {n c k : Nat} (hk : k ≤ n) (W : World) : (Instr.sliceAt 22 (.slice A n c) (some (.int .i64 ((k : Nat) : Int))) none none).run Tryd.prog W = .ok (.slice (if c = k then A else A.map (·.add (k * 15))) (n - k) (c - k)) W := by
  have h1 : ((k : Nat) : Int) ≤ (n : Int) := by omega
  rw [run_sliceAt_slice (h := Tryd.underlying22), run_slice_l (ht := Tryd.underlying22) (h0 := by omega) (h1 := h1)]
  have hs : (sizeOf (Tryd.prog.elem 22)).run Tryd.prog W = .ok 15 W := by kernel_rfl
  rw [hs]
  show Result.ok (sliced A ((k : Nat) : Int).toNat n c 15) W = _
  rw [Int.toNat_natCast]
  rfl
theorem upto_run {A : Option Addr} {n c k : Nat} (hk : k ≤ c) (W : World) : (Instr.sliceAt 22 (.slice A n c) none (some (.int .i64 ((k : Nat) : Int))) none).run Tryd.prog W = .ok (.slice (if c = 0 then A else A.map (·.add (0 * 15))) k c) W := by
  have h2 : ((k : Nat) : Int) ≤ (c : Int) := by omega
  rw [run_sliceAt_slice (h := Tryd.underlying22), run_slice_h (ht := Tryd.underlying22) (h0 := by omega) (h2 := h2)]
  have hs : (sizeOf (Tryd.prog.elem 22)).run Tryd.prog W = .ok 15 W := by kernel_rfl
  rw [hs]
  show Result.ok (sliced A 0 ((k : Nat) : Int).toNat c 15) W = _
  rw [Int.toNat_natCast]
  rfl
theorem wp_from {P : Program} {Q : Exit → Act → World → Prop} {o : Oper} {a : Act} {w : World} {K : Act → World → Prop} {t : TypeId} {v v' h : Value} (x y : Operand)
    (ho : o.op = .slice t x (some y) none none) (hx : a.eval x = v) (hy : a.eval y = h) (hrun : ∀ W : World, (Instr.sliceAt t v (some h) none none).run P W = .ok v' W) (hk : K (a.put o.dst v') w) : o.wp P a w K Q := by
  unfold Oper.wp execOp
  simp only [ho, Option.map, Act.eval, Sem.run_bind, Sem.run_pure] at hx hy ⊢
  rw [hx, hy, hrun]
  exact hk
theorem wp_upto {P : Program} {Q : Exit → Act → World → Prop} {o : Oper} {a : Act} {w : World} {K : Act → World → Prop} {t : TypeId} {v v' h : Value} (x y : Operand)
    (ho : o.op = .slice t x none (some y) none) (hx : a.eval x = v) (hy : a.eval y = h) (hrun : ∀ W : World, (Instr.sliceAt t v none (some h) none).run P W = .ok v' W) (hk : K (a.put o.dst v') w) : o.wp P a w K Q := by
  unfold Oper.wp execOp
  simp only [ho, Option.map, Act.eval, Sem.run_bind, Sem.run_pure] at hx hy ⊢
  rw [hx, hy, hrun]
  exact hk
/-- One entry ahead of others, in a list of its own. -/
theorem cons_run (W : World) (X : Ent) (hX : EntOk X) (C2 : List Ent) (h2 : ∀ y ∈ C2, EntOk y) (hl : C2.length ≤ 1000) {ok : Nat → Prop} {A : Option Addr} {m c : Nat} (hm : m = C2.length) (hr : Rd W ok A (entsC C2)) (C : Array Value) (hC : C = entC X) :
    ∃ u2 W2, (Builtin.append_ #[22, 22] 22 #[.slice (some ⟨W.heap.size, 0, none⟩) 1 1, .slice A m c]).run Tryd.prog (W.drew.alloc (.cells C 29)) = .ok u2 W2 ∧ OwnE W2 W.heap.size u2 (X :: C2) ∧ Below W.heap.size W W2 := by
  subst hC hm
  have hs : W.drew.heap.size = W.heap.size := rfl
  have hnew : OwnK (W.drew.alloc (.cells (entC X) 29)) W.heap.size 29 15 (.slice (some ⟨W.heap.size, 0, none⟩) 1 1) 1 (entC X).toList :=
    ⟨rfl, .inr ⟨W.heap.size, 1, entC X, rfl, Nat.le_refl _, Blk.new W.drew 29 (entC X), Nat.le_refl _, by unfold maxLen; omega, rfl, rfl⟩⟩
  have hbel : Below W.heap.size W (W.drew.alloc (.cells (entC X) 29)) := ((Below.refl _ _).drew).alloc (Nat.le_refl _) _
  have hr2 : Rd (W.drew.alloc (.cells (entC X) 29)) ok A (entsC C2) := fun hn => by
    obtain ⟨ad, e, ho, hc⟩ := hr hn
    exact ⟨ad, e, ho, fun j u hu => (hbel.cell (World.block_lt_of_cell? W _ (hc j u hu))).trans (hc j u hu)⟩
  obtain ⟨v2, W2, hrun, hown2, hg2, _⟩ := run_appK (P := Tryd.prog) (W.drew.alloc (.cells (entC X) 29)) (t := 22) (ty := 22) elemE hnew (ok := ok) (A := A) (m := C2.length) (c := c) (news := entsC C2) (entsC_length C2) hr2 (entsC_each C2) (by omega) (by omega) (by rw [World.size_alloc, hs]; omega)
  refine ⟨v2, W2, hrun, ⟨?_, fun y hy => by rcases List.mem_cons.1 hy with rfl | hy; exact hX; exact h2 y hy⟩, hbel.trans (hnew.below_of hg2 (by rw [World.size_alloc, hs]; omega) (Nat.le_refl _))⟩
  rw [List.length_cons, Nat.add_comm]
  exact hown2
theorem dir_next {L : List Ent} {i : Nat} (h : i < L.length) (r : Int) (s : Nat) : dirE (L.take (i + 1)) r s = if headE L[i] && sameI L[i].drep L[i].dseq r s then dirE (L.take i) r s ++ [L[i]] else dirE (L.take i) r s := by
  unfold dirE
  rw [List.take_succ_eq_append_getElem h, List.filter_append]
  by_cases e : (headE L[i] && sameI L[i].drep L[i].dseq r s) = true
  · rw [if_pos e, List.filter_cons, if_pos e, List.filter_nil]
  · rw [if_neg e, List.filter_cons, if_neg e, List.filter_nil, List.append_nil]
theorem ins_next {D C1 C2 : List Ent} {X : Ent} (hD : ∀ y ∈ D, prec y X) (hC : (C1 ++ C2).Pairwise ltE) (hp : (C1 ++ C2).Perm D) (h1 : ∀ C y, C1 = C ++ [y] → nlt X y = false) (h2 : ∀ y ∈ C2, nlt X y = true) :
    (C1 ++ X :: C2).Perm (D ++ [X]) ∧ (C1 ++ X :: C2).Pairwise ltE :=
  ⟨List.perm_middle.trans ((List.Perm.cons _ hp).trans (List.perm_append_comm (l₁ := [X]))), ins_mid hC h1 (fun y hy => hD y (hp.mem_iff.1 (by simp [hy]))) h2⟩
theorem dir_prec {L : List Ent} (hs : SortedE L) {i : Nat} (h : i < L.length) (r : Int) (s : Nat) : ∀ y ∈ dirE (L.take i) r s, prec y L[i] := by
  intro y hy
  obtain ⟨k, hk, rfl⟩ := List.getElem_of_mem (List.mem_filter.1 hy).1
  rw [List.length_take] at hk
  rw [List.getElem_take]
  exact hs k i (by omega) h (by omega)
def RnInv (wb : World) (v pv : Value) (L : List Ent) (r : Int) (s n : Nat) (k9 : Nat) (a : Act) (x : World) : Prop :=
  ∃ (i : Nat) (u : Value) (C : List Ent), Hid (a.tmps.size = 67) ∧ Hid (a.defers = []) ∧ a.tmps[0]?.getD undef = v ∧ a.tmps[3]?.getD undef = pv ∧ a.tmps[5]?.getD undef = u ∧ a.tmps[6]?.getD undef = .int .i64 ((i : Nat) : Int) ∧ Hid (i ≤ n) ∧ Hid (OwnE x wb.heap.size u C) ∧ Hid (C.Perm (dirE (L.take i) r s) ∧ C.Pairwise ltE) ∧ Hid (Below wb.heap.size wb x) ∧ k9 = n - i
def RmInv (wr : World) (v pv u : Value) (X : Ent) (C : List Ent) (i : Nat) (k9 : Nat) (a : Act) (x : World) : Prop :=
  ∃ (C1 C2 : List Ent), Hid (a.tmps.size = 67) ∧ Hid (a.defers = []) ∧ a.tmps[0]?.getD undef = v ∧ a.tmps[3]?.getD undef = pv ∧ a.tmps[5]?.getD undef = u ∧ a.tmps[6]?.getD undef = .int .i64 ((i : Nat) : Int) ∧ a.tmps[7]?.getD undef = .int .i64 ((C1.length : Nat) : Int) ∧ Hid (C1 ++ C2 = C) ∧ Hid (∀ y ∈ C2, nlt X y = true) ∧ Hid (Below wr.heap.size wr x) ∧ k9 = C1.length

set_option maxHeartbeats 8000000 in
theorem erefin_any (ok : Nat → Prop) (v : Value) (L : List Ent) (r : Int) (s : Nat) (w : World) (hL : IsL kEnt w ok v L) (hl : L.length ≤ 1000) (hs : SortedE L) :
    Calls Tryd.prog 22 #[v, .agg (idC r s)] w fun e w' => (∃ u M, e = .returned u ∧ OwnE w' w.heap.size u M ∧ M.Perm (dirE L r s) ∧ M.Pairwise ltE) ∧ Below w.heap.size w w' := by
  obtain ⟨IB, hIB⟩ : ∃ A, A = idC r s := ⟨_, rfl⟩
  obtain ⟨wb, hwb⟩ : ∃ wb, wb = w.alloc (.cells IB 25) := ⟨_, rfl⟩
  have hbel : Below w.heap.size w wb := by rw [hwb]; exact (Below.refl _ w).alloc (Nat.le_refl _) _
  have hbox : Blk wb w.heap.size 25 IB := by rw [hwb]; exact Blk.new w _ _
  have HrB := Lib.hid (show ∀ z, Below wb.heap.size wb z → z.rangeAt w.heap.size 0 IB.toList from fun z hz => (hbox.grow hz).range 0 IB.toList fun j u hu => by rw [Nat.zero_add, ← Array.getElem?_toList]; exact hu)
  have HfB := Lib.hid (show (Tryd.prog.info? 25).map (·.size) = some IB.toList.length by rw [hIB]; exact id_info)
  have HIB := Lib.hid hIB
  have Hbel := Lib.hid hbel
  have HW := Lib.hid hwb
  have Hs := Lib.hid hs
  obtain ⟨A, cc, rfl, hc1, hc2, hE⟩ := ent_at (hL.grow hbel)
  have Hel := Lib.hid hE
  obtain ⟨n, hn⟩ : ∃ n, n = L.length := ⟨_, rfl⟩
  rw [← hn] at hc1 hl ⊢
  have Hn := Lib.hid hn
  have hmx : maxLen ≤ 9223372036854775807 := by decide
  rw [← hIB]
  clear hL hbel hbox hwb hIB hE hn hs
  go_enter Tryd.func22, Tryd.ntmps22
  refine enter_abs (N := 67) rfl rfl fun a0 hsz0 hde0 hk => ?_
  have f0 : a0.tmps[0]?.getD undef = .slice A n cc := hk 0
  have f1 : a0.tmps[1]?.getD undef = .agg IB := hk 1
  clear hk
  repeat with_reducible refine wp_seq ?_
  refine wp_region_lit ?_
  refine wpList_next rfl hsz0 hde0 3 rfl (by decide) fun K hK => ?_
  go_simp
  refine hK _ _ fun a1 hsz1 hde1 f3 hk => ?_
  clear hK K
  replace f0 := (hk 0 (by decide)).trans f0
  replace f1 := (hk 1 (by decide)).trans f1
  replace f3 : a1.tmps[3]?.getD undef = .pointer (some ⟨w.heap.size, 0, none⟩) := f3
  clear hk hsz0 hde0
  refine wpList_next rfl hsz1 hde1 4 rfl (by decide) fun K hK => ?_
  go_simp
  refine hK _ _ fun a2 hsz2 hde2 f4 hk => ?_
  clear hK K
  replace f0 := (hk 0 (by decide)).trans f0
  replace f1 := (hk 1 (by decide)).trans f1
  replace f3 := (hk 3 (by decide)).trans f3
  replace f4 : a2.tmps[4]?.getD undef = .slice none 0 0 := f4
  clear hk hsz1 hde1
  refine wpList_nil ?_
  clear f1 f4
  rw [← HW.out]
  refine then_go ?_
  repeat with_reducible refine wp_seq ?_
  refine wp_region_lit ?_
  refine wpList_next rfl hsz2 hde2 5 rfl (by decide) fun K hK => ?_
  go_simp
  refine hK _ _ fun a3 hsz3 hde3 f5 hk => ?_
  clear hK K
  replace f0 := (hk 0 (by decide)).trans f0
  replace f3 := (hk 3 (by decide)).trans f3
  replace f5 : a3.tmps[5]?.getD undef = .slice none 0 0 := f5
  clear hk hsz2 hde2
  refine wpList_nil ?_
  refine then_go ?_
  repeat with_reducible refine wp_seq ?_
  refine wp_region_lit ?_
  refine wpList_next rfl hsz3 hde3 6 rfl (by decide) fun K hK => ?_
  go_simp
  refine hK _ _ fun a4 hsz4 hde4 f6 hk => ?_
  clear hK K
  replace f0 := (hk 0 (by decide)).trans f0
  replace f3 := (hk 3 (by decide)).trans f3
  replace f5 := (hk 5 (by decide)).trans f5
  replace f6 : a4.tmps[6]?.getD undef = .int .i64 ((0 : Nat) : Int) := f6
  clear hk hsz3 hde3
  refine wpList_nil ?_
  refine then_go ?_
  repeat with_reducible refine wp_seq ?_
  refine wp_block ?_
  refine wp_loop_ghost (RnInv wb (.slice A n cc) (.pointer (some ⟨w.heap.size, 0, none⟩)) L r s n) (n - 0) ?_ ?_
  · exact ⟨0, _, [], hsz4, hde4, f0, f3, f5, f6, Lib.hid (Nat.zero_le _), Lib.hid (OwnE.nil _ _), Lib.hid ⟨List.Perm.refl _, List.Pairwise.nil⟩, Lib.hid (Below.refl _ _), rfl⟩
  clear hsz4 hde4 f0 f3 f5 f6
  intro n2 a19 wr hI
  obtain ⟨i, u, C, hsz19, hde19, f0, f3, f5, f6, Hi, Hown, HC, Hbw, hn2⟩ := hI
  have Hn2 := Lib.hid hn2
  clear hn2
  repeat with_reducible refine wp_seq ?_
  by_cases hlt : i < n
  · skip
    refine wp_region_lit ?_
    refine wpList_next rfl hsz19 hde19 9 rfl (by decide) fun K hK => ?_
    go_simp
    refine hK _ _ fun a20 hsz20 hde20 f9 hk => ?_
    clear hK K
    replace f0 := (hk 0 (by decide)).trans f0
    replace f3 := (hk 3 (by decide)).trans f3
    replace f5 := (hk 5 (by decide)).trans f5
    replace f6 := (hk 6 (by decide)).trans f6
    replace f9 : a20.tmps[9]?.getD undef = .int .i64 ((i : Nat) : Int) := f9
    clear hk hsz19 hde19
    refine wpList_next rfl hsz20 hde20 10 rfl (by decide) fun K hK => ?_
    go_simp
    refine hK _ _ fun a21 hsz21 hde21 f10 hk => ?_
    clear hK K
    replace f0 := (hk 0 (by decide)).trans f0
    replace f3 := (hk 3 (by decide)).trans f3
    replace f5 := (hk 5 (by decide)).trans f5
    replace f6 := (hk 6 (by decide)).trans f6
    replace f9 := (hk 9 (by decide)).trans f9
    replace f10 : a21.tmps[10]?.getD undef = .slice A n cc := f10
    clear hk hsz20 hde20
    refine wpList_next rfl hsz21 hde21 11 rfl (by decide) fun K hK => ?_
    go_simp
    refine hK _ _ fun a22 hsz22 hde22 f11 hk => ?_
    clear hK K
    replace f0 := (hk 0 (by decide)).trans f0
    replace f3 := (hk 3 (by decide)).trans f3
    replace f5 := (hk 5 (by decide)).trans f5
    replace f6 := (hk 6 (by decide)).trans f6
    replace f9 := (hk 9 (by decide)).trans f9
    replace f11 : a22.tmps[11]?.getD undef = .int .i64 ((n : Nat) : Int) := f11
    clear hk hsz21 hde21 f10
    refine wpList_next rfl hsz22 hde22 12 rfl (by decide) fun K hK => ?_
    go_simp
    refine hK _ _ fun a23 hsz23 hde23 f12 hk => ?_
    clear hK K
    replace f0 := (hk 0 (by decide)).trans f0
    replace f3 := (hk 3 (by decide)).trans f3
    replace f5 := (hk 5 (by decide)).trans f5
    replace f6 := (hk 6 (by decide)).trans f6
    clear hk hsz22 hde22 f9 f11
    replace f12 : a23.tmps[12]?.getD undef = .bool true := f12.trans (by first | rfl | (congr 1; first | exact decide_eq_true (by omega) | exact decide_eq_false (by omega)) | (simp; omega))
    refine wpList_nil ?_
    refine then_go ?_
    repeat with_reducible refine wp_seq ?_
    refine wp_cond_true (eval_at f12) ?_
    refine wp_skip ?_
    refine then_go ?_
    clear f12
    repeat with_reducible refine wp_seq ?_
    refine wp_block ?_
    repeat with_reducible refine wp_seq ?_
    have hil : i < L.length := by rw [← Hn.out]; exact hlt
    obtain ⟨b, off, rfl, _, _, hel⟩ := Hel.out (by intro e; subst e; simp at hil)
    obtain ⟨X, hX⟩ : ∃ X, X = L[i] := ⟨_, rfl⟩
    have HX := Lib.hid hX
    obtain ⟨CX, hCX⟩ : ∃ C, C = entC X := ⟨_, rfl⟩
    obtain ⟨DX, hDX⟩ : ∃ C, C = idC X.drep X.dseq := ⟨_, rfl⟩
    have hrow : ∀ z, Below wb.heap.size wb z → z.rangeAt b (off + i * 15) (entC X).toList := fun z hz => by rw [hX]; exact range_ext (hel i hil).1 hz
    have HrX := Lib.hid (show ∀ z, Below wb.heap.size wb z → z.rangeAt b (off + i * 15) CX.toList from fun z hz => by rw [hCX]; exact hrow z hz)
    have HrD := Lib.hid (show ∀ z, Below wb.heap.size wb z → z.rangeAt b (off + i * 15 + 2) DX.toList from fun z hz => by rw [hDX]; exact (entCells (hrow z hz)).dir)
    have HcX := Lib.hid (show ∀ z, Below wb.heap.size wb z → z.cell? ⟨b, off + i * 15 + 4, none⟩ = some (str X.data) from fun z hz => (entCells (hrow z hz)).data)
    have HXok := Lib.hid (show EntOk X by rw [hX]; exact (hel i hil).2)
    have HfX := Lib.hid (show (Tryd.prog.info? 29).map (·.size) = some CX.toList.length by rw [hCX]; exact ent_info)
    have HfD := Lib.hid (show (Tryd.prog.info? 25).map (·.size) = some DX.toList.length by rw [hDX]; exact id_info)
    have hne := fun z => idneq_run X.drep X.dseq r s z
    rw [← hDX, ← HIB.out] at hne
    have hal := fun z => erefhead_any X z
    rw [← hCX] at hal
    obtain ⟨e, he⟩ : ∃ e, e = sameI X.drep X.dseq r s := ⟨_, rfl⟩
    obtain ⟨h, hh⟩ : ∃ h, h = headE X := ⟨_, rfl⟩
    rw [← he] at hne
    rw [← hh] at hal
    have Hne := Lib.hid hne
    have Hal := Lib.hid hal
    have hnx := dir_next hil r s
    rw [← hX, ← he, ← hh] at hnx
    have Hnx := Lib.hid hnx
    have Hpre := Lib.hid (show ∀ y ∈ dirE (L.take i) r s, prec y X by rw [hX]; exact dir_prec Hs.out hil r s)
    have HCX := Lib.hid hCX
    have hfx := fold_ent X
    rw [← hCX] at hfx
    have HfC := Lib.hid hfx
    have hi0 : (0 : Int) ≤ (i : Int) := by omega
    have hin : (i : Int) < (n : Int) := by omega
    clear hel hX hCX hDX hrow hne hal he hh hnx hfx
    cases e with
    | false =>
      refine wp_region_goodg (tblG [(15, .slice (some ⟨b, off, none⟩) n cc), (16, .int .i64 ((i : Nat) : Int)), (17, .pointer (some ⟨b, off + i * 15, none⟩)), (18, .pointer (some ⟨b, off + i * 15 + 2, none⟩)), (19, .agg DX), (20, .agg IB), (21, .bool true), (22, .bool true), (23, undef), (24, undef), (25, undef), (26, undef), (27, undef), (28, undef), (29, .bool true)]) 67 (by kernel_rfl) (by kernel_rfl) (by kernel_rfl) (by kernel_rfl) hsz23.out ?_ ?_ ?_
      · intro t v7 x x' h _ _
        exact h
      · intro i7 o hi7 a x hbx hsame hpre K hK
        have hlt7 : i7 < 15 := (Array.getElem?_eq_some_iff.1 hi7).1
        rcases (show i7 = 0 ∨ i7 = 1 ∨ i7 = 2 ∨ i7 = 3 ∨ i7 = 4 ∨ i7 = 5 ∨ i7 = 6 ∨ i7 = 7 ∨ i7 = 8 ∨ i7 = 9 ∨ i7 = 10 ∨ i7 = 11 ∨ i7 = 12 ∨ i7 = 13 ∨ i7 = 14 by omega) with rfl | rfl | rfl | rfl | rfl | rfl | rfl | rfl | rfl | rfl | rfl | rfl | rfl | rfl | rfl
        all_goals (have ho := Option.some.inj hi7; subst ho; clear hi7 hlt7)
        · have q0 : a.tmps[0]?.getD undef = .slice (some ⟨b, off, none⟩) n cc := (hsame 0 (by decide +kernel)).trans f0
          refine step_plain rfl ?_
          have hk := Lib.hid (show ∀ v7 x', v7 = .slice (some ⟨b, off, none⟩) n cc → Below x.heap.size x x' → K (a.put (some 15) v7) x' from hK)
          have Hbx := Lib.hid hbx
          clear hsame hpre hK hbx
          go_simp
          exact hk.out _ _ rfl (Below.refl _ _)
        · have q6 : a.tmps[6]?.getD undef = .int .i64 ((i : Nat) : Int) := (hsame 6 (by decide +kernel)).trans f6
          refine step_plain rfl ?_
          have hk := Lib.hid (show ∀ v7 x', v7 = .int .i64 ((i : Nat) : Int) → Below x.heap.size x x' → K (a.put (some 16) v7) x' from hK)
          have Hbx := Lib.hid hbx
          clear hsame hpre hK hbx
          go_simp
          exact hk.out _ _ rfl (Below.refl _ _)
        · have q15 : a.tmps[15]?.getD undef = .slice (some ⟨b, off, none⟩) n cc := hpre ⟨0, .data⟩ (by simp) rfl (by decide)
          have q16 : a.tmps[16]?.getD undef = .int .i64 ((i : Nat) : Int) := hpre ⟨1, .data⟩ (by simp) rfl (by decide)
          refine step_plain rfl ?_
          have hk := Lib.hid (show ∀ v7 x', v7 = .pointer (some ⟨b, off + i * 15, none⟩) → Below x.heap.size x x' → K (a.put (some 17) v7) x' from hK)
          have Hbx := Lib.hid hbx
          clear hsame hpre hK hbx
          go_simp
          exact hk.out _ _ rfl (Below.refl _ _)
        · have q17 : a.tmps[17]?.getD undef = .pointer (some ⟨b, off + i * 15, none⟩) := hpre ⟨2, .data⟩ (by simp) rfl (by decide)
          refine step_plain rfl ?_
          have hk := Lib.hid (show ∀ v7 x', v7 = .pointer (some ⟨b, off + i * 15 + 2, none⟩) → Below x.heap.size x x' → K (a.put (some 18) v7) x' from hK)
          have Hbx := Lib.hid hbx
          clear hsame hpre hK hbx
          go_simp
          exact hk.out _ _ rfl (Below.refl _ _)
        · have q18 : a.tmps[18]?.getD undef = .pointer (some ⟨b, off + i * 15 + 2, none⟩) := hpre ⟨3, .data⟩ (by simp) rfl (by decide)
          refine step_plain rfl ?_
          have hk := Lib.hid (show ∀ v7 x', v7 = .agg DX → Below x.heap.size x x' → K (a.put (some 19) v7) x' from hK)
          have Hbx := Lib.hid hbx
          clear hsame hpre hK hbx
          refine wp_load_mid 25 (.tmp 18) rfl b (off + i * 15 + 2) (eval_at q18) DX.toList _ (HrD.out _ (Hbw.out.trans (Hbx.out.mono Hbw.out.size))) Tryd.underlying25 rfl HfD.out ?_
          exact hk.out _ _ rfl (Below.refl _ _)
        · have q3 : a.tmps[3]?.getD undef = .pointer (some ⟨w.heap.size, 0, none⟩) := (hsame 3 (by decide +kernel)).trans f3
          refine step_plain rfl ?_
          have hk := Lib.hid (show ∀ v7 x', v7 = .agg IB → Below x.heap.size x x' → K (a.put (some 20) v7) x' from hK)
          have Hbx := Lib.hid hbx
          clear hsame hpre hK hbx
          refine wp_load_mid 25 (.tmp 3) rfl w.heap.size (0) (eval_at q3) IB.toList _ (HrB.out _ (Hbw.out.trans (Hbx.out.mono Hbw.out.size))) Tryd.underlying25 rfl HfB.out ?_
          exact hk.out _ _ rfl (Below.refl _ _)
        · have q19 : a.tmps[19]?.getD undef = .agg DX := hpre ⟨4, .data⟩ (by simp) rfl (by decide)
          have q20 : a.tmps[20]?.getD undef = .agg IB := hpre ⟨5, .data⟩ (by simp) rfl (by decide)
          refine step_plain rfl ?_
          have hk := Lib.hid (show ∀ v7 x', v7 = .bool true → Below x.heap.size x x' → K (a.put (some 21) v7) x' from hK)
          have Hbx := Lib.hid hbx
          clear hsame hpre hK hbx
          have hne := Hne.out
          go_simp
          exact hk.out _ _ rfl (Below.refl _ _)
        · have q21 : a.tmps[21]?.getD undef = .bool true := hpre ⟨6, .data⟩ (by simp) rfl (by decide)
          refine step_plain rfl ?_
          have hk := Lib.hid (show ∀ v7 x', v7 = .bool true → Below x.heap.size x x' → K (a.put (some 22) v7) x' from hK)
          have Hbx := Lib.hid hbx
          clear hsame hpre hK hbx
          go_simp
          exact hk.out _ _ rfl (Below.refl _ _)
        · have w22 : a.tmps[22]?.getD undef = .bool true := hpre ⟨7, .guard⟩ (by simp) rfl (by decide)
          refine step_left (not_wanted (j := 7) (t := 22) (b := false) rfl rfl (.inr w22)) ?_
          have hk := Lib.hid (show ∀ v7 x', v7 = undef → Below x.heap.size x x' → K (a.put (some 23) v7) x' from hK)
          have Hbx := Lib.hid hbx
          clear hsame hpre hK hbx w22
          exact hk.out _ _ rfl (Below.refl _ _)
        · have w22 : a.tmps[22]?.getD undef = .bool true := hpre ⟨7, .guard⟩ (by simp) rfl (by decide)
          refine step_left (not_wanted (j := 7) (t := 22) (b := false) rfl rfl (.inr w22)) ?_
          have hk := Lib.hid (show ∀ v7 x', v7 = undef → Below x.heap.size x x' → K (a.put (some 24) v7) x' from hK)
          have Hbx := Lib.hid hbx
          clear hsame hpre hK hbx w22
          exact hk.out _ _ rfl (Below.refl _ _)
        · have w22 : a.tmps[22]?.getD undef = .bool true := hpre ⟨7, .guard⟩ (by simp) rfl (by decide)
          refine step_left (not_wanted (j := 7) (t := 22) (b := false) rfl rfl (.inr w22)) ?_
          have hk := Lib.hid (show ∀ v7 x', v7 = undef → Below x.heap.size x x' → K (a.put (some 25) v7) x' from hK)
          have Hbx := Lib.hid hbx
          clear hsame hpre hK hbx w22
          exact hk.out _ _ rfl (Below.refl _ _)
        · have w22 : a.tmps[22]?.getD undef = .bool true := hpre ⟨7, .guard⟩ (by simp) rfl (by decide)
          refine step_left (not_wanted (j := 7) (t := 22) (b := false) rfl rfl (.inr w22)) ?_
          have hk := Lib.hid (show ∀ v7 x', v7 = undef → Below x.heap.size x x' → K (a.put (some 26) v7) x' from hK)
          have Hbx := Lib.hid hbx
          clear hsame hpre hK hbx w22
          exact hk.out _ _ rfl (Below.refl _ _)
        · have w22 : a.tmps[22]?.getD undef = .bool true := hpre ⟨7, .guard⟩ (by simp) rfl (by decide)
          refine step_left (not_wanted (j := 7) (t := 22) (b := false) rfl rfl (.inr w22)) ?_
          have hk := Lib.hid (show ∀ v7 x', v7 = undef → Below x.heap.size x x' → K (a.put (some 27) v7) x' from hK)
          have Hbx := Lib.hid hbx
          clear hsame hpre hK hbx w22
          exact hk.out _ _ rfl (Below.refl _ _)
        · have w22 : a.tmps[22]?.getD undef = .bool true := hpre ⟨7, .guard⟩ (by simp) rfl (by decide)
          refine step_left (not_wanted (j := 7) (t := 22) (b := false) rfl rfl (.inr w22)) ?_
          have hk := Lib.hid (show ∀ v7 x', v7 = undef → Below x.heap.size x x' → K (a.put (some 28) v7) x' from hK)
          have Hbx := Lib.hid hbx
          clear hsame hpre hK hbx w22
          exact hk.out _ _ rfl (Below.refl _ _)
        · have q22 : a.tmps[22]?.getD undef = .bool true := hpre ⟨7, .data⟩ (by simp) rfl (by decide)
          have q28 : a.tmps[28]?.getD undef = undef := hpre ⟨13, .data⟩ (by simp) rfl (by decide)
          refine step_plain rfl ?_
          have hk := Lib.hid (show ∀ v7 x', v7 = .bool true → Below x.heap.size x x' → K (a.put (some 29) v7) x' from hK)
          have Hbx := Lib.hid hbx
          clear hsame hpre hK hbx
          go_simp
          exact hk.out _ _ rfl (Below.refl _ _)
      intro a24 x24 hbx hsame hG hsz24 hde24
      replace f0 := (hsame 0 (by decide +kernel)).trans f0
      replace f3 := (hsame 3 (by decide +kernel)).trans f3
      replace f5 := (hsame 5 (by decide +kernel)).trans f5
      replace f6 := (hsame 6 (by decide +kernel)).trans f6
      have f29 : a24.tmps[29]?.getD undef = .bool true := hG 14 (by decide)
      have Hbx24 := Lib.hid hbx
      have hsz24h := Lib.hid hsz24
      have hde24h := Lib.hid (hde24.trans hde23.out)
      clear hsame hG hbx hsz24 hde24 hsz23 hde23
      refine then_go ?_
      repeat with_reducible refine wp_seq ?_
      refine wp_cond_true (eval_at f29) ?_
      refine wp_exit ?_
      repeat with_reducible refine then_exit ?_
      refine block_exit ?_
      refine then_go ?_
      clear f29
      repeat with_reducible refine wp_seq ?_
      have Hown9 := Lib.hid (Hown.out.grow Hbx24.out)
      have Hbw9 := Lib.hid (Hbw.out.trans (Hbx24.out.mono Hbw.out.size))
      have hnx := Hnx.out
      rw [Bool.and_false, if_neg (by simp)] at hnx
      refine wp_region_lit ?_
      refine wpList_next rfl hsz24h hde24h 13 rfl (by decide) fun K hK => ?_
      go_simp
      refine hK _ _ fun a25 hsz25 hde25 f13 hk => ?_
      clear hK K
      replace f0 := (hk 0 (by decide)).trans f0
      replace f3 := (hk 3 (by decide)).trans f3
      replace f5 := (hk 5 (by decide)).trans f5
      replace f6 := (hk 6 (by decide)).trans f6
      replace f13 : a25.tmps[13]?.getD undef = .int .i64 ((i : Nat) : Int) := f13
      clear hk hsz24h hde24h
      refine wpList_next rfl hsz25 hde25 14 rfl (by decide) fun K hK => ?_
      go_simp
      refine hK _ _ fun a26 hsz26 hde26 f14 hk => ?_
      clear hK K
      replace f0 := (hk 0 (by decide)).trans f0
      replace f3 := (hk 3 (by decide)).trans f3
      replace f5 := (hk 5 (by decide)).trans f5
      replace f6 := (hk 6 (by decide)).trans f6
      clear hk hsz25 hde25 f13
      replace f14 : a26.tmps[14]?.getD undef = .int .i64 (((i + 1 : Nat) : Int)) := f14.trans (by first | rfl | (congr 1; done) | (congr 1; omega) | (congr 1; rw [IntKind.wrap_i64] <;> omega))
      refine wpList_next rfl hsz26 hde26 6 rfl (by decide) fun K hK => ?_
      go_simp
      refine hK _ _ fun a27 hsz27 hde27 f6 hk => ?_
      clear hK K
      replace f0 := (hk 0 (by decide)).trans f0
      replace f3 := (hk 3 (by decide)).trans f3
      replace f5 := (hk 5 (by decide)).trans f5
      replace f6 : a27.tmps[6]?.getD undef = .int .i64 ((i + 1 : Nat) : Int) := f6
      clear hk hsz26 hde26 f14
      refine wpList_nil ?_
      refine then_go ?_
      exact ⟨n - (i + 1), by rw [Hn2.out]; omega, i + 1, _, C, hsz27, hde27, f0, f3, f5, f6, Lib.hid (by omega), Hown9, Lib.hid (by rw [hnx]; exact HC.out), Hbw9, rfl⟩
    | true =>
      cases h with
      | false =>
        refine wp_region_goodg (tblG [(15, .slice (some ⟨b, off, none⟩) n cc), (16, .int .i64 ((i : Nat) : Int)), (17, .pointer (some ⟨b, off + i * 15, none⟩)), (18, .pointer (some ⟨b, off + i * 15 + 2, none⟩)), (19, .agg DX), (20, .agg IB), (21, .bool false), (22, .bool false), (23, .slice (some ⟨b, off, none⟩) n cc), (24, .int .i64 ((i : Nat) : Int)), (25, .pointer (some ⟨b, off + i * 15, none⟩)), (26, .agg CX), (27, .bool false), (28, .bool true), (29, .bool true)]) 67 (by kernel_rfl) (by kernel_rfl) (by kernel_rfl) (by kernel_rfl) hsz23.out ?_ ?_ ?_
        · intro t v7 x x' h _ _
          exact h
        · intro i7 o hi7 a x hbx hsame hpre K hK
          have hlt7 : i7 < 15 := (Array.getElem?_eq_some_iff.1 hi7).1
          rcases (show i7 = 0 ∨ i7 = 1 ∨ i7 = 2 ∨ i7 = 3 ∨ i7 = 4 ∨ i7 = 5 ∨ i7 = 6 ∨ i7 = 7 ∨ i7 = 8 ∨ i7 = 9 ∨ i7 = 10 ∨ i7 = 11 ∨ i7 = 12 ∨ i7 = 13 ∨ i7 = 14 by omega) with rfl | rfl | rfl | rfl | rfl | rfl | rfl | rfl | rfl | rfl | rfl | rfl | rfl | rfl | rfl
          all_goals (have ho := Option.some.inj hi7; subst ho; clear hi7 hlt7)
          · have q0 : a.tmps[0]?.getD undef = .slice (some ⟨b, off, none⟩) n cc := (hsame 0 (by decide +kernel)).trans f0
            refine step_plain rfl ?_
            have hk := Lib.hid (show ∀ v7 x', v7 = .slice (some ⟨b, off, none⟩) n cc → Below x.heap.size x x' → K (a.put (some 15) v7) x' from hK)
            have Hbx := Lib.hid hbx
            clear hsame hpre hK hbx
            go_simp
            exact hk.out _ _ rfl (Below.refl _ _)
          · have q6 : a.tmps[6]?.getD undef = .int .i64 ((i : Nat) : Int) := (hsame 6 (by decide +kernel)).trans f6
            refine step_plain rfl ?_
            have hk := Lib.hid (show ∀ v7 x', v7 = .int .i64 ((i : Nat) : Int) → Below x.heap.size x x' → K (a.put (some 16) v7) x' from hK)
            have Hbx := Lib.hid hbx
            clear hsame hpre hK hbx
            go_simp
            exact hk.out _ _ rfl (Below.refl _ _)
          · have q15 : a.tmps[15]?.getD undef = .slice (some ⟨b, off, none⟩) n cc := hpre ⟨0, .data⟩ (by simp) rfl (by decide)
            have q16 : a.tmps[16]?.getD undef = .int .i64 ((i : Nat) : Int) := hpre ⟨1, .data⟩ (by simp) rfl (by decide)
            refine step_plain rfl ?_
            have hk := Lib.hid (show ∀ v7 x', v7 = .pointer (some ⟨b, off + i * 15, none⟩) → Below x.heap.size x x' → K (a.put (some 17) v7) x' from hK)
            have Hbx := Lib.hid hbx
            clear hsame hpre hK hbx
            go_simp
            exact hk.out _ _ rfl (Below.refl _ _)
          · have q17 : a.tmps[17]?.getD undef = .pointer (some ⟨b, off + i * 15, none⟩) := hpre ⟨2, .data⟩ (by simp) rfl (by decide)
            refine step_plain rfl ?_
            have hk := Lib.hid (show ∀ v7 x', v7 = .pointer (some ⟨b, off + i * 15 + 2, none⟩) → Below x.heap.size x x' → K (a.put (some 18) v7) x' from hK)
            have Hbx := Lib.hid hbx
            clear hsame hpre hK hbx
            go_simp
            exact hk.out _ _ rfl (Below.refl _ _)
          · have q18 : a.tmps[18]?.getD undef = .pointer (some ⟨b, off + i * 15 + 2, none⟩) := hpre ⟨3, .data⟩ (by simp) rfl (by decide)
            refine step_plain rfl ?_
            have hk := Lib.hid (show ∀ v7 x', v7 = .agg DX → Below x.heap.size x x' → K (a.put (some 19) v7) x' from hK)
            have Hbx := Lib.hid hbx
            clear hsame hpre hK hbx
            refine wp_load_mid 25 (.tmp 18) rfl b (off + i * 15 + 2) (eval_at q18) DX.toList _ (HrD.out _ (Hbw.out.trans (Hbx.out.mono Hbw.out.size))) Tryd.underlying25 rfl HfD.out ?_
            exact hk.out _ _ rfl (Below.refl _ _)
          · have q3 : a.tmps[3]?.getD undef = .pointer (some ⟨w.heap.size, 0, none⟩) := (hsame 3 (by decide +kernel)).trans f3
            refine step_plain rfl ?_
            have hk := Lib.hid (show ∀ v7 x', v7 = .agg IB → Below x.heap.size x x' → K (a.put (some 20) v7) x' from hK)
            have Hbx := Lib.hid hbx
            clear hsame hpre hK hbx
            refine wp_load_mid 25 (.tmp 3) rfl w.heap.size (0) (eval_at q3) IB.toList _ (HrB.out _ (Hbw.out.trans (Hbx.out.mono Hbw.out.size))) Tryd.underlying25 rfl HfB.out ?_
            exact hk.out _ _ rfl (Below.refl _ _)
          · have q19 : a.tmps[19]?.getD undef = .agg DX := hpre ⟨4, .data⟩ (by simp) rfl (by decide)
            have q20 : a.tmps[20]?.getD undef = .agg IB := hpre ⟨5, .data⟩ (by simp) rfl (by decide)
            refine step_plain rfl ?_
            have hk := Lib.hid (show ∀ v7 x', v7 = .bool false → Below x.heap.size x x' → K (a.put (some 21) v7) x' from hK)
            have Hbx := Lib.hid hbx
            clear hsame hpre hK hbx
            have hne := Hne.out
            go_simp
            exact hk.out _ _ rfl (Below.refl _ _)
          · have q21 : a.tmps[21]?.getD undef = .bool false := hpre ⟨6, .data⟩ (by simp) rfl (by decide)
            refine step_plain rfl ?_
            have hk := Lib.hid (show ∀ v7 x', v7 = .bool false → Below x.heap.size x x' → K (a.put (some 22) v7) x' from hK)
            have Hbx := Lib.hid hbx
            clear hsame hpre hK hbx
            go_simp
            exact hk.out _ _ rfl (Below.refl _ _)
          · have q0 : a.tmps[0]?.getD undef = .slice (some ⟨b, off, none⟩) n cc := (hsame 0 (by decide +kernel)).trans f0
            have w22 : a.tmps[22]?.getD undef = .bool false := hpre ⟨7, .guard⟩ (by simp) rfl (by decide)
            refine step_wanted (wanted_of (j := 7) (t := 22) (b := false) rfl rfl w22) ?_
            have hk := Lib.hid (show ∀ v7 x', v7 = .slice (some ⟨b, off, none⟩) n cc → Below x.heap.size x x' → K (a.put (some 23) v7) x' from hK)
            have Hbx := Lib.hid hbx
            clear hsame hpre hK hbx w22
            go_simp
            exact hk.out _ _ rfl (Below.refl _ _)
          · have q6 : a.tmps[6]?.getD undef = .int .i64 ((i : Nat) : Int) := (hsame 6 (by decide +kernel)).trans f6
            have w22 : a.tmps[22]?.getD undef = .bool false := hpre ⟨7, .guard⟩ (by simp) rfl (by decide)
            refine step_wanted (wanted_of (j := 7) (t := 22) (b := false) rfl rfl w22) ?_
            have hk := Lib.hid (show ∀ v7 x', v7 = .int .i64 ((i : Nat) : Int) → Below x.heap.size x x' → K (a.put (some 24) v7) x' from hK)
            have Hbx := Lib.hid hbx
            clear hsame hpre hK hbx w22
            go_simp
            exact hk.out _ _ rfl (Below.refl _ _)
          · have q23 : a.tmps[23]?.getD undef = .slice (some ⟨b, off, none⟩) n cc := hpre ⟨8, .data⟩ (by simp) rfl (by decide)
            have q24 : a.tmps[24]?.getD undef = .int .i64 ((i : Nat) : Int) := hpre ⟨9, .data⟩ (by simp) rfl (by decide)
            have w22 : a.tmps[22]?.getD undef = .bool false := hpre ⟨7, .guard⟩ (by simp) rfl (by decide)
            refine step_wanted (wanted_of (j := 7) (t := 22) (b := false) rfl rfl w22) ?_
            have hk := Lib.hid (show ∀ v7 x', v7 = .pointer (some ⟨b, off + i * 15, none⟩) → Below x.heap.size x x' → K (a.put (some 25) v7) x' from hK)
            have Hbx := Lib.hid hbx
            clear hsame hpre hK hbx w22
            go_simp
            exact hk.out _ _ rfl (Below.refl _ _)
          · have q25 : a.tmps[25]?.getD undef = .pointer (some ⟨b, off + i * 15, none⟩) := hpre ⟨10, .data⟩ (by simp) rfl (by decide)
            have w22 : a.tmps[22]?.getD undef = .bool false := hpre ⟨7, .guard⟩ (by simp) rfl (by decide)
            refine step_wanted (wanted_of (j := 7) (t := 22) (b := false) rfl rfl w22) ?_
            have hk := Lib.hid (show ∀ v7 x', v7 = .agg CX → Below x.heap.size x x' → K (a.put (some 26) v7) x' from hK)
            have Hbx := Lib.hid hbx
            clear hsame hpre hK hbx w22
            refine wp_load_mid 29 (.tmp 25) rfl b (off + i * 15) (eval_at q25) CX.toList _ (HrX.out _ (Hbw.out.trans (Hbx.out.mono Hbw.out.size))) Tryd.underlying29 rfl HfX.out ?_
            exact hk.out _ _ rfl (Below.refl _ _)
          · have q26 : a.tmps[26]?.getD undef = .agg CX := hpre ⟨11, .data⟩ (by simp) rfl (by decide)
            have w22 : a.tmps[22]?.getD undef = .bool false := hpre ⟨7, .guard⟩ (by simp) rfl (by decide)
            refine step_wanted (wanted_of (j := 7) (t := 22) (b := false) rfl rfl w22) ?_
            have hk := Lib.hid (show ∀ v7 x', v7 = .bool false → Below x.heap.size x x' → K (a.put (some 27) v7) x' from hK)
            have Hbx := Lib.hid hbx
            clear hsame hpre hK hbx w22
            go_simp
            refine (Hal.out _).mono ?_
            rintro e7 w7 ⟨rfl, hb7⟩
            go_simp
            exact hk.out _ _ rfl hb7
          · have q27 : a.tmps[27]?.getD undef = .bool false := hpre ⟨12, .data⟩ (by simp) rfl (by decide)
            have w22 : a.tmps[22]?.getD undef = .bool false := hpre ⟨7, .guard⟩ (by simp) rfl (by decide)
            refine step_wanted (wanted_of (j := 7) (t := 22) (b := false) rfl rfl w22) ?_
            have hk := Lib.hid (show ∀ v7 x', v7 = .bool true → Below x.heap.size x x' → K (a.put (some 28) v7) x' from hK)
            have Hbx := Lib.hid hbx
            clear hsame hpre hK hbx w22
            go_simp
            exact hk.out _ _ rfl (Below.refl _ _)
          · have q22 : a.tmps[22]?.getD undef = .bool false := hpre ⟨7, .data⟩ (by simp) rfl (by decide)
            have q28 : a.tmps[28]?.getD undef = .bool true := hpre ⟨13, .data⟩ (by simp) rfl (by decide)
            refine step_plain rfl ?_
            have hk := Lib.hid (show ∀ v7 x', v7 = .bool true → Below x.heap.size x x' → K (a.put (some 29) v7) x' from hK)
            have Hbx := Lib.hid hbx
            clear hsame hpre hK hbx
            go_simp
            exact hk.out _ _ rfl (Below.refl _ _)
        intro a24 x24 hbx hsame hG hsz24 hde24
        replace f0 := (hsame 0 (by decide +kernel)).trans f0
        replace f3 := (hsame 3 (by decide +kernel)).trans f3
        replace f5 := (hsame 5 (by decide +kernel)).trans f5
        replace f6 := (hsame 6 (by decide +kernel)).trans f6
        have f29 : a24.tmps[29]?.getD undef = .bool true := hG 14 (by decide)
        have Hbx24 := Lib.hid hbx
        have hsz24h := Lib.hid hsz24
        have hde24h := Lib.hid (hde24.trans hde23.out)
        clear hsame hG hbx hsz24 hde24 hsz23 hde23
        refine then_go ?_
        repeat with_reducible refine wp_seq ?_
        refine wp_cond_true (eval_at f29) ?_
        refine wp_exit ?_
        repeat with_reducible refine then_exit ?_
        refine block_exit ?_
        refine then_go ?_
        clear f29
        repeat with_reducible refine wp_seq ?_
        have Hown9 := Lib.hid (Hown.out.grow Hbx24.out)
        have Hbw9 := Lib.hid (Hbw.out.trans (Hbx24.out.mono Hbw.out.size))
        have hnx := Hnx.out
        rw [Bool.false_and, if_neg (by simp)] at hnx
        refine wp_region_lit ?_
        refine wpList_next rfl hsz24h hde24h 13 rfl (by decide) fun K hK => ?_
        go_simp
        refine hK _ _ fun a25 hsz25 hde25 f13 hk => ?_
        clear hK K
        replace f0 := (hk 0 (by decide)).trans f0
        replace f3 := (hk 3 (by decide)).trans f3
        replace f5 := (hk 5 (by decide)).trans f5
        replace f6 := (hk 6 (by decide)).trans f6
        replace f13 : a25.tmps[13]?.getD undef = .int .i64 ((i : Nat) : Int) := f13
        clear hk hsz24h hde24h
        refine wpList_next rfl hsz25 hde25 14 rfl (by decide) fun K hK => ?_
        go_simp
        refine hK _ _ fun a26 hsz26 hde26 f14 hk => ?_
        clear hK K
        replace f0 := (hk 0 (by decide)).trans f0
        replace f3 := (hk 3 (by decide)).trans f3
        replace f5 := (hk 5 (by decide)).trans f5
        replace f6 := (hk 6 (by decide)).trans f6
        clear hk hsz25 hde25 f13
        replace f14 : a26.tmps[14]?.getD undef = .int .i64 (((i + 1 : Nat) : Int)) := f14.trans (by first | rfl | (congr 1; done) | (congr 1; omega) | (congr 1; rw [IntKind.wrap_i64] <;> omega))
        refine wpList_next rfl hsz26 hde26 6 rfl (by decide) fun K hK => ?_
        go_simp
        refine hK _ _ fun a27 hsz27 hde27 f6 hk => ?_
        clear hK K
        replace f0 := (hk 0 (by decide)).trans f0
        replace f3 := (hk 3 (by decide)).trans f3
        replace f5 := (hk 5 (by decide)).trans f5
        replace f6 : a27.tmps[6]?.getD undef = .int .i64 ((i + 1 : Nat) : Int) := f6
        clear hk hsz26 hde26 f14
        refine wpList_nil ?_
        refine then_go ?_
        exact ⟨n - (i + 1), by rw [Hn2.out]; omega, i + 1, _, C, hsz27, hde27, f0, f3, f5, f6, Lib.hid (by omega), Hown9, Lib.hid (by rw [hnx]; exact HC.out), Hbw9, rfl⟩
      | true =>
        refine wp_region_goodg (tblG [(15, .slice (some ⟨b, off, none⟩) n cc), (16, .int .i64 ((i : Nat) : Int)), (17, .pointer (some ⟨b, off + i * 15, none⟩)), (18, .pointer (some ⟨b, off + i * 15 + 2, none⟩)), (19, .agg DX), (20, .agg IB), (21, .bool false), (22, .bool false), (23, .slice (some ⟨b, off, none⟩) n cc), (24, .int .i64 ((i : Nat) : Int)), (25, .pointer (some ⟨b, off + i * 15, none⟩)), (26, .agg CX), (27, .bool true), (28, .bool false), (29, .bool false)]) 67 (by kernel_rfl) (by kernel_rfl) (by kernel_rfl) (by kernel_rfl) hsz23.out ?_ ?_ ?_
        · intro t v7 x x' h _ _
          exact h
        · intro i7 o hi7 a x hbx hsame hpre K hK
          have hlt7 : i7 < 15 := (Array.getElem?_eq_some_iff.1 hi7).1
          rcases (show i7 = 0 ∨ i7 = 1 ∨ i7 = 2 ∨ i7 = 3 ∨ i7 = 4 ∨ i7 = 5 ∨ i7 = 6 ∨ i7 = 7 ∨ i7 = 8 ∨ i7 = 9 ∨ i7 = 10 ∨ i7 = 11 ∨ i7 = 12 ∨ i7 = 13 ∨ i7 = 14 by omega) with rfl | rfl | rfl | rfl | rfl | rfl | rfl | rfl | rfl | rfl | rfl | rfl | rfl | rfl | rfl
          all_goals (have ho := Option.some.inj hi7; subst ho; clear hi7 hlt7)
          · have q0 : a.tmps[0]?.getD undef = .slice (some ⟨b, off, none⟩) n cc := (hsame 0 (by decide +kernel)).trans f0
            refine step_plain rfl ?_
            have hk := Lib.hid (show ∀ v7 x', v7 = .slice (some ⟨b, off, none⟩) n cc → Below x.heap.size x x' → K (a.put (some 15) v7) x' from hK)
            have Hbx := Lib.hid hbx
            clear hsame hpre hK hbx
            go_simp
            exact hk.out _ _ rfl (Below.refl _ _)
          · have q6 : a.tmps[6]?.getD undef = .int .i64 ((i : Nat) : Int) := (hsame 6 (by decide +kernel)).trans f6
            refine step_plain rfl ?_
            have hk := Lib.hid (show ∀ v7 x', v7 = .int .i64 ((i : Nat) : Int) → Below x.heap.size x x' → K (a.put (some 16) v7) x' from hK)
            have Hbx := Lib.hid hbx
            clear hsame hpre hK hbx
            go_simp
            exact hk.out _ _ rfl (Below.refl _ _)
          · have q15 : a.tmps[15]?.getD undef = .slice (some ⟨b, off, none⟩) n cc := hpre ⟨0, .data⟩ (by simp) rfl (by decide)
            have q16 : a.tmps[16]?.getD undef = .int .i64 ((i : Nat) : Int) := hpre ⟨1, .data⟩ (by simp) rfl (by decide)
            refine step_plain rfl ?_
            have hk := Lib.hid (show ∀ v7 x', v7 = .pointer (some ⟨b, off + i * 15, none⟩) → Below x.heap.size x x' → K (a.put (some 17) v7) x' from hK)
            have Hbx := Lib.hid hbx
            clear hsame hpre hK hbx
            go_simp
            exact hk.out _ _ rfl (Below.refl _ _)
          · have q17 : a.tmps[17]?.getD undef = .pointer (some ⟨b, off + i * 15, none⟩) := hpre ⟨2, .data⟩ (by simp) rfl (by decide)
            refine step_plain rfl ?_
            have hk := Lib.hid (show ∀ v7 x', v7 = .pointer (some ⟨b, off + i * 15 + 2, none⟩) → Below x.heap.size x x' → K (a.put (some 18) v7) x' from hK)
            have Hbx := Lib.hid hbx
            clear hsame hpre hK hbx
            go_simp
            exact hk.out _ _ rfl (Below.refl _ _)
          · have q18 : a.tmps[18]?.getD undef = .pointer (some ⟨b, off + i * 15 + 2, none⟩) := hpre ⟨3, .data⟩ (by simp) rfl (by decide)
            refine step_plain rfl ?_
            have hk := Lib.hid (show ∀ v7 x', v7 = .agg DX → Below x.heap.size x x' → K (a.put (some 19) v7) x' from hK)
            have Hbx := Lib.hid hbx
            clear hsame hpre hK hbx
            refine wp_load_mid 25 (.tmp 18) rfl b (off + i * 15 + 2) (eval_at q18) DX.toList _ (HrD.out _ (Hbw.out.trans (Hbx.out.mono Hbw.out.size))) Tryd.underlying25 rfl HfD.out ?_
            exact hk.out _ _ rfl (Below.refl _ _)
          · have q3 : a.tmps[3]?.getD undef = .pointer (some ⟨w.heap.size, 0, none⟩) := (hsame 3 (by decide +kernel)).trans f3
            refine step_plain rfl ?_
            have hk := Lib.hid (show ∀ v7 x', v7 = .agg IB → Below x.heap.size x x' → K (a.put (some 20) v7) x' from hK)
            have Hbx := Lib.hid hbx
            clear hsame hpre hK hbx
            refine wp_load_mid 25 (.tmp 3) rfl w.heap.size (0) (eval_at q3) IB.toList _ (HrB.out _ (Hbw.out.trans (Hbx.out.mono Hbw.out.size))) Tryd.underlying25 rfl HfB.out ?_
            exact hk.out _ _ rfl (Below.refl _ _)
          · have q19 : a.tmps[19]?.getD undef = .agg DX := hpre ⟨4, .data⟩ (by simp) rfl (by decide)
            have q20 : a.tmps[20]?.getD undef = .agg IB := hpre ⟨5, .data⟩ (by simp) rfl (by decide)
            refine step_plain rfl ?_
            have hk := Lib.hid (show ∀ v7 x', v7 = .bool false → Below x.heap.size x x' → K (a.put (some 21) v7) x' from hK)
            have Hbx := Lib.hid hbx
            clear hsame hpre hK hbx
            have hne := Hne.out
            go_simp
            exact hk.out _ _ rfl (Below.refl _ _)
          · have q21 : a.tmps[21]?.getD undef = .bool false := hpre ⟨6, .data⟩ (by simp) rfl (by decide)
            refine step_plain rfl ?_
            have hk := Lib.hid (show ∀ v7 x', v7 = .bool false → Below x.heap.size x x' → K (a.put (some 22) v7) x' from hK)
            have Hbx := Lib.hid hbx
            clear hsame hpre hK hbx
            go_simp
            exact hk.out _ _ rfl (Below.refl _ _)
          · have q0 : a.tmps[0]?.getD undef = .slice (some ⟨b, off, none⟩) n cc := (hsame 0 (by decide +kernel)).trans f0
            have w22 : a.tmps[22]?.getD undef = .bool false := hpre ⟨7, .guard⟩ (by simp) rfl (by decide)
            refine step_wanted (wanted_of (j := 7) (t := 22) (b := false) rfl rfl w22) ?_
            have hk := Lib.hid (show ∀ v7 x', v7 = .slice (some ⟨b, off, none⟩) n cc → Below x.heap.size x x' → K (a.put (some 23) v7) x' from hK)
            have Hbx := Lib.hid hbx
            clear hsame hpre hK hbx w22
            go_simp
            exact hk.out _ _ rfl (Below.refl _ _)
          · have q6 : a.tmps[6]?.getD undef = .int .i64 ((i : Nat) : Int) := (hsame 6 (by decide +kernel)).trans f6
            have w22 : a.tmps[22]?.getD undef = .bool false := hpre ⟨7, .guard⟩ (by simp) rfl (by decide)
            refine step_wanted (wanted_of (j := 7) (t := 22) (b := false) rfl rfl w22) ?_
            have hk := Lib.hid (show ∀ v7 x', v7 = .int .i64 ((i : Nat) : Int) → Below x.heap.size x x' → K (a.put (some 24) v7) x' from hK)
            have Hbx := Lib.hid hbx
            clear hsame hpre hK hbx w22
            go_simp
            exact hk.out _ _ rfl (Below.refl _ _)
          · have q23 : a.tmps[23]?.getD undef = .slice (some ⟨b, off, none⟩) n cc := hpre ⟨8, .data⟩ (by simp) rfl (by decide)
            have q24 : a.tmps[24]?.getD undef = .int .i64 ((i : Nat) : Int) := hpre ⟨9, .data⟩ (by simp) rfl (by decide)
            have w22 : a.tmps[22]?.getD undef = .bool false := hpre ⟨7, .guard⟩ (by simp) rfl (by decide)
            refine step_wanted (wanted_of (j := 7) (t := 22) (b := false) rfl rfl w22) ?_
            have hk := Lib.hid (show ∀ v7 x', v7 = .pointer (some ⟨b, off + i * 15, none⟩) → Below x.heap.size x x' → K (a.put (some 25) v7) x' from hK)
            have Hbx := Lib.hid hbx
            clear hsame hpre hK hbx w22
            go_simp
            exact hk.out _ _ rfl (Below.refl _ _)
          · have q25 : a.tmps[25]?.getD undef = .pointer (some ⟨b, off + i * 15, none⟩) := hpre ⟨10, .data⟩ (by simp) rfl (by decide)
            have w22 : a.tmps[22]?.getD undef = .bool false := hpre ⟨7, .guard⟩ (by simp) rfl (by decide)
            refine step_wanted (wanted_of (j := 7) (t := 22) (b := false) rfl rfl w22) ?_
            have hk := Lib.hid (show ∀ v7 x', v7 = .agg CX → Below x.heap.size x x' → K (a.put (some 26) v7) x' from hK)
            have Hbx := Lib.hid hbx
            clear hsame hpre hK hbx w22
            refine wp_load_mid 29 (.tmp 25) rfl b (off + i * 15) (eval_at q25) CX.toList _ (HrX.out _ (Hbw.out.trans (Hbx.out.mono Hbw.out.size))) Tryd.underlying29 rfl HfX.out ?_
            exact hk.out _ _ rfl (Below.refl _ _)
          · have q26 : a.tmps[26]?.getD undef = .agg CX := hpre ⟨11, .data⟩ (by simp) rfl (by decide)
            have w22 : a.tmps[22]?.getD undef = .bool false := hpre ⟨7, .guard⟩ (by simp) rfl (by decide)
            refine step_wanted (wanted_of (j := 7) (t := 22) (b := false) rfl rfl w22) ?_
            have hk := Lib.hid (show ∀ v7 x', v7 = .bool true → Below x.heap.size x x' → K (a.put (some 27) v7) x' from hK)
            have Hbx := Lib.hid hbx
            clear hsame hpre hK hbx w22
            go_simp
            refine (Hal.out _).mono ?_
            rintro e7 w7 ⟨rfl, hb7⟩
            go_simp
            exact hk.out _ _ rfl hb7
          · have q27 : a.tmps[27]?.getD undef = .bool true := hpre ⟨12, .data⟩ (by simp) rfl (by decide)
            have w22 : a.tmps[22]?.getD undef = .bool false := hpre ⟨7, .guard⟩ (by simp) rfl (by decide)
            refine step_wanted (wanted_of (j := 7) (t := 22) (b := false) rfl rfl w22) ?_
            have hk := Lib.hid (show ∀ v7 x', v7 = .bool false → Below x.heap.size x x' → K (a.put (some 28) v7) x' from hK)
            have Hbx := Lib.hid hbx
            clear hsame hpre hK hbx w22
            go_simp
            exact hk.out _ _ rfl (Below.refl _ _)
          · have q22 : a.tmps[22]?.getD undef = .bool false := hpre ⟨7, .data⟩ (by simp) rfl (by decide)
            have q28 : a.tmps[28]?.getD undef = .bool false := hpre ⟨13, .data⟩ (by simp) rfl (by decide)
            refine step_plain rfl ?_
            have hk := Lib.hid (show ∀ v7 x', v7 = .bool false → Below x.heap.size x x' → K (a.put (some 29) v7) x' from hK)
            have Hbx := Lib.hid hbx
            clear hsame hpre hK hbx
            go_simp
            exact hk.out _ _ rfl (Below.refl _ _)
        intro a24 x24 hbx hsame hG hsz24 hde24
        replace f0 := (hsame 0 (by decide +kernel)).trans f0
        replace f3 := (hsame 3 (by decide +kernel)).trans f3
        replace f5 := (hsame 5 (by decide +kernel)).trans f5
        replace f6 := (hsame 6 (by decide +kernel)).trans f6
        have f29 : a24.tmps[29]?.getD undef = .bool false := hG 14 (by decide)
        have Hbx24 := Lib.hid hbx
        have hsz24h := Lib.hid hsz24
        have hde24h := Lib.hid (hde24.trans hde23.out)
        clear hsame hG hbx hsz24 hde24 hsz23 hde23
        refine then_go ?_
        repeat with_reducible refine wp_seq ?_
        refine wp_cond_false (eval_at f29) ?_
        refine wp_skip ?_
        refine then_go ?_
        clear f29
        repeat with_reducible refine wp_seq ?_
        obtain ⟨wy, hwy⟩ : ∃ wy, wy = x24 := ⟨_, rfl⟩
        have Hown9 := Lib.hid (Hown.out.grow Hbx24.out)
        have Hbw9 := Lib.hid (Hbw.out.trans (Hbx24.out.mono Hbw.out.size))
        rw [← hwy] at Hown9 Hbw9 ⊢
        clear hwy Hbx24 Hown Hbw
        obtain ⟨A2, c2, rfl⟩ : ∃ A c, u = .slice A C.length c := let ⟨A, c, e, _⟩ := ent_at Hown9.out.isL; ⟨A, c, e⟩
        obtain ⟨nc, hnc⟩ : ∃ nc, nc = C.length := ⟨_, rfl⟩
        rw [← hnc] at Hown9 f5
        have Hnc := Lib.hid hnc
        have hncb : nc ≤ 1000 := by rw [hnc, HC.out.1.length_eq]; exact Nat.le_trans (List.length_filter_le _ _) (by rw [List.length_take]; omega)
        have Hc2 := Lib.hid (show nc ≤ c2 by obtain ⟨_, _, e7, h7, _⟩ := ent_at Hown9.out.isL; injection e7 with _ _ e9; rw [hnc, e9]; exact h7)
        clear hnc
        refine wp_region_lit ?_
        refine wpList_next rfl hsz24h hde24h 30 rfl (by decide) fun K hK => ?_
        go_simp
        refine hK _ _ fun a25 hsz25 hde25 f30 hk => ?_
        clear hK K
        replace f0 := (hk 0 (by decide)).trans f0
        replace f3 := (hk 3 (by decide)).trans f3
        replace f5 := (hk 5 (by decide)).trans f5
        replace f6 := (hk 6 (by decide)).trans f6
        replace f30 : a25.tmps[30]?.getD undef = .slice A2 nc c2 := f30
        clear hk hsz24h hde24h
        refine wpList_next rfl hsz25 hde25 31 rfl (by decide) fun K hK => ?_
        go_simp
        refine hK _ _ fun a26 hsz26 hde26 f31 hk => ?_
        clear hK K
        replace f0 := (hk 0 (by decide)).trans f0
        replace f3 := (hk 3 (by decide)).trans f3
        replace f5 := (hk 5 (by decide)).trans f5
        replace f6 := (hk 6 (by decide)).trans f6
        replace f31 : a26.tmps[31]?.getD undef = .int .i64 ((nc : Nat) : Int) := f31
        clear hk hsz25 hde25 f30
        refine wpList_next rfl hsz26 hde26 7 rfl (by decide) fun K hK => ?_
        go_simp
        refine hK _ _ fun a27 hsz27 hde27 f7 hk => ?_
        clear hK K
        replace f0 := (hk 0 (by decide)).trans f0
        replace f3 := (hk 3 (by decide)).trans f3
        replace f5 := (hk 5 (by decide)).trans f5
        replace f6 := (hk 6 (by decide)).trans f6
        replace f7 : a27.tmps[7]?.getD undef = .int .i64 ((nc : Nat) : Int) := f7
        clear hk hsz26 hde26 f31
        refine wpList_nil ?_
        refine then_go ?_
        repeat with_reducible refine wp_seq ?_
        replace f7 : a27.tmps[7]?.getD undef = .int .i64 ((C.length : Nat) : Int) := by rw [← Hnc.out]; exact f7
        refine wp_block ?_
        refine wp_loop_ghost (RmInv wy (.slice (some ⟨b, off, none⟩) n cc) (.pointer (some ⟨w.heap.size, 0, none⟩)) (.slice A2 nc c2) X C i) C.length ?_ ?_
        · exact ⟨C, [], hsz27, hde27, f0, f3, f5, f6, f7, Lib.hid (List.append_nil _), Lib.hid (fun y hy => by simp at hy), Lib.hid (Below.refl _ _), rfl⟩
        clear hsz27 hde27 f0 f3 f5 f6 f7
        intro n3 a39 wx hI
        obtain ⟨C1, C2, hsz39, hde39, f0, f3, f5, f6, f7, HCC, H2, Hbx0, hn3⟩ := hI
        have Hn3 := Lib.hid hn3
        clear hn3
        obtain ⟨k, hk⟩ : ∃ k, k = C1.length := ⟨_, rfl⟩
        rw [← hk] at f7
        have Hk := Lib.hid hk
        have Hkn := Lib.hid (show nc = k + C2.length by rw [Hnc.out, ← HCC.out, List.length_append, hk])
        have hkb : k ≤ 1000 := by have := Hkn.out; omega
        clear hk
        have Hown := Lib.hid (Hown9.out.grow Hbx0.out)
        have Hbw := Lib.hid (Hbw9.out.trans (Hbx0.out.mono Hbw9.out.size))
        repeat with_reducible refine wp_seq ?_
        rcases List.eq_nil_or_concat C1 with e1 | ⟨C3, Y, e1⟩
        · have Hk0 := Lib.hid (show k = 0 by rw [Hk.out, e1]; rfl)
          refine wp_region_goodg (tblG [(32, .int .i64 ((k : Nat) : Int)), (33, .bool false), (34, .bool false), (35, undef), (36, undef), (37, undef), (38, undef), (39, undef), (40, undef), (41, undef), (42, undef), (43, undef), (44, undef), (45, undef), (46, undef), (47, .bool false)]) 67 (by kernel_rfl) (by kernel_rfl) (by kernel_rfl) (by kernel_rfl) hsz39.out ?_ ?_ ?_
          · intro t v7 x x' h _ _
            exact h
          · intro i7 o hi7 a x hbx hsame hpre K hK
            have hlt7 : i7 < 16 := (Array.getElem?_eq_some_iff.1 hi7).1
            rcases (show i7 = 0 ∨ i7 = 1 ∨ i7 = 2 ∨ i7 = 3 ∨ i7 = 4 ∨ i7 = 5 ∨ i7 = 6 ∨ i7 = 7 ∨ i7 = 8 ∨ i7 = 9 ∨ i7 = 10 ∨ i7 = 11 ∨ i7 = 12 ∨ i7 = 13 ∨ i7 = 14 ∨ i7 = 15 by omega) with rfl | rfl | rfl | rfl | rfl | rfl | rfl | rfl | rfl | rfl | rfl | rfl | rfl | rfl | rfl | rfl
            all_goals (have ho := Option.some.inj hi7; subst ho; clear hi7 hlt7)
            · have q7 : a.tmps[7]?.getD undef = .int .i64 ((k : Nat) : Int) := (hsame 7 (by decide +kernel)).trans f7
              refine step_plain rfl ?_
              have hk := Lib.hid (show ∀ v7 x', v7 = .int .i64 ((k : Nat) : Int) → Below x.heap.size x x' → K (a.put (some 32) v7) x' from hK)
              have Hbx := Lib.hid hbx
              clear hsame hpre hK hbx
              go_simp
              exact hk.out _ _ rfl (Below.refl _ _)
            · have q32 : a.tmps[32]?.getD undef = .int .i64 ((k : Nat) : Int) := hpre ⟨0, .data⟩ (by simp) rfl (by decide)
              refine step_plain rfl ?_
              have hk := Lib.hid (show ∀ v7 x', v7 = .bool false → Below x.heap.size x x' → K (a.put (some 33) v7) x' from hK)
              have Hbx := Lib.hid hbx
              clear hsame hpre hK hbx
              go_simp
              exact hk.out _ _ (by have h7 := Hk0.out; first | rfl | (congr 1; first | exact decide_eq_false (by omega)) | (simp; omega)) (Below.refl _ _)
            · have q33 : a.tmps[33]?.getD undef = .bool false := hpre ⟨1, .data⟩ (by simp) rfl (by decide)
              refine step_plain rfl ?_
              have hk := Lib.hid (show ∀ v7 x', v7 = .bool false → Below x.heap.size x x' → K (a.put (some 34) v7) x' from hK)
              have Hbx := Lib.hid hbx
              clear hsame hpre hK hbx
              go_simp
              exact hk.out _ _ rfl (Below.refl _ _)
            · have w34 : a.tmps[34]?.getD undef = .bool false := hpre ⟨2, .guard⟩ (by simp) rfl (by decide)
              refine step_left (not_wanted (j := 2) (t := 34) (b := true) rfl rfl (.inr w34)) ?_
              have hk := Lib.hid (show ∀ v7 x', v7 = undef → Below x.heap.size x x' → K (a.put (some 35) v7) x' from hK)
              have Hbx := Lib.hid hbx
              clear hsame hpre hK hbx w34
              exact hk.out _ _ rfl (Below.refl _ _)
            · have w34 : a.tmps[34]?.getD undef = .bool false := hpre ⟨2, .guard⟩ (by simp) rfl (by decide)
              refine step_left (not_wanted (j := 2) (t := 34) (b := true) rfl rfl (.inr w34)) ?_
              have hk := Lib.hid (show ∀ v7 x', v7 = undef → Below x.heap.size x x' → K (a.put (some 36) v7) x' from hK)
              have Hbx := Lib.hid hbx
              clear hsame hpre hK hbx w34
              exact hk.out _ _ rfl (Below.refl _ _)
            · have w34 : a.tmps[34]?.getD undef = .bool false := hpre ⟨2, .guard⟩ (by simp) rfl (by decide)
              refine step_left (not_wanted (j := 2) (t := 34) (b := true) rfl rfl (.inr w34)) ?_
              have hk := Lib.hid (show ∀ v7 x', v7 = undef → Below x.heap.size x x' → K (a.put (some 37) v7) x' from hK)
              have Hbx := Lib.hid hbx
              clear hsame hpre hK hbx w34
              exact hk.out _ _ rfl (Below.refl _ _)
            · have w34 : a.tmps[34]?.getD undef = .bool false := hpre ⟨2, .guard⟩ (by simp) rfl (by decide)
              refine step_left (not_wanted (j := 2) (t := 34) (b := true) rfl rfl (.inr w34)) ?_
              have hk := Lib.hid (show ∀ v7 x', v7 = undef → Below x.heap.size x x' → K (a.put (some 38) v7) x' from hK)
              have Hbx := Lib.hid hbx
              clear hsame hpre hK hbx w34
              exact hk.out _ _ rfl (Below.refl _ _)
            · have w34 : a.tmps[34]?.getD undef = .bool false := hpre ⟨2, .guard⟩ (by simp) rfl (by decide)
              refine step_left (not_wanted (j := 2) (t := 34) (b := true) rfl rfl (.inr w34)) ?_
              have hk := Lib.hid (show ∀ v7 x', v7 = undef → Below x.heap.size x x' → K (a.put (some 39) v7) x' from hK)
              have Hbx := Lib.hid hbx
              clear hsame hpre hK hbx w34
              exact hk.out _ _ rfl (Below.refl _ _)
            · have w34 : a.tmps[34]?.getD undef = .bool false := hpre ⟨2, .guard⟩ (by simp) rfl (by decide)
              refine step_left (not_wanted (j := 2) (t := 34) (b := true) rfl rfl (.inr w34)) ?_
              have hk := Lib.hid (show ∀ v7 x', v7 = undef → Below x.heap.size x x' → K (a.put (some 40) v7) x' from hK)
              have Hbx := Lib.hid hbx
              clear hsame hpre hK hbx w34
              exact hk.out _ _ rfl (Below.refl _ _)
            · have w34 : a.tmps[34]?.getD undef = .bool false := hpre ⟨2, .guard⟩ (by simp) rfl (by decide)
              refine step_left (not_wanted (j := 2) (t := 34) (b := true) rfl rfl (.inr w34)) ?_
              have hk := Lib.hid (show ∀ v7 x', v7 = undef → Below x.heap.size x x' → K (a.put (some 41) v7) x' from hK)
              have Hbx := Lib.hid hbx
              clear hsame hpre hK hbx w34
              exact hk.out _ _ rfl (Below.refl _ _)
            · have w34 : a.tmps[34]?.getD undef = .bool false := hpre ⟨2, .guard⟩ (by simp) rfl (by decide)
              refine step_left (not_wanted (j := 2) (t := 34) (b := true) rfl rfl (.inr w34)) ?_
              have hk := Lib.hid (show ∀ v7 x', v7 = undef → Below x.heap.size x x' → K (a.put (some 42) v7) x' from hK)
              have Hbx := Lib.hid hbx
              clear hsame hpre hK hbx w34
              exact hk.out _ _ rfl (Below.refl _ _)
            · have w34 : a.tmps[34]?.getD undef = .bool false := hpre ⟨2, .guard⟩ (by simp) rfl (by decide)
              refine step_left (not_wanted (j := 2) (t := 34) (b := true) rfl rfl (.inr w34)) ?_
              have hk := Lib.hid (show ∀ v7 x', v7 = undef → Below x.heap.size x x' → K (a.put (some 43) v7) x' from hK)
              have Hbx := Lib.hid hbx
              clear hsame hpre hK hbx w34
              exact hk.out _ _ rfl (Below.refl _ _)
            · have w34 : a.tmps[34]?.getD undef = .bool false := hpre ⟨2, .guard⟩ (by simp) rfl (by decide)
              refine step_left (not_wanted (j := 2) (t := 34) (b := true) rfl rfl (.inr w34)) ?_
              have hk := Lib.hid (show ∀ v7 x', v7 = undef → Below x.heap.size x x' → K (a.put (some 44) v7) x' from hK)
              have Hbx := Lib.hid hbx
              clear hsame hpre hK hbx w34
              exact hk.out _ _ rfl (Below.refl _ _)
            · have w34 : a.tmps[34]?.getD undef = .bool false := hpre ⟨2, .guard⟩ (by simp) rfl (by decide)
              refine step_left (not_wanted (j := 2) (t := 34) (b := true) rfl rfl (.inr w34)) ?_
              have hk := Lib.hid (show ∀ v7 x', v7 = undef → Below x.heap.size x x' → K (a.put (some 45) v7) x' from hK)
              have Hbx := Lib.hid hbx
              clear hsame hpre hK hbx w34
              exact hk.out _ _ rfl (Below.refl _ _)
            · have w34 : a.tmps[34]?.getD undef = .bool false := hpre ⟨2, .guard⟩ (by simp) rfl (by decide)
              refine step_left (not_wanted (j := 2) (t := 34) (b := true) rfl rfl (.inr w34)) ?_
              have hk := Lib.hid (show ∀ v7 x', v7 = undef → Below x.heap.size x x' → K (a.put (some 46) v7) x' from hK)
              have Hbx := Lib.hid hbx
              clear hsame hpre hK hbx w34
              exact hk.out _ _ rfl (Below.refl _ _)
            · have q34 : a.tmps[34]?.getD undef = .bool false := hpre ⟨2, .data⟩ (by simp) rfl (by decide)
              have q46 : a.tmps[46]?.getD undef = undef := hpre ⟨14, .data⟩ (by simp) rfl (by decide)
              refine step_plain rfl ?_
              have hk := Lib.hid (show ∀ v7 x', v7 = .bool false → Below x.heap.size x x' → K (a.put (some 47) v7) x' from hK)
              have Hbx := Lib.hid hbx
              clear hsame hpre hK hbx
              go_simp
              exact hk.out _ _ rfl (Below.refl _ _)
          intro a40 x40 hbx hsame hG hsz40 hde40
          replace f0 := (hsame 0 (by decide +kernel)).trans f0
          replace f3 := (hsame 3 (by decide +kernel)).trans f3
          replace f5 := (hsame 5 (by decide +kernel)).trans f5
          replace f6 := (hsame 6 (by decide +kernel)).trans f6
          replace f7 := (hsame 7 (by decide +kernel)).trans f7
          have f47 : a40.tmps[47]?.getD undef = .bool false := hG 15 (by decide)
          have Hbx40 := Lib.hid hbx
          have hsz40h := Lib.hid hsz40
          have hde40h := Lib.hid (hde40.trans hde39.out)
          clear hsame hG hbx hsz40 hde40 hsz39 hde39
          refine then_go ?_
          repeat with_reducible refine wp_seq ?_
          refine wp_cond_false (eval_at f47) ?_
          refine wp_exit ?_
          repeat with_reducible refine then_exit ?_
          refine block_exit ?_
          repeat first | with_reducible refine block_go ?_ | with_reducible refine then_go ?_
          clear f47
          repeat with_reducible refine wp_seq ?_
          obtain ⟨wu, hwu⟩ : ∃ wu, wu = x40 := ⟨_, rfl⟩
          have HownU := Lib.hid (Hown.out.grow Hbx40.out)
          have HbwU := Lib.hid (Hbw.out.trans (Hbx40.out.mono Hbw.out.size))
          rw [← hwu] at HownU HbwU ⊢
          clear hwu Hbx40 Hown Hbw
          have Hrd := Lib.hid (IsL.rdE HownU.out.isL)
          have hrd2 : Rd wu (fun g7 => (Value.slice A2 nc c2).ownBlock = some g7) A2 (entsC (C1 ++ C2)) := by rw [HCC.out]; exact Hrd.out.1
          have hok2 : ∀ y ∈ C1 ++ C2, EntOk y := by rw [HCC.out]; exact HownU.out.2
          have hkc : k ≤ nc := by have := Hkn.out; omega
          have hm2 : nc - k = C2.length := by have := Hkn.out; omega
          have hrf : Rd wu (fun g7 => (Value.slice A2 nc c2).ownBlock = some g7) (if c2 = k then A2 else A2.map (·.add (k * 15))) (entsC C2) := by have h7 := rd_from hrd2 (c := c2) (by rw [← Hk.out]; have := Hkn.out; have := Hc2.out; omega); rw [← Hk.out] at h7; exact h7
          have Hru := Lib.hid (rd_upto (c := c2) hrd2)
          obtain ⟨A3, hA3⟩ : ∃ A3, A3 = (if c2 = k then A2 else A2.map (·.add (k * 15))) := ⟨_, rfl⟩
          rw [← hA3] at hrf
          obtain ⟨u2, W2, hrun, hownc, hbc⟩ := cons_run wu X HXok.out C2 (fun y hy => hok2 y (by simp [hy])) (by omega) (c := c2 - k) hm2 hrf CX HCX.out
          obtain ⟨m2, hm2e⟩ : ∃ m2, m2 = nc - k := ⟨_, rfl⟩
          rw [← hm2e] at hrun
          have Hfr := Lib.hid (fun W : World => (from_run (A := A2) (c := c2) hkc W : _ = _))
          rw [← hA3, ← hm2e] at Hfr
          have Hrun := Lib.hid hrun
          have HownC := Lib.hid hownc
          have HbC := Lib.hid hbc
          have Hok2 := Lib.hid hok2
          have Hkc2 := Lib.hid (show k ≤ c2 by have := Hc2.out; omega)
          clear hrd2 hok2 hkc hm2 hrf hA3 hrun hownc hbc hm2e
          have hXr := HrX.out _ (HbwU.out.drew)
          have HXr := Lib.hid hXr
          have hCXs : CX.size = 15 := by rw [HCX.out]; rfl
          clear hXr
          refine wp_region_sw (fun s => match s with | 50 => .slice (some ⟨b, off, none⟩) n cc | 51 => .int .i64 ((i : Nat) : Int) | 52 => .pointer (some ⟨b, off + i * 15, none⟩) | 53 => .agg CX | 54 => .slice (some ⟨wu.heap.size, 0, none⟩) 1 1 | 55 => .slice A2 nc c2 | 56 => .int .i64 ((k : Nat) : Int) | 57 => .slice A3 m2 (c2 - k) | 58 => u2 | 8 => u2 | _ => undef) (wu.drew.alloc (.cells CX 29)) W2 4 8 3 3 67 (by kernel_rfl) (by kernel_rfl) (by kernel_rfl) hsz40h.out (by decide +kernel) (by decide +kernel) ?_ ?_
          · intro i0 o0 hi0 a x0 hl1 hl2 hw1 hw2 hsame hV K hK
            have hlt0 : i0 < 10 := (Array.getElem?_eq_some_iff.1 hi0).1
            rcases (show i0 = 0 ∨ i0 = 1 ∨ i0 = 2 ∨ i0 = 3 ∨ i0 = 4 ∨ i0 = 5 ∨ i0 = 6 ∨ i0 = 7 ∨ i0 = 8 ∨ i0 = 9 by omega) with rfl | rfl | rfl | rfl | rfl | rfl | rfl | rfl | rfl | rfl
            all_goals (have ho0 := Option.some.inj hi0; subst ho0; clear hi0 hlt0)
            · have q0 : a.tmps[0]?.getD undef = .slice (some ⟨b, off, none⟩) n cc := (hsame 0 (slot_free (by decide +kernel))).trans f0
              have hk := Lib.hid (fun v (h : v = .slice (some ⟨b, off, none⟩) n cc) => hK v x0 (fun s hs => by cases hs; exact h) (fun _ _ => rfl) (fun h => absurd h (by decide)) (fun h => absurd h (by decide)))
              clear hsame hV hK hl1 hl2 hw1 hw2
              go_simp
              exact hk.out _ rfl
            · have q6 : a.tmps[6]?.getD undef = .int .i64 ((i : Nat) : Int) := (hsame 6 (slot_free (by decide +kernel))).trans f6
              have hk := Lib.hid (fun v (h : v = .int .i64 ((i : Nat) : Int)) => hK v x0 (fun s hs => by cases hs; exact h) (fun _ _ => rfl) (fun h => absurd h (by decide)) (fun h => absurd h (by decide)))
              clear hsame hV hK hl1 hl2 hw1 hw2
              go_simp
              exact hk.out _ rfl
            · have q50 : a.tmps[50]?.getD undef = .slice (some ⟨b, off, none⟩) n cc := hV ⟨0, .data⟩ (by simp) rfl 50 rfl
              have q51 : a.tmps[51]?.getD undef = .int .i64 ((i : Nat) : Int) := hV ⟨1, .data⟩ (by simp) rfl 51 rfl
              have hk := Lib.hid (fun v (h : v = .pointer (some ⟨b, off + i * 15, none⟩)) => hK v x0 (fun s hs => by cases hs; exact h) (fun _ _ => rfl) (fun h => absurd h (by decide)) (fun h => absurd h (by decide)))
              clear hsame hV hK hl1 hl2 hw1 hw2
              go_simp
              exact hk.out _ rfl
            · have q52 : a.tmps[52]?.getD undef = .pointer (some ⟨b, off + i * 15, none⟩) := hV ⟨2, .data⟩ (by simp) rfl 52 rfl
              have e0 := hl1 rfl
              refine wp_load_mid 29 (.tmp 52) rfl b (off + i * 15) (eval_at q52) CX.toList _ (by rw [e0]; exact HXr.out) Tryd.underlying29 rfl HfX.out ?_
              exact hK _ x0 (fun s hs => by cases hs; rfl) (fun _ _ => rfl) (fun h => absurd h (by decide)) (fun h => absurd h (by decide))
            · have q53 : a.tmps[53]?.getD undef = .agg CX := hV ⟨3, .data⟩ (by simp) rfl 53 rfl
              have e0 := hw1 rfl
              subst e0
              have hk := Lib.hid (fun v x9 (h : v = .slice (some ⟨wu.heap.size, 0, none⟩) 1 1) (h2 : x9 = wu.drew.alloc (.cells CX 29)) => hK v x9 (fun s hs => by cases hs; exact h) (fun h => absurd rfl h) (fun _ => h2) (fun h => absurd h (by decide)))
              clear hsame hV hK hl1 hl2 hw1 hw2
              go_simp
              rw [HfC.out]
              exact hk.out _ _ rfl rfl
            · have q5 : a.tmps[5]?.getD undef = .slice A2 nc c2 := (hsame 5 (slot_free (by decide +kernel))).trans f5
              have hk := Lib.hid (fun v (h : v = .slice A2 nc c2) => hK v x0 (fun s hs => by cases hs; exact h) (fun _ _ => rfl) (fun h => absurd h (by decide)) (fun h => absurd h (by decide)))
              clear hsame hV hK hl1 hl2 hw1 hw2
              go_simp
              exact hk.out _ rfl
            · have q7 : a.tmps[7]?.getD undef = .int .i64 ((k : Nat) : Int) := (hsame 7 (slot_free (by decide +kernel))).trans f7
              have hk := Lib.hid (fun v (h : v = .int .i64 ((k : Nat) : Int)) => hK v x0 (fun s hs => by cases hs; exact h) (fun _ _ => rfl) (fun h => absurd h (by decide)) (fun h => absurd h (by decide)))
              clear hsame hV hK hl1 hl2 hw1 hw2
              go_simp
              exact hk.out _ rfl
            · have q55 : a.tmps[55]?.getD undef = .slice A2 nc c2 := hV ⟨5, .data⟩ (by simp) rfl 55 rfl
              have q56 : a.tmps[56]?.getD undef = .int .i64 ((k : Nat) : Int) := hV ⟨6, .data⟩ (by simp) rfl 56 rfl
              have hk := Lib.hid (fun v (h : v = .slice A3 m2 (c2 - k)) => hK v x0 (fun s hs => by cases hs; exact h) (fun _ _ => rfl) (fun h => absurd h (by decide)) (fun h => absurd h (by decide)))
              clear hsame hV hK hl1 hl2 hw1 hw2
              refine wp_from (.tmp 55) (.tmp 56) rfl (eval_at q55) (eval_at q56) Hfr.out ?_
              exact hk.out _ rfl
            · have q54 : a.tmps[54]?.getD undef = .slice (some ⟨wu.heap.size, 0, none⟩) 1 1 := hV ⟨4, .data⟩ (by simp) rfl 54 rfl
              have q57 : a.tmps[57]?.getD undef = .slice A3 m2 (c2 - k) := hV ⟨7, .data⟩ (by simp) rfl 57 rfl
              have e0 := hw2 rfl
              refine wp_append (.tmp 54) (.tmp 57) 22 rfl (by rw [eval_at q54, eval_at q57, e0]; exact Hrun.out) ?_
              exact hK _ _ (fun s hs => by cases hs; rfl) (fun _ h => absurd rfl h) (fun h => absurd h (by decide)) (fun _ => rfl)
            · have q58 : a.tmps[58]?.getD undef = u2 := hV ⟨8, .data⟩ (by simp) rfl 58 rfl
              have hk := Lib.hid (fun v (h : v = u2) => hK v x0 (fun s hs => by cases hs; exact h) (fun _ _ => rfl) (fun h => absurd h (by decide)) (fun h => absurd h (by decide)))
              clear hsame hV hK hl1 hl2 hw1 hw2
              go_simp
              exact hk.out _ rfl
          intro a41 hsame hV hsz41 hde41
          replace f0 := (hsame 0 (slot_free (by decide +kernel))).trans f0
          replace f3 := (hsame 3 (slot_free (by decide +kernel))).trans f3
          replace f5 := (hsame 5 (slot_free (by decide +kernel))).trans f5
          replace f6 := (hsame 6 (slot_free (by decide +kernel))).trans f6
          replace f7 := (hsame 7 (slot_free (by decide +kernel))).trans f7
          have f8 : a41.tmps[8]?.getD undef = u2 := hV 9 8 (by decide) rfl
          have hsz41h := Lib.hid hsz41
          have hde41h := Lib.hid (hde41.trans hde40h.out)
          clear hsame hV hsz41 hde41 hsz40h hde40h HXr Hrun Hfr
          refine then_go ?_
          repeat with_reducible refine wp_seq ?_
          have hba : Below W2.heap.size W2 (W2.alloc (.cells #[] 29)) := (Below.refl _ _).alloc (Nat.le_refl _) _
          have Hru2 := Lib.hid (show Rd (W2.alloc (.cells #[] 29)) (fun g7 => (Value.slice A2 nc c2).ownBlock = some g7) (if c2 = 0 then A2 else A2.map (·.add (0 * 15))) (entsC C1) from fun hn => by obtain ⟨ad, e, ho, hc⟩ := Hru.out hn; exact ⟨ad, e, ho, fun j u hu => ((HbC.out.trans (hba.mono HbC.out.size)).cell (World.block_lt_of_cell? wu _ (hc j u hu))).trans (hc j u hu)⟩)
          have Hba := Lib.hid hba
          clear hba
          refine wp_region_lit ?_
          refine wpList_next rfl hsz41h hde41h 59 rfl (by decide) fun K hK => ?_
          go_simp
          refine hK _ _ fun a42 hsz42 hde42 f59 hk => ?_
          clear hK K
          replace f0 := (hk 0 (by decide)).trans f0
          replace f3 := (hk 3 (by decide)).trans f3
          replace f5 := (hk 5 (by decide)).trans f5
          replace f6 := (hk 6 (by decide)).trans f6
          replace f7 := (hk 7 (by decide)).trans f7
          replace f8 := (hk 8 (by decide)).trans f8
          replace f59 : a42.tmps[59]?.getD undef = .slice (some ⟨W2.heap.size, 0, none⟩) 0 0 := f59
          clear hk hsz41h hde41h
          refine wpList_next rfl hsz42 hde42 60 rfl (by decide) fun K hK => ?_
          go_simp
          refine hK _ _ fun a43 hsz43 hde43 f60 hk => ?_
          clear hK K
          replace f0 := (hk 0 (by decide)).trans f0
          replace f3 := (hk 3 (by decide)).trans f3
          replace f5 := (hk 5 (by decide)).trans f5
          replace f6 := (hk 6 (by decide)).trans f6
          replace f7 := (hk 7 (by decide)).trans f7
          replace f8 := (hk 8 (by decide)).trans f8
          replace f59 := (hk 59 (by decide)).trans f59
          replace f60 : a43.tmps[60]?.getD undef = .slice A2 nc c2 := f60
          clear hk hsz42 hde42
          refine wpList_next rfl hsz43 hde43 61 rfl (by decide) fun K hK => ?_
          go_simp
          refine hK _ _ fun a44 hsz44 hde44 f61 hk => ?_
          clear hK K
          replace f0 := (hk 0 (by decide)).trans f0
          replace f3 := (hk 3 (by decide)).trans f3
          replace f5 := (hk 5 (by decide)).trans f5
          replace f6 := (hk 6 (by decide)).trans f6
          replace f7 := (hk 7 (by decide)).trans f7
          replace f8 := (hk 8 (by decide)).trans f8
          replace f59 := (hk 59 (by decide)).trans f59
          replace f60 := (hk 60 (by decide)).trans f60
          replace f61 : a44.tmps[61]?.getD undef = .int .i64 ((k : Nat) : Int) := f61
          clear hk hsz43 hde43
          refine wpList_next rfl hsz44 hde44 62 rfl (by decide) fun K hK => ?_
          refine wp_upto (.tmp 60) (.tmp 61) rfl (eval_at f60) (eval_at f61) (upto_run Hkc2.out) ?_
          refine hK _ _ fun a45 hsz45 hde45 f62 hk => ?_
          clear hK K
          replace f0 := (hk 0 (by decide)).trans f0
          replace f3 := (hk 3 (by decide)).trans f3
          replace f5 := (hk 5 (by decide)).trans f5
          replace f6 := (hk 6 (by decide)).trans f6
          replace f7 := (hk 7 (by decide)).trans f7
          replace f8 := (hk 8 (by decide)).trans f8
          replace f59 := (hk 59 (by decide)).trans f59
          replace f62 : a45.tmps[62]?.getD undef = .slice (if c2 = 0 then A2 else A2.map (·.add (0 * 15))) k c2 := f62
          clear hk hsz44 hde44 f60 f61
          refine wpList_next rfl hsz45 hde45 63 rfl (by decide) fun K hK => ?_
          refine wp_appK elemE (.tmp 59) (.tmp 62) rfl W2.heap.size 0 _ [] (eval_at f59) (OwnK.empty W2 _ _) (fun g7 => (Value.slice A2 nc c2).ownBlock = some g7) _ k c2 (entsC C1) (by rw [entsC_length, Hk.out]) (eval_at f62) Hru2.out (entsC_each C1) (by omega) (by omega) Hba.out.size ?_
          intro u3 w3 hown3 hg3 _
          have Hb3 := Lib.hid (Hba.out.trans ((OwnK.empty W2 29 15).below_of hg3 Hba.out.size (Nat.le_refl _)))
          simp only [Nat.zero_add, List.nil_append] at hown3
          have Hown3 := Lib.hid (show OwnE w3 W2.heap.size u3 C1 from ⟨by rw [← Hk.out]; exact hown3, fun y hy => Hok2.out y (by simp [hy])⟩)
          have Hc3 := Lib.hid (HownC.out.grow Hb3.out)
          clear hown3 hg3
          refine hK _ _ fun a46 hsz46 hde46 f63 hk => ?_
          clear hK K
          replace f0 := (hk 0 (by decide)).trans f0
          replace f3 := (hk 3 (by decide)).trans f3
          replace f5 := (hk 5 (by decide)).trans f5
          replace f6 := (hk 6 (by decide)).trans f6
          replace f7 := (hk 7 (by decide)).trans f7
          replace f8 := (hk 8 (by decide)).trans f8
          replace f63 : a46.tmps[63]?.getD undef = u3 := f63
          clear hk hsz45 hde45 f59 f62
          refine wpList_next rfl hsz46 hde46 64 rfl (by decide) fun K hK => ?_
          go_simp
          refine hK _ _ fun a47 hsz47 hde47 f64 hk => ?_
          clear hK K
          replace f0 := (hk 0 (by decide)).trans f0
          replace f3 := (hk 3 (by decide)).trans f3
          replace f5 := (hk 5 (by decide)).trans f5
          replace f6 := (hk 6 (by decide)).trans f6
          replace f7 := (hk 7 (by decide)).trans f7
          replace f8 := (hk 8 (by decide)).trans f8
          replace f63 := (hk 63 (by decide)).trans f63
          replace f64 : a47.tmps[64]?.getD undef = u2 := f64
          clear hk hsz46 hde46
          refine wpList_next rfl hsz47 hde47 65 rfl (by decide) fun K hK => ?_
          obtain ⟨A5, c5, hu2, _, _, hrd5⟩ := OwnK.form Hc3.out.1
          refine wp_appK elemE (.tmp 63) (.tmp 64) rfl W2.heap.size C1.length u3 (entsC C1) (eval_at f63) Hown3.out.1 (fun g => u2.ownBlock = some g) A5 (X :: C2).length c5 (entsC (X :: C2)) (entsC_length _) (by rw [eval_at f64]; exact hu2) hrd5 (entsC_each _) (by rw [List.length_cons]; have := Hkn.out; have := Hk.out; omega) (by rw [List.length_cons]; have := Hkn.out; have := Hk.out; omega) Hb3.out.size ?_
          intro u4 w4 hown4 hg4 _
          have Hb4 := Lib.hid (Hb3.out.trans (Hown3.out.1.below_of hg4 Hb3.out.size (Nat.le_refl _)))
          have Hown4 := Lib.hid (OwnE.apps hown4 Hown3.out.2 HownC.out.2)
          clear hown4 hg4 hrd5 hu2
          refine hK _ _ fun a48 hsz48 hde48 f65 hk => ?_
          clear hK K
          replace f0 := (hk 0 (by decide)).trans f0
          replace f3 := (hk 3 (by decide)).trans f3
          replace f5 := (hk 5 (by decide)).trans f5
          replace f6 := (hk 6 (by decide)).trans f6
          replace f7 := (hk 7 (by decide)).trans f7
          replace f8 := (hk 8 (by decide)).trans f8
          replace f65 : a48.tmps[65]?.getD undef = u4 := f65
          clear hk hsz47 hde47 f63 f64
          refine wpList_next rfl hsz48 hde48 5 rfl (by decide) fun K hK => ?_
          go_simp
          refine hK _ _ fun a49 hsz49 hde49 f5 hk => ?_
          clear hK K
          replace f0 := (hk 0 (by decide)).trans f0
          replace f3 := (hk 3 (by decide)).trans f3
          replace f6 := (hk 6 (by decide)).trans f6
          replace f7 := (hk 7 (by decide)).trans f7
          replace f8 := (hk 8 (by decide)).trans f8
          replace f5 : a49.tmps[5]?.getD undef = u4 := f5
          clear hk hsz48 hde48 f65
          refine wpList_nil ?_
          repeat first | with_reducible refine block_go ?_ | with_reducible refine then_go ?_
          clear f7 f8
          repeat with_reducible refine wp_seq ?_
          have HbF := Lib.hid ((HbwU.out.trans (HbC.out.mono HbwU.out.size)).trans (Hb4.out.mono (Nat.le_trans HbwU.out.size HbC.out.size)))
          have HownF := Lib.hid (Hown4.out.mono (Nat.le_trans HbwU.out.size HbC.out.size))
          have hins := ins_next Hpre.out (by rw [HCC.out]; exact HC.out.2) (by rw [HCC.out]; exact HC.out.1) (fun C4 y e => by rw [e1] at e; simp at e) H2.out
          have hnx := Hnx.out
          rw [Bool.true_and, if_pos rfl] at hnx
          refine wp_region_lit ?_
          refine wpList_next rfl hsz49 hde49 13 rfl (by decide) fun K hK => ?_
          go_simp
          refine hK _ _ fun a50 hsz50 hde50 f13 hk => ?_
          clear hK K
          replace f0 := (hk 0 (by decide)).trans f0
          replace f3 := (hk 3 (by decide)).trans f3
          replace f6 := (hk 6 (by decide)).trans f6
          replace f5 := (hk 5 (by decide)).trans f5
          replace f13 : a50.tmps[13]?.getD undef = .int .i64 ((i : Nat) : Int) := f13
          clear hk hsz49 hde49
          refine wpList_next rfl hsz50 hde50 14 rfl (by decide) fun K hK => ?_
          go_simp
          refine hK _ _ fun a51 hsz51 hde51 f14 hk => ?_
          clear hK K
          replace f0 := (hk 0 (by decide)).trans f0
          replace f3 := (hk 3 (by decide)).trans f3
          replace f6 := (hk 6 (by decide)).trans f6
          replace f5 := (hk 5 (by decide)).trans f5
          clear hk hsz50 hde50 f13
          replace f14 : a51.tmps[14]?.getD undef = .int .i64 (((i + 1 : Nat) : Int)) := f14.trans (by first | rfl | (congr 1; done) | (congr 1; omega) | (congr 1; rw [IntKind.wrap_i64] <;> omega))
          refine wpList_next rfl hsz51 hde51 6 rfl (by decide) fun K hK => ?_
          go_simp
          refine hK _ _ fun a52 hsz52 hde52 f6 hk => ?_
          clear hK K
          replace f0 := (hk 0 (by decide)).trans f0
          replace f3 := (hk 3 (by decide)).trans f3
          replace f5 := (hk 5 (by decide)).trans f5
          replace f6 : a52.tmps[6]?.getD undef = .int .i64 ((i + 1 : Nat) : Int) := f6
          clear hk hsz51 hde51 f14
          refine wpList_nil ?_
          refine then_go ?_
          exact ⟨n - (i + 1), by rw [Hn2.out]; omega, i + 1, _, C1 ++ X :: C2, hsz52, hde52, f0, f3, f5, f6, Lib.hid (by omega), HownF, Lib.hid (by rw [hnx]; exact hins), HbF, rfl⟩
        have e2 : C1 = C3 ++ [Y] := by rw [e1]; simp
        clear e1
        obtain ⟨k1, hk1⟩ : ∃ k1, k1 = C3.length := ⟨_, rfl⟩
        have Hk1 := Lib.hid (show k = k1 + 1 by rw [Hk.out, e2, hk1]; simp)
        have He2 := Lib.hid e2
        have hCk : C[k1]? = some Y := by rw [← HCC.out, e2, hk1, List.append_assoc, List.getElem?_append_right (Nat.le_refl _), Nat.sub_self]; rfl
        have h0C : 0 < C.length := by have := (List.getElem?_eq_some_iff.1 hCk).1; omega
        have hA2 : ∃ g, A2 = some ⟨g, 0, none⟩ := by
          obtain ⟨g, _, e9, _⟩ := Hown.out.elem h0C
          injection e9 with e9
          exact ⟨g, e9⟩
        obtain ⟨g, rfl⟩ := hA2
        have HcY := Lib.hid (show ∀ z, Below wx.heap.size wx z → z.cell? ⟨g, k1 * 15 + 4, none⟩ = some (str Y.data) from fun z hz => (entCells (range_ext (Hown.out.look hCk).1 hz)).data)
        obtain ⟨bl, hbl⟩ : ∃ bl, bl = nlt X Y := ⟨_, rfl⟩
        have Hbl := Lib.hid hbl
        have Hbb := Lib.hid (show Op.bytesLess X.data Y.data = bl by rw [hbl, less_cmp]; rfl)
        have hk1n : k1 < nc := by rw [Hnc.out]; exact (List.getElem?_eq_some_iff.1 hCk).1
        have hk10 : (0 : Int) ≤ (k1 : Int) := by omega
        have hk1i : (k1 : Int) < (nc : Int) := by omega
        have hkp : 0 < k := by have := Hk1.out; omega
        have Hkp := Lib.hid hkp
        clear e2 hk1 hCk h0C hbl hkp
        refine wp_region_goodg (tblG [(32, .int .i64 ((k : Nat) : Int)), (33, .bool true), (34, .bool true), (35, .slice (some ⟨b, off, none⟩) n cc), (36, .int .i64 ((i : Nat) : Int)), (37, .pointer (some ⟨b, off + i * 15, none⟩)), (38, .pointer (some ⟨b, off + i * 15 + 4, none⟩)), (39, str X.data), (40, .slice (some ⟨g, 0, none⟩) nc c2), (41, .int .i64 ((k : Nat) : Int)), (42, .int .i64 ((k1 : Nat) : Int)), (43, .pointer (some ⟨g, k1 * 15, none⟩)), (44, .pointer (some ⟨g, k1 * 15 + 4, none⟩)), (45, str Y.data), (46, .bool bl), (47, .bool bl)]) 67 (by kernel_rfl) (by kernel_rfl) (by kernel_rfl) (by kernel_rfl) hsz39.out ?_ ?_ ?_
        · intro t v7 x x' h _ _
          exact h
        · intro i7 o hi7 a x hbx hsame hpre K hK
          have hlt7 : i7 < 16 := (Array.getElem?_eq_some_iff.1 hi7).1
          rcases (show i7 = 0 ∨ i7 = 1 ∨ i7 = 2 ∨ i7 = 3 ∨ i7 = 4 ∨ i7 = 5 ∨ i7 = 6 ∨ i7 = 7 ∨ i7 = 8 ∨ i7 = 9 ∨ i7 = 10 ∨ i7 = 11 ∨ i7 = 12 ∨ i7 = 13 ∨ i7 = 14 ∨ i7 = 15 by omega) with rfl | rfl | rfl | rfl | rfl | rfl | rfl | rfl | rfl | rfl | rfl | rfl | rfl | rfl | rfl | rfl
          all_goals (have ho := Option.some.inj hi7; subst ho; clear hi7 hlt7)
          · have q7 : a.tmps[7]?.getD undef = .int .i64 ((k : Nat) : Int) := (hsame 7 (by decide +kernel)).trans f7
            refine step_plain rfl ?_
            have hk := Lib.hid (show ∀ v7 x', v7 = .int .i64 ((k : Nat) : Int) → Below x.heap.size x x' → K (a.put (some 32) v7) x' from hK)
            have Hbx := Lib.hid hbx
            clear hsame hpre hK hbx
            go_simp
            exact hk.out _ _ rfl (Below.refl _ _)
          · have q32 : a.tmps[32]?.getD undef = .int .i64 ((k : Nat) : Int) := hpre ⟨0, .data⟩ (by simp) rfl (by decide)
            refine step_plain rfl ?_
            have hk := Lib.hid (show ∀ v7 x', v7 = .bool true → Below x.heap.size x x' → K (a.put (some 33) v7) x' from hK)
            have Hbx := Lib.hid hbx
            clear hsame hpre hK hbx
            go_simp
            exact hk.out _ _ (by have h7 := Hkp.out; first | rfl | (congr 1; first | exact decide_eq_true (by omega)) | (simp; omega)) (Below.refl _ _)
          · have q33 : a.tmps[33]?.getD undef = .bool true := hpre ⟨1, .data⟩ (by simp) rfl (by decide)
            refine step_plain rfl ?_
            have hk := Lib.hid (show ∀ v7 x', v7 = .bool true → Below x.heap.size x x' → K (a.put (some 34) v7) x' from hK)
            have Hbx := Lib.hid hbx
            clear hsame hpre hK hbx
            go_simp
            exact hk.out _ _ rfl (Below.refl _ _)
          · have q0 : a.tmps[0]?.getD undef = .slice (some ⟨b, off, none⟩) n cc := (hsame 0 (by decide +kernel)).trans f0
            have w34 : a.tmps[34]?.getD undef = .bool true := hpre ⟨2, .guard⟩ (by simp) rfl (by decide)
            refine step_wanted (wanted_of (j := 2) (t := 34) (b := true) rfl rfl w34) ?_
            have hk := Lib.hid (show ∀ v7 x', v7 = .slice (some ⟨b, off, none⟩) n cc → Below x.heap.size x x' → K (a.put (some 35) v7) x' from hK)
            have Hbx := Lib.hid hbx
            clear hsame hpre hK hbx w34
            go_simp
            exact hk.out _ _ rfl (Below.refl _ _)
          · have q6 : a.tmps[6]?.getD undef = .int .i64 ((i : Nat) : Int) := (hsame 6 (by decide +kernel)).trans f6
            have w34 : a.tmps[34]?.getD undef = .bool true := hpre ⟨2, .guard⟩ (by simp) rfl (by decide)
            refine step_wanted (wanted_of (j := 2) (t := 34) (b := true) rfl rfl w34) ?_
            have hk := Lib.hid (show ∀ v7 x', v7 = .int .i64 ((i : Nat) : Int) → Below x.heap.size x x' → K (a.put (some 36) v7) x' from hK)
            have Hbx := Lib.hid hbx
            clear hsame hpre hK hbx w34
            go_simp
            exact hk.out _ _ rfl (Below.refl _ _)
          · have q35 : a.tmps[35]?.getD undef = .slice (some ⟨b, off, none⟩) n cc := hpre ⟨3, .data⟩ (by simp) rfl (by decide)
            have q36 : a.tmps[36]?.getD undef = .int .i64 ((i : Nat) : Int) := hpre ⟨4, .data⟩ (by simp) rfl (by decide)
            have w34 : a.tmps[34]?.getD undef = .bool true := hpre ⟨2, .guard⟩ (by simp) rfl (by decide)
            refine step_wanted (wanted_of (j := 2) (t := 34) (b := true) rfl rfl w34) ?_
            have hk := Lib.hid (show ∀ v7 x', v7 = .pointer (some ⟨b, off + i * 15, none⟩) → Below x.heap.size x x' → K (a.put (some 37) v7) x' from hK)
            have Hbx := Lib.hid hbx
            clear hsame hpre hK hbx w34
            go_simp
            exact hk.out _ _ rfl (Below.refl _ _)
          · have q37 : a.tmps[37]?.getD undef = .pointer (some ⟨b, off + i * 15, none⟩) := hpre ⟨5, .data⟩ (by simp) rfl (by decide)
            have w34 : a.tmps[34]?.getD undef = .bool true := hpre ⟨2, .guard⟩ (by simp) rfl (by decide)
            refine step_wanted (wanted_of (j := 2) (t := 34) (b := true) rfl rfl w34) ?_
            have hk := Lib.hid (show ∀ v7 x', v7 = .pointer (some ⟨b, off + i * 15 + 4, none⟩) → Below x.heap.size x x' → K (a.put (some 38) v7) x' from hK)
            have Hbx := Lib.hid hbx
            clear hsame hpre hK hbx w34
            go_simp
            exact hk.out _ _ rfl (Below.refl _ _)
          · have q38 : a.tmps[38]?.getD undef = .pointer (some ⟨b, off + i * 15 + 4, none⟩) := hpre ⟨6, .data⟩ (by simp) rfl (by decide)
            have w34 : a.tmps[34]?.getD undef = .bool true := hpre ⟨2, .guard⟩ (by simp) rfl (by decide)
            refine step_wanted (wanted_of (j := 2) (t := 34) (b := true) rfl rfl w34) ?_
            have hk := Lib.hid (show ∀ v7 x', v7 = str X.data → Below x.heap.size x x' → K (a.put (some 39) v7) x' from hK)
            have Hbx := Lib.hid hbx
            clear hsame hpre hK hbx w34
            have hat := HcX.out _ (Hbw.out.trans (Hbx.out.mono Hbw.out.size))
            go_simp
            exact hk.out _ _ rfl (Below.refl _ _)
          · have q5 : a.tmps[5]?.getD undef = .slice (some ⟨g, 0, none⟩) nc c2 := (hsame 5 (by decide +kernel)).trans f5
            have w34 : a.tmps[34]?.getD undef = .bool true := hpre ⟨2, .guard⟩ (by simp) rfl (by decide)
            refine step_wanted (wanted_of (j := 2) (t := 34) (b := true) rfl rfl w34) ?_
            have hk := Lib.hid (show ∀ v7 x', v7 = .slice (some ⟨g, 0, none⟩) nc c2 → Below x.heap.size x x' → K (a.put (some 40) v7) x' from hK)
            have Hbx := Lib.hid hbx
            clear hsame hpre hK hbx w34
            go_simp
            exact hk.out _ _ rfl (Below.refl _ _)
          · have q7 : a.tmps[7]?.getD undef = .int .i64 ((k : Nat) : Int) := (hsame 7 (by decide +kernel)).trans f7
            have w34 : a.tmps[34]?.getD undef = .bool true := hpre ⟨2, .guard⟩ (by simp) rfl (by decide)
            refine step_wanted (wanted_of (j := 2) (t := 34) (b := true) rfl rfl w34) ?_
            have hk := Lib.hid (show ∀ v7 x', v7 = .int .i64 ((k : Nat) : Int) → Below x.heap.size x x' → K (a.put (some 41) v7) x' from hK)
            have Hbx := Lib.hid hbx
            clear hsame hpre hK hbx w34
            go_simp
            exact hk.out _ _ rfl (Below.refl _ _)
          · have q41 : a.tmps[41]?.getD undef = .int .i64 ((k : Nat) : Int) := hpre ⟨9, .data⟩ (by simp) rfl (by decide)
            have w34 : a.tmps[34]?.getD undef = .bool true := hpre ⟨2, .guard⟩ (by simp) rfl (by decide)
            refine step_wanted (wanted_of (j := 2) (t := 34) (b := true) rfl rfl w34) ?_
            have hk := Lib.hid (show ∀ v7 x', v7 = .int .i64 ((k1 : Nat) : Int) → Below x.heap.size x x' → K (a.put (some 42) v7) x' from hK)
            have Hbx := Lib.hid hbx
            clear hsame hpre hK hbx w34
            go_simp
            exact hk.out _ _ (by have h7 := Hk1.out; first | rfl | (congr 1; done) | (congr 1; omega) | (congr 1; rw [IntKind.wrap_i64] <;> omega)) (Below.refl _ _)
          · have q40 : a.tmps[40]?.getD undef = .slice (some ⟨g, 0, none⟩) nc c2 := hpre ⟨8, .data⟩ (by simp) rfl (by decide)
            have q42 : a.tmps[42]?.getD undef = .int .i64 ((k1 : Nat) : Int) := hpre ⟨10, .data⟩ (by simp) rfl (by decide)
            have w34 : a.tmps[34]?.getD undef = .bool true := hpre ⟨2, .guard⟩ (by simp) rfl (by decide)
            refine step_wanted (wanted_of (j := 2) (t := 34) (b := true) rfl rfl w34) ?_
            have hk := Lib.hid (show ∀ v7 x', v7 = .pointer (some ⟨g, k1 * 15, none⟩) → Below x.heap.size x x' → K (a.put (some 43) v7) x' from hK)
            have Hbx := Lib.hid hbx
            clear hsame hpre hK hbx w34
            go_simp
            exact hk.out _ _ rfl (Below.refl _ _)
          · have q43 : a.tmps[43]?.getD undef = .pointer (some ⟨g, k1 * 15, none⟩) := hpre ⟨11, .data⟩ (by simp) rfl (by decide)
            have w34 : a.tmps[34]?.getD undef = .bool true := hpre ⟨2, .guard⟩ (by simp) rfl (by decide)
            refine step_wanted (wanted_of (j := 2) (t := 34) (b := true) rfl rfl w34) ?_
            have hk := Lib.hid (show ∀ v7 x', v7 = .pointer (some ⟨g, k1 * 15 + 4, none⟩) → Below x.heap.size x x' → K (a.put (some 44) v7) x' from hK)
            have Hbx := Lib.hid hbx
            clear hsame hpre hK hbx w34
            go_simp
            exact hk.out _ _ rfl (Below.refl _ _)
          · have q44 : a.tmps[44]?.getD undef = .pointer (some ⟨g, k1 * 15 + 4, none⟩) := hpre ⟨12, .data⟩ (by simp) rfl (by decide)
            have w34 : a.tmps[34]?.getD undef = .bool true := hpre ⟨2, .guard⟩ (by simp) rfl (by decide)
            refine step_wanted (wanted_of (j := 2) (t := 34) (b := true) rfl rfl w34) ?_
            have hk := Lib.hid (show ∀ v7 x', v7 = str Y.data → Below x.heap.size x x' → K (a.put (some 45) v7) x' from hK)
            have Hbx := Lib.hid hbx
            clear hsame hpre hK hbx w34
            have hat := HcY.out _ Hbx.out
            go_simp
            exact hk.out _ _ rfl (Below.refl _ _)
          · have q39 : a.tmps[39]?.getD undef = str X.data := hpre ⟨7, .data⟩ (by simp) rfl (by decide)
            have q45 : a.tmps[45]?.getD undef = str Y.data := hpre ⟨13, .data⟩ (by simp) rfl (by decide)
            have w34 : a.tmps[34]?.getD undef = .bool true := hpre ⟨2, .guard⟩ (by simp) rfl (by decide)
            refine step_wanted (wanted_of (j := 2) (t := 34) (b := true) rfl rfl w34) ?_
            have hk := Lib.hid (show ∀ v7 x', v7 = .bool bl → Below x.heap.size x x' → K (a.put (some 46) v7) x' from hK)
            have Hbx := Lib.hid hbx
            clear hsame hpre hK hbx w34
            go_simp
            exact hk.out _ _ (by have h7 := Hbb.out; first | (congr 1; done) | (congr 1; exact h7) | (rw [← h7]; rfl) | (rw [← h7]; simp)) (Below.refl _ _)
          · have q34 : a.tmps[34]?.getD undef = .bool true := hpre ⟨2, .data⟩ (by simp) rfl (by decide)
            have q46 : a.tmps[46]?.getD undef = .bool bl := hpre ⟨14, .data⟩ (by simp) rfl (by decide)
            refine step_plain rfl ?_
            have hk := Lib.hid (show ∀ v7 x', v7 = .bool bl → Below x.heap.size x x' → K (a.put (some 47) v7) x' from hK)
            have Hbx := Lib.hid hbx
            clear hsame hpre hK hbx
            go_simp
            exact hk.out _ _ rfl (Below.refl _ _)
        intro a40 x40 hbx hsame hG hsz40 hde40
        replace f0 := (hsame 0 (by decide +kernel)).trans f0
        replace f3 := (hsame 3 (by decide +kernel)).trans f3
        replace f5 := (hsame 5 (by decide +kernel)).trans f5
        replace f6 := (hsame 6 (by decide +kernel)).trans f6
        replace f7 := (hsame 7 (by decide +kernel)).trans f7
        have f47 : a40.tmps[47]?.getD undef = .bool bl := hG 15 (by decide)
        have Hbx40 := Lib.hid hbx
        have hsz40h := Lib.hid hsz40
        have hde40h := Lib.hid (hde40.trans hde39.out)
        clear hsame hG hbx hsz40 hde40 hsz39 hde39
        cases bl with
        | false =>
          refine then_go ?_
          repeat with_reducible refine wp_seq ?_
          refine wp_cond_false (eval_at f47) ?_
          refine wp_exit ?_
          repeat with_reducible refine then_exit ?_
          refine block_exit ?_
          repeat first | with_reducible refine block_go ?_ | with_reducible refine then_go ?_
          clear f47
          repeat with_reducible refine wp_seq ?_
          obtain ⟨wu, hwu⟩ : ∃ wu, wu = x40 := ⟨_, rfl⟩
          have HownU := Lib.hid (Hown.out.grow Hbx40.out)
          have HbwU := Lib.hid (Hbw.out.trans (Hbx40.out.mono Hbw.out.size))
          rw [← hwu] at HownU HbwU ⊢
          clear hwu Hbx40 Hown Hbw
          have Hrd := Lib.hid (IsL.rdE HownU.out.isL)
          have hrd2 : Rd wu (fun g7 => (Value.slice (some ⟨g, 0, none⟩) nc c2).ownBlock = some g7) (some ⟨g, 0, none⟩) (entsC (C1 ++ C2)) := by rw [HCC.out]; exact Hrd.out.1
          have hok2 : ∀ y ∈ C1 ++ C2, EntOk y := by rw [HCC.out]; exact HownU.out.2
          have hkc : k ≤ nc := by have := Hkn.out; omega
          have hm2 : nc - k = C2.length := by have := Hkn.out; omega
          have hrf : Rd wu (fun g7 => (Value.slice (some ⟨g, 0, none⟩) nc c2).ownBlock = some g7) (if c2 = k then some ⟨g, 0, none⟩ else (some (⟨g, 0, none⟩ : Addr)).map (·.add (k * 15))) (entsC C2) := by have h7 := rd_from hrd2 (c := c2) (by rw [← Hk.out]; have := Hkn.out; have := Hc2.out; omega); rw [← Hk.out] at h7; exact h7
          have Hru := Lib.hid (rd_upto (c := c2) hrd2)
          obtain ⟨A3, hA3⟩ : ∃ A3, A3 = (if c2 = k then some ⟨g, 0, none⟩ else (some (⟨g, 0, none⟩ : Addr)).map (·.add (k * 15))) := ⟨_, rfl⟩
          rw [← hA3] at hrf
          obtain ⟨u2, W2, hrun, hownc, hbc⟩ := cons_run wu X HXok.out C2 (fun y hy => hok2 y (by simp [hy])) (by omega) (c := c2 - k) hm2 hrf CX HCX.out
          obtain ⟨m2, hm2e⟩ : ∃ m2, m2 = nc - k := ⟨_, rfl⟩
          rw [← hm2e] at hrun
          have Hfr := Lib.hid (fun W : World => (from_run (A := some ⟨g, 0, none⟩) (c := c2) hkc W : _ = _))
          rw [← hA3, ← hm2e] at Hfr
          have Hrun := Lib.hid hrun
          have HownC := Lib.hid hownc
          have HbC := Lib.hid hbc
          have Hok2 := Lib.hid hok2
          have Hkc2 := Lib.hid (show k ≤ c2 by have := Hc2.out; omega)
          clear hrd2 hok2 hkc hm2 hrf hA3 hrun hownc hbc hm2e
          have hXr := HrX.out _ (HbwU.out.drew)
          have HXr := Lib.hid hXr
          have hCXs : CX.size = 15 := by rw [HCX.out]; rfl
          clear hXr
          refine wp_region_sw (fun s => match s with | 50 => .slice (some ⟨b, off, none⟩) n cc | 51 => .int .i64 ((i : Nat) : Int) | 52 => .pointer (some ⟨b, off + i * 15, none⟩) | 53 => .agg CX | 54 => .slice (some ⟨wu.heap.size, 0, none⟩) 1 1 | 55 => .slice (some ⟨g, 0, none⟩) nc c2 | 56 => .int .i64 ((k : Nat) : Int) | 57 => .slice A3 m2 (c2 - k) | 58 => u2 | 8 => u2 | _ => undef) (wu.drew.alloc (.cells CX 29)) W2 4 8 3 3 67 (by kernel_rfl) (by kernel_rfl) (by kernel_rfl) hsz40h.out (by decide +kernel) (by decide +kernel) ?_ ?_
          · intro i0 o0 hi0 a x0 hl1 hl2 hw1 hw2 hsame hV K hK
            have hlt0 : i0 < 10 := (Array.getElem?_eq_some_iff.1 hi0).1
            rcases (show i0 = 0 ∨ i0 = 1 ∨ i0 = 2 ∨ i0 = 3 ∨ i0 = 4 ∨ i0 = 5 ∨ i0 = 6 ∨ i0 = 7 ∨ i0 = 8 ∨ i0 = 9 by omega) with rfl | rfl | rfl | rfl | rfl | rfl | rfl | rfl | rfl | rfl
            all_goals (have ho0 := Option.some.inj hi0; subst ho0; clear hi0 hlt0)
            · have q0 : a.tmps[0]?.getD undef = .slice (some ⟨b, off, none⟩) n cc := (hsame 0 (slot_free (by decide +kernel))).trans f0
              have hk := Lib.hid (fun v (h : v = .slice (some ⟨b, off, none⟩) n cc) => hK v x0 (fun s hs => by cases hs; exact h) (fun _ _ => rfl) (fun h => absurd h (by decide)) (fun h => absurd h (by decide)))
              clear hsame hV hK hl1 hl2 hw1 hw2
              go_simp
              exact hk.out _ rfl
            · have q6 : a.tmps[6]?.getD undef = .int .i64 ((i : Nat) : Int) := (hsame 6 (slot_free (by decide +kernel))).trans f6
              have hk := Lib.hid (fun v (h : v = .int .i64 ((i : Nat) : Int)) => hK v x0 (fun s hs => by cases hs; exact h) (fun _ _ => rfl) (fun h => absurd h (by decide)) (fun h => absurd h (by decide)))
              clear hsame hV hK hl1 hl2 hw1 hw2
              go_simp
              exact hk.out _ rfl
            · have q50 : a.tmps[50]?.getD undef = .slice (some ⟨b, off, none⟩) n cc := hV ⟨0, .data⟩ (by simp) rfl 50 rfl
              have q51 : a.tmps[51]?.getD undef = .int .i64 ((i : Nat) : Int) := hV ⟨1, .data⟩ (by simp) rfl 51 rfl
              have hk := Lib.hid (fun v (h : v = .pointer (some ⟨b, off + i * 15, none⟩)) => hK v x0 (fun s hs => by cases hs; exact h) (fun _ _ => rfl) (fun h => absurd h (by decide)) (fun h => absurd h (by decide)))
              clear hsame hV hK hl1 hl2 hw1 hw2
              go_simp
              exact hk.out _ rfl
            · have q52 : a.tmps[52]?.getD undef = .pointer (some ⟨b, off + i * 15, none⟩) := hV ⟨2, .data⟩ (by simp) rfl 52 rfl
              have e0 := hl1 rfl
              refine wp_load_mid 29 (.tmp 52) rfl b (off + i * 15) (eval_at q52) CX.toList _ (by rw [e0]; exact HXr.out) Tryd.underlying29 rfl HfX.out ?_
              exact hK _ x0 (fun s hs => by cases hs; rfl) (fun _ _ => rfl) (fun h => absurd h (by decide)) (fun h => absurd h (by decide))
            · have q53 : a.tmps[53]?.getD undef = .agg CX := hV ⟨3, .data⟩ (by simp) rfl 53 rfl
              have e0 := hw1 rfl
              subst e0
              have hk := Lib.hid (fun v x9 (h : v = .slice (some ⟨wu.heap.size, 0, none⟩) 1 1) (h2 : x9 = wu.drew.alloc (.cells CX 29)) => hK v x9 (fun s hs => by cases hs; exact h) (fun h => absurd rfl h) (fun _ => h2) (fun h => absurd h (by decide)))
              clear hsame hV hK hl1 hl2 hw1 hw2
              go_simp
              rw [HfC.out]
              exact hk.out _ _ rfl rfl
            · have q5 : a.tmps[5]?.getD undef = .slice (some ⟨g, 0, none⟩) nc c2 := (hsame 5 (slot_free (by decide +kernel))).trans f5
              have hk := Lib.hid (fun v (h : v = .slice (some ⟨g, 0, none⟩) nc c2) => hK v x0 (fun s hs => by cases hs; exact h) (fun _ _ => rfl) (fun h => absurd h (by decide)) (fun h => absurd h (by decide)))
              clear hsame hV hK hl1 hl2 hw1 hw2
              go_simp
              exact hk.out _ rfl
            · have q7 : a.tmps[7]?.getD undef = .int .i64 ((k : Nat) : Int) := (hsame 7 (slot_free (by decide +kernel))).trans f7
              have hk := Lib.hid (fun v (h : v = .int .i64 ((k : Nat) : Int)) => hK v x0 (fun s hs => by cases hs; exact h) (fun _ _ => rfl) (fun h => absurd h (by decide)) (fun h => absurd h (by decide)))
              clear hsame hV hK hl1 hl2 hw1 hw2
              go_simp
              exact hk.out _ rfl
            · have q55 : a.tmps[55]?.getD undef = .slice (some ⟨g, 0, none⟩) nc c2 := hV ⟨5, .data⟩ (by simp) rfl 55 rfl
              have q56 : a.tmps[56]?.getD undef = .int .i64 ((k : Nat) : Int) := hV ⟨6, .data⟩ (by simp) rfl 56 rfl
              have hk := Lib.hid (fun v (h : v = .slice A3 m2 (c2 - k)) => hK v x0 (fun s hs => by cases hs; exact h) (fun _ _ => rfl) (fun h => absurd h (by decide)) (fun h => absurd h (by decide)))
              clear hsame hV hK hl1 hl2 hw1 hw2
              refine wp_from (.tmp 55) (.tmp 56) rfl (eval_at q55) (eval_at q56) Hfr.out ?_
              exact hk.out _ rfl
            · have q54 : a.tmps[54]?.getD undef = .slice (some ⟨wu.heap.size, 0, none⟩) 1 1 := hV ⟨4, .data⟩ (by simp) rfl 54 rfl
              have q57 : a.tmps[57]?.getD undef = .slice A3 m2 (c2 - k) := hV ⟨7, .data⟩ (by simp) rfl 57 rfl
              have e0 := hw2 rfl
              refine wp_append (.tmp 54) (.tmp 57) 22 rfl (by rw [eval_at q54, eval_at q57, e0]; exact Hrun.out) ?_
              exact hK _ _ (fun s hs => by cases hs; rfl) (fun _ h => absurd rfl h) (fun h => absurd h (by decide)) (fun _ => rfl)
            · have q58 : a.tmps[58]?.getD undef = u2 := hV ⟨8, .data⟩ (by simp) rfl 58 rfl
              have hk := Lib.hid (fun v (h : v = u2) => hK v x0 (fun s hs => by cases hs; exact h) (fun _ _ => rfl) (fun h => absurd h (by decide)) (fun h => absurd h (by decide)))
              clear hsame hV hK hl1 hl2 hw1 hw2
              go_simp
              exact hk.out _ rfl
          intro a41 hsame hV hsz41 hde41
          replace f0 := (hsame 0 (slot_free (by decide +kernel))).trans f0
          replace f3 := (hsame 3 (slot_free (by decide +kernel))).trans f3
          replace f5 := (hsame 5 (slot_free (by decide +kernel))).trans f5
          replace f6 := (hsame 6 (slot_free (by decide +kernel))).trans f6
          replace f7 := (hsame 7 (slot_free (by decide +kernel))).trans f7
          have f8 : a41.tmps[8]?.getD undef = u2 := hV 9 8 (by decide) rfl
          have hsz41h := Lib.hid hsz41
          have hde41h := Lib.hid (hde41.trans hde40h.out)
          clear hsame hV hsz41 hde41 hsz40h hde40h HXr Hrun Hfr
          refine then_go ?_
          repeat with_reducible refine wp_seq ?_
          have hba : Below W2.heap.size W2 (W2.alloc (.cells #[] 29)) := (Below.refl _ _).alloc (Nat.le_refl _) _
          have Hru2 := Lib.hid (show Rd (W2.alloc (.cells #[] 29)) (fun g7 => (Value.slice (some ⟨g, 0, none⟩) nc c2).ownBlock = some g7) (if c2 = 0 then some ⟨g, 0, none⟩ else (some (⟨g, 0, none⟩ : Addr)).map (·.add (0 * 15))) (entsC C1) from fun hn => by obtain ⟨ad, e, ho, hc⟩ := Hru.out hn; exact ⟨ad, e, ho, fun j u hu => ((HbC.out.trans (hba.mono HbC.out.size)).cell (World.block_lt_of_cell? wu _ (hc j u hu))).trans (hc j u hu)⟩)
          have Hba := Lib.hid hba
          clear hba
          refine wp_region_lit ?_
          refine wpList_next rfl hsz41h hde41h 59 rfl (by decide) fun K hK => ?_
          go_simp
          refine hK _ _ fun a42 hsz42 hde42 f59 hk => ?_
          clear hK K
          replace f0 := (hk 0 (by decide)).trans f0
          replace f3 := (hk 3 (by decide)).trans f3
          replace f5 := (hk 5 (by decide)).trans f5
          replace f6 := (hk 6 (by decide)).trans f6
          replace f7 := (hk 7 (by decide)).trans f7
          replace f8 := (hk 8 (by decide)).trans f8
          replace f59 : a42.tmps[59]?.getD undef = .slice (some ⟨W2.heap.size, 0, none⟩) 0 0 := f59
          clear hk hsz41h hde41h
          refine wpList_next rfl hsz42 hde42 60 rfl (by decide) fun K hK => ?_
          go_simp
          refine hK _ _ fun a43 hsz43 hde43 f60 hk => ?_
          clear hK K
          replace f0 := (hk 0 (by decide)).trans f0
          replace f3 := (hk 3 (by decide)).trans f3
          replace f5 := (hk 5 (by decide)).trans f5
          replace f6 := (hk 6 (by decide)).trans f6
          replace f7 := (hk 7 (by decide)).trans f7
          replace f8 := (hk 8 (by decide)).trans f8
          replace f59 := (hk 59 (by decide)).trans f59
          replace f60 : a43.tmps[60]?.getD undef = .slice (some ⟨g, 0, none⟩) nc c2 := f60
          clear hk hsz42 hde42
          refine wpList_next rfl hsz43 hde43 61 rfl (by decide) fun K hK => ?_
          go_simp
          refine hK _ _ fun a44 hsz44 hde44 f61 hk => ?_
          clear hK K
          replace f0 := (hk 0 (by decide)).trans f0
          replace f3 := (hk 3 (by decide)).trans f3
          replace f5 := (hk 5 (by decide)).trans f5
          replace f6 := (hk 6 (by decide)).trans f6
          replace f7 := (hk 7 (by decide)).trans f7
          replace f8 := (hk 8 (by decide)).trans f8
          replace f59 := (hk 59 (by decide)).trans f59
          replace f60 := (hk 60 (by decide)).trans f60
          replace f61 : a44.tmps[61]?.getD undef = .int .i64 ((k : Nat) : Int) := f61
          clear hk hsz43 hde43
          refine wpList_next rfl hsz44 hde44 62 rfl (by decide) fun K hK => ?_
          refine wp_upto (.tmp 60) (.tmp 61) rfl (eval_at f60) (eval_at f61) (upto_run Hkc2.out) ?_
          refine hK _ _ fun a45 hsz45 hde45 f62 hk => ?_
          clear hK K
          replace f0 := (hk 0 (by decide)).trans f0
          replace f3 := (hk 3 (by decide)).trans f3
          replace f5 := (hk 5 (by decide)).trans f5
          replace f6 := (hk 6 (by decide)).trans f6
          replace f7 := (hk 7 (by decide)).trans f7
          replace f8 := (hk 8 (by decide)).trans f8
          replace f59 := (hk 59 (by decide)).trans f59
          replace f62 : a45.tmps[62]?.getD undef = .slice (if c2 = 0 then some ⟨g, 0, none⟩ else (some (⟨g, 0, none⟩ : Addr)).map (·.add (0 * 15))) k c2 := f62
          clear hk hsz44 hde44 f60 f61
          refine wpList_next rfl hsz45 hde45 63 rfl (by decide) fun K hK => ?_
          refine wp_appK elemE (.tmp 59) (.tmp 62) rfl W2.heap.size 0 _ [] (eval_at f59) (OwnK.empty W2 _ _) (fun g7 => (Value.slice (some ⟨g, 0, none⟩) nc c2).ownBlock = some g7) _ k c2 (entsC C1) (by rw [entsC_length, Hk.out]) (eval_at f62) Hru2.out (entsC_each C1) (by omega) (by omega) Hba.out.size ?_
          intro u3 w3 hown3 hg3 _
          have Hb3 := Lib.hid (Hba.out.trans ((OwnK.empty W2 29 15).below_of hg3 Hba.out.size (Nat.le_refl _)))
          simp only [Nat.zero_add, List.nil_append] at hown3
          have Hown3 := Lib.hid (show OwnE w3 W2.heap.size u3 C1 from ⟨by rw [← Hk.out]; exact hown3, fun y hy => Hok2.out y (by simp [hy])⟩)
          have Hc3 := Lib.hid (HownC.out.grow Hb3.out)
          clear hown3 hg3
          refine hK _ _ fun a46 hsz46 hde46 f63 hk => ?_
          clear hK K
          replace f0 := (hk 0 (by decide)).trans f0
          replace f3 := (hk 3 (by decide)).trans f3
          replace f5 := (hk 5 (by decide)).trans f5
          replace f6 := (hk 6 (by decide)).trans f6
          replace f7 := (hk 7 (by decide)).trans f7
          replace f8 := (hk 8 (by decide)).trans f8
          replace f63 : a46.tmps[63]?.getD undef = u3 := f63
          clear hk hsz45 hde45 f59 f62
          refine wpList_next rfl hsz46 hde46 64 rfl (by decide) fun K hK => ?_
          go_simp
          refine hK _ _ fun a47 hsz47 hde47 f64 hk => ?_
          clear hK K
          replace f0 := (hk 0 (by decide)).trans f0
          replace f3 := (hk 3 (by decide)).trans f3
          replace f5 := (hk 5 (by decide)).trans f5
          replace f6 := (hk 6 (by decide)).trans f6
          replace f7 := (hk 7 (by decide)).trans f7
          replace f8 := (hk 8 (by decide)).trans f8
          replace f63 := (hk 63 (by decide)).trans f63
          replace f64 : a47.tmps[64]?.getD undef = u2 := f64
          clear hk hsz46 hde46
          refine wpList_next rfl hsz47 hde47 65 rfl (by decide) fun K hK => ?_
          obtain ⟨A5, c5, hu2, _, _, hrd5⟩ := OwnK.form Hc3.out.1
          refine wp_appK elemE (.tmp 63) (.tmp 64) rfl W2.heap.size C1.length u3 (entsC C1) (eval_at f63) Hown3.out.1 (fun g => u2.ownBlock = some g) A5 (X :: C2).length c5 (entsC (X :: C2)) (entsC_length _) (by rw [eval_at f64]; exact hu2) hrd5 (entsC_each _) (by rw [List.length_cons]; have := Hkn.out; have := Hk.out; omega) (by rw [List.length_cons]; have := Hkn.out; have := Hk.out; omega) Hb3.out.size ?_
          intro u4 w4 hown4 hg4 _
          have Hb4 := Lib.hid (Hb3.out.trans (Hown3.out.1.below_of hg4 Hb3.out.size (Nat.le_refl _)))
          have Hown4 := Lib.hid (OwnE.apps hown4 Hown3.out.2 HownC.out.2)
          clear hown4 hg4 hrd5 hu2
          refine hK _ _ fun a48 hsz48 hde48 f65 hk => ?_
          clear hK K
          replace f0 := (hk 0 (by decide)).trans f0
          replace f3 := (hk 3 (by decide)).trans f3
          replace f5 := (hk 5 (by decide)).trans f5
          replace f6 := (hk 6 (by decide)).trans f6
          replace f7 := (hk 7 (by decide)).trans f7
          replace f8 := (hk 8 (by decide)).trans f8
          replace f65 : a48.tmps[65]?.getD undef = u4 := f65
          clear hk hsz47 hde47 f63 f64
          refine wpList_next rfl hsz48 hde48 5 rfl (by decide) fun K hK => ?_
          go_simp
          refine hK _ _ fun a49 hsz49 hde49 f5 hk => ?_
          clear hK K
          replace f0 := (hk 0 (by decide)).trans f0
          replace f3 := (hk 3 (by decide)).trans f3
          replace f6 := (hk 6 (by decide)).trans f6
          replace f7 := (hk 7 (by decide)).trans f7
          replace f8 := (hk 8 (by decide)).trans f8
          replace f5 : a49.tmps[5]?.getD undef = u4 := f5
          clear hk hsz48 hde48 f65
          refine wpList_nil ?_
          repeat first | with_reducible refine block_go ?_ | with_reducible refine then_go ?_
          clear f7 f8
          repeat with_reducible refine wp_seq ?_
          have HbF := Lib.hid ((HbwU.out.trans (HbC.out.mono HbwU.out.size)).trans (Hb4.out.mono (Nat.le_trans HbwU.out.size HbC.out.size)))
          have HownF := Lib.hid (Hown4.out.mono (Nat.le_trans HbwU.out.size HbC.out.size))
          have hins := ins_next Hpre.out (by rw [HCC.out]; exact HC.out.2) (by rw [HCC.out]; exact HC.out.1) (fun C4 y e => by rw [He2.out] at e; obtain ⟨_, e8⟩ := List.append_inj' e rfl; cases e8; exact Hbl.out.symm) H2.out
          have hnx := Hnx.out
          rw [Bool.true_and, if_pos rfl] at hnx
          refine wp_region_lit ?_
          refine wpList_next rfl hsz49 hde49 13 rfl (by decide) fun K hK => ?_
          go_simp
          refine hK _ _ fun a50 hsz50 hde50 f13 hk => ?_
          clear hK K
          replace f0 := (hk 0 (by decide)).trans f0
          replace f3 := (hk 3 (by decide)).trans f3
          replace f6 := (hk 6 (by decide)).trans f6
          replace f5 := (hk 5 (by decide)).trans f5
          replace f13 : a50.tmps[13]?.getD undef = .int .i64 ((i : Nat) : Int) := f13
          clear hk hsz49 hde49
          refine wpList_next rfl hsz50 hde50 14 rfl (by decide) fun K hK => ?_
          go_simp
          refine hK _ _ fun a51 hsz51 hde51 f14 hk => ?_
          clear hK K
          replace f0 := (hk 0 (by decide)).trans f0
          replace f3 := (hk 3 (by decide)).trans f3
          replace f6 := (hk 6 (by decide)).trans f6
          replace f5 := (hk 5 (by decide)).trans f5
          clear hk hsz50 hde50 f13
          replace f14 : a51.tmps[14]?.getD undef = .int .i64 (((i + 1 : Nat) : Int)) := f14.trans (by first | rfl | (congr 1; done) | (congr 1; omega) | (congr 1; rw [IntKind.wrap_i64] <;> omega))
          refine wpList_next rfl hsz51 hde51 6 rfl (by decide) fun K hK => ?_
          go_simp
          refine hK _ _ fun a52 hsz52 hde52 f6 hk => ?_
          clear hK K
          replace f0 := (hk 0 (by decide)).trans f0
          replace f3 := (hk 3 (by decide)).trans f3
          replace f5 := (hk 5 (by decide)).trans f5
          replace f6 : a52.tmps[6]?.getD undef = .int .i64 ((i + 1 : Nat) : Int) := f6
          clear hk hsz51 hde51 f14
          refine wpList_nil ?_
          refine then_go ?_
          exact ⟨n - (i + 1), by rw [Hn2.out]; omega, i + 1, _, C1 ++ X :: C2, hsz52, hde52, f0, f3, f5, f6, Lib.hid (by omega), HownF, Lib.hid (by rw [hnx]; exact hins), HbF, rfl⟩
        | true =>
          refine then_go ?_
          repeat with_reducible refine wp_seq ?_
          refine wp_cond_true (eval_at f47) ?_
          refine wp_skip ?_
          refine then_go ?_
          clear f47
          repeat with_reducible refine wp_seq ?_
          refine wp_block ?_
          refine wp_region_lit ?_
          refine wpList_next rfl hsz40h hde40h 48 rfl (by decide) fun K hK => ?_
          go_simp
          refine hK _ _ fun a41 hsz41 hde41 f48 hk => ?_
          clear hK K
          replace f0 := (hk 0 (by decide)).trans f0
          replace f3 := (hk 3 (by decide)).trans f3
          replace f5 := (hk 5 (by decide)).trans f5
          replace f6 := (hk 6 (by decide)).trans f6
          replace f7 := (hk 7 (by decide)).trans f7
          replace f48 : a41.tmps[48]?.getD undef = .int .i64 ((k : Nat) : Int) := f48
          clear hk hsz40h hde40h
          refine wpList_next rfl hsz41 hde41 49 rfl (by decide) fun K hK => ?_
          go_simp
          refine hK _ _ fun a42 hsz42 hde42 f49 hk => ?_
          clear hK K
          replace f0 := (hk 0 (by decide)).trans f0
          replace f3 := (hk 3 (by decide)).trans f3
          replace f5 := (hk 5 (by decide)).trans f5
          replace f6 := (hk 6 (by decide)).trans f6
          replace f7 := (hk 7 (by decide)).trans f7
          clear hk hsz41 hde41 f48
          replace f49 : a42.tmps[49]?.getD undef = .int .i64 (((k1 : Nat) : Int)) := f49.trans (by have h7 := Hk1.out; first | rfl | (congr 1; done) | (congr 1; omega) | (congr 1; rw [IntKind.wrap_i64] <;> omega))
          refine wpList_next rfl hsz42 hde42 7 rfl (by decide) fun K hK => ?_
          go_simp
          refine hK _ _ fun a43 hsz43 hde43 f7 hk => ?_
          clear hK K
          replace f0 := (hk 0 (by decide)).trans f0
          replace f3 := (hk 3 (by decide)).trans f3
          replace f5 := (hk 5 (by decide)).trans f5
          replace f6 := (hk 6 (by decide)).trans f6
          replace f7 : a43.tmps[7]?.getD undef = .int .i64 ((k1 : Nat) : Int) := f7
          clear hk hsz42 hde42 f49
          refine wpList_nil ?_
          repeat first | with_reducible refine block_go ?_ | with_reducible refine then_go ?_
          replace f7 : a43.tmps[7]?.getD undef = .int .i64 ((C3.length : Nat) : Int) := by rw [show C3.length = k1 by have h1 := Hk.out; have h2 := congrArg List.length He2.out; rw [List.length_append] at h2; have h3 := Hk1.out; simp at h2; omega]; exact f7
          exact ⟨C3.length, by rw [Hn3.out, He2.out, List.length_append]; simp, C3, Y :: C2, hsz43, hde43, f0, f3, f5, f6, f7, Lib.hid (by rw [← HCC.out, He2.out]; simp), Lib.hid (fun y hy => by rcases List.mem_cons.1 hy with rfl | hy; exact Hbl.out.symm; exact H2.out y hy), Lib.hid (Hbx0.out.trans (Hbx40.out.mono Hbx0.out.size)), rfl⟩
  refine wp_region_lit ?_
  refine wpList_next rfl hsz19 hde19 9 rfl (by decide) fun K hK => ?_
  go_simp
  refine hK _ _ fun a20 hsz20 hde20 f9 hk => ?_
  clear hK K
  replace f0 := (hk 0 (by decide)).trans f0
  replace f3 := (hk 3 (by decide)).trans f3
  replace f5 := (hk 5 (by decide)).trans f5
  replace f6 := (hk 6 (by decide)).trans f6
  replace f9 : a20.tmps[9]?.getD undef = .int .i64 ((i : Nat) : Int) := f9
  clear hk hsz19 hde19
  refine wpList_next rfl hsz20 hde20 10 rfl (by decide) fun K hK => ?_
  go_simp
  refine hK _ _ fun a21 hsz21 hde21 f10 hk => ?_
  clear hK K
  replace f0 := (hk 0 (by decide)).trans f0
  replace f3 := (hk 3 (by decide)).trans f3
  replace f5 := (hk 5 (by decide)).trans f5
  replace f6 := (hk 6 (by decide)).trans f6
  replace f9 := (hk 9 (by decide)).trans f9
  replace f10 : a21.tmps[10]?.getD undef = .slice A n cc := f10
  clear hk hsz20 hde20
  refine wpList_next rfl hsz21 hde21 11 rfl (by decide) fun K hK => ?_
  go_simp
  refine hK _ _ fun a22 hsz22 hde22 f11 hk => ?_
  clear hK K
  replace f0 := (hk 0 (by decide)).trans f0
  replace f3 := (hk 3 (by decide)).trans f3
  replace f5 := (hk 5 (by decide)).trans f5
  replace f6 := (hk 6 (by decide)).trans f6
  replace f9 := (hk 9 (by decide)).trans f9
  replace f11 : a22.tmps[11]?.getD undef = .int .i64 ((n : Nat) : Int) := f11
  clear hk hsz21 hde21 f10
  refine wpList_next rfl hsz22 hde22 12 rfl (by decide) fun K hK => ?_
  go_simp
  refine hK _ _ fun a23 hsz23 hde23 f12 hk => ?_
  clear hK K
  replace f0 := (hk 0 (by decide)).trans f0
  replace f3 := (hk 3 (by decide)).trans f3
  replace f5 := (hk 5 (by decide)).trans f5
  replace f6 := (hk 6 (by decide)).trans f6
  clear hk hsz22 hde22 f9 f11
  replace f12 : a23.tmps[12]?.getD undef = .bool false := f12.trans (by first | rfl | (congr 1; first | exact decide_eq_true (by omega) | exact decide_eq_false (by omega)) | (simp; omega))
  refine wpList_nil ?_
  refine then_go ?_
  repeat with_reducible refine wp_seq ?_
  refine wp_cond_false (eval_at f12) ?_
  refine wp_exit ?_
  repeat with_reducible refine then_exit ?_
  refine block_exit ?_
  repeat first | with_reducible refine block_go ?_ | with_reducible refine then_go ?_
  clear f12 f0 f3
  repeat with_reducible refine wp_seq ?_
  obtain ⟨wq, hwq⟩ : ∃ wq, wq = wr := ⟨_, rfl⟩
  rw [← hwq] at Hown Hbw ⊢
  clear hwq
  refine wp_region_lit ?_
  refine wpList_next rfl hsz23 hde23 66 rfl (by decide) fun K hK => ?_
  go_simp
  refine hK _ _ fun a24 hsz24 hde24 f66 hk => ?_
  clear hK K
  replace f5 := (hk 5 (by decide)).trans f5
  replace f6 := (hk 6 (by decide)).trans f6
  replace f66 : a24.tmps[66]?.getD undef = u := f66
  clear hk hsz23 hde23
  refine wpList_next rfl hsz24 hde24 4 rfl (by decide) fun K hK => ?_
  go_simp
  refine hK _ _ fun a25 hsz25 hde25 f4 hk => ?_
  clear hK K
  replace f5 := (hk 5 (by decide)).trans f5
  replace f6 := (hk 6 (by decide)).trans f6
  replace f4 : a25.tmps[4]?.getD undef = u := f4
  clear hk hsz24 hde24 f66
  refine wpList_nil ?_
  refine then_go ?_
  have hfin := HC.out
  rw [List.take_of_length_le (by have := Hi.out; have := Hn.out; omega)] at hfin
  refine wp_ret ?_
  repeat first | with_reducible refine then_ret ?_ | with_reducible refine block_ret ?_
  refine ret_tmp Tryd.results22 hde25 f4 ?_
  exact ⟨⟨u, C, rfl, Hown.out.mono Hbel.out.size, hfin.1, hfin.2⟩, below_call Hbel.out Hbw.out⟩
end Go.Proofs.YtcpjgohclncbkaaDoor
