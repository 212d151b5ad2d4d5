/-
  entry.In, and the document's.
-/
import Derived.Test.YtcpjgohclncbkaaDoorEnStab
import Derived.Test.YtcpjgohclncbkaaDoorEnGone
namespace Go.Proofs.YtcpjgohclncbkaaDoor
open Go.RowKit
set_option maxRecDepth 100000

/-- The entries of a directory that are there. -/
def dirE (L : List Ent) (r : Int) (s : Nat) : List Ent := L.filter fun x => headE x && sameI x.drep x.dseq r s
/-- entry.In. -/
theorem in_any (ok : Nat → Prop) (v : Value) (L : List Ent) (r : Int) (s : Nat) (w : World) (hL : IsL kEnt w ok v L) (hd : ∀ x ∈ L, x.data.length ≤ 1000) (hl : L.length ≤ 1000) (hs : SortedE L) :
    Calls Tryd.prog 21 #[v, .agg (idC r s)] w fun e w' => (∃ u M, e = .returned u ∧ OwnE w' w.heap.size u M ∧ M.Perm (dirE L r s) ∧ M.Pairwise ltE) ∧ Below w.heap.size w w' := by
  obtain ⟨D, hD⟩ : ∃ D, D = dirE L r s := ⟨_, rfl⟩
  rw [← hD]
  have hDl : D.length ≤ 1000 := by rw [hD]; exact Nat.le_trans (List.length_filter_le _ _) hl
  have hDp : D.Pairwise prec := by rw [hD]; exact (sortedE_iff.1 hs).sublist List.filter_sublist
  obtain ⟨wb, hwb⟩ : ∃ wb, wb = w.alloc (.cells (idC r s) 25) := ⟨_, rfl⟩
  have hbel : Below w.heap.size w wb := by rw [hwb]; exact (Below.refl _ _).alloc (Nat.le_refl _) _
  have hB : Blk wb w.heap.size 25 (idC r s) := by rw [hwb]; exact Blk.new _ _ _
  have hth := ethose_any 47 #[.pointer (some ⟨w.heap.size, 0, none⟩)] _ (enters_of Tryd.func47 (by kernel_rfl) rfl) ok v L wb (hL.grow hbel) hd hl (predE_in r s w.heap.size wb hB)
  rw [show L.filter (fun x => headE x && sameI x.drep x.dseq r s) = D from hD.symm] at hth
  have Hth := Lib.hid hth
  have Hso := Lib.hid fun (u : Value) (z : World) (hu : OwnE z wb.heap.size u D) (hz : wb.heap.size ≤ z.heap.size) => sortstable_any wb.heap.size u D z hu hDp hDl hz
  have Hbel := Lib.hid hbel
  obtain ⟨I, hI⟩ : ∃ I, I = idC r s := ⟨_, rfl⟩
  rw [← hI] at hwb ⊢
  have HW := Lib.hid hwb
  clear hL hd hl hs hD hDl hDp hwb hbel hB hth hI
  go_enter Tryd.func21, Tryd.ntmps21
  refine enter_abs (N := 12) rfl rfl fun a0 hsz0 hde0 hk => ?_
  have f0 : a0.tmps[0]?.getD undef = v := hk 0
  have f1 : a0.tmps[1]?.getD undef = .agg I := hk 1
  clear hk
  repeat with_reducible refine wp_seq ?_
  refine wp_region_lit ?_
  refine wpList_next rfl hsz0 hde0 3 rfl (by decide) fun K hK => ?_
  go_simp
  refine hK _ _ fun a1 hsz1 hde1 f3 hk => ?_
  clear hK K
  replace f0 := (hk 0 (by decide)).trans f0
  replace f1 := (hk 1 (by decide)).trans f1
  replace f3 : a1.tmps[3]?.getD undef = .pointer (some ⟨w.heap.size, 0, none⟩) := f3
  clear hk hsz0 hde0
  refine wpList_next rfl hsz1 hde1 4 rfl (by decide) fun K hK => ?_
  go_simp
  refine hK _ _ fun a2 hsz2 hde2 f4 hk => ?_
  clear hK K
  replace f0 := (hk 0 (by decide)).trans f0
  replace f1 := (hk 1 (by decide)).trans f1
  replace f3 := (hk 3 (by decide)).trans f3
  replace f4 : a2.tmps[4]?.getD undef = .slice none 0 0 := f4
  clear hk hsz1 hde1
  refine wpList_nil ?_
  clear f1 f4
  rw [← HW.out]
  refine then_go ?_
  repeat with_reducible refine wp_seq ?_
  refine wp_region_lit ?_
  refine wpList_next rfl hsz2 hde2 6 rfl (by decide) fun K hK => ?_
  go_simp
  refine hK _ _ fun a3 hsz3 hde3 f6 hk => ?_
  clear hK K
  replace f0 := (hk 0 (by decide)).trans f0
  replace f3 := (hk 3 (by decide)).trans f3
  replace f6 : a3.tmps[6]?.getD undef = v := f6
  clear hk hsz2 hde2
  refine wpList_next rfl hsz3 hde3 7 rfl (by decide) fun K hK => ?_
  go_simp
  refine hK _ _ fun a4 hsz4 hde4 f7 hk => ?_
  clear hK K
  replace f0 := (hk 0 (by decide)).trans f0
  replace f3 := (hk 3 (by decide)).trans f3
  replace f6 := (hk 6 (by decide)).trans f6
  replace f7 : a4.tmps[7]?.getD undef = .func (.func 47) #[] #[.pointer (some ⟨w.heap.size, 0, none⟩)] := f7
  clear hk hsz3 hde3
  refine wpList_next rfl hsz4 hde4 8 rfl (by decide) fun K hK => ?_
  go_simp
  refine Hth.out.mono ?_
  rintro e1 w1 ⟨⟨u1, rfl, hown1⟩, hb1⟩
  go_simp
  refine hK _ _ fun a5 hsz5 hde5 f8 hk => ?_
  clear hK K
  replace f0 := (hk 0 (by decide)).trans f0
  replace f3 := (hk 3 (by decide)).trans f3
  replace f8 : a5.tmps[8]?.getD undef = u1 := f8
  clear hk hsz4 hde4 f6 f7
  refine wpList_next rfl hsz5 hde5 5 rfl (by decide) fun K hK => ?_
  go_simp
  refine hK _ _ fun a6 hsz6 hde6 f5 hk => ?_
  clear hK K
  replace f0 := (hk 0 (by decide)).trans f0
  replace f3 := (hk 3 (by decide)).trans f3
  replace f5 : a6.tmps[5]?.getD undef = u1 := f5
  clear hk hsz5 hde5 f8
  refine wpList_nil ?_
  have Hown1 := Lib.hid hown1
  have Hb1 := Lib.hid hb1
  clear hown1 hb1
  refine then_go ?_
  repeat with_reducible refine wp_seq ?_
  clear f0 f3
  refine wp_region_lit ?_
  refine wpList_next rfl hsz6 hde6 9 rfl (by decide) fun K hK => ?_
  go_simp
  refine hK _ _ fun a7 hsz7 hde7 f9 hk => ?_
  clear hK K
  replace f5 := (hk 5 (by decide)).trans f5
  replace f9 : a7.tmps[9]?.getD undef = u1 := f9
  clear hk hsz6 hde6
  refine wpList_next rfl hsz7 hde7 10 rfl (by decide) fun K hK => ?_
  go_simp
  refine (Hso.out u1 _ Hown1.out Hb1.out.size).mono ?_
  rintro e2 w2 ⟨rfl, ⟨M, hown2, hpm2, hps2⟩, hb2⟩
  go_simp
  refine hK _ _ fun a8 hsz8 hde8 f10 hk => ?_
  clear hK K
  replace f5 := (hk 5 (by decide)).trans f5
  clear hk hsz7 hde7 f9
  clear f10
  refine wpList_nil ?_
  refine then_go ?_
  repeat with_reducible refine wp_seq ?_
  refine wp_region_lit ?_
  refine wpList_next rfl hsz8 hde8 11 rfl (by decide) fun K hK => ?_
  go_simp
  refine hK _ _ fun a9 hsz9 hde9 f11 hk => ?_
  clear hK K
  replace f5 := (hk 5 (by decide)).trans f5
  replace f11 : a9.tmps[11]?.getD undef = u1 := f11
  clear hk hsz8 hde8
  refine wpList_next rfl hsz9 hde9 4 rfl (by decide) fun K hK => ?_
  go_simp
  refine hK _ _ fun a10 hsz10 hde10 f4 hk => ?_
  clear hK K
  replace f5 := (hk 5 (by decide)).trans f5
  replace f4 : a10.tmps[4]?.getD undef = u1 := f4
  clear hk hsz9 hde9 f11
  refine wpList_nil ?_
  refine then_go ?_
  refine wp_ret ?_
  repeat first | with_reducible refine then_ret ?_ | with_reducible refine block_ret ?_
  refine ret_tmp Tryd.results21 hde10 f4 ?_
  exact ⟨⟨u1, M, rfl, hown2.mono Hbel.out.size, hpm2, hps2⟩, below_call Hbel.out (Hb1.out.trans hb2)⟩

theorem wp_upto {P : Program} {Q : Exit → Act → World → Prop} {o : Oper} {a : Act} {w : World} {K : Act → World → Prop} {t : TypeId} {v v' h : Value} (x y : Operand)
    (ho : o.op = .slice t x none (some y) none) (hx : a.eval x = v) (hy : a.eval y = h) (hrun : ∀ W : World, (Instr.sliceAt t v none (some h) none).run P W = .ok v' W) (hk : K (a.put o.dst v') w) : o.wp P a w K Q := by
  unfold Oper.wp execOp
  simp only [ho, Option.map, Act.eval, Sem.run_bind, Sem.run_pure] at hx hy ⊢
  rw [hx, hy, hrun]
  exact hk
theorem dir_next {L : List Ent} {i : Nat} (h : i < L.length) (r : Int) (s : Nat) : dirE (L.take (i + 1)) r s = if headE L[i] && sameI L[i].drep L[i].dseq r s then dirE (L.take i) r s ++ [L[i]] else dirE (L.take i) r s := by
  unfold dirE
  rw [List.take_succ_eq_append_getElem h, List.filter_append]
  by_cases e : (headE L[i] && sameI L[i].drep L[i].dseq r s) = true
  · rw [if_pos e, List.filter_cons, if_pos e, List.filter_nil]
  · rw [if_neg e, List.filter_cons, if_neg e, List.filter_nil, List.append_nil]
end Go.Proofs.YtcpjgohclncbkaaDoor
