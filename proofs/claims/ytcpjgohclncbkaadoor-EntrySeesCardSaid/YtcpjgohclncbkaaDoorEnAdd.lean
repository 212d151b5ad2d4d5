/-
  entry.Add, entry.Kill.
-/
import Derived.Test.YtcpjgohclncbkaaDoorEnMaths
import Derived.Test.YtcpjgohclncbkaaDoorEnFinds
import Derived.Test.YtcpjgohclncbkaaDoorEnCopies
import Derived.Test.YtcpjgohclncbkaaDoorVeFixed
import Derived.Test.YtcpjgohclncbkaaDoorWalk
namespace Go.Proofs.YtcpjgohclncbkaaDoor
open Go.RowKit
set_option maxRecDepth 100000

set_option maxHeartbeats 4000000 in
theorem eadd_any (ok : Nat → Prop) (v : Value) (L : List Ent) (X : Ent) (w : World) (hL : IsL kEnt w ok v L) (hl : L.length ≤ 900) (hd : ∀ x ∈ L, x.data.length ≤ 1000) (hXd : X.data.length ≤ 1000) (hs : SortedE L) (hX : EntOk X) :
    Calls Tryd.prog 13 #[v, .agg (entC X)] w fun e w' => (∃ u, e = .returned u ∧ OwnE w' w.heap.size u (addE L X)) ∧ Below w.heap.size w w' := by
  obtain ⟨wb, hwb⟩ : ∃ wb, wb = w.alloc (.cells (entC X) 29) := ⟨_, rfl⟩
  have hbox : Blk wb w.heap.size 29 (entC X) := by rw [hwb]; exact Blk.new _ _ _
  have hbel : Below w.heap.size w wb := by rw [hwb]; exact (Below.refl _ _).alloc (Nat.le_refl _) _
  have hwbs : wb.heap.size = w.heap.size + 1 := by rw [hwb]; simp
  have hLb := hL.grow hbel
  have Hcpy := Lib.hid (ecopies_any ok v L wb hLb (by omega) hd)
  have Hbox := Lib.hid hbox
  have Hbel := Lib.hid hbel
  have Hwbs := Lib.hid hwbs
  have HX := Lib.hid hX
  have Hl := Lib.hid hl
  obtain ⟨C, hC⟩ : ∃ C, C = entC X := ⟨_, rfl⟩
  have HC := Lib.hid hC
  rw [← hC] at hwb ⊢
  have HW := Lib.hid hwb
  have hcp := fun z => ecopied_any X hXd z
  rw [← hC] at hcp
  have Hcp := Lib.hid hcp
  have hCs : C.size = 15 := by rw [hC]; rfl
  have HinfL := Lib.hid (show (Tryd.prog.info? 29).map (·.size) = some C.toList.length by rw [hC]; exact ent_info)
  have hfold := fold_ent X
  rw [← hC] at hfold
  have Hfold := Lib.hid hfold
  obtain ⟨IX, hIX⟩ : ∃ IX, IX = idC X.rep X.seq := ⟨_, rfl⟩
  have HinfI := Lib.hid (show (Tryd.prog.info? 25).map (·.size) = some IX.toList.length by rw [hIX]; exact id_info)
  have HRI := Lib.hid (show ∀ x, Below wb.heap.size wb x → x.rangeAt w.heap.size 0 IX.toList from fun x hx => by
    rw [hIX]
    exact (hbox.grow hx).ent.id)
  have HRX := Lib.hid (show ∀ x, Below wb.heap.size wb x → x.rangeAt w.heap.size 0 C.toList from fun x hx => by
    rw [hC]
    exact (hbox.grow hx).ent.all)
  have hfi := fun (z : World) (hz : Below wb.heap.size wb z) => efind_any ok v L X.rep X.seq z (hLb.grow hz) (by omega) hs
  rw [← hIX] at hfi
  obtain ⟨ps, hps⟩ : ∃ ps : Nat, ps = posE L X.rep X.seq := ⟨_, rfl⟩
  obtain ⟨q, hq⟩ : ∃ q, q = thereE L X.rep X.seq := ⟨_, rfl⟩
  rw [← hps, ← hq] at hfi
  have Hfi := Lib.hid hfi
  have Hps := Lib.hid hps
  have Hq := Lib.hid hq
  clear hbox hbel hwbs hLb hs hd hL hX hC hwb hcp hfold hIX hXd hfi hps hq hl
  go_enter Tryd.func13, Tryd.ntmps13
  refine enter_abs (N := 25) rfl rfl fun a0 hsz0 hde0 hk => ?_
  have f0 : a0.tmps[0]?.getD undef = v := hk 0
  have f1 : a0.tmps[1]?.getD undef = .agg C := hk 1
  clear hk
  repeat with_reducible refine wp_seq ?_
  refine wp_region_lit ?_
  refine wpList_next rfl hsz0 hde0 3 rfl (by decide) fun K hK => ?_
  go_simp
  refine hK _ _ fun a1 hsz1 hde1 f3 hk => ?_
  clear hK K
  replace f0 := (hk 0 (by decide)).trans f0
  replace f1 := (hk 1 (by decide)).trans f1
  replace f3 : a1.tmps[3]?.getD undef = .pointer (some ⟨w.heap.size, 0, none⟩) := f3
  clear hk hsz0 hde0
  refine wpList_next rfl hsz1 hde1 4 rfl (by decide) fun K hK => ?_
  go_simp
  refine hK _ _ fun a2 hsz2 hde2 f4 hk => ?_
  clear hK K
  replace f0 := (hk 0 (by decide)).trans f0
  replace f1 := (hk 1 (by decide)).trans f1
  replace f3 := (hk 3 (by decide)).trans f3
  replace f4 : a2.tmps[4]?.getD undef = .slice none 0 0 := f4
  clear hk hsz1 hde1
  refine wpList_nil ?_
  clear f1 f4
  rw [← HW.out]
  refine then_go ?_
  repeat with_reducible refine wp_seq ?_
  refine wp_region_lit ?_
  refine wpList_next rfl hsz2 hde2 8 rfl (by decide) fun K hK => ?_
  go_simp
  refine hK _ _ fun a3 hsz3 hde3 f8 hk => ?_
  clear hK K
  replace f0 := (hk 0 (by decide)).trans f0
  replace f3 := (hk 3 (by decide)).trans f3
  replace f8 : a3.tmps[8]?.getD undef = v := f8
  clear hk hsz2 hde2
  refine wpList_next rfl hsz3 hde3 9 rfl (by decide) fun K hK => ?_
  go_simp
  refine Hcpy.out.mono ?_
  rintro e1 w1 ⟨u1, rfl, hown1, hb1⟩
  go_simp
  refine hK _ _ fun a4 hsz4 hde4 f9 hk => ?_
  clear hK K
  replace f0 := (hk 0 (by decide)).trans f0
  replace f3 := (hk 3 (by decide)).trans f3
  replace f9 : a4.tmps[9]?.getD undef = u1 := f9
  clear hk hsz3 hde3 f8
  refine wpList_next rfl hsz4 hde4 5 rfl (by decide) fun K hK => ?_
  go_simp
  refine hK _ _ fun a5 hsz5 hde5 f5 hk => ?_
  clear hK K
  replace f0 := (hk 0 (by decide)).trans f0
  replace f3 := (hk 3 (by decide)).trans f3
  replace f5 : a5.tmps[5]?.getD undef = u1 := f5
  clear hk hsz4 hde4 f9
  refine wpList_nil ?_
  have Hown1 := Lib.hid hown1
  have Hb1 := Lib.hid hb1
  clear hown1 hb1
  refine then_go ?_
  repeat with_reducible refine wp_seq ?_
  refine wp_region_lit ?_
  refine wpList_next rfl hsz5 hde5 11 rfl (by decide) fun K hK => ?_
  go_simp
  refine hK _ _ fun a6 hsz6 hde6 f11 hk => ?_
  clear hK K
  replace f0 := (hk 0 (by decide)).trans f0
  replace f3 := (hk 3 (by decide)).trans f3
  replace f5 := (hk 5 (by decide)).trans f5
  replace f11 : a6.tmps[11]?.getD undef = v := f11
  clear hk hsz5 hde5
  refine wpList_next rfl hsz6 hde6 12 rfl (by decide) fun K hK => ?_
  go_simp
  refine hK _ _ fun a7 hsz7 hde7 f12 hk => ?_
  clear hK K
  replace f0 := (hk 0 (by decide)).trans f0
  replace f3 := (hk 3 (by decide)).trans f3
  replace f5 := (hk 5 (by decide)).trans f5
  replace f11 := (hk 11 (by decide)).trans f11
  replace f12 : a7.tmps[12]?.getD undef = .pointer (some ⟨w.heap.size, 0, none⟩) := f12
  clear hk hsz6 hde6
  refine wpList_next rfl hsz7 hde7 13 rfl (by decide) fun K hK => ?_
  refine wp_load_mid 25 (.tmp 12) rfl w.heap.size 0 (eval_at f12) IX.toList _ (HRI.out _ Hb1.out) Tryd.underlying25 rfl HinfI.out ?_
  refine hK _ _ fun a8 hsz8 hde8 f13 hk => ?_
  clear hK K
  replace f0 := (hk 0 (by decide)).trans f0
  replace f3 := (hk 3 (by decide)).trans f3
  replace f5 := (hk 5 (by decide)).trans f5
  replace f11 := (hk 11 (by decide)).trans f11
  replace f13 : a8.tmps[13]?.getD undef = .agg IX := f13
  clear hk hsz7 hde7 f12
  refine wpList_next rfl hsz8 hde8 14 rfl (by decide) fun K hK => ?_
  go_simp
  refine (Hfi.out _ Hb1.out).mono ?_
  rintro e2 w2 ⟨rfl, hb2⟩
  go_simp
  refine hK _ _ fun a9 hsz9 hde9 f14 hk => ?_
  clear hK K
  replace f0 := (hk 0 (by decide)).trans f0
  replace f3 := (hk 3 (by decide)).trans f3
  replace f5 := (hk 5 (by decide)).trans f5
  replace f14 : a9.tmps[14]?.getD undef = .tuple #[.int .i64 (ps : Int), .bool q] := f14
  clear hk hsz8 hde8 f11 f13
  refine wpList_next rfl hsz9 hde9 10 rfl (by decide) fun K hK => ?_
  go_simp
  refine hK _ _ fun a10 hsz10 hde10 f10 hk => ?_
  clear hK K
  replace f0 := (hk 0 (by decide)).trans f0
  replace f3 := (hk 3 (by decide)).trans f3
  replace f5 := (hk 5 (by decide)).trans f5
  replace f10 : a10.tmps[10]?.getD undef = .tuple #[.int .i64 (ps : Int), .bool q] := f10
  clear hk hsz9 hde9 f14
  refine wpList_next rfl hsz10 hde10 15 rfl (by decide) fun K hK => ?_
  go_simp
  refine hK _ _ fun a11 hsz11 hde11 f15 hk => ?_
  clear hK K
  replace f0 := (hk 0 (by decide)).trans f0
  replace f3 := (hk 3 (by decide)).trans f3
  replace f5 := (hk 5 (by decide)).trans f5
  replace f10 := (hk 10 (by decide)).trans f10
  replace f15 : a11.tmps[15]?.getD undef = .int .i64 (ps : Int) := f15
  clear hk hsz10 hde10
  refine wpList_next rfl hsz11 hde11 16 rfl (by decide) fun K hK => ?_
  go_simp
  refine hK _ _ fun a12 hsz12 hde12 f16 hk => ?_
  clear hK K
  replace f0 := (hk 0 (by decide)).trans f0
  replace f3 := (hk 3 (by decide)).trans f3
  replace f5 := (hk 5 (by decide)).trans f5
  replace f15 := (hk 15 (by decide)).trans f15
  replace f16 : a12.tmps[16]?.getD undef = .bool q := f16
  clear hk hsz11 hde11 f10
  refine wpList_next rfl hsz12 hde12 6 rfl (by decide) fun K hK => ?_
  go_simp
  refine hK _ _ fun a13 hsz13 hde13 f6 hk => ?_
  clear hK K
  replace f0 := (hk 0 (by decide)).trans f0
  replace f3 := (hk 3 (by decide)).trans f3
  replace f5 := (hk 5 (by decide)).trans f5
  replace f16 := (hk 16 (by decide)).trans f16
  replace f6 : a13.tmps[6]?.getD undef = .int .i64 (ps : Int) := f6
  clear hk hsz12 hde12 f15
  refine wpList_next rfl hsz13 hde13 7 rfl (by decide) fun K hK => ?_
  go_simp
  refine hK _ _ fun a14 hsz14 hde14 f7 hk => ?_
  clear hK K
  replace f0 := (hk 0 (by decide)).trans f0
  replace f3 := (hk 3 (by decide)).trans f3
  replace f5 := (hk 5 (by decide)).trans f5
  replace f6 := (hk 6 (by decide)).trans f6
  replace f7 : a14.tmps[7]?.getD undef = .bool q := f7
  clear hk hsz13 hde13 f16
  refine wpList_nil ?_
  have Hb2 := Lib.hid (below_call Hb1.out hb2)
  have Hown2 := Lib.hid (Hown1.out.grow hb2)
  clear hb2
  refine then_go ?_
  repeat with_reducible refine wp_seq ?_
  clear f0
  refine wp_region_lit ?_
  refine wpList_next rfl hsz14 hde14 17 rfl (by decide) fun K hK => ?_
  go_simp
  refine hK _ _ fun a15 hsz15 hde15 f17 hk => ?_
  clear hK K
  replace f3 := (hk 3 (by decide)).trans f3
  replace f5 := (hk 5 (by decide)).trans f5
  replace f6 := (hk 6 (by decide)).trans f6
  replace f7 := (hk 7 (by decide)).trans f7
  replace f17 : a15.tmps[17]?.getD undef = .bool q := f17
  clear hk hsz14 hde14
  refine wpList_nil ?_
  clear f7
  refine then_go ?_
  repeat with_reducible refine wp_seq ?_
  cases q with
  | true =>
    refine wp_cond_true (eval_at f17) ?_
    clear f17
    repeat with_reducible refine wp_seq ?_
    refine wp_region_lit ?_
    refine wpList_next rfl hsz15 hde15 18 rfl (by decide) fun K hK => ?_
    go_simp
    refine hK _ _ fun a16 hsz16 hde16 f18 hk => ?_
    clear hK K
    replace f3 := (hk 3 (by decide)).trans f3
    replace f5 := (hk 5 (by decide)).trans f5
    replace f6 := (hk 6 (by decide)).trans f6
    replace f18 : a16.tmps[18]?.getD undef = u1 := f18
    clear hk hsz15 hde15
    refine wpList_next rfl hsz16 hde16 4 rfl (by decide) fun K hK => ?_
    go_simp
    refine hK _ _ fun a17 hsz17 hde17 f4 hk => ?_
    clear hK K
    replace f3 := (hk 3 (by decide)).trans f3
    replace f5 := (hk 5 (by decide)).trans f5
    replace f6 := (hk 6 (by decide)).trans f6
    replace f4 : a17.tmps[4]?.getD undef = u1 := f4
    clear hk hsz16 hde16 f18
    refine wpList_nil ?_
    refine then_go ?_
    refine wp_ret ?_
    repeat first | with_reducible refine then_ret ?_ | with_reducible refine block_ret ?_
    refine ret_tmp Tryd.results13 hde17 f4 ?_
    have hq2 : addE L X = L := by unfold addE; rw [if_pos Hq.out.symm]
    rw [hq2]
    exact ⟨⟨_, rfl, Hown2.out.mono (by have := Hwbs.out; omega)⟩, below_call Hbel.out Hb2.out⟩
  | false =>
    refine wp_cond_false (eval_at f17) ?_
    refine wp_skip ?_
    refine then_go ?_
    clear f17
    repeat with_reducible refine wp_seq ?_
    refine wp_region_lit ?_
    refine wpList_next rfl hsz15 hde15 19 rfl (by decide) fun K hK => ?_
    go_simp
    refine hK _ _ fun a16 hsz16 hde16 f19 hk => ?_
    clear hK K
    replace f3 := (hk 3 (by decide)).trans f3
    replace f5 := (hk 5 (by decide)).trans f5
    replace f6 := (hk 6 (by decide)).trans f6
    replace f19 : a16.tmps[19]?.getD undef = u1 := f19
    clear hk hsz15 hde15
    refine wpList_next rfl hsz16 hde16 20 rfl (by decide) fun K hK => ?_
    go_simp
    refine hK _ _ fun a17 hsz17 hde17 f20 hk => ?_
    clear hK K
    replace f3 := (hk 3 (by decide)).trans f3
    replace f5 := (hk 5 (by decide)).trans f5
    replace f6 := (hk 6 (by decide)).trans f6
    replace f19 := (hk 19 (by decide)).trans f19
    replace f20 : a17.tmps[20]?.getD undef = .int .i64 (ps : Int) := f20
    clear hk hsz16 hde16
    refine wpList_next rfl hsz17 hde17 21 rfl (by decide) fun K hK => ?_
    refine wp_load_mid 29 (.tmp 3) rfl w.heap.size 0 (eval_at f3) C.toList _ (HRX.out _ Hb2.out) Tryd.underlying29 rfl HinfL.out ?_
    refine hK _ _ fun a18 hsz18 hde18 f21 hk => ?_
    clear hK K
    replace f3 := (hk 3 (by decide)).trans f3
    replace f5 := (hk 5 (by decide)).trans f5
    replace f6 := (hk 6 (by decide)).trans f6
    replace f19 := (hk 19 (by decide)).trans f19
    replace f20 := (hk 20 (by decide)).trans f20
    replace f21 : a18.tmps[21]?.getD undef = .agg C := f21
    clear hk hsz17 hde17
    refine wpList_next rfl hsz18 hde18 22 rfl (by decide) fun K hK => ?_
    go_simp
    refine (Hcp.out _).mono ?_
    rintro e3 w3 ⟨rfl, hb3⟩
    go_simp
    refine hK _ _ fun a19 hsz19 hde19 f22 hk => ?_
    clear hK K
    replace f3 := (hk 3 (by decide)).trans f3
    replace f5 := (hk 5 (by decide)).trans f5
    replace f6 := (hk 6 (by decide)).trans f6
    replace f19 := (hk 19 (by decide)).trans f19
    replace f20 := (hk 20 (by decide)).trans f20
    replace f22 : a19.tmps[22]?.getD undef = .agg C := f22
    clear hk hsz18 hde18 f21
    have Hb3 := Lib.hid (below_call Hb2.out hb3)
    have Hown3 := Lib.hid (Hown2.out.grow hb3)
    clear hb3
    refine wpList_next rfl hsz19 hde19 23 rfl (by decide) fun K hK => ?_
    go_simp
    refine hK _ _ fun a20 hsz20 hde20 f23 hk => ?_
    clear hK K
    replace f3 := (hk 3 (by decide)).trans f3
    replace f5 := (hk 5 (by decide)).trans f5
    replace f6 := (hk 6 (by decide)).trans f6
    replace f19 := (hk 19 (by decide)).trans f19
    replace f20 := (hk 20 (by decide)).trans f20
    replace f23 : a20.tmps[23]?.getD undef = .slice (some ⟨w3.heap.size, 0, none⟩) 1 1 := f23
    clear hk hsz19 hde19 f22
    rw [Hfold.out]
    refine wpList_next rfl hsz20 hde20 24 rfl (by decide) fun K hK => ?_
    go_simp
    refine (einsert_any wb.heap.size u1 L X HX.out ps w3.heap.size _ ⟨OwnK.alloc Hown3.out.1 _, Hown3.out.2⟩ (by rw [HC.out]; exact Blk.new _ _ _) (fun g hg => by have := (Hown3.out.lt g hg).2; omega) (by have := Hl.out; omega) (Nat.le_trans Hb3.out.size (by simp)) (by rw [Hps.out]; exact posE_le L _ _)).mono ?_
    rintro e4 w4 ⟨⟨u4, rfl, hown4⟩, hb4⟩
    go_simp
    refine hK _ _ fun a21 hsz21 hde21 f24 hk => ?_
    clear hK K
    replace f3 := (hk 3 (by decide)).trans f3
    replace f5 := (hk 5 (by decide)).trans f5
    replace f6 := (hk 6 (by decide)).trans f6
    replace f24 : a21.tmps[24]?.getD undef = u4 := f24
    clear hk hsz20 hde20 f19 f20 f23
    refine wpList_next rfl hsz21 hde21 4 rfl (by decide) fun K hK => ?_
    go_simp
    refine hK _ _ fun a22 hsz22 hde22 f4 hk => ?_
    clear hK K
    replace f3 := (hk 3 (by decide)).trans f3
    replace f5 := (hk 5 (by decide)).trans f5
    replace f6 := (hk 6 (by decide)).trans f6
    replace f4 : a22.tmps[4]?.getD undef = u4 := f4
    clear hk hsz21 hde21 f24
    refine wpList_nil ?_
    refine then_go ?_
    refine wp_ret ?_
    repeat first | with_reducible refine then_ret ?_ | with_reducible refine block_ret ?_
    refine ret_tmp Tryd.results13 hde22 f4 ?_
    have hq2 : addE L X = insE L ps X := by unfold addE; rw [if_neg (by rw [← Hq.out]; simp), Hps.out]
    rw [hq2]
    exact ⟨⟨_, rfl, hown4.mono (by have := Hwbs.out; omega)⟩, below_call Hbel.out ((Hb3.out.alloc Hb3.out.size _).trans hb4)⟩
/-- What stands in the region that gives an entry another By: operation 6 reads it, operation 11 stores it. -/
structure KillJ (base : Nat) (W0 : World) (u : Value) (L0 L1 : List Ent) (d : Nat → Bool) (x : World) : Prop where
  before : d 11 = false → OwnE x base u L0
  after : d 11 = true → OwnE x base u L1
  ord : d 11 = true → d 6 = true
  below : Below W0.heap.size W0 x
section
variable {base : Nat} {W0 : World} {u : Value} {L0 L1 : List Ent} {d : Nat → Bool} {x : World}
theorem KillJ.drew (h : KillJ base W0 u L0 L1 d x) : KillJ base W0 u L0 L1 d x.drew := ⟨fun e => ⟨OwnK.drew (h.before e).1, (h.before e).2⟩, fun e => ⟨OwnK.drew (h.after e).1, (h.after e).2⟩, h.ord, below_then_drew h.below⟩
theorem KillJ.more (h : KillJ base W0 u L0 L1 d x) {i : Nat} (hi : i ≠ 11) (ho : d 11 = true → also d i 6 = true) : KillJ base W0 u L0 L1 (also d i) x := by
  have e : also d i 11 = d 11 := also_ne (fun e => hi e.symm)
  exact ⟨fun h1 => h.before (by rw [← e]; exact h1), fun h1 => h.after (by rw [← e]; exact h1), fun h1 => ho (by rw [← e]; exact h1), h.below⟩
theorem KillJ.call (h : KillJ base W0 u L0 L1 d x) {w' : World} (hb : Below x.heap.size x w') : KillJ base W0 u L0 L1 d w' := ⟨fun e => (h.before e).grow hb, fun e => (h.after e).grow hb, h.ord, below_call h.below hb⟩
theorem KillJ.stored (h : KillJ base W0 u L0 L1 d x) (h6 : d 6 = true) {g o : Nat} {vs : List Value} (hw : OwnE (x.setCells g o vs) base u L1) (hg : W0.heap.size ≤ g) : KillJ base W0 u L0 L1 (also d 11) (x.setCells g o vs) :=
  ⟨fun e => (by rw [also_same] at e; cases e), fun _ => hw, fun _ => also_up h6, below_setCells h.below hg h.below.size o vs⟩
end


end Go.Proofs.YtcpjgohclncbkaaDoor
