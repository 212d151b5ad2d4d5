/-
  The walk of EntrySweeps.
-/
import Derived.Test.YtckibimganmklaaDoorEnLives
import Derived.Test.YtckibimganmklaaDoorEnHeads
import Derived.Test.YtckibimganmklaaDoorEnRefs
namespace Go.Proofs.YtckibimganmklaaDoor
open Go.RowKit
set_option maxRecDepth 100000

set_option maxHeartbeats 8000000 in
theorem entrysweeps_walk (v : Value) (L : List Ent) (B : Nat → Nat) (w : World) (hL : IsL kEnt w (fun _ => True) v L) (_ : okV B) (hp : Pow w) :
    Calls Tryd.prog 5 #[v, vv B] w fun e w' => e = .returned (.bool true) ∧ Below w.heap.size w w' := by
  have Hl := Lib.hid fun (z : World) (hz : Pow z) => lives10_any z hz
  obtain ⟨BV, hBV⟩ : ∃ A, A = av B := ⟨_, rfl⟩
  obtain ⟨wb, hwb⟩ : ∃ wb, wb = w.alloc (.cells BV 27) := ⟨_, rfl⟩
  have hbox : Blk wb w.heap.size 27 BV := by rw [hwb]; exact Blk.new w _ _
  have hbel : Below w.heap.size w wb := by rw [hwb]; exact (Below.refl _ w).alloc (Nat.le_refl _) _
  have HRB := Lib.hid (show ∀ z, Below wb.heap.size wb z → z.rangeAt w.heap.size 0 BV.toList from fun z hz => (hbox.grow hz).range 0 BV.toList fun j u hu => by rw [Nat.zero_add, ← Array.getElem?_toList]; exact hu)
  have HinfB := Lib.hid (show (Tryd.prog.info? 27).map (·.size) = some BV.toList.length by rw [hBV]; exact vec_info)
  have HL := Lib.hid (hL.grow hbel)
  have Hp := Lib.hid (hp.grow hbel)
  have Hbel := Lib.hid hbel
  have HW := Lib.hid hwb
  have HBV := Lib.hid hBV
  unfold vv
  rw [← hBV]
  clear hL hp hbox hbel hwb hBV
  go_enter Tryd.func5, Tryd.ntmps5
  refine enter_abs (N := 47) rfl rfl fun a0 hsz0 hde0 hk => ?_
  have f0 : a0.tmps[0]?.getD undef = v := hk 0
  have f1 : a0.tmps[1]?.getD undef = .agg BV := hk 1
  clear hk
  repeat with_reducible refine wp_seq ?_
  refine wp_region_lit ?_
  refine wpList_next rfl hsz0 hde0 3 rfl (by decide) fun K hK => ?_
  go_simp
  refine hK _ _ fun a1 hsz1 hde1 f3 hk => ?_
  clear hK K
  replace f0 := (hk 0 (by decide)).trans f0
  replace f1 := (hk 1 (by decide)).trans f1
  replace f3 : a1.tmps[3]?.getD undef = .pointer (some ⟨w.heap.size, 0, none⟩) := f3
  clear hk hsz0 hde0
  refine wpList_next rfl hsz1 hde1 4 rfl (by decide) fun K hK => ?_
  go_simp
  refine hK _ _ fun a2 hsz2 hde2 f4 hk => ?_
  clear hK K
  replace f0 := (hk 0 (by decide)).trans f0
  replace f1 := (hk 1 (by decide)).trans f1
  replace f3 := (hk 3 (by decide)).trans f3
  replace f4 : a2.tmps[4]?.getD undef = .bool false := f4
  clear hk hsz1 hde1
  refine wpList_nil ?_
  clear f1
  rw [← HW.out]
  refine then_go ?_
  repeat with_reducible refine wp_seq ?_
  refine wp_region_lit ?_
  refine wpList_next rfl hsz2 hde2 8 rfl (by decide) fun K hK => ?_
  go_simp
  refine (Hl.out _ Hp.out).mono ?_
  rintro e1 w1 ⟨rfl, hb1⟩
  go_simp
  refine hK _ _ fun a3 hsz3 hde3 f8 hk => ?_
  clear hK K
  replace f0 := (hk 0 (by decide)).trans f0
  replace f3 := (hk 3 (by decide)).trans f3
  replace f4 := (hk 4 (by decide)).trans f4
  replace f8 : a3.tmps[8]?.getD undef = .bool true := f8
  clear hk hsz2 hde2
  refine wpList_next rfl hsz3 hde3 9 rfl (by decide) fun K hK => ?_
  go_simp
  refine hK _ _ fun a4 hsz4 hde4 f9 hk => ?_
  clear hK K
  replace f0 := (hk 0 (by decide)).trans f0
  replace f3 := (hk 3 (by decide)).trans f3
  replace f4 := (hk 4 (by decide)).trans f4
  replace f9 : a4.tmps[9]?.getD undef = .bool false := f9
  clear hk hsz3 hde3 f8
  refine wpList_next rfl hsz4 hde4 10 rfl (by decide) fun K hK => ?_
  go_simp
  refine hK _ _ fun a5 hsz5 hde5 f10 hk => ?_
  clear hK K
  replace f0 := (hk 0 (by decide)).trans f0
  replace f3 := (hk 3 (by decide)).trans f3
  replace f4 := (hk 4 (by decide)).trans f4
  replace f10 : a5.tmps[10]?.getD undef = .bool false := f10
  clear hk hsz4 hde4 f9
  refine wpList_nextg (wanted_of (j := 2) (t := 10) (b := false) rfl rfl f10) hsz5 hde5 11 rfl (by decide) fun K hK => ?_
  go_simp
  refine hK _ _ fun a6 hsz6 hde6 f11 hk => ?_
  clear hK K
  replace f0 := (hk 0 (by decide)).trans f0
  replace f3 := (hk 3 (by decide)).trans f3
  replace f4 := (hk 4 (by decide)).trans f4
  replace f10 := (hk 10 (by decide)).trans f10
  replace f11 : a6.tmps[11]?.getD undef = v := f11
  clear hk hsz5 hde5
  refine wpList_nextg (wanted_of (j := 2) (t := 10) (b := false) rfl rfl f10) hsz6 hde6 12 rfl (by decide) fun K hK => ?_
  go_simp
  refine (fits10_any _ _ _ _ (HL.out.grow hb1)).mono ?_
  rintro e2 w2 ⟨⟨q, rfl, hq⟩, hb2⟩
  go_simp
  refine hK _ _ fun a7 hsz7 hde7 f12 hk => ?_
  clear hK K
  replace f0 := (hk 0 (by decide)).trans f0
  replace f3 := (hk 3 (by decide)).trans f3
  replace f4 := (hk 4 (by decide)).trans f4
  replace f10 := (hk 10 (by decide)).trans f10
  replace f12 : a7.tmps[12]?.getD undef = .bool q := f12
  clear hk hsz6 hde6 f11
  refine wpList_nextg (wanted_of (j := 2) (t := 10) (b := false) rfl rfl f10) hsz7 hde7 13 rfl (by decide) fun K hK => ?_
  go_simp
  refine hK _ _ fun a8 hsz8 hde8 f13 hk => ?_
  clear hK K
  replace f0 := (hk 0 (by decide)).trans f0
  replace f3 := (hk 3 (by decide)).trans f3
  replace f4 := (hk 4 (by decide)).trans f4
  replace f10 := (hk 10 (by decide)).trans f10
  replace f13 : a8.tmps[13]?.getD undef = .bool (!q) := f13
  clear hk hsz7 hde7 f12
  refine wpList_next rfl hsz8 hde8 14 rfl (by decide) fun K hK => ?_
  go_simp
  refine hK _ _ fun a9 hsz9 hde9 f14 hk => ?_
  clear hK K
  replace f0 := (hk 0 (by decide)).trans f0
  replace f3 := (hk 3 (by decide)).trans f3
  replace f4 := (hk 4 (by decide)).trans f4
  replace f14 : a9.tmps[14]?.getD undef = .bool (!q) := f14
  clear hk hsz8 hde8 f10 f13
  refine wpList_nil ?_
  have Hb2 := Lib.hid (below_call hb1 hb2)
  have Hq := Lib.hid hq
  clear hb1 hb2 hq
  refine then_go ?_
  repeat with_reducible refine wp_seq ?_
  cases q with
  | false =>
    refine wp_cond_true (eval_at f14) ?_
    clear f14
    repeat with_reducible refine wp_seq ?_
    refine wp_region_lit ?_
    refine wpList_next rfl hsz9 hde9 15 rfl (by decide) fun K hK => ?_
    go_simp
    refine (Hl.out _ (Hp.out.grow Hb2.out)).mono ?_
    rintro e3 w3 ⟨rfl, hb3⟩
    go_simp
    refine hK _ _ fun a10 hsz10 hde10 f15 hk => ?_
    clear hK K
    replace f0 := (hk 0 (by decide)).trans f0
    replace f3 := (hk 3 (by decide)).trans f3
    replace f4 := (hk 4 (by decide)).trans f4
    replace f15 : a10.tmps[15]?.getD undef = .bool true := f15
    clear hk hsz9 hde9
    refine wpList_next rfl hsz10 hde10 4 rfl (by decide) fun K hK => ?_
    go_simp
    refine hK _ _ fun a11 hsz11 hde11 f4 hk => ?_
    clear hK K
    replace f0 := (hk 0 (by decide)).trans f0
    replace f3 := (hk 3 (by decide)).trans f3
    replace f4 : a11.tmps[4]?.getD undef = .bool true := f4
    clear hk hsz10 hde10 f15
    refine wpList_nil ?_
    refine then_go ?_
    refine wp_ret ?_
    refine (ret_tmp (R := fun e2 w2 => e2 = .returned (.bool true) ∧ Below w.heap.size w w2) Tryd.results5 hde11 f4 ?_)
    exact ⟨rfl, below_call (below_call Hbel.out Hb2.out) hb3⟩
  | true =>
    refine wp_cond_false (eval_at f14) ?_
    refine wp_skip ?_
    refine then_go ?_
    clear f14
    repeat with_reducible refine wp_seq ?_
    obtain ⟨hs, hl, hd⟩ := Hq.out rfl
    have hd2 : ∀ x ∈ L, x.data.length ≤ 1000 := fun x hx => Nat.le_trans (hd x hx) (by omega)
    have HL2 := Lib.hid (HL.out.grow Hb2.out)
    have hsw := fun (ok : Nat → Prop) (u : Value) (M : List Ent) (z : World) (hu : IsL kEnt z ok u M) (h1 : ∀ x ∈ M, x.data.length ≤ 1000) (h2 : M.length ≤ 1000) => esweep_any ok u M B z hu h1 h2
    have hrs := fun (z : World) (hu : IsL kEnt z (fun _ => True) v L) => erefsweep_any (fun _ => True) v L B z hu (by omega)
    have hg1 := fun (x : Ent) (z : World) => gone_any x.by_ B z
    have hg2 := fun (x : Ent) (z : World) => refgone_any x.by_ B z
    unfold vv at hsw hrs hg1 hg2
    rw [← HBV.out] at hsw hrs hg1 hg2
    have hMd : ∀ x ∈ L.filter (fun x => !goneV x.by_ B), x.data.length ≤ 1000 := fun x hx => hd2 x (List.mem_filter.1 hx).1
    have hMl : (L.filter (fun x => !goneV x.by_ B)).length ≤ 1000 := Nat.le_trans (List.length_filter_le _ _) (by omega)
    have hMM : (L.filter (fun x => !goneV x.by_ B)).filter (fun x => !goneV x.by_ B) = L.filter (fun x => !goneV x.by_ B) := by rw [List.filter_filter]; simp
    have Hsw1 := Lib.hid (hsw _ v L _ HL2.out hd2 (by omega))
    have hsw2 := fun (ok : Nat → Prop) (u : Value) (z : World) (hu : IsL kEnt z ok u (L.filter (fun x => !goneV x.by_ B))) => hsw ok u _ z hu hMd hMl
    rw [hMM] at hsw2
    obtain ⟨M, hM⟩ : ∃ M, M = L.filter (fun x => !goneV x.by_ B) := ⟨_, rfl⟩
    rw [← hM] at Hsw1 hsw2 hrs
    have Hsw2 := Lib.hid hsw2
    have Hrs := Lib.hid hrs
    have Hg1 := Lib.hid hg1
    have Hg2 := Lib.hid hg2
    have HL40 := Lib.hid hl
    clear hs hl hd hd2 hsw hrs hg1 hg2 hMd hMl hMM hsw2 hM Hq HL
    refine wp_region_lit ?_
    refine wpList_next rfl hsz9 hde9 16 rfl (by decide) fun K hK => ?_
    go_simp
    refine hK _ _ fun a10 hsz10 hde10 f16 hk => ?_
    clear hK K
    replace f0 := (hk 0 (by decide)).trans f0
    replace f3 := (hk 3 (by decide)).trans f3
    replace f4 := (hk 4 (by decide)).trans f4
    replace f16 : a10.tmps[16]?.getD undef = v := f16
    clear hk hsz9 hde9
    refine wpList_next rfl hsz10 hde10 17 rfl (by decide) fun K hK => ?_
    refine wp_load_mid 27 (.tmp 3) rfl w.heap.size 0 (eval_at f3) BV.toList _ (HRB.out _ Hb2.out) Tryd.underlying27 rfl HinfB.out ?_
    refine hK _ _ fun a11 hsz11 hde11 f17 hk => ?_
    clear hK K
    replace f0 := (hk 0 (by decide)).trans f0
    replace f3 := (hk 3 (by decide)).trans f3
    replace f4 := (hk 4 (by decide)).trans f4
    replace f16 := (hk 16 (by decide)).trans f16
    replace f17 : a11.tmps[17]?.getD undef = .agg BV := f17
    clear hk hsz10 hde10
    refine wpList_next rfl hsz11 hde11 18 rfl (by decide) fun K hK => ?_
    go_simp
    refine (Hsw1.out).mono ?_
    rintro e5 w5 ⟨⟨u5, rfl, hown5⟩, hb5⟩
    go_simp
    refine hK _ _ fun a12 hsz12 hde12 f18 hk => ?_
    clear hK K
    replace f0 := (hk 0 (by decide)).trans f0
    replace f3 := (hk 3 (by decide)).trans f3
    replace f4 := (hk 4 (by decide)).trans f4
    replace f18 : a12.tmps[18]?.getD undef = u5 := f18
    clear hk hsz11 hde11 f16 f17
    refine wpList_next rfl hsz12 hde12 5 rfl (by decide) fun K hK => ?_
    go_simp
    refine hK _ _ fun a13 hsz13 hde13 f5 hk => ?_
    clear hK K
    replace f0 := (hk 0 (by decide)).trans f0
    replace f3 := (hk 3 (by decide)).trans f3
    replace f4 := (hk 4 (by decide)).trans f4
    replace f5 : a13.tmps[5]?.getD undef = u5 := f5
    clear hk hsz12 hde12 f18
    refine wpList_nil ?_
    have Hb5 := Lib.hid (below_call Hb2.out hb5)
    have Hown5 := Lib.hid hown5.isL
    have HL5 := Lib.hid (HL2.out.grow hb5)
    clear hown5 hb5 Hsw1 HL2
    obtain ⟨A, cc, hve, hc1, hc2, hE⟩ := ent_at HL5.out
    subst hve
    have Hel := Lib.hid hE
    obtain ⟨n, hn⟩ : ∃ n, n = L.length := ⟨_, rfl⟩
    rw [← hn] at hc1 HL5 HL40 f0 Hrs
    have Hn := Lib.hid hn
    have hm : maxLen ≤ 9223372036854775807 := by decide
    have hn40 := HL40.out
    clear hE hn
    refine then_go ?_
    repeat with_reducible refine wp_seq ?_
    refine wp_region_lit ?_
    refine wpList_next rfl hsz13 hde13 19 rfl (by decide) fun K hK => ?_
    go_simp
    refine hK _ _ fun a14 hsz14 hde14 f19 hk => ?_
    clear hK K
    replace f0 := (hk 0 (by decide)).trans f0
    replace f3 := (hk 3 (by decide)).trans f3
    replace f4 := (hk 4 (by decide)).trans f4
    replace f5 := (hk 5 (by decide)).trans f5
    replace f19 : a14.tmps[19]?.getD undef = .slice A n cc := f19
    clear hk hsz13 hde13
    refine wpList_next rfl hsz14 hde14 20 rfl (by decide) fun K hK => ?_
    go_simp
    refine hK _ _ fun a15 hsz15 hde15 f20 hk => ?_
    clear hK K
    replace f0 := (hk 0 (by decide)).trans f0
    replace f3 := (hk 3 (by decide)).trans f3
    replace f4 := (hk 4 (by decide)).trans f4
    replace f5 := (hk 5 (by decide)).trans f5
    replace f19 := (hk 19 (by decide)).trans f19
    replace f20 : a15.tmps[20]?.getD undef = .int .i64 (n : Int) := f20
    clear hk hsz14 hde14
    refine wpList_next rfl hsz15 hde15 21 rfl (by decide) fun K hK => ?_
    go_simp
    refine hK _ _ fun a16 hsz16 hde16 f21 hk => ?_
    clear hK K
    replace f0 := (hk 0 (by decide)).trans f0
    replace f3 := (hk 3 (by decide)).trans f3
    replace f4 := (hk 4 (by decide)).trans f4
    replace f5 := (hk 5 (by decide)).trans f5
    replace f19 := (hk 19 (by decide)).trans f19
    replace f20 := (hk 20 (by decide)).trans f20
    replace f21 : a16.tmps[21]?.getD undef = .int .i64 ((0 : Nat) : Int) := f21
    clear hk hsz15 hde15
    refine wpList_nil ?_
    refine then_go ?_
    repeat with_reducible refine wp_seq ?_
    refine wp_block ?_
    refine wp_loop (fun a wr => ∃ k : Nat, k ≤ n ∧ Hid (a.tmps.size = 47) ∧ Hid (a.defers = []) ∧ a.tmps[21]?.getD undef = .int .i64 ((k : Nat) : Int) ∧ a.tmps[0]?.getD undef = .slice A n cc ∧ a.tmps[3]?.getD undef = .pointer (some ⟨w.heap.size, 0, none⟩) ∧ a.tmps[4]?.getD undef = .bool false ∧ a.tmps[5]?.getD undef = u5 ∧ a.tmps[19]?.getD undef = .slice A n cc ∧ a.tmps[20]?.getD undef = .int .i64 (n : Int) ∧ Hid (Below w5.heap.size w5 wr)) (fun a _ => n - (intOf (a.tmps[21]?.getD undef)).toNat) ?_ ?_
    · exact ⟨0, by omega, hsz16, hde16, f21, f0, f3, f4, f5, f19, f20, Lib.hid (Below.refl _ _)⟩
    clear hsz16 hde16 f0 f3 f4 f5 f19 f20 f21
    intro a17 wr hI
    obtain ⟨k, hk, hsz17, hde17, f21, f0, f3, f4, f5, f19, f20, Hbw⟩ := hI
    have F21o := Lib.hid f21
    repeat with_reducible refine wp_seq ?_
    by_cases hlt : k < n
    · have hlt1 : decide ((k : Int) < (n : Int)) = true := decide_eq_true (by omega)
      have hkl : k < L.length := by rw [← Hn.out]; exact hlt
      obtain ⟨b, off, rfl, _, hxc⟩ := ent_here Hel.out hkl Hbw.out
      have g1 := fun z => Hg1.out L[k] z
      have g2 := fun z => Hg2.out L[k] z
      obtain ⟨gb, hgb⟩ : ∃ q, q = goneV L[k].by_ B := ⟨_, rfl⟩
      rw [← hgb] at g1 g2
      obtain ⟨x5, hx5⟩ : ∃ x, x = L[k] := ⟨_, rfl⟩
      rw [← hx5] at hxc g1 g2
      have hra := hxc.all
      obtain ⟨C, hC⟩ : ∃ C, C = entC x5 := ⟨_, rfl⟩
      have hCs : C.size = 15 := by rw [hC]; rfl
      have HinfL := Lib.hid (show (Tryd.prog.info? 29).map (·.size) = some C.toList.length by rw [hC]; exact ent_info)
      have Hinf := Lib.hid (show (Tryd.prog.info? 29).map (·.size) = some C.size by rw [hC]; exact ent_info)
      have Hone := Lib.hid (show C.all (·.oneCell') = true by rw [hC]; exact entC_one x5)
      have hbk : Blk (wr.alloc (.cells C 29)) wr.heap.size 29 (entC x5) := by rw [← hC]; exact Blk.new _ _ _
      obtain ⟨AV, hAV⟩ : ∃ A, A = av x5.by_ := ⟨_, rfl⟩
      rw [← hAV] at g1 g2
      have HinfV := Lib.hid (show (Tryd.prog.info? 27).map (·.size) = some AV.toList.length by rw [hAV]; exact vec_info)
      have HRV := Lib.hid (show ∀ z, Below (wr.alloc (.cells C 29)).heap.size (wr.alloc (.cells C 29)) z → z.rangeAt wr.heap.size (0 + 7) AV.toList from fun z hz => by rw [hAV]; exact (hbk.grow hz).ent.by_)
      have Hbw1 := Lib.hid (Hbw.out.alloc Hbw.out.size (.cells C 29))
      rw [← hC] at hra
      have R := Lib.hid hra
      have G1 := Lib.hid g1
      have G2 := Lib.hid g2
      clear hxc g1 g2 hgb hx5 hra hC hbk hAV Hel
      refine wp_region_lit ?_
      refine wpList_next rfl hsz17 hde17 22 rfl (by decide) fun K hK => ?_
      go_simp
      refine hK _ _ fun a18 hsz18 hde18 f22 hk => ?_
      clear hK K
      replace f21 := (hk 21 (by decide)).trans f21
      replace f0 := (hk 0 (by decide)).trans f0
      replace f3 := (hk 3 (by decide)).trans f3
      replace f4 := (hk 4 (by decide)).trans f4
      replace f5 := (hk 5 (by decide)).trans f5
      replace f19 := (hk 19 (by decide)).trans f19
      replace f20 := (hk 20 (by decide)).trans f20
      clear hk hsz17 hde17
      replace f22 : a18.tmps[22]?.getD undef = .bool true := f22.trans (by first | rfl | simp [hlt])
      refine wpList_nil ?_
      refine then_go ?_
      repeat with_reducible refine wp_seq ?_
      refine wp_cond_true (eval_at f22) ?_
      refine wp_skip ?_
      refine then_go ?_
      clear f22
      repeat with_reducible refine wp_seq ?_
      refine wp_block ?_
      repeat with_reducible refine wp_seq ?_
      refine wp_region_lit ?_
      refine wpList_next rfl hsz18 hde18 23 rfl (by decide) fun K hK => ?_
      go_simp
      refine hK _ _ fun a19 hsz19 hde19 f23 hk => ?_
      clear hK K
      replace f21 := (hk 21 (by decide)).trans f21
      replace f0 := (hk 0 (by decide)).trans f0
      replace f3 := (hk 3 (by decide)).trans f3
      replace f4 := (hk 4 (by decide)).trans f4
      replace f5 := (hk 5 (by decide)).trans f5
      replace f19 := (hk 19 (by decide)).trans f19
      replace f20 := (hk 20 (by decide)).trans f20
      replace f23 : a19.tmps[23]?.getD undef = .pointer (some ⟨b, off + k * 15, none⟩) := f23
      clear hk hsz18 hde18
      refine wpList_next rfl hsz19 hde19 24 rfl (by decide) fun K hK => ?_
      refine wp_load_mid 29 (.tmp 23) rfl b (off + k * 15) (eval_at f23) C.toList _ R.out Tryd.underlying29 rfl HinfL.out ?_
      refine hK _ _ fun a20 hsz20 hde20 f24 hk => ?_
      clear hK K
      replace f21 := (hk 21 (by decide)).trans f21
      replace f0 := (hk 0 (by decide)).trans f0
      replace f3 := (hk 3 (by decide)).trans f3
      replace f4 := (hk 4 (by decide)).trans f4
      replace f5 := (hk 5 (by decide)).trans f5
      replace f19 := (hk 19 (by decide)).trans f19
      replace f20 := (hk 20 (by decide)).trans f20
      replace f24 : a20.tmps[24]?.getD undef = .agg C := f24
      clear hk hsz19 hde19 f23
      refine wpList_next rfl hsz20 hde20 7 rfl (by decide) fun K hK => ?_
      go_simp
      refine hK _ _ fun a21 hsz21 hde21 f7 hk => ?_
      clear hK K
      replace f21 := (hk 21 (by decide)).trans f21
      replace f0 := (hk 0 (by decide)).trans f0
      replace f3 := (hk 3 (by decide)).trans f3
      replace f4 := (hk 4 (by decide)).trans f4
      replace f5 := (hk 5 (by decide)).trans f5
      replace f19 := (hk 19 (by decide)).trans f19
      replace f20 := (hk 20 (by decide)).trans f20
      replace f24 := (hk 24 (by decide)).trans f24
      replace f7 : a21.tmps[7]?.getD undef = .pointer (some ⟨wr.heap.size, 0, none⟩) := f7
      clear hk hsz20 hde20
      refine wpList_next0 rfl rfl fun K hK => ?_
      refine wp_store_new 29 (.tmp 7) (.tmp 24) rfl zeroE C (eval_at f7) (eval_at f24) Hinf.out (by rw [hCs]; rfl) Hone.out ?_
      refine hK undef _ ?_
      clear hK K
      clear f24
      refine wpList_nil ?_
      obtain ⟨wa, hwa⟩ : ∃ wa, wa = wr.alloc (.cells C 29) := ⟨_, rfl⟩
      rw [← hwa] at Hbw1 HRV ⊢
      clear hwa
      refine then_go ?_
      repeat with_reducible refine wp_seq ?_
      refine wp_region_goodg (tblG [(25, .pointer (some ⟨wr.heap.size, 0 + 7, none⟩)), (26, .agg AV), (27, .agg BV), (28, .bool gb), (29, .pointer (some ⟨wr.heap.size, 0 + 7, none⟩)), (30, .agg AV), (31, .agg BV), (32, .bool gb), (33, .bool false)]) 47 (by kernel_rfl) (by kernel_rfl) (by kernel_rfl) (by kernel_rfl) hsz21.out ?_ ?_ ?_
      · intro t v7 x x' h _ _
        exact h
      · intro i7 o hi7 a x hbx hsame hpre K hK
        have hlt7 : i7 < 9 := (Array.getElem?_eq_some_iff.1 hi7).1
        rcases (show i7 = 0 ∨ i7 = 1 ∨ i7 = 2 ∨ i7 = 3 ∨ i7 = 4 ∨ i7 = 5 ∨ i7 = 6 ∨ i7 = 7 ∨ i7 = 8 by omega) with rfl | rfl | rfl | rfl | rfl | rfl | rfl | rfl | rfl
        all_goals (have ho := Option.some.inj hi7; subst ho; clear hi7 hlt7)
        · have q7 : a.tmps[7]?.getD undef = .pointer (some ⟨wr.heap.size, 0, none⟩) := (hsame 7 (by decide +kernel)).trans f7
          refine step_plain rfl ?_
          have hk := Lib.hid (show ∀ v7 x', v7 = .pointer (some ⟨wr.heap.size, 0 + 7, none⟩) → Below x.heap.size x x' → K (a.put (some 25) v7) x' from hK)
          have Hbx := Lib.hid hbx
          clear hsame hpre hK hbx
          go_simp
          exact hk.out _ _ rfl (Below.refl _ _)
        · have q25 : a.tmps[25]?.getD undef = .pointer (some ⟨wr.heap.size, 0 + 7, none⟩) := hpre ⟨0, .data⟩ (by simp) rfl (by decide)
          refine step_plain rfl ?_
          have hk := Lib.hid (show ∀ v7 x', v7 = .agg AV → Below x.heap.size x x' → K (a.put (some 26) v7) x' from hK)
          have Hbx := Lib.hid hbx
          clear hsame hpre hK hbx
          refine wp_load_mid 27 (.tmp 25) rfl wr.heap.size (0 + 7) (eval_at q25) AV.toList _ (HRV.out _ Hbx.out) Tryd.underlying27 rfl HinfV.out ?_
          exact hk.out _ _ rfl (Below.refl _ _)
        · have q3 : a.tmps[3]?.getD undef = .pointer (some ⟨w.heap.size, 0, none⟩) := (hsame 3 (by decide +kernel)).trans f3
          refine step_plain rfl ?_
          have hk := Lib.hid (show ∀ v7 x', v7 = .agg BV → Below x.heap.size x x' → K (a.put (some 27) v7) x' from hK)
          have Hbx := Lib.hid hbx
          clear hsame hpre hK hbx
          refine wp_load_mid 27 (.tmp 3) rfl w.heap.size 0 (eval_at q3) BV.toList _ (HRB.out _ (below_call Hb5.out (below_call Hbw1.out Hbx.out))) Tryd.underlying27 rfl HinfB.out ?_
          exact hk.out _ _ rfl (Below.refl _ _)
        · have q26 : a.tmps[26]?.getD undef = .agg AV := hpre ⟨1, .data⟩ (by simp) rfl (by decide)
          have q27 : a.tmps[27]?.getD undef = .agg BV := hpre ⟨2, .data⟩ (by simp) rfl (by decide)
          refine step_plain rfl ?_
          have hk := Lib.hid (show ∀ v7 x', v7 = .bool gb → Below x.heap.size x x' → K (a.put (some 28) v7) x' from hK)
          have Hbx := Lib.hid hbx
          clear hsame hpre hK hbx
          go_simp
          refine (G1.out _).mono ?_
          rintro e7 w7 ⟨rfl, hb7⟩
          go_simp
          exact hk.out _ _ rfl hb7
        · have q7 : a.tmps[7]?.getD undef = .pointer (some ⟨wr.heap.size, 0, none⟩) := (hsame 7 (by decide +kernel)).trans f7
          refine step_plain rfl ?_
          have hk := Lib.hid (show ∀ v7 x', v7 = .pointer (some ⟨wr.heap.size, 0 + 7, none⟩) → Below x.heap.size x x' → K (a.put (some 29) v7) x' from hK)
          have Hbx := Lib.hid hbx
          clear hsame hpre hK hbx
          go_simp
          exact hk.out _ _ rfl (Below.refl _ _)
        · have q29 : a.tmps[29]?.getD undef = .pointer (some ⟨wr.heap.size, 0 + 7, none⟩) := hpre ⟨4, .data⟩ (by simp) rfl (by decide)
          refine step_plain rfl ?_
          have hk := Lib.hid (show ∀ v7 x', v7 = .agg AV → Below x.heap.size x x' → K (a.put (some 30) v7) x' from hK)
          have Hbx := Lib.hid hbx
          clear hsame hpre hK hbx
          refine wp_load_mid 27 (.tmp 29) rfl wr.heap.size (0 + 7) (eval_at q29) AV.toList _ (HRV.out _ Hbx.out) Tryd.underlying27 rfl HinfV.out ?_
          exact hk.out _ _ rfl (Below.refl _ _)
        · have q3 : a.tmps[3]?.getD undef = .pointer (some ⟨w.heap.size, 0, none⟩) := (hsame 3 (by decide +kernel)).trans f3
          refine step_plain rfl ?_
          have hk := Lib.hid (show ∀ v7 x', v7 = .agg BV → Below x.heap.size x x' → K (a.put (some 31) v7) x' from hK)
          have Hbx := Lib.hid hbx
          clear hsame hpre hK hbx
          refine wp_load_mid 27 (.tmp 3) rfl w.heap.size 0 (eval_at q3) BV.toList _ (HRB.out _ (below_call Hb5.out (below_call Hbw1.out Hbx.out))) Tryd.underlying27 rfl HinfB.out ?_
          exact hk.out _ _ rfl (Below.refl _ _)
        · have q30 : a.tmps[30]?.getD undef = .agg AV := hpre ⟨5, .data⟩ (by simp) rfl (by decide)
          have q31 : a.tmps[31]?.getD undef = .agg BV := hpre ⟨6, .data⟩ (by simp) rfl (by decide)
          refine step_plain rfl ?_
          have hk := Lib.hid (show ∀ v7 x', v7 = .bool gb → Below x.heap.size x x' → K (a.put (some 32) v7) x' from hK)
          have Hbx := Lib.hid hbx
          clear hsame hpre hK hbx
          go_simp
          refine (G2.out _).mono ?_
          rintro e7 w7 ⟨rfl, hb7⟩
          go_simp
          exact hk.out _ _ rfl hb7
        · have q28 : a.tmps[28]?.getD undef = .bool gb := hpre ⟨3, .data⟩ (by simp) rfl (by decide)
          have q32 : a.tmps[32]?.getD undef = .bool gb := hpre ⟨7, .data⟩ (by simp) rfl (by decide)
          refine step_plain rfl ?_
          have hk := Lib.hid (show ∀ v7 x', v7 = .bool false → Below x.heap.size x x' → K (a.put (some 33) v7) x' from hK)
          have Hbx := Lib.hid hbx
          clear hsame hpre hK hbx
          cases gb <;> go_simp <;> exact hk.out _ _ rfl (Below.refl _ _)
      intro a22 x22 hbx hsame hG hsz22 hde22
      replace f21 := (hsame 21 (by decide +kernel)).trans f21
      replace f0 := (hsame 0 (by decide +kernel)).trans f0
      replace f3 := (hsame 3 (by decide +kernel)).trans f3
      replace f4 := (hsame 4 (by decide +kernel)).trans f4
      replace f5 := (hsame 5 (by decide +kernel)).trans f5
      replace f19 := (hsame 19 (by decide +kernel)).trans f19
      replace f20 := (hsame 20 (by decide +kernel)).trans f20
      replace f7 := (hsame 7 (by decide +kernel)).trans f7
      have f33 : a22.tmps[33]?.getD undef = .bool false := hG 8 (by decide)
      have Hbx22 := Lib.hid hbx
      have hsz22h := Lib.hid hsz22
      have hde22h := Lib.hid (hde22.trans hde21.out)
      clear hsame hG hbx hsz22 hde22 hsz21 hde21
      refine then_go ?_
      repeat with_reducible refine wp_seq ?_
      refine wp_cond_false (eval_at f33) ?_
      refine wp_skip ?_
      refine block_go ?_
      refine then_go ?_
      clear f33 f7
      refine wp_region_lit ?_
      refine wpList_next rfl hsz22h hde22h 34 rfl (by decide) fun K hK => ?_
      go_simp
      refine hK _ _ fun a23 hsz23 hde23 f34 hk => ?_
      clear hK K
      replace f21 := (hk 21 (by decide)).trans f21
      replace f0 := (hk 0 (by decide)).trans f0
      replace f3 := (hk 3 (by decide)).trans f3
      replace f4 := (hk 4 (by decide)).trans f4
      replace f5 := (hk 5 (by decide)).trans f5
      replace f19 := (hk 19 (by decide)).trans f19
      replace f20 := (hk 20 (by decide)).trans f20
      clear hk hsz22h hde22h
      replace f34 : a23.tmps[34]?.getD undef = .int .i64 ((k + 1 : Nat) : Int) := f34.trans (by first | (congr 1; done) | (congr 1; rw [IntKind.wrap_i64] <;> omega))
      refine wpList_next rfl hsz23 hde23 21 rfl (by decide) fun K hK => ?_
      go_simp
      refine hK _ _ fun a24 hsz24 hde24 f21 hk => ?_
      clear hK K
      replace f0 := (hk 0 (by decide)).trans f0
      replace f3 := (hk 3 (by decide)).trans f3
      replace f4 := (hk 4 (by decide)).trans f4
      replace f5 := (hk 5 (by decide)).trans f5
      replace f19 := (hk 19 (by decide)).trans f19
      replace f20 := (hk 20 (by decide)).trans f20
      replace f21 : a24.tmps[21]?.getD undef = .int .i64 ((k + 1 : Nat) : Int) := f21
      clear hk hsz23 hde23 f34
      refine wpList_nil ?_
      refine then_go ?_
      exact ⟨⟨k + 1, by omega, hsz24, hde24, f21, f0, f3, f4, f5, f19, f20, (Lib.hid (below_call Hbw1.out Hbx22.out))⟩, by rw [f21, F21o.out]; show n - ((k + 1 : Nat) : Int).toNat < n - ((k : Nat) : Int).toNat; omega⟩
    · obtain rfl : k = n := by omega
      have hlt1 : decide ((k : Int) < (k : Int)) = false := decide_eq_false (by omega)
      refine wp_region_lit ?_
      refine wpList_next rfl hsz17 hde17 22 rfl (by decide) fun K hK => ?_
      go_simp
      refine hK _ _ fun a18 hsz18 hde18 f22 hk => ?_
      clear hK K
      replace f21 := (hk 21 (by decide)).trans f21
      replace f0 := (hk 0 (by decide)).trans f0
      replace f3 := (hk 3 (by decide)).trans f3
      replace f4 := (hk 4 (by decide)).trans f4
      replace f5 := (hk 5 (by decide)).trans f5
      replace f19 := (hk 19 (by decide)).trans f19
      replace f20 := (hk 20 (by decide)).trans f20
      clear hk hsz17 hde17
      replace f22 : a18.tmps[22]?.getD undef = .bool false := f22.trans (by first | rfl | simp)
      refine wpList_nil ?_
      refine then_go ?_
      repeat with_reducible refine wp_seq ?_
      refine wp_cond_false (eval_at f22) ?_
      refine wp_exit ?_
      repeat with_reducible refine then_exit ?_
      refine block_exit ?_
      refine then_go ?_
      clear f22 f19 f20 f21
      repeat with_reducible refine wp_seq ?_
      have HLr := Lib.hid (HL5.out.grow Hbw.out)
      have HOr := Lib.hid (Hown5.out.grow Hbw.out)
      refine wp_region_lit ?_
      refine wpList_next rfl hsz18 hde18 35 rfl (by decide) fun K hK => ?_
      go_simp
      refine hK _ _ fun a19 hsz19 hde19 f35 hk => ?_
      clear hK K
      replace f0 := (hk 0 (by decide)).trans f0
      replace f3 := (hk 3 (by decide)).trans f3
      replace f4 := (hk 4 (by decide)).trans f4
      replace f5 := (hk 5 (by decide)).trans f5
      replace f35 : a19.tmps[35]?.getD undef = u5 := f35
      clear hk hsz18 hde18
      refine wpList_next rfl hsz19 hde19 36 rfl (by decide) fun K hK => ?_
      go_simp
      refine hK _ _ fun a20 hsz20 hde20 f36 hk => ?_
      clear hK K
      replace f0 := (hk 0 (by decide)).trans f0
      replace f3 := (hk 3 (by decide)).trans f3
      replace f4 := (hk 4 (by decide)).trans f4
      replace f5 := (hk 5 (by decide)).trans f5
      replace f35 := (hk 35 (by decide)).trans f35
      replace f36 : a20.tmps[36]?.getD undef = .slice A k cc := f36
      clear hk hsz19 hde19
      refine wpList_next rfl hsz20 hde20 37 rfl (by decide) fun K hK => ?_
      refine wp_load_mid 27 (.tmp 3) rfl w.heap.size 0 (eval_at f3) BV.toList _ (HRB.out _ (below_call Hb5.out Hbw.out)) Tryd.underlying27 rfl HinfB.out ?_
      refine hK _ _ fun a21 hsz21 hde21 f37 hk => ?_
      clear hK K
      replace f0 := (hk 0 (by decide)).trans f0
      replace f3 := (hk 3 (by decide)).trans f3
      replace f4 := (hk 4 (by decide)).trans f4
      replace f5 := (hk 5 (by decide)).trans f5
      replace f35 := (hk 35 (by decide)).trans f35
      replace f36 := (hk 36 (by decide)).trans f36
      replace f37 : a21.tmps[37]?.getD undef = .agg BV := f37
      clear hk hsz20 hde20
      refine wpList_next rfl hsz21 hde21 38 rfl (by decide) fun K hK => ?_
      go_simp
      refine (Hrs.out _ HLr.out).mono ?_
      rintro e38 w38 ⟨⟨u38, rfl, hown38⟩, hb38⟩
      go_simp
      refine hK _ _ fun a22 hsz22 hde22 f38 hk => ?_
      clear hK K
      replace f0 := (hk 0 (by decide)).trans f0
      replace f3 := (hk 3 (by decide)).trans f3
      replace f4 := (hk 4 (by decide)).trans f4
      replace f5 := (hk 5 (by decide)).trans f5
      replace f35 := (hk 35 (by decide)).trans f35
      replace f38 : a22.tmps[38]?.getD undef = u38 := f38
      clear hk hsz21 hde21 f36 f37
      refine wpList_next rfl hsz22 hde22 39 rfl (by decide) fun K hK => ?_
      go_simp
      refine (erefsame_any _ _ u5 u38 M _ (HOr.out.grow hb38) hown38.isL).mono ?_
      rintro e39 w39 ⟨rfl, hb39⟩
      go_simp
      refine hK _ _ fun a23 hsz23 hde23 f39 hk => ?_
      clear hK K
      replace f0 := (hk 0 (by decide)).trans f0
      replace f3 := (hk 3 (by decide)).trans f3
      replace f4 := (hk 4 (by decide)).trans f4
      replace f5 := (hk 5 (by decide)).trans f5
      replace f39 : a23.tmps[39]?.getD undef = .bool true := f39
      clear hk hsz22 hde22 f35 f38
      refine wpList_next rfl hsz23 hde23 40 rfl (by decide) fun K hK => ?_
      go_simp
      refine hK _ _ fun a24 hsz24 hde24 f40 hk => ?_
      clear hK K
      replace f0 := (hk 0 (by decide)).trans f0
      replace f3 := (hk 3 (by decide)).trans f3
      replace f4 := (hk 4 (by decide)).trans f4
      replace f5 := (hk 5 (by decide)).trans f5
      replace f40 : a24.tmps[40]?.getD undef = .bool true := f40
      clear hk hsz23 hde23 f39
      refine wpList_nextg (wanted_of (j := 5) (t := 40) (b := true) rfl rfl f40) hsz24 hde24 41 rfl (by decide) fun K hK => ?_
      go_simp
      refine hK _ _ fun a25 hsz25 hde25 f41 hk => ?_
      clear hK K
      replace f0 := (hk 0 (by decide)).trans f0
      replace f3 := (hk 3 (by decide)).trans f3
      replace f4 := (hk 4 (by decide)).trans f4
      replace f5 := (hk 5 (by decide)).trans f5
      replace f40 := (hk 40 (by decide)).trans f40
      replace f41 : a25.tmps[41]?.getD undef = u5 := f41
      clear hk hsz24 hde24
      refine wpList_nextg (wanted_of (j := 5) (t := 40) (b := true) rfl rfl f40) hsz25 hde25 42 rfl (by decide) fun K hK => ?_
      refine wp_load_mid 27 (.tmp 3) rfl w.heap.size 0 (eval_at f3) BV.toList _ (HRB.out _ (below_call Hb5.out (below_call Hbw.out (below_call hb38 hb39)))) Tryd.underlying27 rfl HinfB.out ?_
      refine hK _ _ fun a26 hsz26 hde26 f42 hk => ?_
      clear hK K
      replace f0 := (hk 0 (by decide)).trans f0
      replace f3 := (hk 3 (by decide)).trans f3
      replace f4 := (hk 4 (by decide)).trans f4
      replace f5 := (hk 5 (by decide)).trans f5
      replace f40 := (hk 40 (by decide)).trans f40
      replace f41 := (hk 41 (by decide)).trans f41
      replace f42 : a26.tmps[42]?.getD undef = .agg BV := f42
      clear hk hsz25 hde25
      refine wpList_nextg (wanted_of (j := 5) (t := 40) (b := true) rfl rfl f40) hsz26 hde26 43 rfl (by decide) fun K hK => ?_
      go_simp
      refine (Hsw2.out _ u5 _ (HOr.out.grow (below_call hb38 hb39))).mono ?_
      rintro e43 w43 ⟨⟨u43, rfl, hown43⟩, hb43⟩
      go_simp
      refine hK _ _ fun a27 hsz27 hde27 f43 hk => ?_
      clear hK K
      replace f0 := (hk 0 (by decide)).trans f0
      replace f3 := (hk 3 (by decide)).trans f3
      replace f4 := (hk 4 (by decide)).trans f4
      replace f5 := (hk 5 (by decide)).trans f5
      replace f40 := (hk 40 (by decide)).trans f40
      replace f43 : a27.tmps[43]?.getD undef = u43 := f43
      clear hk hsz26 hde26 f41 f42
      refine wpList_nextg (wanted_of (j := 5) (t := 40) (b := true) rfl rfl f40) hsz27 hde27 44 rfl (by decide) fun K hK => ?_
      go_simp
      refine hK _ _ fun a28 hsz28 hde28 f44 hk => ?_
      clear hK K
      replace f0 := (hk 0 (by decide)).trans f0
      replace f3 := (hk 3 (by decide)).trans f3
      replace f4 := (hk 4 (by decide)).trans f4
      replace f5 := (hk 5 (by decide)).trans f5
      replace f40 := (hk 40 (by decide)).trans f40
      replace f43 := (hk 43 (by decide)).trans f43
      replace f44 : a28.tmps[44]?.getD undef = u5 := f44
      clear hk hsz27 hde27
      refine wpList_nextg (wanted_of (j := 5) (t := 40) (b := true) rfl rfl f40) hsz28 hde28 45 rfl (by decide) fun K hK => ?_
      go_simp
      refine (erefsame_any _ _ u43 u5 M _ hown43.isL (HOr.out.grow (below_call (below_call hb38 hb39) hb43))).mono ?_
      rintro e45 w45 ⟨rfl, hb45⟩
      go_simp
      refine hK _ _ fun a29 hsz29 hde29 f45 hk => ?_
      clear hK K
      replace f0 := (hk 0 (by decide)).trans f0
      replace f3 := (hk 3 (by decide)).trans f3
      replace f4 := (hk 4 (by decide)).trans f4
      replace f5 := (hk 5 (by decide)).trans f5
      replace f40 := (hk 40 (by decide)).trans f40
      replace f45 : a29.tmps[45]?.getD undef = .bool true := f45
      clear hk hsz28 hde28 f43 f44
      refine wpList_next rfl hsz29 hde29 46 rfl (by decide) fun K hK => ?_
      go_simp
      refine hK _ _ fun a30 hsz30 hde30 f46 hk => ?_
      clear hK K
      replace f0 := (hk 0 (by decide)).trans f0
      replace f3 := (hk 3 (by decide)).trans f3
      replace f4 := (hk 4 (by decide)).trans f4
      replace f5 := (hk 5 (by decide)).trans f5
      replace f46 : a30.tmps[46]?.getD undef = .bool true := f46
      clear hk hsz29 hde29 f40 f45
      refine wpList_next rfl hsz30 hde30 4 rfl (by decide) fun K hK => ?_
      go_simp
      refine hK _ _ fun a31 hsz31 hde31 f4 hk => ?_
      clear hK K
      replace f0 := (hk 0 (by decide)).trans f0
      replace f3 := (hk 3 (by decide)).trans f3
      replace f5 := (hk 5 (by decide)).trans f5
      replace f4 : a31.tmps[4]?.getD undef = .bool true := f4
      clear hk hsz30 hde30 f46
      refine wpList_nil ?_
      refine then_go ?_
      refine wp_ret ?_
      refine (ret_tmp (R := fun e2 w2 => e2 = .returned (.bool true) ∧ Below w.heap.size w w2) Tryd.results5 hde31 f4 ?_)
      exact ⟨rfl, below_call (below_call Hbel.out (below_call Hb5.out Hbw.out)) (below_call (below_call (below_call hb38 hb39) hb43) hb45)⟩
end Go.Proofs.YtckibimganmklaaDoor
