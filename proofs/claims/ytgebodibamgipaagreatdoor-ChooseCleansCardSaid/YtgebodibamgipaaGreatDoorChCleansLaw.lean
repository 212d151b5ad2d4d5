/-
  The walk of ChooseCleans.
-/
import Derived.Test.YtgebodibamgipaaGreatDoorChLives
import Derived.Test.YtgebodibamgipaaGreatDoorChRefClean
namespace Go.Proofs.YtgebodibamgipaaGreatDoor
open Go.RowKit
set_option maxRecDepth 100000

theorem clean_small {L : List Txt} : (cleanV L).1.length ≤ 8 := by
  unfold cleanV
  split
  · split
    · simp
    · show (cleanT L).length ≤ 8; omega
  · simp
theorem clean_check {L : List Txt} (h : (cleanV L).2 = 0) : chCheck (cleanV L).1 = 0 := by
  obtain ⟨h1, h2, h3⟩ := cleanV_ok h
  rw [h3]
  exact (cleanT_tops h1).check h1 h2

set_option maxHeartbeats 4000000 in
theorem choosecleans_walk (v : Value) (L : List Txt) (w : World) (hv : IsL kStr w (fun _ => True) v L) (he : Env w) :
    Calls Tryz.prog 3 #[v] w fun e w' => e = .returned (.bool true) ∧ Below w.heap.size w w' := by
  obtain ⟨A, c, ds, rfl, hc1, hc2, hds, hmany⟩ := hv
  obtain ⟨rfl, _⟩ := kStr_cells hmany
  have He := Lib.hid he
  have HL := Lib.hid hds
  have Hsh := Lib.hid fun z (hz : Below w.heap.size w z) => short14_any (fun _ => True) A c L z (hds.grow hz)
  obtain ⟨b1, hb1⟩ : ∃ b, b = shortC L := ⟨_, rfl⟩
  rw [← hb1] at Hsh
  have HB1 := Lib.hid hb1
  have Hfew := Lib.hid (show b1 = true → L.length ≤ 20 from fun h => short_few (L := L) (by rw [← hb1]; exact h))
  have Hrc := Lib.hid fun z (hz : Below w.heap.size w z) (h : b1 = true) => refclean_any (fun _ => True) A c L z (hds.grow hz) (by have := Hfew.out h; omega)
  have Hck := Lib.hid fun z (hz : Below w.heap.size w z) (h : b1 = true) => check14_any (fun _ => True) A c L z (he.grow hz) (hds.grow hz) (by have := Hfew.out h; omega)
  have Hrk := Lib.hid fun z (hz : Below w.heap.size w z) (h : b1 = true) => refcheck14_any (fun _ => True) A c L z (hds.grow hz) (by have := Hfew.out h; omega)
  have Hlv := Lib.hid fun z (hz : Below w.heap.size w z) => lives14_any z (he.grow hz)
  obtain ⟨n, hn⟩ : ∃ n, n = L.length := ⟨_, rfl⟩
  have Hn := Lib.hid hn
  rw [← hn] at Hsh Hrc Hck Hrk ⊢
  clear hmany hc1 hc2 hds he hb1 hn
  go_enter Tryz.func3, Tryz.ntmps3
  refine enter_abs (N := 58) rfl rfl fun a0 hsz0 hde0 hk => ?_
  have f0 : a0.tmps[0]?.getD undef = .slice A n c := hk 0
  clear hk
  repeat with_reducible refine wp_seq ?_
  refine wp_region_lit ?_
  refine wpList_next rfl hsz0 hde0 2 rfl (by decide) fun K hK => ?_
  go_simp
  refine hK _ _ fun a1 hsz1 hde1 f2 hk => ?_
  clear hK K
  replace f0 := (hk 0 (by decide)).trans f0
  clear hk hsz0 hde0
  refine wpList_nil ?_
  clear f2
  refine then_go ?_
  repeat with_reducible refine wp_seq ?_
  have Hw0 := Lib.hid (Below.refl w.heap.size w)
  refine wp_region_lit ?_
  refine wpList_next rfl hsz1 hde1 8 rfl (by decide) fun K hK => ?_
  go_simp
  refine (Hlv.out _ Hw0.out).mono ?_
  rintro e1 w1 ⟨rfl, hb9⟩
  go_simp
  refine hK _ _ fun a2 hsz2 hde2 f8 hk => ?_
  clear hK K
  replace f0 := (hk 0 (by decide)).trans f0
  replace f8 : a2.tmps[8]?.getD undef = .bool true := f8
  clear hk hsz1 hde1
  have Hw1 := Lib.hid (below_call Hw0.out hb9)
  clear hb9
  refine wpList_next rfl hsz2 hde2 9 rfl (by decide) fun K hK => ?_
  go_simp
  refine hK _ _ fun a3 hsz3 hde3 f9 hk => ?_
  clear hK K
  replace f0 := (hk 0 (by decide)).trans f0
  replace f9 : a3.tmps[9]?.getD undef = .bool false := f9
  clear hk hsz2 hde2 f8
  refine wpList_next rfl hsz3 hde3 10 rfl (by decide) fun K hK => ?_
  go_simp
  refine hK _ _ fun a4 hsz4 hde4 f10 hk => ?_
  clear hK K
  replace f0 := (hk 0 (by decide)).trans f0
  replace f10 : a4.tmps[10]?.getD undef = .bool false := f10
  clear hk hsz3 hde3 f9
  refine wpList_nextg (wanted_of (j := 2) (t := 10) (b := false) rfl rfl f10) hsz4 hde4 11 rfl (by decide) fun K hK => ?_
  go_simp
  refine hK _ _ fun a5 hsz5 hde5 f11 hk => ?_
  clear hK K
  replace f0 := (hk 0 (by decide)).trans f0
  replace f10 := (hk 10 (by decide)).trans f10
  replace f11 : a5.tmps[11]?.getD undef = .slice A n c := f11
  clear hk hsz4 hde4
  refine wpList_nextg (wanted_of (j := 2) (t := 10) (b := false) rfl rfl f10) hsz5 hde5 12 rfl (by decide) fun K hK => ?_
  go_simp
  refine (Hsh.out _ Hw1.out).mono ?_
  rintro e2 w2 ⟨rfl, rfl⟩
  go_simp
  refine hK _ _ fun a6 hsz6 hde6 f12 hk => ?_
  clear hK K
  replace f0 := (hk 0 (by decide)).trans f0
  replace f10 := (hk 10 (by decide)).trans f10
  replace f12 : a6.tmps[12]?.getD undef = .bool b1 := f12
  clear hk hsz5 hde5 f11
  refine wpList_nextg (wanted_of (j := 2) (t := 10) (b := false) rfl rfl f10) hsz6 hde6 13 rfl (by decide) fun K hK => ?_
  go_simp
  refine hK _ _ fun a7 hsz7 hde7 f13 hk => ?_
  clear hK K
  replace f0 := (hk 0 (by decide)).trans f0
  replace f10 := (hk 10 (by decide)).trans f10
  replace f13 : a7.tmps[13]?.getD undef = .bool (!b1) := f13
  clear hk hsz6 hde6 f12
  refine wpList_next rfl hsz7 hde7 14 rfl (by decide) fun K hK => ?_
  go_simp
  refine hK _ _ fun a8 hsz8 hde8 f14 hk => ?_
  clear hK K
  replace f0 := (hk 0 (by decide)).trans f0
  replace f14 : a8.tmps[14]?.getD undef = .bool (!b1) := f14
  clear hk hsz7 hde7 f10 f13
  refine wpList_nil ?_
  refine then_go ?_
  repeat with_reducible refine wp_seq ?_
  cases b1 with
  | false =>
    replace f14 : a8.tmps[14]?.getD undef = .bool true := f14
    refine wp_cond_true (eval_at f14) ?_
    clear f14
    repeat with_reducible refine wp_seq ?_
    refine wp_region_lit ?_
    refine wpList_next rfl hsz8 hde8 15 rfl (by decide) fun K hK => ?_
    go_simp
    refine (Hlv.out _ Hw1.out).mono ?_
    rintro e8 w8 ⟨rfl, hb9⟩
    go_simp
    refine hK _ _ fun a9 hsz9 hde9 f15 hk => ?_
    clear hK K
    replace f0 := (hk 0 (by decide)).trans f0
    replace f15 : a9.tmps[15]?.getD undef = .bool true := f15
    clear hk hsz8 hde8
    have Hwx := Lib.hid (below_call Hw1.out hb9)
    clear hb9
    refine wpList_next rfl hsz9 hde9 2 rfl (by decide) fun K hK => ?_
    go_simp
    refine hK _ _ fun a10 hsz10 hde10 f2 hk => ?_
    clear hK K
    replace f0 := (hk 0 (by decide)).trans f0
    replace f2 : a10.tmps[2]?.getD undef = .bool true := f2
    clear hk hsz9 hde9 f15
    refine wpList_nil ?_
    refine then_go ?_
    refine wp_ret ?_
    repeat first | with_reducible refine then_ret ?_ | with_reducible refine block_ret ?_
    refine ret_tmp Tryz.results3 hde10 f2 ?_
    exact ⟨rfl, Hwx.out⟩
  | true =>
    replace f14 : a8.tmps[14]?.getD undef = .bool false := f14
    refine wp_cond_false (eval_at f14) ?_
    refine wp_skip ?_
    refine then_go ?_
    clear f14
    repeat with_reducible refine wp_seq ?_
    have hn20 : n ≤ 20 := by rw [Hn.out]; exact Hfew.out rfl
    refine wp_region_lit ?_
    refine wpList_next rfl hsz8 hde8 16 rfl (by decide) fun K hK => ?_
    go_simp
    refine hK _ _ fun a9 hsz9 hde9 f16 hk => ?_
    clear hK K
    replace f0 := (hk 0 (by decide)).trans f0
    replace f16 : a9.tmps[16]?.getD undef = .slice (some ⟨w1.heap.size, 0, none⟩) 0 0 := f16
    clear hk hsz8 hde8
    refine wpList_next rfl hsz9 hde9 17 rfl (by decide) fun K hK => ?_
    go_simp
    refine hK _ _ fun a10 hsz10 hde10 f17 hk => ?_
    clear hK K
    replace f0 := (hk 0 (by decide)).trans f0
    replace f16 := (hk 16 (by decide)).trans f16
    replace f17 : a10.tmps[17]?.getD undef = .slice A n c := f17
    clear hk hsz9 hde9
    refine wpList_next rfl hsz10 hde10 18 rfl (by decide) fun K hK => ?_
    obtain ⟨we, hwe⟩ : ∃ z, z = w1.alloc (.cells #[] 9) := ⟨_, rfl⟩
    have Hoe := Lib.hid (show OwnK we w1.heap.size 9 1 (.slice (some ⟨w1.heap.size, 0, none⟩) 0 0) 0 [] by rw [hwe]; exact OwnK.empty w1 9 1)
    have Hbe := Lib.hid (show Below w1.heap.size w1 we by rw [hwe]; exact (Below.refl _ _).alloc (Nat.le_refl _) _)
    rw [← hwe]
    clear hwe
    refine wp_appK elemS1 (.tmp 16) (.tmp 17) rfl w1.heap.size 0 _ [] (eval_at f16) Hoe.out _ A n c (L.map str) (by rw [List.length_map, Hn.out, Nat.mul_one]) (eval_at f17) (HL.out.grow (below_call Hw1.out Hbe.out)) (by intro u hu; obtain ⟨z, _, rfl⟩ := List.mem_map.1 hu; rfl) (by omega) (by omega) Hbe.out.size ?_
    intro v5 w5 hown5 hg5 hat5
    rw [Nat.zero_add, List.nil_append] at hown5
    have Hw2 := Lib.hid (below_call Hw1.out (Hbe.out.trans (OwnK.below_of Hoe.out hg5 Hbe.out.size (Nat.le_refl _))))
    obtain ⟨Ao, co, ho, hco1, hco2, hro⟩ := OwnT.form (T := L) (base := w1.heap.size) (by unfold OwnT; rw [← Hn.out]; exact hown5)
    obtain ⟨no, hno⟩ : ∃ q, q = L.length := ⟨_, rfl⟩
    rw [← hno] at ho
    subst ho
    have Hro := Lib.hid hro
    have Hno := Lib.hid hno
    clear hown5 hg5 hat5 hro hno hco1 hco2
    refine hK _ _ fun a11 hsz11 hde11 f18 hk => ?_
    clear hK K
    replace f0 := (hk 0 (by decide)).trans f0
    replace f18 : a11.tmps[18]?.getD undef = .slice Ao no co := f18
    clear hk hsz10 hde10 f16 f17
    refine wpList_next rfl hsz11 hde11 3 rfl (by decide) fun K hK => ?_
    go_simp
    refine hK _ _ fun a12 hsz12 hde12 f3 hk => ?_
    clear hK K
    replace f0 := (hk 0 (by decide)).trans f0
    replace f3 : a12.tmps[3]?.getD undef = .slice Ao no co := f3
    clear hk hsz11 hde11 f18
    refine wpList_nil ?_
    refine then_go ?_
    repeat with_reducible refine wp_seq ?_
    have Hcl := Lib.hid (clean_any _ Ao co L w5 (He.out.grow Hw2.out) Hro.out (by rw [← Hn.out]; omega))
    obtain ⟨E, hE⟩ : ∃ E, E = (cleanV L).2 := ⟨_, rfl⟩
    obtain ⟨T, hT⟩ : ∃ O, O = (cleanV L).1 := ⟨_, rfl⟩
    rw [← hE, ← hT, ← Hno.out] at Hcl
    rw [← hE, ← hT] at Hrc
    have hT8 : T.length ≤ 8 := by rw [hT]; exact clean_small
    have HE := Lib.hid hE
    have HT := Lib.hid hT
    clear hE hT
    refine wp_region_lit ?_
    refine wpList_next rfl hsz12 hde12 20 rfl (by decide) fun K hK => ?_
    go_simp
    refine hK _ _ fun a13 hsz13 hde13 f20 hk => ?_
    clear hK K
    replace f0 := (hk 0 (by decide)).trans f0
    replace f3 := (hk 3 (by decide)).trans f3
    replace f20 : a13.tmps[20]?.getD undef = .slice Ao no co := f20
    clear hk hsz12 hde12
    refine wpList_next rfl hsz13 hde13 21 rfl (by decide) fun K hK => ?_
    go_simp
    refine Hcl.out.mono ?_
    rintro e3 w3 ⟨⟨vo, rfl, hto⟩, hb9⟩
    have Hb3 := Lib.hid hb9
    have Hw3 := Lib.hid (below_call Hw2.out hb9)
    have Hto := Lib.hid hto
    clear hto hb9
    go_simp
    refine hK _ _ fun a14 hsz14 hde14 f21 hk => ?_
    clear hK K
    replace f0 := (hk 0 (by decide)).trans f0
    replace f3 := (hk 3 (by decide)).trans f3
    replace f21 : a14.tmps[21]?.getD undef = .tuple #[vo, .int .i64 E] := f21
    clear hk hsz13 hde13 f20
    refine wpList_next rfl hsz14 hde14 19 rfl (by decide) fun K hK => ?_
    go_simp
    refine hK _ _ fun a15 hsz15 hde15 f19 hk => ?_
    clear hK K
    replace f0 := (hk 0 (by decide)).trans f0
    replace f3 := (hk 3 (by decide)).trans f3
    replace f19 : a15.tmps[19]?.getD undef = .tuple #[vo, .int .i64 E] := f19
    clear hk hsz14 hde14 f21
    refine wpList_next rfl hsz15 hde15 22 rfl (by decide) fun K hK => ?_
    go_simp
    refine hK _ _ fun a16 hsz16 hde16 f22 hk => ?_
    clear hK K
    replace f0 := (hk 0 (by decide)).trans f0
    replace f3 := (hk 3 (by decide)).trans f3
    replace f19 := (hk 19 (by decide)).trans f19
    replace f22 : a16.tmps[22]?.getD undef = vo := f22
    clear hk hsz15 hde15
    refine wpList_next rfl hsz16 hde16 23 rfl (by decide) fun K hK => ?_
    go_simp
    refine hK _ _ fun a17 hsz17 hde17 f23 hk => ?_
    clear hK K
    replace f0 := (hk 0 (by decide)).trans f0
    replace f3 := (hk 3 (by decide)).trans f3
    replace f22 := (hk 22 (by decide)).trans f22
    replace f23 : a17.tmps[23]?.getD undef = .int .i64 E := f23
    clear hk hsz16 hde16 f19
    refine wpList_next rfl hsz17 hde17 4 rfl (by decide) fun K hK => ?_
    go_simp
    refine hK _ _ fun a18 hsz18 hde18 f4 hk => ?_
    clear hK K
    replace f0 := (hk 0 (by decide)).trans f0
    replace f3 := (hk 3 (by decide)).trans f3
    replace f23 := (hk 23 (by decide)).trans f23
    replace f4 : a18.tmps[4]?.getD undef = vo := f4
    clear hk hsz17 hde17 f22
    refine wpList_next rfl hsz18 hde18 5 rfl (by decide) fun K hK => ?_
    go_simp
    refine hK _ _ fun a19 hsz19 hde19 f5 hk => ?_
    clear hK K
    replace f0 := (hk 0 (by decide)).trans f0
    replace f3 := (hk 3 (by decide)).trans f3
    replace f4 := (hk 4 (by decide)).trans f4
    replace f5 : a19.tmps[5]?.getD undef = .int .i64 E := f5
    clear hk hsz18 hde18 f23
    refine wpList_nil ?_
    refine then_go ?_
    repeat with_reducible refine wp_seq ?_
    refine wp_region_lit ?_
    refine wpList_next rfl hsz19 hde19 25 rfl (by decide) fun K hK => ?_
    go_simp
    refine hK _ _ fun a20 hsz20 hde20 f25 hk => ?_
    clear hK K
    replace f0 := (hk 0 (by decide)).trans f0
    replace f3 := (hk 3 (by decide)).trans f3
    replace f4 := (hk 4 (by decide)).trans f4
    replace f5 := (hk 5 (by decide)).trans f5
    replace f25 : a20.tmps[25]?.getD undef = .slice A n c := f25
    clear hk hsz19 hde19
    refine wpList_next rfl hsz20 hde20 26 rfl (by decide) fun K hK => ?_
    go_simp
    refine (Hrc.out _ Hw3.out rfl).mono ?_
    rintro e4 w4 ⟨⟨vr, rfl, htr⟩, hb9⟩
    have Hb4 := Lib.hid hb9
    have Hw4 := Lib.hid (below_call Hw3.out hb9)
    have Htr := Lib.hid htr
    clear htr hb9
    go_simp
    refine hK _ _ fun a21 hsz21 hde21 f26 hk => ?_
    clear hK K
    replace f0 := (hk 0 (by decide)).trans f0
    replace f3 := (hk 3 (by decide)).trans f3
    replace f4 := (hk 4 (by decide)).trans f4
    replace f5 := (hk 5 (by decide)).trans f5
    replace f26 : a21.tmps[26]?.getD undef = .tuple #[vr, .int .i64 E] := f26
    clear hk hsz20 hde20 f25
    refine wpList_next rfl hsz21 hde21 24 rfl (by decide) fun K hK => ?_
    go_simp
    refine hK _ _ fun a22 hsz22 hde22 f24 hk => ?_
    clear hK K
    replace f0 := (hk 0 (by decide)).trans f0
    replace f3 := (hk 3 (by decide)).trans f3
    replace f4 := (hk 4 (by decide)).trans f4
    replace f5 := (hk 5 (by decide)).trans f5
    replace f24 : a22.tmps[24]?.getD undef = .tuple #[vr, .int .i64 E] := f24
    clear hk hsz21 hde21 f26
    refine wpList_next rfl hsz22 hde22 27 rfl (by decide) fun K hK => ?_
    go_simp
    refine hK _ _ fun a23 hsz23 hde23 f27 hk => ?_
    clear hK K
    replace f0 := (hk 0 (by decide)).trans f0
    replace f3 := (hk 3 (by decide)).trans f3
    replace f4 := (hk 4 (by decide)).trans f4
    replace f5 := (hk 5 (by decide)).trans f5
    replace f24 := (hk 24 (by decide)).trans f24
    replace f27 : a23.tmps[27]?.getD undef = vr := f27
    clear hk hsz22 hde22
    refine wpList_next rfl hsz23 hde23 28 rfl (by decide) fun K hK => ?_
    go_simp
    refine hK _ _ fun a24 hsz24 hde24 f28 hk => ?_
    clear hK K
    replace f0 := (hk 0 (by decide)).trans f0
    replace f3 := (hk 3 (by decide)).trans f3
    replace f4 := (hk 4 (by decide)).trans f4
    replace f5 := (hk 5 (by decide)).trans f5
    replace f27 := (hk 27 (by decide)).trans f27
    replace f28 : a24.tmps[28]?.getD undef = .int .i64 E := f28
    clear hk hsz23 hde23 f24
    refine wpList_next rfl hsz24 hde24 6 rfl (by decide) fun K hK => ?_
    go_simp
    refine hK _ _ fun a25 hsz25 hde25 f6 hk => ?_
    clear hK K
    replace f0 := (hk 0 (by decide)).trans f0
    replace f3 := (hk 3 (by decide)).trans f3
    replace f4 := (hk 4 (by decide)).trans f4
    replace f5 := (hk 5 (by decide)).trans f5
    replace f28 := (hk 28 (by decide)).trans f28
    replace f6 : a25.tmps[6]?.getD undef = vr := f6
    clear hk hsz24 hde24 f27
    refine wpList_next rfl hsz25 hde25 7 rfl (by decide) fun K hK => ?_
    go_simp
    refine hK _ _ fun a26 hsz26 hde26 f7 hk => ?_
    clear hK K
    replace f0 := (hk 0 (by decide)).trans f0
    replace f3 := (hk 3 (by decide)).trans f3
    replace f4 := (hk 4 (by decide)).trans f4
    replace f5 := (hk 5 (by decide)).trans f5
    replace f6 := (hk 6 (by decide)).trans f6
    replace f7 : a26.tmps[7]?.getD undef = .int .i64 E := f7
    clear hk hsz25 hde25 f28
    refine wpList_nil ?_
    refine then_go ?_
    repeat with_reducible refine wp_seq ?_
    obtain ⟨A1, c1, hv1, _, _, hr1⟩ := Hto.out
    obtain ⟨A2, c2, hv2, _, _, hr2⟩ := Htr.out
    have h1 := hr1.grow Hb4.out
    have h1 := hr1.grow Hb4.out
    have hs1 := same14_any _ _ A1 A2 c1 c2 T T w4 h1 hr2 (by omega)
    have hs2 := fun z (hz : Below w4.heap.size w4 z) => same14_any _ _ Ao A co c L L z (((Hro.out.grow Hb3.out).grow Hb4.out).grow hz) (HL.out.grow (below_call Hw4.out hz)) (by rw [← Hn.out]; omega)
    have hself : (T == T) = true := beq_self_eq_true _
    have hself2 : (L == L) = true := beq_self_eq_true _
    unfold SamePost14 at hs1 hs2
    rw [hself] at hs1
    simp only [hself2, ← Hno.out] at hs2
    obtain ⟨m, hm⟩ : ∃ m, m = T.length := ⟨_, rfl⟩
    rw [← hm] at hs1 hv1 hv2
    have hkk := fun z (hz : Below w3.heap.size w3 z) => check14_any _ A1 c1 T z (He.out.grow (below_call Hw3.out hz)) (hr1.grow hz) (by omega)
    rw [← hm] at hkk
    have Hs1 := Lib.hid hs1
    have Hs2 := Lib.hid hs2
    have Hkk := Lib.hid hkk
    subst hv1
    subst hv2
    obtain ⟨K, hK⟩ : ∃ K, K = chCheck L := ⟨_, rfl⟩
    rw [← hK] at Hck Hrk
    clear hr1 hr2 h1 hs1 hs2 hself hself2 hkk hK hm
    have hs2b := Hs2.out
    have Hs3 := Lib.hid (show ∀ z, Below w4.heap.size w4 z → Calls Tryz.prog 8 #[.slice Ao no co, .slice A n c] z fun e w' => e = .returned (.bool true) ∧ Below z.heap.size z w' from fun z hz => by have h := hs2b z hz; rw [show no = n by rw [Hno.out, Hn.out]] at h ⊢; exact h)
    clear hs2b
    refine wp_region_lit ?_
    refine wpList_next rfl hsz26 hde26 29 rfl (by decide) fun K hK => ?_
    go_simp
    refine hK _ _ fun a27 hsz27 hde27 f29 hk => ?_
    clear hK K
    replace f0 := (hk 0 (by decide)).trans f0
    replace f3 := (hk 3 (by decide)).trans f3
    replace f4 := (hk 4 (by decide)).trans f4
    replace f5 := (hk 5 (by decide)).trans f5
    replace f6 := (hk 6 (by decide)).trans f6
    replace f7 := (hk 7 (by decide)).trans f7
    replace f29 : a27.tmps[29]?.getD undef = .slice A1 m c1 := f29
    clear hk hsz26 hde26
    refine wpList_next rfl hsz27 hde27 30 rfl (by decide) fun K hK => ?_
    go_simp
    refine hK _ _ fun a28 hsz28 hde28 f30 hk => ?_
    clear hK K
    replace f0 := (hk 0 (by decide)).trans f0
    replace f3 := (hk 3 (by decide)).trans f3
    replace f4 := (hk 4 (by decide)).trans f4
    replace f5 := (hk 5 (by decide)).trans f5
    replace f6 := (hk 6 (by decide)).trans f6
    replace f7 := (hk 7 (by decide)).trans f7
    replace f29 := (hk 29 (by decide)).trans f29
    replace f30 : a28.tmps[30]?.getD undef = .slice A2 m c2 := f30
    clear hk hsz27 hde27
    refine wpList_next rfl hsz28 hde28 31 rfl (by decide) fun K hK => ?_
    go_simp
    refine (Hs1.out).mono ?_
    rintro e5 w5b ⟨rfl, hb9⟩
    go_simp
    refine hK _ _ fun a29 hsz29 hde29 f31 hk => ?_
    clear hK K
    replace f0 := (hk 0 (by decide)).trans f0
    replace f3 := (hk 3 (by decide)).trans f3
    replace f4 := (hk 4 (by decide)).trans f4
    replace f5 := (hk 5 (by decide)).trans f5
    replace f6 := (hk 6 (by decide)).trans f6
    replace f7 := (hk 7 (by decide)).trans f7
    replace f31 : a29.tmps[31]?.getD undef = .bool true := f31
    clear hk hsz28 hde28 f29 f30
    have Hb5 := Lib.hid hb9
    clear hb9
    refine wpList_next rfl hsz29 hde29 32 rfl (by decide) fun K hK => ?_
    go_simp
    refine hK _ _ fun a30 hsz30 hde30 f32 hk => ?_
    clear hK K
    replace f0 := (hk 0 (by decide)).trans f0
    replace f3 := (hk 3 (by decide)).trans f3
    replace f4 := (hk 4 (by decide)).trans f4
    replace f5 := (hk 5 (by decide)).trans f5
    replace f6 := (hk 6 (by decide)).trans f6
    replace f7 := (hk 7 (by decide)).trans f7
    replace f32 : a30.tmps[32]?.getD undef = .bool false := f32
    clear hk hsz29 hde29 f31
    refine wpList_next rfl hsz30 hde30 33 rfl (by decide) fun K hK => ?_
    go_simp
    refine hK _ _ fun a31 hsz31 hde31 f33 hk => ?_
    clear hK K
    replace f0 := (hk 0 (by decide)).trans f0
    replace f3 := (hk 3 (by decide)).trans f3
    replace f4 := (hk 4 (by decide)).trans f4
    replace f5 := (hk 5 (by decide)).trans f5
    replace f6 := (hk 6 (by decide)).trans f6
    replace f7 := (hk 7 (by decide)).trans f7
    replace f33 : a31.tmps[33]?.getD undef = .bool false := f33
    clear hk hsz30 hde30 f32
    refine wpList_nextg (wanted_of (j := 4) (t := 33) (b := false) rfl rfl f33) hsz31 hde31 34 rfl (by decide) fun K hK => ?_
    go_simp
    refine hK _ _ fun a32 hsz32 hde32 f34 hk => ?_
    clear hK K
    replace f0 := (hk 0 (by decide)).trans f0
    replace f3 := (hk 3 (by decide)).trans f3
    replace f4 := (hk 4 (by decide)).trans f4
    replace f5 := (hk 5 (by decide)).trans f5
    replace f6 := (hk 6 (by decide)).trans f6
    replace f7 := (hk 7 (by decide)).trans f7
    replace f33 := (hk 33 (by decide)).trans f33
    replace f34 : a32.tmps[34]?.getD undef = .int .i64 E := f34
    clear hk hsz31 hde31
    refine wpList_nextg (wanted_of (j := 4) (t := 33) (b := false) rfl rfl f33) hsz32 hde32 35 rfl (by decide) fun K hK => ?_
    go_simp
    refine hK _ _ fun a33 hsz33 hde33 f35 hk => ?_
    clear hK K
    replace f0 := (hk 0 (by decide)).trans f0
    replace f3 := (hk 3 (by decide)).trans f3
    replace f4 := (hk 4 (by decide)).trans f4
    replace f5 := (hk 5 (by decide)).trans f5
    replace f6 := (hk 6 (by decide)).trans f6
    replace f7 := (hk 7 (by decide)).trans f7
    replace f33 := (hk 33 (by decide)).trans f33
    replace f34 := (hk 34 (by decide)).trans f34
    replace f35 : a33.tmps[35]?.getD undef = .int .i64 E := f35
    clear hk hsz32 hde32
    refine wpList_nextg (wanted_of (j := 4) (t := 33) (b := false) rfl rfl f33) hsz33 hde33 36 rfl (by decide) fun K hK => ?_
    go_simp
    refine hK _ _ fun a34 hsz34 hde34 f36 hk => ?_
    clear hK K
    replace f0 := (hk 0 (by decide)).trans f0
    replace f3 := (hk 3 (by decide)).trans f3
    replace f4 := (hk 4 (by decide)).trans f4
    replace f5 := (hk 5 (by decide)).trans f5
    replace f6 := (hk 6 (by decide)).trans f6
    replace f7 := (hk 7 (by decide)).trans f7
    replace f33 := (hk 33 (by decide)).trans f33
    clear hk hsz33 hde33 f34 f35
    replace f36 : a34.tmps[36]?.getD undef = .bool false := f36.trans (by first | rfl | (simp; done) | (congr 1; simp))
    refine wpList_next rfl hsz34 hde34 37 rfl (by decide) fun K hK => ?_
    go_simp
    refine hK _ _ fun a35 hsz35 hde35 f37 hk => ?_
    clear hK K
    replace f0 := (hk 0 (by decide)).trans f0
    replace f3 := (hk 3 (by decide)).trans f3
    replace f4 := (hk 4 (by decide)).trans f4
    replace f5 := (hk 5 (by decide)).trans f5
    replace f6 := (hk 6 (by decide)).trans f6
    replace f7 := (hk 7 (by decide)).trans f7
    replace f37 : a35.tmps[37]?.getD undef = .bool false := f37
    clear hk hsz34 hde34 f33 f36
    refine wpList_next rfl hsz35 hde35 38 rfl (by decide) fun K hK => ?_
    go_simp
    refine hK _ _ fun a36 hsz36 hde36 f38 hk => ?_
    clear hK K
    replace f0 := (hk 0 (by decide)).trans f0
    replace f3 := (hk 3 (by decide)).trans f3
    replace f4 := (hk 4 (by decide)).trans f4
    replace f5 := (hk 5 (by decide)).trans f5
    replace f6 := (hk 6 (by decide)).trans f6
    replace f7 := (hk 7 (by decide)).trans f7
    replace f38 : a36.tmps[38]?.getD undef = .bool false := f38
    clear hk hsz35 hde35 f37
    refine wpList_nextg (wanted_of (j := 9) (t := 38) (b := false) rfl rfl f38) hsz36 hde36 39 rfl (by decide) fun K hK => ?_
    go_simp
    refine hK _ _ fun a37 hsz37 hde37 f39 hk => ?_
    clear hK K
    replace f0 := (hk 0 (by decide)).trans f0
    replace f3 := (hk 3 (by decide)).trans f3
    replace f4 := (hk 4 (by decide)).trans f4
    replace f5 := (hk 5 (by decide)).trans f5
    replace f6 := (hk 6 (by decide)).trans f6
    replace f7 := (hk 7 (by decide)).trans f7
    replace f38 := (hk 38 (by decide)).trans f38
    replace f39 : a37.tmps[39]?.getD undef = .slice Ao no co := f39
    clear hk hsz36 hde36
    refine wpList_nextg (wanted_of (j := 9) (t := 38) (b := false) rfl rfl f38) hsz37 hde37 40 rfl (by decide) fun K hK => ?_
    go_simp
    refine hK _ _ fun a38 hsz38 hde38 f40 hk => ?_
    clear hK K
    replace f0 := (hk 0 (by decide)).trans f0
    replace f3 := (hk 3 (by decide)).trans f3
    replace f4 := (hk 4 (by decide)).trans f4
    replace f5 := (hk 5 (by decide)).trans f5
    replace f6 := (hk 6 (by decide)).trans f6
    replace f7 := (hk 7 (by decide)).trans f7
    replace f38 := (hk 38 (by decide)).trans f38
    replace f39 := (hk 39 (by decide)).trans f39
    replace f40 : a38.tmps[40]?.getD undef = .slice A n c := f40
    clear hk hsz37 hde37
    refine wpList_nextg (wanted_of (j := 9) (t := 38) (b := false) rfl rfl f38) hsz38 hde38 41 rfl (by decide) fun K hK => ?_
    go_simp
    refine (Hs3.out _ Hb5.out).mono ?_
    rintro e6 w6 ⟨rfl, hb9⟩
    go_simp
    refine hK _ _ fun a39 hsz39 hde39 f41 hk => ?_
    clear hK K
    replace f0 := (hk 0 (by decide)).trans f0
    replace f3 := (hk 3 (by decide)).trans f3
    replace f4 := (hk 4 (by decide)).trans f4
    replace f5 := (hk 5 (by decide)).trans f5
    replace f6 := (hk 6 (by decide)).trans f6
    replace f7 := (hk 7 (by decide)).trans f7
    replace f38 := (hk 38 (by decide)).trans f38
    replace f41 : a39.tmps[41]?.getD undef = .bool true := f41
    clear hk hsz38 hde38 f39 f40
    have Hb6 := Lib.hid (below_call Hb5.out hb9)
    clear hb9
    refine wpList_nextg (wanted_of (j := 9) (t := 38) (b := false) rfl rfl f38) hsz39 hde39 42 rfl (by decide) fun K hK => ?_
    go_simp
    refine hK _ _ fun a40 hsz40 hde40 f42 hk => ?_
    clear hK K
    replace f0 := (hk 0 (by decide)).trans f0
    replace f3 := (hk 3 (by decide)).trans f3
    replace f4 := (hk 4 (by decide)).trans f4
    replace f5 := (hk 5 (by decide)).trans f5
    replace f6 := (hk 6 (by decide)).trans f6
    replace f7 := (hk 7 (by decide)).trans f7
    replace f38 := (hk 38 (by decide)).trans f38
    replace f42 : a40.tmps[42]?.getD undef = .bool false := f42
    clear hk hsz39 hde39 f41
    refine wpList_next rfl hsz40 hde40 43 rfl (by decide) fun K hK => ?_
    go_simp
    refine hK _ _ fun a41 hsz41 hde41 f43 hk => ?_
    clear hK K
    replace f0 := (hk 0 (by decide)).trans f0
    replace f3 := (hk 3 (by decide)).trans f3
    replace f4 := (hk 4 (by decide)).trans f4
    replace f5 := (hk 5 (by decide)).trans f5
    replace f6 := (hk 6 (by decide)).trans f6
    replace f7 := (hk 7 (by decide)).trans f7
    replace f43 : a41.tmps[43]?.getD undef = .bool false := f43
    clear hk hsz40 hde40 f38 f42
    refine wpList_next rfl hsz41 hde41 44 rfl (by decide) fun K hK => ?_
    go_simp
    refine hK _ _ fun a42 hsz42 hde42 f44 hk => ?_
    clear hK K
    replace f0 := (hk 0 (by decide)).trans f0
    replace f3 := (hk 3 (by decide)).trans f3
    replace f4 := (hk 4 (by decide)).trans f4
    replace f5 := (hk 5 (by decide)).trans f5
    replace f6 := (hk 6 (by decide)).trans f6
    replace f7 := (hk 7 (by decide)).trans f7
    replace f44 : a42.tmps[44]?.getD undef = .bool false := f44
    clear hk hsz41 hde41 f43
    refine wpList_nextg (wanted_of (j := 15) (t := 44) (b := false) rfl rfl f44) hsz42 hde42 45 rfl (by decide) fun K hK => ?_
    go_simp
    refine hK _ _ fun a43 hsz43 hde43 f45 hk => ?_
    clear hK K
    replace f0 := (hk 0 (by decide)).trans f0
    replace f3 := (hk 3 (by decide)).trans f3
    replace f4 := (hk 4 (by decide)).trans f4
    replace f5 := (hk 5 (by decide)).trans f5
    replace f6 := (hk 6 (by decide)).trans f6
    replace f7 := (hk 7 (by decide)).trans f7
    replace f44 := (hk 44 (by decide)).trans f44
    replace f45 : a43.tmps[45]?.getD undef = .slice A n c := f45
    clear hk hsz42 hde42
    refine wpList_nextg (wanted_of (j := 15) (t := 44) (b := false) rfl rfl f44) hsz43 hde43 46 rfl (by decide) fun K hK => ?_
    go_simp
    refine (Hck.out _ (below_call Hw4.out Hb6.out) rfl).mono ?_
    rintro e7 w7 ⟨rfl, hb9⟩
    go_simp
    refine hK _ _ fun a44 hsz44 hde44 f46 hk => ?_
    clear hK K
    replace f0 := (hk 0 (by decide)).trans f0
    replace f3 := (hk 3 (by decide)).trans f3
    replace f4 := (hk 4 (by decide)).trans f4
    replace f5 := (hk 5 (by decide)).trans f5
    replace f6 := (hk 6 (by decide)).trans f6
    replace f7 := (hk 7 (by decide)).trans f7
    replace f44 := (hk 44 (by decide)).trans f44
    replace f46 : a44.tmps[46]?.getD undef = .int .i64 K := f46
    clear hk hsz43 hde43 f45
    have Hb7 := Lib.hid (below_call Hb6.out hb9)
    clear hb9
    refine wpList_nextg (wanted_of (j := 15) (t := 44) (b := false) rfl rfl f44) hsz44 hde44 47 rfl (by decide) fun K hK => ?_
    go_simp
    refine hK _ _ fun a45 hsz45 hde45 f47 hk => ?_
    clear hK K
    replace f0 := (hk 0 (by decide)).trans f0
    replace f3 := (hk 3 (by decide)).trans f3
    replace f4 := (hk 4 (by decide)).trans f4
    replace f5 := (hk 5 (by decide)).trans f5
    replace f6 := (hk 6 (by decide)).trans f6
    replace f7 := (hk 7 (by decide)).trans f7
    replace f44 := (hk 44 (by decide)).trans f44
    replace f46 := (hk 46 (by decide)).trans f46
    replace f47 : a45.tmps[47]?.getD undef = .slice A n c := f47
    clear hk hsz44 hde44
    refine wpList_nextg (wanted_of (j := 15) (t := 44) (b := false) rfl rfl f44) hsz45 hde45 48 rfl (by decide) fun K hK => ?_
    go_simp
    refine (Hrk.out _ (below_call Hw4.out Hb7.out) rfl).mono ?_
    rintro e8 w8 ⟨rfl, hb9⟩
    go_simp
    refine hK _ _ fun a46 hsz46 hde46 f48 hk => ?_
    clear hK K
    replace f0 := (hk 0 (by decide)).trans f0
    replace f3 := (hk 3 (by decide)).trans f3
    replace f4 := (hk 4 (by decide)).trans f4
    replace f5 := (hk 5 (by decide)).trans f5
    replace f6 := (hk 6 (by decide)).trans f6
    replace f7 := (hk 7 (by decide)).trans f7
    replace f44 := (hk 44 (by decide)).trans f44
    replace f46 := (hk 46 (by decide)).trans f46
    replace f48 : a46.tmps[48]?.getD undef = .int .i64 K := f48
    clear hk hsz45 hde45 f47
    have Hb8 := Lib.hid (below_call Hb7.out hb9)
    clear hb9
    refine wpList_nextg (wanted_of (j := 15) (t := 44) (b := false) rfl rfl f44) hsz46 hde46 49 rfl (by decide) fun K hK => ?_
    go_simp
    refine hK _ _ fun a47 hsz47 hde47 f49 hk => ?_
    clear hK K
    replace f0 := (hk 0 (by decide)).trans f0
    replace f3 := (hk 3 (by decide)).trans f3
    replace f4 := (hk 4 (by decide)).trans f4
    replace f5 := (hk 5 (by decide)).trans f5
    replace f6 := (hk 6 (by decide)).trans f6
    replace f7 := (hk 7 (by decide)).trans f7
    replace f44 := (hk 44 (by decide)).trans f44
    clear hk hsz46 hde46 f46 f48
    replace f49 : a47.tmps[49]?.getD undef = .bool false := f49.trans (by first | rfl | (simp; done) | (congr 1; simp))
    refine wpList_next rfl hsz47 hde47 50 rfl (by decide) fun K hK => ?_
    go_simp
    refine hK _ _ fun a48 hsz48 hde48 f50 hk => ?_
    clear hK K
    replace f0 := (hk 0 (by decide)).trans f0
    replace f3 := (hk 3 (by decide)).trans f3
    replace f4 := (hk 4 (by decide)).trans f4
    replace f5 := (hk 5 (by decide)).trans f5
    replace f6 := (hk 6 (by decide)).trans f6
    replace f7 := (hk 7 (by decide)).trans f7
    replace f50 : a48.tmps[50]?.getD undef = .bool false := f50
    clear hk hsz47 hde47 f44 f49
    refine wpList_nil ?_
    refine then_go ?_
    repeat with_reducible refine wp_seq ?_
    refine wp_cond_false (eval_at f50) ?_
    refine wp_skip ?_
    refine then_go ?_
    clear f50
    repeat with_reducible refine wp_seq ?_
    by_cases hE0 : E = 0
    · have HE0 := Lib.hid hE0
      clear hE0
      have hk0 : chCheck T = 0 := by rw [HT.out]; exact clean_check (HE.out.symm.trans HE0.out)
      have Hk0 := Lib.hid fun z (hz : Below w3.heap.size w3 z) => Hkk.out z hz
      rw [hk0] at Hk0
      clear hk0
      refine wp_region_lit ?_
      refine wpList_next rfl hsz48 hde48 51 rfl (by decide) fun K hK => ?_
      go_simp
      refine hK _ _ fun a49 hsz49 hde49 f51 hk => ?_
      clear hK K
      replace f0 := (hk 0 (by decide)).trans f0
      replace f3 := (hk 3 (by decide)).trans f3
      replace f4 := (hk 4 (by decide)).trans f4
      replace f5 := (hk 5 (by decide)).trans f5
      replace f6 := (hk 6 (by decide)).trans f6
      replace f7 := (hk 7 (by decide)).trans f7
      replace f51 : a49.tmps[51]?.getD undef = .int .i64 E := f51
      clear hk hsz48 hde48
      refine wpList_next rfl hsz49 hde49 52 rfl (by decide) fun K hK => ?_
      go_simp
      refine hK _ _ fun a50 hsz50 hde50 f52 hk => ?_
      clear hK K
      replace f0 := (hk 0 (by decide)).trans f0
      replace f3 := (hk 3 (by decide)).trans f3
      replace f4 := (hk 4 (by decide)).trans f4
      replace f5 := (hk 5 (by decide)).trans f5
      replace f6 := (hk 6 (by decide)).trans f6
      replace f7 := (hk 7 (by decide)).trans f7
      clear hk hsz49 hde49 f51
      replace f52 : a50.tmps[52]?.getD undef = .bool false := f52.trans (by have h7 := HE0.out; first | (rw [h7]; rfl) | (simp [h7]; done))
      refine wpList_next rfl hsz50 hde50 53 rfl (by decide) fun K hK => ?_
      go_simp
      refine hK _ _ fun a51 hsz51 hde51 f53 hk => ?_
      clear hK K
      replace f0 := (hk 0 (by decide)).trans f0
      replace f3 := (hk 3 (by decide)).trans f3
      replace f4 := (hk 4 (by decide)).trans f4
      replace f5 := (hk 5 (by decide)).trans f5
      replace f6 := (hk 6 (by decide)).trans f6
      replace f7 := (hk 7 (by decide)).trans f7
      replace f53 : a51.tmps[53]?.getD undef = .bool false := f53
      clear hk hsz50 hde50 f52
      refine wpList_nextg (wanted_of (j := 2) (t := 53) (b := false) rfl rfl f53) hsz51 hde51 54 rfl (by decide) fun K hK => ?_
      go_simp
      refine hK _ _ fun a52 hsz52 hde52 f54 hk => ?_
      clear hK K
      replace f0 := (hk 0 (by decide)).trans f0
      replace f3 := (hk 3 (by decide)).trans f3
      replace f4 := (hk 4 (by decide)).trans f4
      replace f5 := (hk 5 (by decide)).trans f5
      replace f6 := (hk 6 (by decide)).trans f6
      replace f7 := (hk 7 (by decide)).trans f7
      replace f53 := (hk 53 (by decide)).trans f53
      replace f54 : a52.tmps[54]?.getD undef = .slice A1 m c1 := f54
      clear hk hsz51 hde51
      refine wpList_nextg (wanted_of (j := 2) (t := 53) (b := false) rfl rfl f53) hsz52 hde52 55 rfl (by decide) fun K hK => ?_
      go_simp
      refine (Hk0.out _ (Hb4.out.trans (Hb8.out.mono Hb4.out.size))).mono ?_
      rintro e9 w9 ⟨rfl, hb9⟩
      go_simp
      refine hK _ _ fun a53 hsz53 hde53 f55 hk => ?_
      clear hK K
      replace f0 := (hk 0 (by decide)).trans f0
      replace f3 := (hk 3 (by decide)).trans f3
      replace f4 := (hk 4 (by decide)).trans f4
      replace f5 := (hk 5 (by decide)).trans f5
      replace f6 := (hk 6 (by decide)).trans f6
      replace f7 := (hk 7 (by decide)).trans f7
      replace f53 := (hk 53 (by decide)).trans f53
      replace f55 : a53.tmps[55]?.getD undef = .int .i64 0 := f55
      clear hk hsz52 hde52 f54
      have Hb9 := Lib.hid (below_call Hb8.out hb9)
      clear hb9
      refine wpList_nextg (wanted_of (j := 2) (t := 53) (b := false) rfl rfl f53) hsz53 hde53 56 rfl (by decide) fun K hK => ?_
      go_simp
      refine hK _ _ fun a54 hsz54 hde54 f56 hk => ?_
      clear hK K
      replace f0 := (hk 0 (by decide)).trans f0
      replace f3 := (hk 3 (by decide)).trans f3
      replace f4 := (hk 4 (by decide)).trans f4
      replace f5 := (hk 5 (by decide)).trans f5
      replace f6 := (hk 6 (by decide)).trans f6
      replace f7 := (hk 7 (by decide)).trans f7
      replace f53 := (hk 53 (by decide)).trans f53
      replace f56 : a54.tmps[56]?.getD undef = .bool true := f56
      clear hk hsz53 hde53 f55
      refine wpList_next rfl hsz54 hde54 57 rfl (by decide) fun K hK => ?_
      go_simp
      refine hK _ _ fun a55 hsz55 hde55 f57 hk => ?_
      clear hK K
      replace f0 := (hk 0 (by decide)).trans f0
      replace f3 := (hk 3 (by decide)).trans f3
      replace f4 := (hk 4 (by decide)).trans f4
      replace f5 := (hk 5 (by decide)).trans f5
      replace f6 := (hk 6 (by decide)).trans f6
      replace f7 := (hk 7 (by decide)).trans f7
      replace f57 : a55.tmps[57]?.getD undef = .bool true := f57
      clear hk hsz54 hde54 f53 f56
      refine wpList_next rfl hsz55 hde55 2 rfl (by decide) fun K hK => ?_
      go_simp
      refine hK _ _ fun a56 hsz56 hde56 f2 hk => ?_
      clear hK K
      replace f0 := (hk 0 (by decide)).trans f0
      replace f3 := (hk 3 (by decide)).trans f3
      replace f4 := (hk 4 (by decide)).trans f4
      replace f5 := (hk 5 (by decide)).trans f5
      replace f6 := (hk 6 (by decide)).trans f6
      replace f7 := (hk 7 (by decide)).trans f7
      replace f2 : a56.tmps[2]?.getD undef = .bool true := f2
      clear hk hsz55 hde55 f57
      refine wpList_nil ?_
      refine then_go ?_
      refine wp_ret ?_
      repeat first | with_reducible refine then_ret ?_ | with_reducible refine block_ret ?_
      refine ret_tmp Tryz.results3 hde56 f2 ?_
      exact ⟨rfl, below_call Hw4.out Hb9.out⟩
    refine wp_region_lit ?_
    refine wpList_next rfl hsz48 hde48 51 rfl (by decide) fun K hK => ?_
    go_simp
    refine hK _ _ fun a49 hsz49 hde49 f51 hk => ?_
    clear hK K
    replace f0 := (hk 0 (by decide)).trans f0
    replace f3 := (hk 3 (by decide)).trans f3
    replace f4 := (hk 4 (by decide)).trans f4
    replace f5 := (hk 5 (by decide)).trans f5
    replace f6 := (hk 6 (by decide)).trans f6
    replace f7 := (hk 7 (by decide)).trans f7
    replace f51 : a49.tmps[51]?.getD undef = .int .i64 E := f51
    clear hk hsz48 hde48
    refine wpList_next rfl hsz49 hde49 52 rfl (by decide) fun K hK => ?_
    go_simp
    refine hK _ _ fun a50 hsz50 hde50 f52 hk => ?_
    clear hK K
    replace f0 := (hk 0 (by decide)).trans f0
    replace f3 := (hk 3 (by decide)).trans f3
    replace f4 := (hk 4 (by decide)).trans f4
    replace f5 := (hk 5 (by decide)).trans f5
    replace f6 := (hk 6 (by decide)).trans f6
    replace f7 := (hk 7 (by decide)).trans f7
    clear hk hsz49 hde49 f51
    replace f52 : a50.tmps[52]?.getD undef = .bool true := f52.trans (by first | rfl | (simp [hE0]; done) | (congr 1; simp [hE0]; done))
    refine wpList_next rfl hsz50 hde50 53 rfl (by decide) fun K hK => ?_
    go_simp
    refine hK _ _ fun a51 hsz51 hde51 f53 hk => ?_
    clear hK K
    replace f0 := (hk 0 (by decide)).trans f0
    replace f3 := (hk 3 (by decide)).trans f3
    replace f4 := (hk 4 (by decide)).trans f4
    replace f5 := (hk 5 (by decide)).trans f5
    replace f6 := (hk 6 (by decide)).trans f6
    replace f7 := (hk 7 (by decide)).trans f7
    replace f53 : a51.tmps[53]?.getD undef = .bool true := f53
    clear hk hsz50 hde50 f52
    refine wpList_leave (not_wanted (j := 2) (t := 53) (b := false) rfl rfl (.inr f53)) hsz51 hde51 54 rfl (by decide) fun a52 hsz52 hde52 f54 hk => ?_
    replace f0 := (hk 0 (by decide)).trans f0
    replace f3 := (hk 3 (by decide)).trans f3
    replace f4 := (hk 4 (by decide)).trans f4
    replace f5 := (hk 5 (by decide)).trans f5
    replace f6 := (hk 6 (by decide)).trans f6
    replace f7 := (hk 7 (by decide)).trans f7
    replace f53 := (hk 53 (by decide)).trans f53
    clear hk hsz51 hde51
    refine wpList_leave (not_wanted (j := 2) (t := 53) (b := false) rfl rfl (.inr f53)) hsz52 hde52 55 rfl (by decide) fun a53 hsz53 hde53 f55 hk => ?_
    replace f0 := (hk 0 (by decide)).trans f0
    replace f3 := (hk 3 (by decide)).trans f3
    replace f4 := (hk 4 (by decide)).trans f4
    replace f5 := (hk 5 (by decide)).trans f5
    replace f6 := (hk 6 (by decide)).trans f6
    replace f7 := (hk 7 (by decide)).trans f7
    replace f53 := (hk 53 (by decide)).trans f53
    clear hk hsz52 hde52 f54
    refine wpList_leave (not_wanted (j := 2) (t := 53) (b := false) rfl rfl (.inr f53)) hsz53 hde53 56 rfl (by decide) fun a54 hsz54 hde54 f56 hk => ?_
    replace f0 := (hk 0 (by decide)).trans f0
    replace f3 := (hk 3 (by decide)).trans f3
    replace f4 := (hk 4 (by decide)).trans f4
    replace f5 := (hk 5 (by decide)).trans f5
    replace f6 := (hk 6 (by decide)).trans f6
    replace f7 := (hk 7 (by decide)).trans f7
    replace f53 := (hk 53 (by decide)).trans f53
    clear hk hsz53 hde53 f55
    refine wpList_next rfl hsz54 hde54 57 rfl (by decide) fun K hK => ?_
    go_simp
    refine hK _ _ fun a55 hsz55 hde55 f57 hk => ?_
    clear hK K
    replace f0 := (hk 0 (by decide)).trans f0
    replace f3 := (hk 3 (by decide)).trans f3
    replace f4 := (hk 4 (by decide)).trans f4
    replace f5 := (hk 5 (by decide)).trans f5
    replace f6 := (hk 6 (by decide)).trans f6
    replace f7 := (hk 7 (by decide)).trans f7
    replace f57 : a55.tmps[57]?.getD undef = .bool true := f57
    clear hk hsz54 hde54 f53 f56
    refine wpList_next rfl hsz55 hde55 2 rfl (by decide) fun K hK => ?_
    go_simp
    refine hK _ _ fun a56 hsz56 hde56 f2 hk => ?_
    clear hK K
    replace f0 := (hk 0 (by decide)).trans f0
    replace f3 := (hk 3 (by decide)).trans f3
    replace f4 := (hk 4 (by decide)).trans f4
    replace f5 := (hk 5 (by decide)).trans f5
    replace f6 := (hk 6 (by decide)).trans f6
    replace f7 := (hk 7 (by decide)).trans f7
    replace f2 : a56.tmps[2]?.getD undef = .bool true := f2
    clear hk hsz55 hde55 f57
    refine wpList_nil ?_
    refine then_go ?_
    refine wp_ret ?_
    repeat first | with_reducible refine then_ret ?_ | with_reducible refine block_ret ?_
    refine ret_tmp Tryz.results3 hde56 f2 ?_
    exact ⟨rfl, below_call Hw4.out Hb8.out⟩
end Go.Proofs.YtgebodibamgipaaGreatDoor
