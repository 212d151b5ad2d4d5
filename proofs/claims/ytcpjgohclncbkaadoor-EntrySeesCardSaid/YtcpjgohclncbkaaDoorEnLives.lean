/-
  wardshiplaw10.lives.
-/
import Derived.Test.YtcpjgohclncbkaaDoorEnShown
import Derived.Test.YtcpjgohclncbkaaDoorEnAdd
namespace Go.Proofs.YtcpjgohclncbkaaDoor
open Go.RowKit
set_option maxRecDepth 100000

theorem id10_any (r : Int) (s : Nat) (w : World) : Calls Tryd.prog 35 #[.int .i64 r, .int .u32 (s : Int)] w fun e w' => e = .returned (.agg (idC r s)) ∧ Below w.heap.size w w' := by
  have hB : Blk (w.alloc (.cells (idC 0 0) 25)) w.heap.size 25 (idC 0 0) := Blk.new _ _ _
  have hbel : Below w.heap.size w (w.alloc (.cells (idC 0 0) 25)) := (Below.refl _ _).alloc (Nat.le_refl _) _
  have HB := Lib.hid hB
  have Hbel := Lib.hid hbel
  clear hB hbel
  go_enter Tryd.func35, Tryd.ntmps35
  go_wp2_with (refine wpList_store_row (o := ⟨none, _, _, _, _, _⟩) rfl 25 (.tmp 4) (.tmp 7) rfl w.heap.size (idC r s) rfl rfl 25 (idC 0 0) HB.out id_info rfl (idC_one _ _) ?_)
  have hend := HB.out.setRow_ (idC r s)
  exact bodyPost_ret (v := .agg (idC r s)) (results_cell_row Tryd.results35 _ _ w.heap.size 25 (idC r s) (0, 0) _ rfl hend Tryd.underlying25 rfl id_info) rfl ⟨rfl, below_setRow Hbel.out (Nat.le_refl _) _⟩

def entA : Ent := ⟨2, 1, 0, 0, [97], 0, 0, zeroV⟩
def entB : Ent := ⟨1, 1, 0, 0, [97], 0, 0, zeroV⟩
theorem entA_ok : EntOk entA := ⟨(by show (-9223372036854775808 : Int) ≤ 2 ∧ (2 : Int) ≤ 9223372036854775807; omega), by unfold entA; decide, (by show (-9223372036854775808 : Int) ≤ 0 ∧ (0 : Int) ≤ 9223372036854775807; omega), by unfold entA; decide, by unfold entA maxLen; decide, (by show (-9223372036854775808 : Int) ≤ 0 ∧ (0 : Int) ≤ 9223372036854775807; omega), by unfold entA; decide, okV_zero⟩
theorem entB_ok : EntOk entB := ⟨(by show (-9223372036854775808 : Int) ≤ 1 ∧ (1 : Int) ≤ 9223372036854775807; omega), by unfold entB; decide, (by show (-9223372036854775808 : Int) ≤ 0 ∧ (0 : Int) ≤ 9223372036854775807; omega), by unfold entB; decide, by unfold entB maxLen; decide, (by show (-9223372036854775808 : Int) ≤ 0 ∧ (0 : Int) ≤ 9223372036854775807; omega), by unfold entB; decide, okV_zero⟩
theorem add1 : addE [] entA = [entA] := rfl
theorem add2 : addE [entA] entB = [entB, entA] := rfl
theorem in2 : [entB, entA].filter (fun x => headE x && sameI x.drep x.dseq 0 0) = [entB, entA] := by
  have h1 : headE entB = true := eqV_iff.2 fun _ _ => rfl
  have h2 : headE entA = true := eqV_iff.2 fun _ _ => rfl
  have h3 : sameI entB.drep entB.dseq 0 0 = true := rfl
  have h4 : sameI entA.drep entA.dseq 0 0 = true := rfl
  simp [h1, h2, h3, h4]
theorem shown2 : shownE [entB, entA] = [[97], [97, 126, 50, 46, 49]] := by
  have h1 : nameAt [entB, entA] 0 = [97] := rfl
  have h2 : nameAt [entB, entA] 1 = [97, 126, 50, 46, 49] := by
    show (if 0 < 1 ∧ some entB.data = some entA.data then tagI [97] ((2 : Nat) : Int) 1 else [97]) = _
    rw [if_pos ⟨by omega, rfl⟩]
    rw [tagI_nat]
    unfold tagT tagB
    rw [Lib.decDigits_one (by omega), Lib.decDigits_one (by omega)]
    rfl
  unfold shownE
  show [nameAt [entB, entA] 0, nameAt [entB, entA] 1] = _
  rw [h1, h2]
theorem sorted1 : SortedE [entA] := fun i j hi hj hij => by simp at hi hj; omega
theorem cmp2 : ∀ k (h : k + 1 < [entB, entA].length), 0 ≤ Lib.compareBytes [entB, entA][k + 1].data ([entB, entA][k]'(by omega)).data := fun k h => by
  have hk : k = 0 := by simp at h; omega
  subst hk
  show (0 : Int) ≤ Lib.compareBytes [97] [97]
  decide

set_option maxHeartbeats 4000000 in
theorem lives10_any (w : World) (hp : Pow w) : Calls Tryd.prog 10 #[] w fun e w' => e = .returned (.bool true) ∧ Below w.heap.size w w' := by
  have ha := fun z : World => eadd_any (fun _ => True) (.slice none 0 0) [] entA z IsL.nil (by simp) (by simp) (by unfold entA; simp) (fun i j hi => by simp at hi) entA_ok
  rw [add1] at ha
  have hb := fun (ok : Nat → Prop) (u : Value) (z : World) (hu : IsL kEnt z ok u [entA]) => eadd_any ok u [entA] entB z hu (by simp) (by simp [entA]) (by unfold entB; simp) sorted1 entB_ok
  rw [add2] at hb
  have hi := fun (ok : Nat → Prop) (u : Value) (z : World) (hu : IsL kEnt z ok u [entB, entA]) => in_none ok u [entB, entA] 0 0 z hu (by simp [entA, entB]) (by simp) [entB, entA] in2 (by simp) cmp2
  have hs := fun (ok : Nat → Prop) (u : Value) (z : World) (hu : IsL kEnt z ok u [entB, entA]) (hz : Pow z) => shown_any ok u [entB, entA] z hu (by simp) (by simp [entA, entB]) hz
  rw [shown2] at hs
  obtain ⟨CA, hCA⟩ : ∃ C, C = entC entA := ⟨_, rfl⟩
  obtain ⟨CB, hCB⟩ : ∃ C, C = entC entB := ⟨_, rfl⟩
  rw [← hCA] at ha
  rw [← hCB] at hb
  have hal := fun z => ehead_any entB z
  rw [show headE entB = true from eqV_iff.2 fun _ _ => rfl, ← hCB] at hal
  have Hal := Lib.hid hal
  have Ha := Lib.hid ha
  have Hb := Lib.hid hb
  have Hi := Lib.hid hi
  have Hs := Lib.hid hs
  have Hp := Lib.hid hp
  have HCB := Lib.hid hCB
  have HinfB := Lib.hid (show (Tryd.prog.info? 29).map (·.size) = some CB.toList.length by rw [hCB]; exact ent_info)
  have HA := Lib.hid (show CA = #[.int .i64 2, .int .u32 1, .int .i64 0, .int .u32 0, .string ⟨#[97]⟩, .int .i64 0, .int .u32 0, .int .u32 0, .int .u32 0, .int .u32 0, .int .u32 0, .int .u32 0, .int .u32 0, .int .u32 0, .int .u32 0] by rw [hCA]; rfl)
  have HB := Lib.hid (show CB = #[.int .i64 1, .int .u32 1, .int .i64 0, .int .u32 0, .string ⟨#[97]⟩, .int .i64 0, .int .u32 0, .int .u32 0, .int .u32 0, .int .u32 0, .int .u32 0, .int .u32 0, .int .u32 0, .int .u32 0, .int .u32 0] by rw [hCB]; rfl)
  clear ha hb hi hs hal hp hCA hCB
  go_enter Tryd.func10, Tryd.ntmps10
  refine enter_abs (N := 39) rfl rfl fun a0 hsz0 hde0 hk => ?_
  clear hk
  repeat with_reducible refine wp_seq ?_
  refine wp_region_lit ?_
  refine wpList_next rfl hsz0 hde0 0 rfl (by decide) fun K hK => ?_
  go_simp
  refine hK _ _ fun a1 hsz1 hde1 f0 hk => ?_
  clear hK K
  replace f0 : a1.tmps[0]?.getD undef = .bool false := f0
  clear hk hsz0 hde0
  refine wpList_nil ?_
  clear f0
  refine then_go ?_
  repeat with_reducible refine wp_seq ?_
  refine wp_region_lit ?_
  refine wpList_next rfl hsz1 hde1 3 rfl (by decide) fun K hK => ?_
  go_simp
  refine (id10_any 2 1 _).mono ?_
  rintro e3 w3 ⟨rfl, hb3⟩
  go_simp
  refine hK _ _ fun a2 hsz2 hde2 f3 hk => ?_
  clear hK K
  replace f3 : a2.tmps[3]?.getD undef = .agg (idC 2 1) := f3
  clear hk hsz1 hde1
  refine wpList_next rfl hsz2 hde2 4 rfl (by decide) fun K hK => ?_
  go_simp
  refine hK _ _ fun a3 hsz3 hde3 f4 hk => ?_
  clear hK K
  clear hk hsz2 hde2 f3
  replace f4 : a3.tmps[4]?.getD undef = .agg CA := f4.trans (by rw [HA.out]; rfl)
  refine wpList_next rfl hsz3 hde3 5 rfl (by decide) fun K hK => ?_
  go_simp
  refine (Ha.out _).mono ?_
  rintro e5 w5 ⟨⟨u5, rfl, hown5⟩, hb5⟩
  go_simp
  refine hK _ _ fun a4 hsz4 hde4 f5 hk => ?_
  clear hK K
  replace f5 : a4.tmps[5]?.getD undef = u5 := f5
  clear hk hsz3 hde3 f4
  refine wpList_next rfl hsz4 hde4 6 rfl (by decide) fun K hK => ?_
  go_simp
  refine (id10_any 1 1 _).mono ?_
  rintro e6 w6 ⟨rfl, hb6⟩
  go_simp
  refine hK _ _ fun a5 hsz5 hde5 f6 hk => ?_
  clear hK K
  replace f5 := (hk 5 (by decide)).trans f5
  replace f6 : a5.tmps[6]?.getD undef = .agg (idC 1 1) := f6
  clear hk hsz4 hde4
  refine wpList_next rfl hsz5 hde5 7 rfl (by decide) fun K hK => ?_
  go_simp
  refine hK _ _ fun a6 hsz6 hde6 f7 hk => ?_
  clear hK K
  replace f5 := (hk 5 (by decide)).trans f5
  clear hk hsz5 hde5 f6
  replace f7 : a6.tmps[7]?.getD undef = .agg CB := f7.trans (by rw [HB.out]; rfl)
  refine wpList_next rfl hsz6 hde6 8 rfl (by decide) fun K hK => ?_
  go_simp
  refine (Hb.out _ u5 _ (hown5.isL.grow hb6)).mono ?_
  rintro e8 w8 ⟨⟨u8, rfl, hown8⟩, hb8⟩
  obtain ⟨g8, c8, hu8, _, _, _, _, hr8, _⟩ := hown8.elem (k := 0) (by simp)
  have hu8b : u8 = .slice (some ⟨g8, 0, none⟩) 2 c8 := hu8
  subst hu8b
  go_simp
  refine hK _ _ fun a7 hsz7 hde7 f8 hk => ?_
  clear hK K
  replace f8 : a7.tmps[8]?.getD undef = .slice (some ⟨g8, 0, none⟩) 2 c8 := f8
  clear hk hsz6 hde6 f5 f7
  refine wpList_next rfl hsz7 hde7 1 rfl (by decide) fun K hK => ?_
  go_simp
  refine hK _ _ fun a8 hsz8 hde8 f1 hk => ?_
  clear hK K
  replace f1 : a8.tmps[1]?.getD undef = .slice (some ⟨g8, 0, none⟩) 2 c8 := f1
  clear hk hsz7 hde7 f8
  refine wpList_nil ?_
  have Hb8 := Lib.hid (below_call (below_call (below_call hb3 hb5) hb6) hb8)
  have Hown8 := Lib.hid hown8
  have Hr8 := Lib.hid (show w8.rangeAt g8 0 CB.toList by rw [HCB.out]; exact hr8)
  clear hb3 hb5 hb6 hb8 hown5 hown8 hu8 hr8
  refine then_go ?_
  repeat with_reducible refine wp_seq ?_
  refine wp_region_lit ?_
  refine wpList_next rfl hsz8 hde8 9 rfl (by decide) fun K hK => ?_
  go_simp
  refine hK _ _ fun a9 hsz9 hde9 f9 hk => ?_
  clear hK K
  replace f1 := (hk 1 (by decide)).trans f1
  replace f9 : a9.tmps[9]?.getD undef = .slice (some ⟨g8, 0, none⟩) 2 c8 := f9
  clear hk hsz8 hde8
  refine wpList_next rfl hsz9 hde9 10 rfl (by decide) fun K hK => ?_
  go_simp
  refine hK _ _ fun a10 hsz10 hde10 f10 hk => ?_
  clear hK K
  replace f1 := (hk 1 (by decide)).trans f1
  replace f9 := (hk 9 (by decide)).trans f9
  replace f10 : a10.tmps[10]?.getD undef = .agg (idC 0 0) := f10
  clear hk hsz9 hde9
  refine wpList_next rfl hsz10 hde10 11 rfl (by decide) fun K hK => ?_
  go_simp
  refine (Hi.out _ _ _ Hown8.out.isL).mono ?_
  rintro e11 w11 ⟨⟨u11, rfl, hown11⟩, hb11⟩
  go_simp
  refine hK _ _ fun a11 hsz11 hde11 f11 hk => ?_
  clear hK K
  replace f1 := (hk 1 (by decide)).trans f1
  replace f11 : a11.tmps[11]?.getD undef = u11 := f11
  clear hk hsz10 hde10 f9 f10
  refine wpList_next rfl hsz11 hde11 12 rfl (by decide) fun K hK => ?_
  go_simp
  refine (Hs.out _ u11 _ hown11.isL (Hp.out.grow (below_call Hb8.out hb11))).mono ?_
  rintro e12 w12 ⟨⟨g12, rfl, hblk12, _⟩, hb12⟩
  go_simp
  refine hK _ _ fun a12 hsz12 hde12 f12 hk => ?_
  clear hK K
  replace f1 := (hk 1 (by decide)).trans f1
  replace f12 : a12.tmps[12]?.getD undef = .slice (some ⟨g12, 0, none⟩) 2 2 := f12
  clear hk hsz11 hde11 f11
  refine wpList_next rfl hsz12 hde12 2 rfl (by decide) fun K hK => ?_
  go_simp
  refine hK _ _ fun a13 hsz13 hde13 f2 hk => ?_
  clear hK K
  replace f1 := (hk 1 (by decide)).trans f1
  replace f2 : a13.tmps[2]?.getD undef = .slice (some ⟨g12, 0, none⟩) 2 2 := f2
  clear hk hsz12 hde12 f12
  refine wpList_nil ?_
  have Hb12 := Lib.hid (below_call (below_call Hb8.out hb11) hb12)
  have Hr12 := Lib.hid (range_ext (range_ext Hr8.out hb11) hb12)
  have hc0 : w12.cell? ⟨g12, 0, none⟩ = some (.string ⟨#[97]⟩) := hblk12.cell 0
  have hc1 : w12.cell? ⟨g12, 1, none⟩ = some (.string ⟨#[97, 126, 50, 46, 49]⟩) := hblk12.cell 1
  clear hb11 hb12 hown11 hblk12
  refine then_go ?_
  repeat with_reducible refine wp_seq ?_
  refine wp_region_lit ?_
  refine wpList_next rfl hsz13 hde13 13 rfl (by decide) fun K hK => ?_
  go_simp
  refine hK _ _ fun a14 hsz14 hde14 f13 hk => ?_
  clear hK K
  replace f1 := (hk 1 (by decide)).trans f1
  replace f2 := (hk 2 (by decide)).trans f2
  replace f13 : a14.tmps[13]?.getD undef = .slice (some ⟨g8, 0, none⟩) 2 c8 := f13
  clear hk hsz13 hde13
  refine wpList_next rfl hsz14 hde14 14 rfl (by decide) fun K hK => ?_
  go_simp
  refine hK _ _ fun a15 hsz15 hde15 f14 hk => ?_
  clear hK K
  replace f1 := (hk 1 (by decide)).trans f1
  replace f2 := (hk 2 (by decide)).trans f2
  replace f14 : a15.tmps[14]?.getD undef = .int .i64 2 := f14
  clear hk hsz14 hde14 f13
  refine wpList_next rfl hsz15 hde15 15 rfl (by decide) fun K hK => ?_
  go_simp
  refine hK _ _ fun a16 hsz16 hde16 f15 hk => ?_
  clear hK K
  replace f1 := (hk 1 (by decide)).trans f1
  replace f2 := (hk 2 (by decide)).trans f2
  replace f15 : a16.tmps[15]?.getD undef = .bool true := f15
  clear hk hsz15 hde15 f14
  refine wpList_next rfl hsz16 hde16 16 rfl (by decide) fun K hK => ?_
  go_simp
  refine hK _ _ fun a17 hsz17 hde17 f16 hk => ?_
  clear hK K
  replace f1 := (hk 1 (by decide)).trans f1
  replace f2 := (hk 2 (by decide)).trans f2
  replace f16 : a17.tmps[16]?.getD undef = .bool true := f16
  clear hk hsz16 hde16 f15
  refine wpList_nextg (wanted_of (j := 3) (t := 16) (b := true) rfl rfl f16) hsz17 hde17 17 rfl (by decide) fun K hK => ?_
  go_simp
  refine hK _ _ fun a18 hsz18 hde18 f17 hk => ?_
  clear hK K
  replace f1 := (hk 1 (by decide)).trans f1
  replace f2 := (hk 2 (by decide)).trans f2
  replace f16 := (hk 16 (by decide)).trans f16
  replace f17 : a18.tmps[17]?.getD undef = .slice (some ⟨g12, 0, none⟩) 2 2 := f17
  clear hk hsz17 hde17
  refine wpList_nextg (wanted_of (j := 3) (t := 16) (b := true) rfl rfl f16) hsz18 hde18 18 rfl (by decide) fun K hK => ?_
  go_simp
  refine hK _ _ fun a19 hsz19 hde19 f18 hk => ?_
  clear hK K
  replace f1 := (hk 1 (by decide)).trans f1
  replace f2 := (hk 2 (by decide)).trans f2
  replace f16 := (hk 16 (by decide)).trans f16
  replace f18 : a19.tmps[18]?.getD undef = .int .i64 2 := f18
  clear hk hsz18 hde18 f17
  refine wpList_nextg (wanted_of (j := 3) (t := 16) (b := true) rfl rfl f16) hsz19 hde19 19 rfl (by decide) fun K hK => ?_
  go_simp
  refine hK _ _ fun a20 hsz20 hde20 f19 hk => ?_
  clear hK K
  replace f1 := (hk 1 (by decide)).trans f1
  replace f2 := (hk 2 (by decide)).trans f2
  replace f16 := (hk 16 (by decide)).trans f16
  replace f19 : a20.tmps[19]?.getD undef = .bool true := f19
  clear hk hsz19 hde19 f18
  refine wpList_next rfl hsz20 hde20 20 rfl (by decide) fun K hK => ?_
  go_simp
  refine hK _ _ fun a21 hsz21 hde21 f20 hk => ?_
  clear hK K
  replace f1 := (hk 1 (by decide)).trans f1
  replace f2 := (hk 2 (by decide)).trans f2
  replace f20 : a21.tmps[20]?.getD undef = .bool true := f20
  clear hk hsz20 hde20 f16 f19
  refine wpList_next rfl hsz21 hde21 21 rfl (by decide) fun K hK => ?_
  go_simp
  refine hK _ _ fun a22 hsz22 hde22 f21 hk => ?_
  clear hK K
  replace f1 := (hk 1 (by decide)).trans f1
  replace f2 := (hk 2 (by decide)).trans f2
  replace f21 : a22.tmps[21]?.getD undef = .bool true := f21
  clear hk hsz21 hde21 f20
  refine wpList_nextg (wanted_of (j := 8) (t := 21) (b := true) rfl rfl f21) hsz22 hde22 22 rfl (by decide) fun K hK => ?_
  go_simp
  refine hK _ _ fun a23 hsz23 hde23 f22 hk => ?_
  clear hK K
  replace f1 := (hk 1 (by decide)).trans f1
  replace f2 := (hk 2 (by decide)).trans f2
  replace f21 := (hk 21 (by decide)).trans f21
  replace f22 : a23.tmps[22]?.getD undef = .slice (some ⟨g12, 0, none⟩) 2 2 := f22
  clear hk hsz22 hde22
  refine wpList_nextg (wanted_of (j := 8) (t := 21) (b := true) rfl rfl f21) hsz23 hde23 23 rfl (by decide) fun K hK => ?_
  go_simp
  refine hK _ _ fun a24 hsz24 hde24 f23 hk => ?_
  clear hK K
  replace f1 := (hk 1 (by decide)).trans f1
  replace f2 := (hk 2 (by decide)).trans f2
  replace f21 := (hk 21 (by decide)).trans f21
  replace f23 : a24.tmps[23]?.getD undef = .pointer (some ⟨g12, 0, none⟩) := f23
  clear hk hsz23 hde23 f22
  refine wpList_nextg (wanted_of (j := 8) (t := 21) (b := true) rfl rfl f21) hsz24 hde24 24 rfl (by decide) fun K hK => ?_
  go_simp
  refine hK _ _ fun a25 hsz25 hde25 f24 hk => ?_
  clear hK K
  replace f1 := (hk 1 (by decide)).trans f1
  replace f2 := (hk 2 (by decide)).trans f2
  replace f21 := (hk 21 (by decide)).trans f21
  replace f24 : a25.tmps[24]?.getD undef = .string ⟨#[97]⟩ := f24
  clear hk hsz24 hde24 f23
  refine wpList_nextg (wanted_of (j := 8) (t := 21) (b := true) rfl rfl f21) hsz25 hde25 25 rfl (by decide) fun K hK => ?_
  go_simp
  refine hK _ _ fun a26 hsz26 hde26 f25 hk => ?_
  clear hK K
  replace f1 := (hk 1 (by decide)).trans f1
  replace f2 := (hk 2 (by decide)).trans f2
  replace f21 := (hk 21 (by decide)).trans f21
  replace f25 : a26.tmps[25]?.getD undef = .bool true := f25
  clear hk hsz25 hde25 f24
  refine wpList_next rfl hsz26 hde26 26 rfl (by decide) fun K hK => ?_
  go_simp
  refine hK _ _ fun a27 hsz27 hde27 f26 hk => ?_
  clear hK K
  replace f1 := (hk 1 (by decide)).trans f1
  replace f2 := (hk 2 (by decide)).trans f2
  replace f26 : a27.tmps[26]?.getD undef = .bool true := f26
  clear hk hsz26 hde26 f21 f25
  refine wpList_next rfl hsz27 hde27 27 rfl (by decide) fun K hK => ?_
  go_simp
  refine hK _ _ fun a28 hsz28 hde28 f27 hk => ?_
  clear hK K
  replace f1 := (hk 1 (by decide)).trans f1
  replace f2 := (hk 2 (by decide)).trans f2
  replace f27 : a28.tmps[27]?.getD undef = .bool true := f27
  clear hk hsz27 hde27 f26
  refine wpList_nextg (wanted_of (j := 14) (t := 27) (b := true) rfl rfl f27) hsz28 hde28 28 rfl (by decide) fun K hK => ?_
  go_simp
  refine hK _ _ fun a29 hsz29 hde29 f28 hk => ?_
  clear hK K
  replace f1 := (hk 1 (by decide)).trans f1
  replace f2 := (hk 2 (by decide)).trans f2
  replace f27 := (hk 27 (by decide)).trans f27
  replace f28 : a29.tmps[28]?.getD undef = .slice (some ⟨g12, 0, none⟩) 2 2 := f28
  clear hk hsz28 hde28
  refine wpList_nextg (wanted_of (j := 14) (t := 27) (b := true) rfl rfl f27) hsz29 hde29 29 rfl (by decide) fun K hK => ?_
  go_simp
  refine hK _ _ fun a30 hsz30 hde30 f29 hk => ?_
  clear hK K
  replace f1 := (hk 1 (by decide)).trans f1
  replace f2 := (hk 2 (by decide)).trans f2
  replace f27 := (hk 27 (by decide)).trans f27
  replace f29 : a30.tmps[29]?.getD undef = .pointer (some ⟨g12, 1, none⟩) := f29
  clear hk hsz29 hde29 f28
  refine wpList_nextg (wanted_of (j := 14) (t := 27) (b := true) rfl rfl f27) hsz30 hde30 30 rfl (by decide) fun K hK => ?_
  go_simp
  refine hK _ _ fun a31 hsz31 hde31 f30 hk => ?_
  clear hK K
  replace f1 := (hk 1 (by decide)).trans f1
  replace f2 := (hk 2 (by decide)).trans f2
  replace f27 := (hk 27 (by decide)).trans f27
  replace f30 : a31.tmps[30]?.getD undef = .string ⟨#[97, 126, 50, 46, 49]⟩ := f30
  clear hk hsz30 hde30 f29
  refine wpList_nextg (wanted_of (j := 14) (t := 27) (b := true) rfl rfl f27) hsz31 hde31 31 rfl (by decide) fun K hK => ?_
  go_simp
  refine hK _ _ fun a32 hsz32 hde32 f31 hk => ?_
  clear hK K
  replace f1 := (hk 1 (by decide)).trans f1
  replace f2 := (hk 2 (by decide)).trans f2
  replace f27 := (hk 27 (by decide)).trans f27
  replace f31 : a32.tmps[31]?.getD undef = .bool true := f31
  clear hk hsz31 hde31 f30
  refine wpList_next rfl hsz32 hde32 32 rfl (by decide) fun K hK => ?_
  go_simp
  refine hK _ _ fun a33 hsz33 hde33 f32 hk => ?_
  clear hK K
  replace f1 := (hk 1 (by decide)).trans f1
  replace f2 := (hk 2 (by decide)).trans f2
  replace f32 : a33.tmps[32]?.getD undef = .bool true := f32
  clear hk hsz32 hde32 f27 f31
  refine wpList_next rfl hsz33 hde33 33 rfl (by decide) fun K hK => ?_
  go_simp
  refine hK _ _ fun a34 hsz34 hde34 f33 hk => ?_
  clear hK K
  replace f1 := (hk 1 (by decide)).trans f1
  replace f2 := (hk 2 (by decide)).trans f2
  replace f33 : a34.tmps[33]?.getD undef = .bool true := f33
  clear hk hsz33 hde33 f32
  refine wpList_nextg (wanted_of (j := 20) (t := 33) (b := true) rfl rfl f33) hsz34 hde34 34 rfl (by decide) fun K hK => ?_
  go_simp
  refine hK _ _ fun a35 hsz35 hde35 f34 hk => ?_
  clear hK K
  replace f1 := (hk 1 (by decide)).trans f1
  replace f2 := (hk 2 (by decide)).trans f2
  replace f33 := (hk 33 (by decide)).trans f33
  replace f34 : a35.tmps[34]?.getD undef = .slice (some ⟨g8, 0, none⟩) 2 c8 := f34
  clear hk hsz34 hde34
  refine wpList_nextg (wanted_of (j := 20) (t := 33) (b := true) rfl rfl f33) hsz35 hde35 35 rfl (by decide) fun K hK => ?_
  go_simp
  refine hK _ _ fun a36 hsz36 hde36 f35 hk => ?_
  clear hK K
  replace f1 := (hk 1 (by decide)).trans f1
  replace f2 := (hk 2 (by decide)).trans f2
  replace f33 := (hk 33 (by decide)).trans f33
  replace f35 : a36.tmps[35]?.getD undef = .pointer (some ⟨g8, 0, none⟩) := f35
  clear hk hsz35 hde35 f34
  refine wpList_nextg (wanted_of (j := 20) (t := 33) (b := true) rfl rfl f33) hsz36 hde36 36 rfl (by decide) fun K hK => ?_
  refine wp_load_mid 29 (.tmp 35) rfl g8 0 (eval_at f35) CB.toList _ Hr12.out Tryd.underlying29 rfl HinfB.out ?_
  refine hK _ _ fun a37 hsz37 hde37 f36 hk => ?_
  clear hK K
  replace f1 := (hk 1 (by decide)).trans f1
  replace f2 := (hk 2 (by decide)).trans f2
  replace f33 := (hk 33 (by decide)).trans f33
  replace f36 : a37.tmps[36]?.getD undef = .agg CB := f36
  clear hk hsz36 hde36 f35
  refine wpList_nextg (wanted_of (j := 20) (t := 33) (b := true) rfl rfl f33) hsz37 hde37 37 rfl (by decide) fun K hK => ?_
  go_simp
  refine (Hal.out _).mono ?_
  rintro e37 w37 ⟨rfl, hb37⟩
  go_simp
  refine hK _ _ fun a38 hsz38 hde38 f37 hk => ?_
  clear hK K
  replace f1 := (hk 1 (by decide)).trans f1
  replace f2 := (hk 2 (by decide)).trans f2
  replace f33 := (hk 33 (by decide)).trans f33
  replace f37 : a38.tmps[37]?.getD undef = .bool true := f37
  clear hk hsz37 hde37 f36
  refine wpList_next rfl hsz38 hde38 38 rfl (by decide) fun K hK => ?_
  go_simp
  refine hK _ _ fun a39 hsz39 hde39 f38 hk => ?_
  clear hK K
  replace f1 := (hk 1 (by decide)).trans f1
  replace f2 := (hk 2 (by decide)).trans f2
  replace f38 : a39.tmps[38]?.getD undef = .bool true := f38
  clear hk hsz38 hde38 f33 f37
  refine wpList_next rfl hsz39 hde39 0 rfl (by decide) fun K hK => ?_
  go_simp
  refine hK _ _ fun a40 hsz40 hde40 f0 hk => ?_
  clear hK K
  replace f1 := (hk 1 (by decide)).trans f1
  replace f2 := (hk 2 (by decide)).trans f2
  replace f0 : a40.tmps[0]?.getD undef = .bool true := f0
  clear hk hsz39 hde39 f38
  refine wpList_nil ?_
  refine then_go ?_
  refine wp_ret ?_
  repeat first | with_reducible refine then_ret ?_ | with_reducible refine block_ret ?_
  refine ret_tmp Tryd.results10 hde40 f0 ?_
  exact ⟨rfl, below_call Hb12.out hb37⟩
end Go.Proofs.YtcpjgohclncbkaaDoor
