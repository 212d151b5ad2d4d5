/-
  The walk of DeviceSure.
-/
import Derived.Test.YtodcjhkleiibfaaDevMay
import Derived.Test.YtodcjhkleiibfaaRefDev
namespace Go.Proofs.Ytodcjhkleiibfaa
open Go.RowKit
set_option maxRecDepth 100000

set_option maxHeartbeats 2000000 in
theorem devicesure_walk (v1 : Value) (L1 : List OpM) (v2 : Value) (L2 : List OpM) (v3 : Value) (c : Choice) (w : World) (hv1 : IsL kOp w (fun _ => True) v1 L1) (hv2 : IsL kOp w (fun _ => True) v2 L2) (hv3 : IsC w (fun _ => True) v3 c) :
    Calls Try.prog 4 #[v1, v2, v3] w fun e w' => e = .returned (.bool true) ∧ Below w.heap.size w w' := by
  obtain ⟨vk, rfl, hL⟩ := hv3
  have hLk := hL.move (w' := w) (ok' := fun k => k < w.heap.size) (fun k _ hk => ⟨hk, rfl⟩)
  obtain ⟨Ac, nc, ds, rfl, hnc1, hnc2, _, _⟩ := hL
  have hba : Below w.heap.size w (w.alloc (.cells #[.slice Ac c.kept.length nc, .int .i64 c.torn, .int .i64 c.half] 34)) := (Below.refl _ _).alloc (Nat.le_refl _) _
  have hbx := Blk.new w 34 #[.slice Ac c.kept.length nc, .int .i64 c.torn, .int .i64 c.half]
  obtain ⟨W0, hW0⟩ : ∃ W0, W0 = w.alloc (.cells #[.slice Ac c.kept.length nc, .int .i64 c.torn, .int .i64 c.half] 34) := ⟨_, rfl⟩
  rw [← hW0] at hba hbx
  have hsz0 := hba.size
  have hv1' : IsL kOp W0 (fun k => k < W0.heap.size) v1 L1 := hv1.move fun k _ hk => ⟨Nat.lt_of_lt_of_le hk hsz0, hba.block k hk⟩
  have hv2' : IsL kOp W0 (fun k => k < W0.heap.size) v2 L2 := hv2.move fun k _ hk => ⟨Nat.lt_of_lt_of_le hk hsz0, hba.block k hk⟩
  obtain ⟨A1, a1, rfl, ha1, hm1, hel1⟩ := op_at hv1'
  obtain ⟨A2, a2, rfl, ha2, hm2, hel2⟩ := op_at hv2'
  have Hel1 := Lib.hid hel1
  have Hel2 := Lib.hid hel2
  have Hv1 := Lib.hid hv1'
  have Hv2 := Lib.hid hv2'
  have HLk := Lib.hid (hLk.grow hba)
  have HW0 := Lib.hid hW0
  have Hba := Lib.hid hba
  have hxlt : w.heap.size < W0.heap.size := hbx.lt
  have Hbx := Lib.hid hbx
  unfold maxLen at hnc2 hm1 hm2
  clear hel1 hel2 hv1 hv2 hv1' hv2' hLk hW0 hba hbx
  cases hf1 : fitsB 1 L1 with
  | false =>
    have Hf1 := Lib.hid hf1
    clear hf1
    go_enter Try.func4, Try.ntmps4
    go_wp2_with fail
    rw [← HW0.out]
    refine (lives_any _).mono ?_
    rintro e w1 ⟨rfl, hb1⟩
    go_wp2_with fail
    refine (fits_any _ _ 1 L1 _ (Hv1.out.grow hb1)).mono ?_
    rintro e w2 ⟨rfl, hb2⟩
    rw [Hf1.out]
    have hb02 := below_call hb1 hb2
    clear hb1 hb2
    go_wp2_with fail
    refine (lives_any _).mono ?_
    rintro e w4 ⟨rfl, hb4⟩
    go_wp2
    go_ret
    exact ⟨rfl, below_call Hba.out (below_call hb02 hb4)⟩
  | true =>
  cases hf2 : fitsB 1 L2 with
  | false =>
    have Hf1 := Lib.hid hf1
    have Hf2 := Lib.hid hf2
    clear hf1 hf2
    go_enter Try.func4, Try.ntmps4
    go_wp2_with fail
    rw [← HW0.out]
    refine (lives_any _).mono ?_
    rintro e w1 ⟨rfl, hb1⟩
    go_wp2_with fail
    refine (fits_any _ _ 1 L1 _ (Hv1.out.grow hb1)).mono ?_
    rintro e w2 ⟨rfl, hb2⟩
    rw [Hf1.out]
    have hb02 := below_call hb1 hb2
    clear hb1 hb2
    go_wp2_with fail
    refine (fits_any _ _ 1 L2 _ (Hv2.out.grow hb02)).mono ?_
    rintro e w3 ⟨rfl, hb3⟩
    rw [Hf2.out]
    have hb03 := below_call hb02 hb3
    have hbx3 := Hbx.out.grow hb03
    have he0 := hbx3.cell 0
    have he1 := hbx3.cell 1
    have he2 := hbx3.cell 2
    simp at he0 he1 he2
    clear hb02 hb3 hbx3
    go_wp2_with fail
    refine (lives_any _).mono ?_
    rintro e w4 ⟨rfl, hb4⟩
    go_wp2
    go_ret
    exact ⟨rfl, below_call Hba.out (below_call hb03 hb4)⟩
  | true =>
  by_cases hk70 : c.kept.length ≤ 70
  rotate_left
  · have Hf1 := Lib.hid hf1
    have Hf2 := Lib.hid hf2
    have hd3 : (70 : Int) < (c.kept.length : Int) := by omega
    clear hf1 hf2
    go_enter Try.func4, Try.ntmps4
    go_wp2_with fail
    rw [← HW0.out]
    refine (lives_any _).mono ?_
    rintro e w1 ⟨rfl, hb1⟩
    go_wp2_with fail
    refine (fits_any _ _ 1 L1 _ (Hv1.out.grow hb1)).mono ?_
    rintro e w2 ⟨rfl, hb2⟩
    rw [Hf1.out]
    have hb02 := below_call hb1 hb2
    clear hb1 hb2
    go_wp2_with fail
    refine (fits_any _ _ 1 L2 _ (Hv2.out.grow hb02)).mono ?_
    rintro e w3 ⟨rfl, hb3⟩
    rw [Hf2.out]
    have hb03 := below_call hb02 hb3
    have hbx3 := Hbx.out.grow hb03
    have he0 := hbx3.cell 0
    have he1 := hbx3.cell 1
    have he2 := hbx3.cell 2
    simp at he0 he1 he2
    clear hb02 hb3 hbx3
    go_wp2_with fail
    refine (lives_any _).mono ?_
    rintro e w4 ⟨rfl, hb4⟩
    go_wp2
    go_ret
    exact ⟨rfl, below_call Hba.out (below_call hb03 hb4)⟩
  obtain ⟨_, _, h601, hop1⟩ := fits_out hf1
  obtain ⟨_, _, h602, hop2⟩ := fits_out hf2
  have Hf1 := Lib.hid hf1
  have Hf2 := Lib.hid hf2
  have Hop1 := Lib.hid hop1
  have Hop2 := Lib.hid hop2
  have hd3 : ¬ (70 : Int) < (c.kept.length : Int) := by omega
  clear hf1 hf2 hop1 hop2
  go_enter Try.func4, Try.ntmps4
  go_wp2_with fail
  rw [← HW0.out]
  refine (lives_any _).mono ?_
  rintro e w1 ⟨rfl, hb1⟩
  go_wp2_with fail
  refine (fits_any _ _ 1 L1 _ (Hv1.out.grow hb1)).mono ?_
  rintro e w2 ⟨rfl, hb2⟩
  rw [Hf1.out]
  have hb02 := below_call hb1 hb2
  clear hb1 hb2
  go_wp2_with fail
  refine (fits_any _ _ 1 L2 _ (Hv2.out.grow hb02)).mono ?_
  rintro e w3 ⟨rfl, hb3⟩
  rw [Hf2.out]
  have hb03 := below_call hb02 hb3
  have hbx3 := Hbx.out.grow hb03
  have he0 := hbx3.cell 0
  have he1 := hbx3.cell 1
  have he2 := hbx3.cell 2
  simp at he0 he1 he2
  clear hb02 hb3 hbx3
  have Hb03 := Lib.hid hb03
  have hs03 := hb03.size
  clear hb03
  go_wp2_with fail
  refine (new_ok 6 _ (by omega) (by omega)).mono ?_
  rintro e w4 ⟨g, F, rfl, hdev, hb4⟩
  have hb04 := below_call Hb03.out hb4
  have Hdev := Lib.hid hdev
  have Hb04 := Lib.hid hb04
  have hs34 := hb4.size
  have hlow := hdev.low
  have Hnot := Lib.hid (show ¬ F w4.heap.size from fun h => by have := (hlow _ h).2; omega)
  clear hdev hb4 hb04 hlow he0 he1 he2
  go_wp2_with fail
  have hmk2 := run_bytes256
  have hcz := conv_zeros
  obtain ⟨Z1, hZ1⟩ : ∃ Z1 : Array Value, Z1 = Array.replicate 256 (.int .u8 0) := ⟨_, rfl⟩
  rw [← hZ1] at hmk2 hcz
  clear hZ1
  go_loopw [50] (fun i wr => ∃ k : Nat, k ≤ 6 ∧ i = .int .i64 (k : Int) ∧ Blk wr w4.heap.size 46 ((List.replicate k zeroTxt ++ List.replicate (6 - k) []).map str).toArray ∧ Below w4.heap.size w4 wr) (fun i _ => 6 - (intOf i).toNat)
  case atStart => exact ⟨0, by omega, rfl, by
    have := Blk.new w4 46 #[str [], str [], str [], str [], str [], str []]
    simpa using this, ((Below.refl _ _).alloc (Nat.le_refl _) _)⟩
  case round =>
    obtain ⟨k, hk, rfl, hblk, hb⟩ := hrel
    by_cases hlt : k < 6
    · have hset := hblk.setStr k zeroTxt
      have hfz := hblk.frozen k
      obtain ⟨u0, hcw⟩ : ∃ u0, wr.cell? ⟨w4.heap.size, k, none⟩ = some u0 := by
        have h0 := hblk.cell k
        rw [Array.getElem?_eq_getElem (by simp; omega)] at h0
        exact ⟨_, h0⟩
      have hsz : w4.heap.size < wr.heap.size := hblk.lt
      have hkk : (k : Int) < 6 := by omega
      have heq : (List.replicate k zeroTxt ++ List.replicate (6 - k) []).set k zeroTxt = List.replicate (k + 1) zeroTxt ++ List.replicate (6 - (k + 1)) [] := by
        rw [List.set_append_right _ _ (by simp)]
        simp only [List.length_replicate, Nat.sub_self]
        obtain ⟨m, hm⟩ : ∃ m, 6 - k = m + 1 := ⟨6 - k - 1, by omega⟩
        rw [hm, List.replicate_succ, List.set_cons_zero, show 6 - (k + 1) = m by omega, List.replicate_succ' (n := k), List.append_assoc]
        rfl
      rw [heq] at hset
      have Hset := Lib.hid hset
      have Hb := Lib.hid hb
      clear hset heq hblk hb
      go_wp2
      go_roundw
      case rel => exact ⟨k + 1, by omega, by go_num, Hset.out.alloc _, (Hb.out.setCell (by simp) _).alloc (by simp [World.setCell]; omega) _⟩
      case measure => simp [intOf]; omega
    · obtain rfl : k = 6 := by omega
      obtain ⟨wa, rfl⟩ : ∃ x, x = wr := ⟨wr, rfl⟩
      have hs0 : List.replicate 6 zeroTxt = applyW (newD 6).sure (newD 6).loose := rfl
      rw [Nat.sub_self, show List.replicate 0 ([] : List UInt8) = [] from rfl, List.append_nil, hs0] at hblk
      have hd5 := Hdev.out.grow hb
      have hb05 := below_call Hb04.out hb
      have HblkS := Lib.hid hblk
      have Hd5 := Lib.hid hd5
      have Hb05 := Lib.hid hb05
      clear hblk hd5 hb05 hb hmk2 hcz hs0
      rw [show ((6 : Nat) : Int) = 6 from rfl]
      go_wp2_with fail
      go_loopw [60] (fun i wr => ∃ (m : Nat) (D : Dev) (G : Nat → Prop), m ≤ L1.length ∧ i = .int .i64 (m : Int) ∧ D.changes ≤ m ∧ D.loose.length ≤ m ∧ PlainDev 6 D ∧ DevAt wr w3.heap.size G g D ∧ ¬ G w4.heap.size ∧ Blk wr w4.heap.size 46 ((applyW D.sure D.loose).map str).toArray ∧ Below W0.heap.size W0 wr) (fun i _ => L1.length - (intOf i).toNat)
      case atStart => exact ⟨0, newD 6, F, by omega, rfl, Nat.zero_le _, Nat.zero_le _, plain_new 6, Hd5.out, Hnot.out, HblkS.out, Hb05.out⟩
      case round =>
        obtain ⟨m, D, G, hm1', rfl, hfc, hfl, hpl, hdv, hno, hblkS, hbw⟩ := hrel
        by_cases hlt : m < L1.length
        · obtain ⟨b, off, rfl, hbw0, _, hcells⟩ := Hel1.out (by intro e; rw [e] at hlt; simp at hlt)
          obtain ⟨Ak, nk, c0, c1, c2, c3, c4, c5, c6, c7, hkL, hkk, hka, hsl⟩ := hcells m hlt
          have d0 := (hbw.cell (p := ⟨b, off + m * 8, none⟩) hbw0).trans c0
          have d1 := (hbw.cell (p := ⟨b, off + m * 8 + 1, none⟩) hbw0).trans c1
          have d2 := (hbw.cell (p := ⟨b, off + m * 8 + 2, none⟩) hbw0).trans c2
          have d3 := (hbw.cell (p := ⟨b, off + m * 8 + 3, none⟩) hbw0).trans c3
          have d4 := (hbw.cell (p := ⟨b, off + m * 8 + 4, none⟩) hbw0).trans c4
          have d5 := (hbw.cell (p := ⟨b, off + m * 8 + 5, none⟩) hbw0).trans c5
          have d6 := (hbw.cell (p := ⟨b, off + m * 8 + 6, none⟩) hbw0).trans c6
          have d7 := (hbw.cell (p := ⟨b, off + m * 8 + 7, none⟩) hbw0).trans c7
          have hsl300 := (Hop1.out _ (List.getElem_mem hlt)).1
          obtain ⟨j, hj, hij⟩ := mod_idx L1[m].at_ 6 (by omega) (by omega)
          have Hij := Lib.hid (show wrap64 ((IntKind.u64.wrap L1[m].at_).tmod 6) = (j : Int) from hij)
          have hbox : Below wr.heap.size wr (wr.alloc (.cells #[.int .i64 L1[m].kind, .int .i64 L1[m].at_, .int .u8 (L1[m].c.toNat : Int), str L1[m].s, .bool L1[m].long, .slice Ak L1[m].choice.kept.length nk, .int .i64 L1[m].choice.torn, .int .i64 L1[m].choice.half] 39)) := (Below.refl _ _).alloc (Nat.le_refl _) _
          have hblkO := Blk.new wr 39 #[.int .i64 L1[m].kind, .int .i64 L1[m].at_, .int .u8 (L1[m].c.toNat : Int), str L1[m].s, .bool L1[m].long, .slice Ak L1[m].choice.kept.length nk, .int .i64 L1[m].choice.torn, .int .i64 L1[m].choice.half]
          obtain ⟨W, hW⟩ : ∃ W, W = (wr.alloc (.cells #[.int .i64 L1[m].kind, .int .i64 L1[m].at_, .int .u8 (L1[m].c.toNat : Int), str L1[m].s, .bool L1[m].long, .slice Ak L1[m].choice.kept.length nk, .int .i64 L1[m].choice.torn, .int .i64 L1[m].choice.half] 39)) := ⟨_, rfl⟩
          rw [← hW] at hbox hblkO
          have HW := Lib.hid hW
          have HblkO := Lib.hid hblkO
          have Hbox := Lib.hid hbox
          clear hcells c0 c1 c2 c3 c4 c5 c6 c7 hkL hsl hij hW hbox hblkO
          have HdvW := Lib.hid (hdv.grow Hbox.out)
          have HblkSW := Lib.hid (hblkS.grow Hbox.out)
          have HbwW := Lib.hid (below_call hbw Hbox.out)
          have Hpl := Lib.hid hpl
          have Hno := Lib.hid hno
          have hj6 : (j : Int) < 6 := by omega
          clear hpl hdv hno hblkS hbw
          go_upto_region 14 with (fail)
          rw [← HW.out, Hij.out]
          have he2 := HblkO.out.cell 2
          have he3 := HblkO.out.cell 3
          simp at he2 he3
          have hm0 : (0 : Int) ≤ min (L1[m].s.length : Int) 256 := by omega
          have hm1 : min (L1[m].s.length : Int) 256 ≤ (L1[m].s.length : Int) := by omega
          go_region_held3 (fun u => Below W.heap.size W u ∧ u.cell? ⟨wr.heap.size, 2, none⟩ = some (.int .u8 (L1[m].c.toNat : Int)) ∧ u.cell? ⟨wr.heap.size, 3, none⟩ = some (str L1[m].s))
            (first | exact ⟨(Below.refl _ _).drew, he2, he3⟩ | (go_split_ands; exact ⟨below_on (by assumption) hb5', cell_then hb5' (by assumption), cell_then hb5' (by assumption)⟩) | assumption)
            ((go_at_call 21; refine (full_cut L1[m].c L1[m].s _).mono ?_; rintro e w5 ⟨g5, rfl, hg5, hbl5, hb5'⟩))
          all_goals
            have hb5 := below_drew_then hb5'
            have hB5 := isB_full hbl5
            have hd5 := HdvW.out.grow hb5
            have hblkS5 := HblkSW.out.grow hb5
            have hb05 := below_call HbwW.out hb5
            have hput := plain_put Hpl.out j (fullB L1[m].c L1[m].s) hj (fullB_length _ _)
            have hg5G : ¬ G g5 := fun h => by
              have := (HdvW.out.low _ h).2
              have : W.heap.size ≤ g5 := hg5
              omega
            have Hbl5 := Lib.hid hbl5
            have Hd5 := Lib.hid hd5
            have HblkS5 := Lib.hid hblkS5
            have Hb05 := Lib.hid hb05
            have Hput := Lib.hid hput
            have HB5 := Lib.hid hB5
            clear hbl5 hb5 hb5' hB5 hd5 hblkS5 hb05 hput he2 he3 hm0 hm1
            go_wp2_with fail
            refine (write_any _ _ _ D _ _ _ _ _ Hd5.out HB5.out Hd5.out.size (by omega) (by omega)).mono ?_
            rintro e w6 ⟨rfl, G6, hd6, hf6⟩
            rw [Hput.out] at hd6 ⊢
            obtain ⟨hn6, hblkS6⟩ := hf6.blk HblkS5.out Hno.out
            obtain ⟨_, hbl6⟩ := hf6.blk Hbl5.out hg5G
            have hb06 := below_dev Hb05.out Hd5.out (by omega) hf6
            have hcv := conv_is (isB_full hbl6)
            have hlen6 : (applyW D.sure D.loose).length = 6 := by rw [applyW_length]; exact Hpl.out.len
            have hfz := hblkS6.frozen j
            obtain ⟨u0, hcw⟩ : ∃ u0, w6.cell? ⟨w4.heap.size, j, none⟩ = some u0 := by
              have h0 := hblkS6.cell j
              rw [Array.getElem?_eq_getElem (by simp; omega)] at h0
              exact ⟨_, h0⟩
            have hset := hblkS6.setStr j (fullB L1[m].c L1[m].s)
            have happ : (applyW D.sure D.loose).set j (fullB L1[m].c L1[m].s) = applyW D.sure (D.loose ++ [(j, fullB L1[m].c L1[m].s)]) := by rw [applyW_append]; rfl
            rw [happ] at hset
            obtain ⟨W6, hW6⟩ : ∃ x, x = w6.setCell ⟨w4.heap.size, j, none⟩ (str (fullB L1[m].c L1[m].s)) := ⟨_, rfl⟩
            obtain ⟨D6, hD6⟩ : ∃ D6 : Dev, D6 = { D with loose := D.loose ++ [(j, fullB L1[m].c L1[m].s)], changes := D.changes + 1 } := ⟨_, rfl⟩
            have hd66 : DevAt W6 w3.heap.size G6 g D6 := by
              rw [hW6, hD6]
              exact hd6.keep (fun q hq => Below.heap_setCell _ _ _ _ (fun (e : q = w4.heap.size) => hn6 (e ▸ hq))) (by simp [World.setCell])
            have hb66 : Below W0.heap.size W0 W6 := by rw [hW6]; exact hb06.setCell (show W0.heap.size ≤ w4.heap.size by omega) _
            rw [← hW6] at hset
            have hblkS66 : Blk W6 w4.heap.size 46 ((applyW D6.sure D6.loose).map str).toArray := by rw [hD6]; exact hset
            have hpl6 : PlainDev 6 D6 := by rw [hD6]; exact ⟨Hpl.out.off, Hpl.out.left, Hpl.out.len⟩
            have hfc6 : D6.changes ≤ m + 1 := by rw [hD6]; show D.changes + 1 ≤ _; omega
            have hfl6 : D6.loose.length ≤ m + 1 := by rw [hD6]; show (D.loose ++ _).length ≤ _; rw [List.length_append]; simp; omega
            have HblkS66 := Lib.hid hblkS66
            have Hd66 := Lib.hid hd66
            have Hb66 := Lib.hid hb66
            have HW6 := Lib.hid hW6
            have Hpl6 := Lib.hid hpl6
            have Hn6 := Lib.hid hn6
            clear hd6 hf6 hn6 hblkS6 hbl6 hb06 hlen6 hset happ hW6 hd66 hb66 hD6 hblkS66 hpl6
            go_wp2_with fail
            rw [← HW6.out]
            go_roundw
            case rel => exact ⟨m + 1, D6, G6, by omega, by go_num, hfc6, hfl6, Hpl6.out, Hd66.out, Hn6.out, HblkS66.out, Hb66.out⟩
            case measure => simp [intOf]; omega
        · obtain rfl : m = L1.length := by omega
          obtain ⟨wm, rfl⟩ : ∃ x, x = wr := ⟨wr, rfl⟩
          have hbar := plain_barrier hpl
          have hTl : (applyW D.sure D.loose).length = 6 := by rw [applyW_length]; exact hpl.len
          have hpl2 : PlainDev 6 ({ D with sure := applyW D.sure D.loose, loose := [], changes := D.changes + 1 } : Dev) := ⟨hpl.off, hpl.left, hTl⟩
          have Hbar := Lib.hid hbar
          have Hpl2 := Lib.hid hpl2
          have HTl := Lib.hid hTl
          have Hdv := Lib.hid hdv
          have HblkS := Lib.hid hblkS
          have Hbw := Lib.hid hbw
          have Hno := Lib.hid hno
          clear hbar hpl2 hTl hdv hblkS hbw hno hpl
          go_wp2_with fail
          refine (barrier_any _ _ _ D _ Hdv.out (by omega) (by omega)).mono ?_
          rintro e w7 ⟨rfl, hd7, hf7⟩
          rw [Hbar.out] at hd7 ⊢
          have hblkS7 := (hf7.blk HblkS.out Hno.out).2
          have hb07 := below_dev Hbw.out Hdv.out (by omega) hf7
          obtain ⟨D2, hD2⟩ : ∃ D2 : Dev, D2 = ({ D with sure := applyW D.sure D.loose, loose := [], changes := D.changes + 1 } : Dev) := ⟨_, rfl⟩
          have hc2 : D2.changes ≤ 61 := by rw [hD2]; show D.changes + 1 ≤ 61; omega
          have hl2 : D2.loose = [] := by rw [hD2]
          have hs2 : applyW D.sure D.loose = D2.sure := by rw [hD2]
          rw [hs2] at hblkS7
          replace hd7 : DevAt w7 w3.heap.size G g D2 := by rw [hD2]; exact hd7
          have hG7 : ¬ G w7.heap.size := fun h => by have := (hd7.low _ h).2; omega
          have hs47 : w4.heap.size < w7.heap.size := hblkS7.lt
          have hs07 := hb07.size
          have Hpl7 := Lib.hid (show PlainDev 6 D2 by rw [hD2]; exact Hpl2.out)
          have Hd7 := Lib.hid hd7
          have HblkS7 := Lib.hid hblkS7
          have Hb07 := Lib.hid hb07
          have HG7 := Lib.hid hG7
          have Hl2 := Lib.hid hl2
          clear hd7 hf7 hblkS7 hb07 hD2 hG7 hl2 hs2
          go_wp2_with fail
          go_loopw [16, 94] (fun t i wr => ∃ (m : Nat) (tn : Int) (D3 : Dev) (G3 : Nat → Prop) (vs : Nat → Value), m ≤ L2.length ∧ i = .int .i64 (m : Int) ∧ t = .int .i64 tn ∧ D3.sure = D2.sure ∧ D3.changes ≤ 61 + m ∧ D3.loose.length = m ∧ PlainDev 6 D3 ∧ TornOk c D3.loose tn ∧ DevAt wr w3.heap.size G3 g D3 ∧ ¬ G3 w4.heap.size ∧ ¬ G3 w7.heap.size ∧ Blk wr w4.heap.size 46 (D2.sure.map str).toArray ∧ MayAt wr (w7.heap.size + 1) w7.heap.size G3 D3.loose vs ∧ Below W0.heap.size W0 wr) (fun _ i _ => L2.length - (intOf i).toNat)
          case atStart =>
            refine ⟨0, -1, D2, G, (fun _ => .slice none 0 0), by omega, rfl, rfl, rfl, hc2, by rw [Hl2.out]; rfl, Hpl7.out, by rw [Hl2.out]; exact fun _ _ h => (nomatch h), Hd7.out.grow ((Below.refl _ _).alloc (Nat.le_refl _) _), Hno.out, HG7.out, HblkS7.out.alloc _, ?_, below_call Hb07.out ((Below.refl _ _).alloc (Nat.le_refl _) _)⟩
            rw [Hl2.out]
            exact MayAt.start w7 G
          case round =>
            obtain ⟨m, tn, D3, G3, vs, hm2', rfl, rfl, hsr, hfc3, hfl3, hpl3, htn, hdv3, hno3, hnoM, hblkS3, hmay, hbw3⟩ := hrel
            by_cases hlt : m < L2.length
            · obtain ⟨b, off, rfl, hbw0, _, hcells⟩ := Hel2.out (by intro e; rw [e] at hlt; simp at hlt)
              obtain ⟨Ak, nk, c0, c1, c2, c3, c4, c5, c6, c7, hkL, hkk, hka, hsl⟩ := hcells m hlt
              have d0 := (hbw3.cell (p := ⟨b, off + m * 8, none⟩) hbw0).trans c0
              have d1 := (hbw3.cell (p := ⟨b, off + m * 8 + 1, none⟩) hbw0).trans c1
              have d2 := (hbw3.cell (p := ⟨b, off + m * 8 + 2, none⟩) hbw0).trans c2
              have d3 := (hbw3.cell (p := ⟨b, off + m * 8 + 3, none⟩) hbw0).trans c3
              have d4 := (hbw3.cell (p := ⟨b, off + m * 8 + 4, none⟩) hbw0).trans c4
              have d5 := (hbw3.cell (p := ⟨b, off + m * 8 + 5, none⟩) hbw0).trans c5
              have d6 := (hbw3.cell (p := ⟨b, off + m * 8 + 6, none⟩) hbw0).trans c6
              have d7 := (hbw3.cell (p := ⟨b, off + m * 8 + 7, none⟩) hbw0).trans c7
              have hsl300 := (Hop2.out _ (List.getElem_mem hlt)).1
              obtain ⟨j, hj, hij⟩ := mod_idx L2[m].at_ 6 (by omega) (by omega)
              have Hij := Lib.hid (show wrap64 ((IntKind.u64.wrap L2[m].at_).tmod 6) = (j : Int) from hij)
              have hbox : Below wr.heap.size wr (wr.alloc (.cells #[.int .i64 L2[m].kind, .int .i64 L2[m].at_, .int .u8 (L2[m].c.toNat : Int), str L2[m].s, .bool L2[m].long, .slice Ak L2[m].choice.kept.length nk, .int .i64 L2[m].choice.torn, .int .i64 L2[m].choice.half] 39)) := (Below.refl _ _).alloc (Nat.le_refl _) _
              have hblkO := Blk.new wr 39 #[.int .i64 L2[m].kind, .int .i64 L2[m].at_, .int .u8 (L2[m].c.toNat : Int), str L2[m].s, .bool L2[m].long, .slice Ak L2[m].choice.kept.length nk, .int .i64 L2[m].choice.torn, .int .i64 L2[m].choice.half]
              obtain ⟨W, hW⟩ : ∃ W, W = (wr.alloc (.cells #[.int .i64 L2[m].kind, .int .i64 L2[m].at_, .int .u8 (L2[m].c.toNat : Int), str L2[m].s, .bool L2[m].long, .slice Ak L2[m].choice.kept.length nk, .int .i64 L2[m].choice.torn, .int .i64 L2[m].choice.half] 39)) := ⟨_, rfl⟩
              rw [← hW] at hbox hblkO
              have HW := Lib.hid hW
              have HblkO := Lib.hid hblkO
              have Hbox := Lib.hid hbox
              clear hcells c0 c1 c2 c3 c4 c5 c6 c7 hkL hsl hij hW hbox hblkO
              have HdvW := Lib.hid (hdv3.grow Hbox.out)
              have HblkSW := Lib.hid (hblkS3.grow Hbox.out)
              have HmayW := Lib.hid (hmay.grow Hbox.out)
              have HbwW := Lib.hid (below_call hbw3 Hbox.out)
              have Hpl3 := Lib.hid hpl3
              have Hno3 := Lib.hid hno3
              have HnoM := Lib.hid hnoM
              have Htn := Lib.hid htn
              have Hsr := Lib.hid hsr
              have hj6 : (j : Int) < 6 := by omega
              clear hpl3 hdv3 hno3 hnoM hblkS3 hbw3 hmay htn hsr
              go_upto_region 27 with (fail)
              rw [← HW.out, Hij.out]
              have he2 := HblkO.out.cell 2
              have he3 := HblkO.out.cell 3
              simp at he2 he3
              have hm0 : (0 : Int) ≤ min (L2[m].s.length : Int) 256 := by omega
              have hm1 : min (L2[m].s.length : Int) 256 ≤ (L2[m].s.length : Int) := by omega
              go_region_held (fun u => Below W.heap.size W u ∧ u.cell? ⟨wr.heap.size, 2, none⟩ = some (.int .u8 (L2[m].c.toNat : Int)) ∧ u.cell? ⟨wr.heap.size, 3, none⟩ = some (str L2[m].s))
                (first | exact ⟨(Below.refl _ _).drew, he2, he3⟩ | (go_split_ands; exact ⟨below_on (by assumption) hb5', cell_then hb5' (by assumption), cell_then hb5' (by assumption)⟩) | assumption)
                ((go_at_call 21; refine (full_cut L2[m].c L2[m].s _).mono ?_; rintro e w5 ⟨g5, rfl, hg5, hbl5, hb5'⟩; have hcv5 := conv_is (isB_full hbl5)))
              all_goals
                have hb5 := below_drew_then hb5'
                have hd5 := HdvW.out.grow hb5
                have hblkS5 := HblkSW.out.grow hb5
                have hmay5 := HmayW.out.grow hb5
                have hb05 := below_call HbwW.out hb5
                have hput := plain_put Hpl3.out j (fullB L2[m].c L2[m].s) hj (fullB_length _ _)
                obtain ⟨cb, Wb, hcb, hBb, hbb⟩ := str_bytes (fullB L2[m].c L2[m].s) (by rw [fullB_length]; omega) w5
                have hlb := fullB_length L2[m].c L2[m].s
                obtain ⟨X, hX⟩ : ∃ X, X = fullB L2[m].c L2[m].s := ⟨_, rfl⟩
                rw [← hX] at hput hcb hBb hlb ⊢
                rw [hlb] at hcb hBb
                have Hlb := Lib.hid hlb
                have Hd5 := Lib.hid (hd5.grow hbb)
                have HblkS5 := Lib.hid (hblkS5.grow hbb)
                have Hmay5 := Lib.hid (hmay5.grow hbb)
                have Hb05 := Lib.hid (below_call hb05 hbb)
                have Hput := Lib.hid hput
                have HBb := Lib.hid hBb
                clear hbl5 hb5 hb5' hd5 hblkS5 hmay5 hb05 hput he2 he3 hm0 hm1 hBb hbb hlb hX hcv5
                go_wp2_with fail
                refine (write_any _ _ _ D3 _ _ _ _ _ Hd5.out HBb.out Hd5.out.size (by omega) (by omega)).mono ?_
                rintro e w6 ⟨rfl, G6, hd6, hf6⟩
                rw [Hput.out] at hd6 ⊢
                obtain ⟨hn6, hblkS6⟩ := hf6.blk HblkS5.out Hno3.out
                obtain ⟨hnM6, _⟩ := hf6.blk Hmay5.out.blk HnoM.out
                have hmay6 := Hmay5.out.fr hf6 HnoM.out
                have hb06 := below_dev Hb05.out Hd5.out (by omega) hf6
                have hcm := hmay6.cell j hj
                have hown := hmay6.own j hj
                have hml := mayL_length D3.loose j
                obtain ⟨A0, n0, hv0, _, _, _⟩ := hown.form
                rw [hv0] at hown hcm
                obtain ⟨N0, hN0⟩ : ∃ N0, N0 = (mayL D3.loose j).length := ⟨_, rfl⟩
                rw [← hN0] at hown hcm hv0 hml
                have Hv0 := Lib.hid hv0
                have Hown := Lib.hid hown
                have Hmay6 := Lib.hid hmay6
                have HblkS6 := Lib.hid hblkS6
                have Hd6 := Lib.hid hd6
                have Hb06 := Lib.hid hb06
                have Hn6 := Lib.hid hn6
                have HnM6 := Lib.hid hnM6
                have HN0 := Lib.hid hN0
                have hs6 := hd6.size
                have hs76 : w7.heap.size + 1 ≤ w6.heap.size := hmay6.blk.lt
                clear hv0 hown hmay6 hblkS6 hd6 hb06 hn6 hnM6 hf6 hN0 hcb
                go_upto_region 31 with (at_builtin; refine wpList_appK_new _ elemS rfl (.tmp 124) (.tmp 126) rfl (w7.heap.size + 1) N0 (.slice A0 N0 n0) _ rfl Hown.out [str X] 1 rfl 9 rfl (str_oneCell [X]) (by omega) (by omega) hs76 ?_; intro v1 w1 hown1 hg1 hat1; have hblkM1 := Hmay6.out.blk.grown hg1 (fun e => by have := (Hown.out.lt _ e).1; omega); have hcc : w1.cell? ⟨w7.heap.size, j, none⟩ = some (.slice A0 N0 n0) := by { rw [hblkM1.cell, ← Hmay6.out.blk.cell]; exact hcm }; have hff := hblkM1.frozen j; obtain ⟨A1, n1, hv1, _, _, _⟩ := hown1.form; subst hv1; have Hown1 := Lib.hid hown1; have Hg1 := Lib.hid hg1; have Hat1 := Lib.hid hat1; clear hown1 hg1 hat1 hblkM1)
                have hown1 : OwnK w1 (w7.heap.size + 1) 9 1 (.slice A1 (N0 + 1) n1) ((mayL D3.loose j).length + 1) ((mayL D3.loose j).map str ++ [str X]) := by rw [← HN0.out]; exact Hown1.out
                have hmay7 := Hmay6.out.push j hj X Hv0.out hown1 Hg1.out Hat1.out (fun q hq => (Hd6.out.low q hq).2)
                have hP : ∀ q, (Value.slice A0 N0 n0).ownBlock = some q → w7.heap.size + 1 ≤ q := fun q hq => (Hown.out.lt q hq).1
                have hPG : ∀ q, (Value.slice A0 N0 n0).ownBlock = some q → ¬ G6 q := fun q hq => Hmay6.out.out j q hj (by rw [Hv0.out]; exact hq)
                have hfr7 := ((Fr.refl (fun q => q = w7.heap.size ∨ (Value.slice A0 N0 n0).ownBlock = some q) w6).grown Hg1.out (fun k hk => .inr hk)).setCell (p := ⟨w7.heap.size, j, none⟩) (.inl rfl) (.slice A1 (N0 + 1) n1)
                obtain ⟨W7, hW7⟩ : ∃ x, x = w1.setCell ⟨w7.heap.size, j, none⟩ (.slice A1 (N0 + 1) n1) := ⟨_, rfl⟩
                rw [← hW7] at hmay7 hfr7 ⊢
                obtain ⟨D6, hD6⟩ : ∃ D6 : Dev, D6 = { D3 with loose := D3.loose ++ [(j, X)], changes := D3.changes + 1 } := ⟨_, rfl⟩
                have hd7 : DevAt W7 w3.heap.size G6 g D6 := by
                  rw [hD6]
                  exact Hd6.out.keep (fun q hq => (hfr7.block q (Hd6.out.low q hq).2 (fun e => by
                    rcases e with e | e
                    · exact HnM6.out (e ▸ hq)
                    · exact hPG q e hq)).2) hfr7.size
                have hblkS7 := (hfr7.blk HblkS6.out (fun e => by
                  rcases e with e | e
                  · omega
                  · have := hP _ e; omega)).2
                have hb07' : Below W0.heap.size W0 W7 := Hb06.out.trans (hfr7.below (fun q hq => by
                  rcases hq with e | e
                  · omega
                  · have := hP _ e; omega) Hb06.out.size)
                have hl6 : D6.loose = D3.loose ++ [(j, X)] := by rw [hD6]
                have hpl6 : PlainDev 6 D6 := by rw [hD6]; exact ⟨Hpl3.out.off, Hpl3.out.left, Hpl3.out.len⟩
                have hc6 : D6.changes ≤ 61 + (m + 1) := by rw [hD6]; show D3.changes + 1 ≤ _; omega
                have hsr6 : D6.sure = D2.sure := by rw [hD6]; exact Hsr.out
                have hln6 : D6.loose.length = m + 1 := by rw [hl6, List.length_append]; simp; omega
                rw [← hl6] at hmay7
                have hbx7 := Hbx.out.grow hb07'
                have he1 := hbx7.cell 1
                simp at he1
                have Hmay7 := Lib.hid hmay7
                have Hd7 := Lib.hid hd7
                have HblkS7' := Lib.hid hblkS7
                have Hb07' := Lib.hid hb07'
                have Hl6 := Lib.hid hl6
                have Hpl6 := Lib.hid hpl6
                have Hsr6 := Lib.hid hsr6
                have Hln6 := Lib.hid hln6
                clear hmay7 hd7 hblkS7 hb07' hl6 hpl6 hsr6 hln6 hW7 hD6 hfr7 hP hPG hown1 hbx7 hcm hcc hff
                by_cases ht : (m : Int) = c.torn
                · have hdt : ((m : Int) == c.torn) = true := by simpa using ht
                  have hdt2 : decide ((m : Int) = c.torn) = true := by simpa using ht
                  have Ht := Lib.hid ht
                  clear ht
                  go_wp2_with fail
                  go_roundw
                  case rel => exact ⟨m + 1, (j : Int), D6, G6, _, by omega, by go_num, rfl, Hsr6.out, hc6, Hln6.out, Hpl6.out, by rw [Hl6.out]; exact tornOk_snoc Htn.out _ _ (by rw [hfl3, if_pos Ht.out]), Hd7.out, Hn6.out, HnM6.out, HblkS7'.out, Hmay7.out, Hb07'.out⟩
                  case measure => simp [intOf]; omega
                · have hdt : ((m : Int) == c.torn) = false := by simpa using ht
                  have hdt2 : decide ((m : Int) = c.torn) = false := by simpa using ht
                  have Ht := Lib.hid ht
                  clear ht
                  go_wp2_with fail
                  go_roundw
                  case rel => exact ⟨m + 1, tn, D6, G6, _, by omega, by go_num, rfl, Hsr6.out, hc6, Hln6.out, Hpl6.out, by rw [Hl6.out]; exact tornOk_snoc Htn.out _ _ (by rw [hfl3, if_neg Ht.out]), Hd7.out, Hn6.out, HnM6.out, HblkS7'.out, Hmay7.out, Hb07'.out⟩
                  case measure => simp [intOf]; omega
            · obtain rfl : m = L2.length := by omega
              obtain ⟨wp, rfl⟩ : ∃ x, x = wr := ⟨wr, rfl⟩
              have hct : D3.cut c = (⟨cutS c D3.sure 0 D3.loose, [], -1, noChoice, D3.changes, true⟩ : Dev) := by
                unfold Dev.cut
                rw [hpl3.off]
                rfl
              have hbxp := Hbx.out.grow hbw3
              have he0 := hbxp.cell 0
              have he1 := hbxp.cell 1
              have he2 := hbxp.cell 2
              simp at he0 he1 he2
              have hTl : (cutS c D3.sure 0 D3.loose).length = 6 := by rw [cutS_length]; exact hpl3.len
              have hone : ∀ q : Nat, q < 6 → _ := fun q hq => cut_one hdv3.wf htn q (by rw [hpl3.len]; exact hq)
              have hSl : D2.sure.length = 6 := by rw [← hsr]; exact hpl3.len
              rw [hsr] at hone
              have hl60 : D3.loose.length ≤ 60 := by omega
              have Hct := Lib.hid hct
              have HTl := Lib.hid hTl
              have HSl := Lib.hid hSl
              have Hone := Lib.hid hone
              have Hdv3 := Lib.hid hdv3
              have HblkS3 := Lib.hid hblkS3
              have Hmay := Lib.hid hmay
              have Hbw3 := Lib.hid hbw3
              have Hno3 := Lib.hid hno3
              have HnoM := Lib.hid hnoM
              have Hsr := Lib.hid hsr
              clear hct hTl hSl hone hdv3 hblkS3 hmay hbw3 hno3 hnoM hsr hpl3 htn hbxp
              go_wp2_with fail
              refine (cut_any _ _ _ D3 _ _ c _ Hdv3.out (HLk.out.grow Hbw3.out) (by omega)).mono ?_
              rintro e w8 ⟨rfl, hd8, hf8⟩
              rw [Hct.out] at hd8
              have hblkS8 := hf8.blk HblkS3.out Hno3.out
              have hmay8 := Hmay.out.fr hf8 HnoM.out
              have hb08 := below_dev Hbw3.out Hdv3.out (by omega) hf8
              have Hd8 := Lib.hid hd8
              have HblkS8 := Lib.hid hblkS8
              have Hmay8 := Lib.hid hmay8
              have Hb08 := Lib.hid hb08
              clear hd8 hf8 hblkS8 hmay8 hb08 he0 he1 he2
              go_wp2_with fail
              refine (on_any _ _ _ _ _ Hd8.out).mono ?_
              rintro e w9 ⟨rfl, hd9, hf9⟩
              have hblkS9 := (hf9.blk HblkS8.out.2 HblkS8.out.1).2
              have hmay9 := Hmay8.out.fr hf9 HnoM.out
              have hb09 := below_dev Hb08.out Hd8.out (by omega) hf9
              obtain ⟨T, hT⟩ : ∃ T, T = cutS c D3.sure 0 D3.loose := ⟨_, rfl⟩
              obtain ⟨D9, hD9⟩ : ∃ D9 : Dev, D9 = (⟨T, [], -1, noChoice, D3.changes, false⟩ : Dev) := ⟨_, rfl⟩
              have hd99 : DevAt w9 w3.heap.size G3 g D9 := by rw [hD9, hT]; exact hd9
              have hTl : T.length = 6 := by rw [hT]; exact HTl.out
              have hone := Hone.out
              rw [← Hsr.out, ← hT] at hone
              rw [Hsr.out] at hone
              have hD9s : D9.sure.length = 6 := by rw [hD9]; exact hTl
              have hD9l : D9.loose = [] := by rw [hD9]
              have hD9n : ∀ q : Nat, q < 6 → D9.why (q : Int) = 0 ∧ D9.now q = T.getD q [] := fun q hq => by
                rw [hD9]
                refine ⟨?_, rfl⟩
                unfold Dev.why
                show (if false = true then (6 : Int) else if (q : Int) < 0 ∨ ((T.length : Nat) : Int) ≤ (q : Int) then 2 else 0) = 0
                rw [hTl, if_neg (by decide), if_neg (by omega)]
              have HblkS9 := Lib.hid hblkS9
              have Hmay9 := Lib.hid hmay9
              have Hd99 := Lib.hid hd99
              have Hb09 := Lib.hid hb09
              have HD9n := Lib.hid hD9n
              have HD9s := Lib.hid hD9s
              have HD9l := Lib.hid hD9l
              have HTl2 := Lib.hid hTl
              have HoneT := Lib.hid hone
              clear hblkS9 hmay9 hd9 hf9 hb09 hD9 hd99 hTl hD9n hD9s hD9l hone hT
              go_wp2_with fail
              go_loopw [140] (fun x wr => ∃ q : Nat, q ≤ 6 ∧ x = .int .i64 (q : Int) ∧ Below w9.heap.size w9 wr) (fun x _ => 6 - (intOf x).toNat)
              case atStart => exact ⟨0, by omega, rfl, Below.refl _ _⟩
              case round =>
                obtain ⟨q, hq, rfl, hbq⟩ := hrel
                by_cases hlq : q < 6
                · obtain ⟨wq, rfl⟩ : ∃ x, x = wr := ⟨wr, rfl⟩
                  obtain ⟨hw0, hnow⟩ := HD9n.out q hlq
                  have hone := HoneT.out q hlq
                  have hdq := Hd99.out.grow hbq
                  have hsq := HblkS9.out.grow hbq
                  have hmq := Hmay9.out.grow hbq
                  have hqS : q < D2.sure.length := by rw [HSl.out]; exact hlq
                  have hcq : _ = some (str D2.sure[q]) := (hsq.cell q).trans (by simp [hqS])
                  have hcm := hmq.cell q hlq
                  have hown := hmq.own q hlq
                  obtain ⟨Aq, cq, hvq, _, _, _⟩ := hown.form
                  rw [hvq] at hown hcm
                  obtain ⟨nR, hnq⟩ : ∃ nR, nR = (mayL D3.loose q).length := ⟨_, rfl⟩
                  have hnq60 : nR ≤ 60 := by rw [hnq]; exact Nat.le_trans (mayL_length _ _) hl60
                  rw [← hnq] at hown hcm
                  obtain ⟨Wq, hWq⟩ : ∃ Wq, Wq = D2.sure[q] := ⟨_, rfl⟩
                  rw [← hWq] at hcq
                  rw [show D2.sure.getD q [] = D2.sure[q] by rw [List.getD_eq_getElem?_getD, List.getElem?_eq_getElem hqS]; rfl, ← hWq] at hone
                  obtain ⟨X, hX⟩ : ∃ X, X = T.getD q [] := ⟨_, rfl⟩
                  rw [← hX] at hnow hone
                  have hXl : X.length = 256 := by
                    rw [← hnow]
                    exact now_length Hd99.out.wf q (by rw [HD9s.out]; exact hlq)
                  have Hw0 := Lib.hid hw0
                  have Hnow := Lib.hid hnow
                  have Hdq := Lib.hid hdq
                  have Hbq := Lib.hid hbq
                  have Hcq := Lib.hid hcq
                  have Hcm := Lib.hid hcm
                  have Hown0 := Lib.hid hown
                  have HnQ := Lib.hid hnq
                  have HXl := Lib.hid hXl
                  obtain ⟨P0, hP0⟩ : ∃ P0 : Prop, P0 = (X = Wq ∨ (q : Int) = tn) := ⟨_, rfl⟩
                  have Hone := Lib.hid (show P0 ∨ X ∈ mayL D3.loose q by
                    rw [hP0]
                    rcases hone with h | h | h
                    · exact .inl (.inl h)
                    · exact .inl (.inr h)
                    · exact .inr h)
                  have HP0 := Lib.hid hP0
                  have hq6 : (q : Int) < 6 := by omega
                  clear hw0 hnow hdq hsq hmq hX hbq hXl hcq hcm hown hvq hnq hWq hone hP0
                  go_wp2_with fail
                  refine (read_any _ _ _ _ _ _ Hdq.out).mono ?_
                  rintro e w10 hrd
                  rcases hrd with ⟨h, _⟩ | ⟨_, v, rfl, hov, hb10⟩
                  · exact absurd Hw0.out h
                  rw [show ((q : Int)).toNat = q from rfl, Hnow.out] at hov
                  obtain ⟨A9, c9, hv9, _, _, _⟩ := hov.form
                  rw [List.length_map, HXl.out] at hv9
                  subst hv9
                  have hdq10 := Hdq.out.grow hb10
                  have hcq10 := cell_then hb10 Hcq.out
                  have hcm10 := cell_then hb10 Hcm.out
                  have HownQ := Lib.hid (Hown0.out.grow hb10)
                  have hB9 := hov.isB
                  have HB9 := Lib.hid hB9
                  have hcv9 : ∀ n, (convert 42 9 (.slice A9 256 c9)).run Try.prog (w10.drewN n) = .ok (str X) (w10.drewN n) := fun n => conv_is (hB9.drewN n)
                  have Hb910 := Lib.hid (below_call Hbq.out hb10)
                  have Hdq10 := Lib.hid hdq10
                  clear hov hB9 hb10 hdq10
                  go_wp2_with fail
                  refine (loose_any _ _ _ D9 _ Hdq10.out).mono ?_
                  rintro e w' ⟨rfl, rfl⟩
                  rw [HD9l.out]
                  go_wp2_with fail
                  by_cases hXW : X = Wq
                  · subst hXW
                    have HPB := Lib.hid (show P0 → true = true from fun _ => rfl)
                    go_quiet (fail)
                    go_wp2_with fail
                    go_loopw [24, 171] (fun a x wr => ∃ (r : Nat) (bb : Bool), r ≤ nR ∧ x = .int .i64 (r : Int) ∧ a = .bool bb ∧ (P0 → bb = true) ∧ (∀ k : Nat, k < r → (mayL D3.loose q)[k]? = some X → bb = true) ∧ Below w10.heap.size w10 wr) (fun _ x _ => nR - (intOf x).toNat)
                    case atStart => exact ⟨0, _, by omega, rfl, rfl, (by first | exact HPB.out | exact fun _ => rfl), fun k hk => absurd hk (Nat.not_lt_zero k), below_drewN (Below.refl _ _) _⟩
                    case round =>
                      obtain ⟨r, bb, hr, rfl, rfl, hb0, hb1, hbr⟩ := hrel
                      by_cases hrn : r < nR
                      · obtain ⟨gq, cq', cur, hAq, _, hblkq, _, _, hcur⟩ := HownQ.out.addr (by omega)
                        injection hAq with e1 e2 e3
                        subst e1
                        clear e2 e3
                        have hrl : r < (mayL D3.loose q).length := by rw [← HnQ.out]; exact hrn
                        obtain ⟨Y, hY⟩ : ∃ Y, Y = (mayL D3.loose q)[r] := ⟨_, rfl⟩
                        have hYs : (mayL D3.loose q)[r]? = some Y := by rw [hY]; exact List.getElem?_eq_getElem hrl
                        have hcy : wr.cell? ⟨gq, r, none⟩ = some (str Y) := by
                          rw [(hblkq.grow hbr).cell, hcur r (by simpa using hrl), hY]
                          simp
                        have hcvr : (convert 42 9 (.slice A9 256 c9)).run Try.prog wr = .ok (str X) wr := conv_is (HB9.out.grow hbr)
                        have Hb0 := Lib.hid hb0
                        have Hb1 := Lib.hid hb1
                        have Hbr := Lib.hid hbr
                        have HYs := Lib.hid hYs
                        clear hb0 hb1 hbr hY hYs hcur hblkq
                        cases bb with
                        | true =>
                          go_wp2_with fail
                          go_roundw
                          case rel => exact ⟨r + 1, true, by omega, by go_num, rfl, fun _ => rfl, fun _ _ _ => rfl, Hbr.out⟩
                          case measure => simp [intOf]; omega
                        | false =>
                          by_cases hXY : X = Y
                          · subst hXY
                            go_wp2_with fail
                            go_roundw
                            case rel => exact ⟨r + 1, true, by omega, by go_num, by simp, fun _ => rfl, fun _ _ _ => rfl, Hbr.out⟩
                            case measure => simp [intOf]; omega
                          · have hne1 : (X == Y) = false := by simpa using hXY
                            go_wp2_with fail
                            go_roundw
                            case rel => exact ⟨r + 1, false, by omega, by go_num, by simp, fun h => Hb0.out h, fun k hk hx => by
                              rcases Nat.lt_succ_iff_lt_or_eq.1 hk with h | h
                              · exact Hb1.out k h hx
                              · rw [h, HYs.out] at hx
                                exact absurd (Option.some.inj hx).symm hXY, Hbr.out⟩
                            case measure => simp [intOf]; omega
                      · obtain rfl : r = nR := by omega
                        obtain rfl : bb = true := by
                          rcases Hone.out with h | h
                          · exact hb0 h
                          · obtain ⟨k, hk, hx⟩ := List.mem_iff_getElem.1 h
                            exact hb1 k (by rw [HnQ.out]; exact hk) (by rw [List.getElem?_eq_getElem hk, hx])
                        have Hbr := Lib.hid hbr
                        clear hb0 hb1 hbr
                        go_wp2_with fail
                        go_roundw
                        case rel => exact ⟨q + 1, by omega, by go_num, below_call Hb910.out Hbr.out⟩
                        case measure => simp [intOf]; omega
                  · have hne1 : (X == Wq) = false := by simpa using hXW
                    have HPB := Lib.hid (show P0 → ((q : Int) == tn) = true from fun h => by
                      rw [HP0.out] at h
                      rcases h with h | h
                      · exact absurd h hXW
                      · simpa using h)
                    go_quiet (fail)
                    go_wp2_with fail
                    go_loopw [24, 171] (fun a x wr => ∃ (r : Nat) (bb : Bool), r ≤ nR ∧ x = .int .i64 (r : Int) ∧ a = .bool bb ∧ (P0 → bb = true) ∧ (∀ k : Nat, k < r → (mayL D3.loose q)[k]? = some X → bb = true) ∧ Below w10.heap.size w10 wr) (fun _ x _ => nR - (intOf x).toNat)
                    case atStart => exact ⟨0, _, by omega, rfl, rfl, (by first | exact HPB.out | exact fun _ => rfl), fun k hk => absurd hk (Nat.not_lt_zero k), below_drewN (Below.refl _ _) _⟩
                    case round =>
                      obtain ⟨r, bb, hr, rfl, rfl, hb0, hb1, hbr⟩ := hrel
                      by_cases hrn : r < nR
                      · obtain ⟨gq, cq', cur, hAq, _, hblkq, _, _, hcur⟩ := HownQ.out.addr (by omega)
                        injection hAq with e1 e2 e3
                        subst e1
                        clear e2 e3
                        have hrl : r < (mayL D3.loose q).length := by rw [← HnQ.out]; exact hrn
                        obtain ⟨Y, hY⟩ : ∃ Y, Y = (mayL D3.loose q)[r] := ⟨_, rfl⟩
                        have hYs : (mayL D3.loose q)[r]? = some Y := by rw [hY]; exact List.getElem?_eq_getElem hrl
                        have hcy : wr.cell? ⟨gq, r, none⟩ = some (str Y) := by
                          rw [(hblkq.grow hbr).cell, hcur r (by simpa using hrl), hY]
                          simp
                        have hcvr : (convert 42 9 (.slice A9 256 c9)).run Try.prog wr = .ok (str X) wr := conv_is (HB9.out.grow hbr)
                        have Hb0 := Lib.hid hb0
                        have Hb1 := Lib.hid hb1
                        have Hbr := Lib.hid hbr
                        have HYs := Lib.hid hYs
                        clear hb0 hb1 hbr hY hYs hcur hblkq
                        cases bb with
                        | true =>
                          go_wp2_with fail
                          go_roundw
                          case rel => exact ⟨r + 1, true, by omega, by go_num, rfl, fun _ => rfl, fun _ _ _ => rfl, Hbr.out⟩
                          case measure => simp [intOf]; omega
                        | false =>
                          by_cases hXY : X = Y
                          · subst hXY
                            go_wp2_with fail
                            go_roundw
                            case rel => exact ⟨r + 1, true, by omega, by go_num, by simp, fun _ => rfl, fun _ _ _ => rfl, Hbr.out⟩
                            case measure => simp [intOf]; omega
                          · have hne1 : (X == Y) = false := by simpa using hXY
                            go_wp2_with fail
                            go_roundw
                            case rel => exact ⟨r + 1, false, by omega, by go_num, by simp, fun h => Hb0.out h, fun k hk hx => by
                              rcases Nat.lt_succ_iff_lt_or_eq.1 hk with h | h
                              · exact Hb1.out k h hx
                              · rw [h, HYs.out] at hx
                                exact absurd (Option.some.inj hx).symm hXY, Hbr.out⟩
                            case measure => simp [intOf]; omega
                      · obtain rfl : r = nR := by omega
                        obtain rfl : bb = true := by
                          rcases Hone.out with h | h
                          · exact hb0 h
                          · obtain ⟨k, hk, hx⟩ := List.mem_iff_getElem.1 h
                            exact hb1 k (by rw [HnQ.out]; exact hk) (by rw [List.getElem?_eq_getElem hk, hx])
                        have Hbr := Lib.hid hbr
                        clear hb0 hb1 hbr
                        go_wp2_with fail
                        go_roundw
                        case rel => exact ⟨q + 1, by omega, by go_num, below_call Hb910.out Hbr.out⟩
                        case measure => simp [intOf]; omega
                · obtain rfl : q = 6 := by omega
                  have Hbq := Lib.hid hbq
                  clear hbq
                  go_wp2
                  go_ret
                  exact ⟨rfl, below_call Hba.out (below_call Hb09.out Hbq.out)⟩
end Go.Proofs.Ytodcjhkleiibfaa
