/-
  The walk of DeviceAll.
-/
import Derived.Test.YtodcjhkleiibfaaDevArr
namespace Go.Proofs.Ytodcjhkleiibfaa
open Go.RowKit
set_option maxRecDepth 100000

set_option maxHeartbeats 1000000 in
theorem deviceall_walk (v : Value) (L : List OpM) (all : Bool) (w : World) (hv : IsL kOp w (fun _ => True) v L) :
    Calls Try.prog 6 #[v, .bool all] w fun e w' => e = .returned (.bool true) ∧ Below w.heap.size w w' := by
  have hv0 : IsL kOp w (fun k => k < w.heap.size) v L := hv.move fun k _ hk => ⟨hk, rfl⟩
  obtain ⟨A, c, rfl, hc, hm, hel⟩ := op_at hv0
  have Hel := Lib.hid hel
  have Hv := Lib.hid hv
  unfold maxLen at hm
  clear hel hv hv0
  cases hfit : fitsB 1 L with
  | false =>
    have Hfit := Lib.hid hfit
    clear hfit
    go_enter Try.func6, Try.ntmps6
    go_wp2_with fail
    refine (lives_any _).mono ?_
    rintro e w1 ⟨rfl, hb1⟩
    go_wp2_with fail
    refine (fits_any _ _ 1 L _ (Hv.out.grow hb1)).mono ?_
    rintro e w2 ⟨rfl, hb2⟩
    rw [Hfit.out]
    have hb02 := below_call hb1 hb2
    go_wp2_with fail
    refine (lives_any _).mono ?_
    rintro e w3 ⟨rfl, hb3⟩
    go_wp2
    go_ret
    exact ⟨rfl, below_call hb02 hb3⟩
  | true =>
    obtain ⟨_, _, h60, hop⟩ := fits_out hfit
    have Hfit := Lib.hid hfit
    have Hop := Lib.hid hop
    clear hfit hop
    go_enter Try.func6, Try.ntmps6
    go_wp2_with fail
    refine (lives_any _).mono ?_
    rintro e w1 ⟨rfl, hb1⟩
    go_wp2_with fail
    refine (fits_any _ _ 1 L _ (Hv.out.grow hb1)).mono ?_
    rintro e w2 ⟨rfl, hb2⟩
    rw [Hfit.out]
    have hb02 := below_call hb1 hb2
    clear hb1 hb2
    go_wp2_with fail
    refine (new_ok 6 _ (by omega) (by omega)).mono ?_
    rintro e w3 ⟨g, F, rfl, hdev, hb3⟩
    have hb03 := below_call hb02 hb3
    have Hdev := Lib.hid hdev
    have Hb03 := Lib.hid hb03
    have hs23 := hb3.size
    have hs02 := hb02.size
    have hlow := hdev.low
    have Hnot := Lib.hid (show ¬ F w3.heap.size from fun h => by have := (hlow _ h).2; omega)
    have Hnot1 := Lib.hid (show ¬ F (w3.heap.size + 1) from fun h => by have := (hlow _ h).2; omega)
    clear hdev hb02 hb3 hb03 hlow
    go_wp2_with fail
    have hmk2 := run_bytes256
    have hcz := conv_zeros
    obtain ⟨Z1, hZ1⟩ : ∃ Z1 : Array Value, Z1 = Array.replicate 256 (.int .u8 0) := ⟨_, rfl⟩
    rw [← hZ1] at hmk2 hcz
    clear hZ1
    go_loopw [33] (fun i wr => ∃ k : Nat, k ≤ 6 ∧ i = .int .i64 (k : Int) ∧ Blk wr w3.heap.size 46 ((List.replicate 6 []).map str).toArray ∧ Blk wr (w3.heap.size + 1) 46 ((List.replicate k zeroTxt ++ List.replicate (6 - k) []).map str).toArray ∧ Below w3.heap.size w3 wr) (fun i _ => 6 - (intOf i).toNat)
    case atStart => exact ⟨0, by omega, rfl, (Blk.new w3 46 _).alloc _, by
      have := Blk.new (w3.alloc (.cells #[str [], str [], str [], str [], str [], str []] 46)) 46 #[str [], str [], str [], str [], str [], str []]
      simpa using this, ((Below.refl _ _).alloc (Nat.le_refl _) _).alloc (by simp) _⟩
    case round =>
      obtain ⟨k, hk, rfl, hblkS, hblk, hb⟩ := hrel
      by_cases hlt : k < 6
      · have hset := hblk.setStr k zeroTxt
        have hfz := hblk.frozen k
        obtain ⟨u0, hcw⟩ : ∃ u0, wr.cell? ⟨w3.heap.size + 1, k, none⟩ = some u0 := by
          have h0 := hblk.cell k
          rw [Array.getElem?_eq_getElem (by simp; omega)] at h0
          exact ⟨_, h0⟩
        have hsz : w3.heap.size + 1 < wr.heap.size := hblk.lt
        have hkk : (k : Int) < 6 := by omega
        have heq : (List.replicate k zeroTxt ++ List.replicate (6 - k) []).set k zeroTxt = List.replicate (k + 1) zeroTxt ++ List.replicate (6 - (k + 1)) [] := by
          rw [List.set_append_right _ _ (by simp)]
          simp only [List.length_replicate, Nat.sub_self]
          obtain ⟨m, hm⟩ : ∃ m, 6 - k = m + 1 := ⟨6 - k - 1, by omega⟩
          rw [hm, List.replicate_succ, List.set_cons_zero, show 6 - (k + 1) = m by omega, List.replicate_succ' (n := k), List.append_assoc]
          rfl
        rw [heq] at hset
        have Hset := Lib.hid hset
        have Hb := Lib.hid hb
        have HblkS := Lib.hid hblkS
        clear hset heq hblk hb hblkS
        go_wp2
        go_roundw
        case rel => exact ⟨k + 1, by omega, by go_num, (HblkS.out.far (p := ⟨w3.heap.size + 1, k, none⟩) (by simp) _).alloc _, Hset.out.alloc _, (Hb.out.setCell (by simp) _).alloc (by simp [World.setCell]; omega) _⟩
        case measure => simp [intOf]; omega
      · obtain rfl : k = 6 := by omega
        obtain ⟨wa, rfl⟩ : ∃ x, x = wr := ⟨wr, rfl⟩
        rw [Nat.sub_self, show List.replicate 0 ([] : List UInt8) = [] from rfl, List.append_nil] at hblk
        obtain ⟨T0, hT0⟩ : ∃ T0 : List (List UInt8), T0 = List.replicate 6 zeroTxt := ⟨_, rfl⟩
        have hT0l : T0.length = 6 := by rw [hT0]; simp
        have hT0s : T0 = (newD 6).sure := by rw [hT0]; rfl
        rw [← hT0] at hblk
        have hd4 := Hdev.out.grow hb
        have hb04 := below_call Hb03.out hb
        have HblkS := Lib.hid hblkS
        have Hblk := Lib.hid hblk
        have Hd4 := Lib.hid hd4
        have Hb04 := Lib.hid hb04
        have Hb34 := Lib.hid hb
        have HT0 := Lib.hid hT0
        have HT0l := Lib.hid hT0l
        have HT0s := Lib.hid hT0s
        clear hblkS hblk hd4 hb04 hb hmk2 hcz hT0 hT0l hT0s
        rw [show ((6 : Nat) : Int) = 6 from rfl]
        go_upto_region 11 with (first
          | (with_reducible refine wpList_load_mid (op := ⟨some 41, _, _, _, _, _⟩) rfl _ _ rfl (w3.heap.size + 1) 0 rfl (T0.map str) _ Hblk.out.all Try.underlying46 rfl (by rw [size_s6, List.length_map, HT0l.out]) ?_)
          | (with_reducible refine wpList_store_fr (op := ⟨none, .store 46 (.tmp 7) (.tmp 41), _, _, _, _⟩) rfl _ _ _ rfl w3.heap.size 46 _ (T0.map str) rfl rfl HblkS.out (by rw [List.length_map, List.length_map, HT0l.out, List.length_replicate]) (by rw [size_s6, List.length_map, HT0l.out]) (str_oneCell T0) ?_; intro wc hblkS5 hfr5))
        have hne1 : w3.heap.size + 1 ≠ w3.heap.size := by omega
        have hblkN5 := (hfr5.blk Hblk.out hne1).2
        have hd5 : DevAt wc w2.heap.size F g (newD 6) := Hd4.out.keep (fun q hq => (hfr5.block q (Hd4.out.low q hq).2 (fun (e : q = w3.heap.size) => Hnot.out (e ▸ hq))).2) hfr5.size
        have hb05 : Below w.heap.size w wc := Hb04.out.trans (hfr5.below (fun q (hq : q = w3.heap.size) => by have := Hb03.out.size; omega) Hb04.out.size)
        have hC5 : ¬ F wc.heap.size := fun h => by have := (hd5.low _ h).2; omega
        have hs35 : w3.heap.size + 1 < wc.heap.size := hblkN5.lt
        have HblkS5 := Lib.hid hblkS5
        have HblkN5 := Lib.hid hblkN5
        have Hd5 := Lib.hid hd5
        have Hb05 := Lib.hid hb05
        have HC5 := Lib.hid hC5
        clear hfr5 hblkS5 hblkN5 hd5 hb05 hC5
        simp only [Act.put, List.setIfInBounds_toArray, List.set_cons_zero, List.set_cons_succ]
        go_wp2_with fail
        go_loopw [45] (fun i wr => ∃ (m : Nat) (D : Dev) (G : Nat → Prop), m ≤ L.length ∧ i = .int .i64 (m : Int) ∧ D.changes ≤ 2 * m ∧ D.loose.length ≤ m ∧ PlainDev 6 D ∧ DevAt wr w2.heap.size G g D ∧ ¬ G w3.heap.size ∧ ¬ G (w3.heap.size + 1) ∧ ¬ G wc.heap.size ∧ Blk wr w3.heap.size 46 (D.sure.map str).toArray ∧ Blk wr (w3.heap.size + 1) 46 ((applyW D.sure D.loose).map str).toArray ∧ Blk wr wc.heap.size 34 #[.slice none 0 0, .int .i64 (-1), .int .i64 0] ∧ Below w.heap.size w wr) (fun i _ => L.length - (intOf i).toNat)
        case atStart =>
          refine ⟨0, newD 6, F, by omega, rfl, Nat.zero_le _, Nat.zero_le _, plain_new 6, Hd5.out.grow ((Below.refl _ _).alloc (Nat.le_refl _) _), Hnot.out, Hnot1.out, HC5.out, ?_, ?_, Blk.new _ _ _, below_call Hb05.out ((Below.refl _ _).alloc (Nat.le_refl _) _)⟩
          · rw [← HT0s.out]; exact HblkS5.out.alloc _
          · show Blk _ _ _ ((newD 6).sure.map str).toArray
            rw [← HT0s.out]; exact HblkN5.out.alloc _
        case round =>
          obtain ⟨m, D, G, hm1, rfl, hfc, hfl, hpl, hdv, hno, hno1, hnoC, hblkS, hblkN, hblkC, hbw⟩ := hrel
          by_cases hlt : m < L.length
          · obtain ⟨b, off, rfl, hbw0, _, hcells⟩ := Hel.out (by intro e; rw [e] at hlt; simp at hlt)
            obtain ⟨Ak, nk, c0, c1, c2, c3, c4, c5, c6, c7, hkL, hkk, hka, hsl⟩ := hcells m hlt
            have d0 := (hbw.cell (p := ⟨b, off + m * 8, none⟩) hbw0).trans c0
            have d1 := (hbw.cell (p := ⟨b, off + m * 8 + 1, none⟩) hbw0).trans c1
            have d2 := (hbw.cell (p := ⟨b, off + m * 8 + 2, none⟩) hbw0).trans c2
            have d3 := (hbw.cell (p := ⟨b, off + m * 8 + 3, none⟩) hbw0).trans c3
            have d4 := (hbw.cell (p := ⟨b, off + m * 8 + 4, none⟩) hbw0).trans c4
            have d5 := (hbw.cell (p := ⟨b, off + m * 8 + 5, none⟩) hbw0).trans c5
            have d6 := (hbw.cell (p := ⟨b, off + m * 8 + 6, none⟩) hbw0).trans c6
            have d7 := (hbw.cell (p := ⟨b, off + m * 8 + 7, none⟩) hbw0).trans c7
            have hsl300 := (Hop.out _ (List.getElem_mem hlt)).1
            obtain ⟨j, hj, hij⟩ := mod_idx L[m].at_ 6 (by omega) (by omega)
            have Hij := Lib.hid (show wrap64 ((IntKind.u64.wrap L[m].at_).tmod 6) = (j : Int) from hij)
            have hbox : Below wr.heap.size wr (wr.alloc (.cells #[.int .i64 L[m].kind, .int .i64 L[m].at_, .int .u8 (L[m].c.toNat : Int), str L[m].s, .bool L[m].long, .slice Ak L[m].choice.kept.length nk, .int .i64 L[m].choice.torn, .int .i64 L[m].choice.half] 39)) := (Below.refl _ _).alloc (Nat.le_refl _) _
            have hblkO := Blk.new wr 39 #[.int .i64 L[m].kind, .int .i64 L[m].at_, .int .u8 (L[m].c.toNat : Int), str L[m].s, .bool L[m].long, .slice Ak L[m].choice.kept.length nk, .int .i64 L[m].choice.torn, .int .i64 L[m].choice.half]
            obtain ⟨W, hW⟩ : ∃ W, W = (wr.alloc (.cells #[.int .i64 L[m].kind, .int .i64 L[m].at_, .int .u8 (L[m].c.toNat : Int), str L[m].s, .bool L[m].long, .slice Ak L[m].choice.kept.length nk, .int .i64 L[m].choice.torn, .int .i64 L[m].choice.half] 39)) := ⟨_, rfl⟩
            rw [← hW] at hbox hblkO
            have HW := Lib.hid hW
            have HblkO := Lib.hid hblkO
            have Hbox := Lib.hid hbox
            clear hcells c0 c1 c2 c3 c4 c5 c6 c7 hkL hsl hij hW hbox hblkO
            have HdvW := Lib.hid (hdv.grow Hbox.out)
            have HblkSW := Lib.hid (hblkS.grow Hbox.out)
            have HblkNW := Lib.hid (hblkN.grow Hbox.out)
            have HblkCW := Lib.hid (hblkC.grow Hbox.out)
            have HbwW := Lib.hid (below_call hbw Hbox.out)
            have Hpl := Lib.hid hpl
            have Hno := Lib.hid hno
            have Hno1 := Lib.hid hno1
            have HnoC := Lib.hid hnoC
            have hj6 : (j : Int) < 6 := by omega
            clear hpl hdv hno hno1 hnoC hblkS hblkN hblkC hbw
            go_upto_region 16 with (fail)
            rw [← HW.out, Hij.out]
            have he2 := HblkO.out.cell 2
            have he3 := HblkO.out.cell 3
            simp at he2 he3
            have hm0 : (0 : Int) ≤ min (L[m].s.length : Int) 256 := by omega
            have hm1 : min (L[m].s.length : Int) 256 ≤ (L[m].s.length : Int) := by omega
            go_region_held3 (fun u => Below W.heap.size W u ∧ u.cell? ⟨wr.heap.size, 2, none⟩ = some (.int .u8 (L[m].c.toNat : Int)) ∧ u.cell? ⟨wr.heap.size, 3, none⟩ = some (str L[m].s))
              (first | exact ⟨(Below.refl _ _).drew, he2, he3⟩ | (go_split_ands; exact ⟨below_on (by assumption) hb5', cell_then hb5' (by assumption), cell_then hb5' (by assumption)⟩) | assumption)
              ((go_at_call 21; refine (full_cut L[m].c L[m].s _).mono ?_; rintro e w5 ⟨g5, rfl, hg5, hbl5, hb5'⟩))
            all_goals
              have hb5 := below_drew_then hb5'
              have hB5 := isB_full hbl5
              have hd5 := HdvW.out.grow hb5
              have hblkS5 := HblkSW.out.grow hb5
              have hblkN5 := HblkNW.out.grow hb5
              have hblkC5 := HblkCW.out.grow hb5
              have hb05 := below_call HbwW.out hb5
              have hput := plain_put Hpl.out j (fullB L[m].c L[m].s) hj (fullB_length _ _)
              have hg5G : ¬ G g5 := fun h => by
                have := (HdvW.out.low _ h).2
                have : W.heap.size ≤ g5 := hg5
                omega
              have Hbl5 := Lib.hid hbl5
              have Hd5 := Lib.hid hd5
              have HblkS5 := Lib.hid hblkS5
              have HblkN5 := Lib.hid hblkN5
              have HblkC5 := Lib.hid hblkC5
              have Hb05 := Lib.hid hb05
              have Hput := Lib.hid hput
              have HB5 := Lib.hid hB5
              clear hbl5 hb5 hb5' hB5 hd5 hblkS5 hblkN5 hblkC5 hb05 hput he2 he3 hm0 hm1
              go_wp2_with fail
              refine (write_any _ _ _ D _ _ _ _ _ Hd5.out HB5.out Hd5.out.size (by omega) (by omega)).mono ?_
              rintro e w6 ⟨rfl, G6, hd6, hf6⟩
              rw [Hput.out] at hd6 ⊢
              obtain ⟨hn6, hblkS6⟩ := hf6.blk HblkS5.out Hno.out
              obtain ⟨hn61, hblkN6⟩ := hf6.blk HblkN5.out Hno1.out
              obtain ⟨hn6C, hblkC6⟩ := hf6.blk HblkC5.out HnoC.out
              obtain ⟨_, hbl6⟩ := hf6.blk Hbl5.out hg5G
              have hb06 := below_dev Hb05.out Hd5.out (by omega) hf6
              have hcv := conv_is (isB_full hbl6)
              have hlen6 : (applyW D.sure D.loose).length = 6 := by rw [applyW_length]; exact Hpl.out.len
              have hfz := hblkN6.frozen j
              obtain ⟨u0, hcw⟩ : ∃ u0, w6.cell? ⟨w3.heap.size + 1, j, none⟩ = some u0 := by
                have h0 := hblkN6.cell j
                rw [Array.getElem?_eq_getElem (by simp; omega)] at h0
                exact ⟨_, h0⟩
              have hset := hblkN6.setStr j (fullB L[m].c L[m].s)
              have happ : (applyW D.sure D.loose).set j (fullB L[m].c L[m].s) = applyW D.sure (D.loose ++ [(j, fullB L[m].c L[m].s)]) := by rw [applyW_append]; rfl
              rw [happ] at hset
              obtain ⟨W6, hW6⟩ : ∃ x, x = w6.setCell ⟨w3.heap.size + 1, j, none⟩ (str (fullB L[m].c L[m].s)) := ⟨_, rfl⟩
              obtain ⟨D6, hD6⟩ : ∃ D6 : Dev, D6 = { D with loose := D.loose ++ [(j, fullB L[m].c L[m].s)], changes := D.changes + 1 } := ⟨_, rfl⟩
              have hd66 : DevAt W6 w2.heap.size G6 g D6 := by
                rw [hW6, hD6]
                exact hd6.keep (fun q hq => Below.heap_setCell _ _ _ _ (fun (e : q = w3.heap.size + 1) => hn61 (e ▸ hq))) (by simp [World.setCell])
              have hb66 : Below w.heap.size w W6 := by rw [hW6]; exact hb06.setCell (show w.heap.size ≤ w3.heap.size + 1 by omega) _
              rw [← hW6] at hset
              have hblkS66 : Blk W6 w3.heap.size 46 (D6.sure.map str).toArray := by rw [hW6, hD6]; exact hblkS6.far (p := ⟨w3.heap.size + 1, j, none⟩) (by simp) _
              have hblkC66 : Blk W6 wc.heap.size 34 #[.slice none 0 0, .int .i64 (-1), .int .i64 0] := by rw [hW6]; exact hblkC6.far (p := ⟨w3.heap.size + 1, j, none⟩) (by simp; omega) _
              have hblkN66 : Blk W6 (w3.heap.size + 1) 46 ((applyW D6.sure D6.loose).map str).toArray := by rw [hD6]; exact hset
              have hpl6 : PlainDev 6 D6 := by rw [hD6]; exact ⟨Hpl.out.off, Hpl.out.left, Hpl.out.len⟩
              have hfc6 : D6.changes ≤ 2 * m + 1 := by rw [hD6]; show D.changes + 1 ≤ _; omega
              have hfl6 : D6.loose.length ≤ m + 1 := by rw [hD6]; show (D.loose ++ _).length ≤ _; rw [List.length_append]; simp; omega
              have HblkS66 := Lib.hid hblkS66
              have HblkN66 := Lib.hid hblkN66
              have HblkC66 := Lib.hid hblkC66
              have Hd66 := Lib.hid hd66
              have Hb66 := Lib.hid hb66
              have HW6 := Lib.hid hW6
              have Hpl6 := Lib.hid hpl6
              have Hn6 := Lib.hid hn6
              have Hn61 := Lib.hid hn61
              have Hn6C := Lib.hid hn6C
              clear hd6 hf6 hn6 hn61 hn6C hblkS6 hblkN6 hblkC6 hbl6 hb06 hlen6 hset happ hW6 hd66 hb66 hD6 hblkS66 hblkN66 hblkC66 hpl6
              by_cases h7 : (m : Int) % 7 = 6
              · have hd7 : ((m : Int) % 7 == 6) = true := by simpa using h7
                have hbar := plain_barrier Hpl6.out
                have Hbar := Lib.hid hbar
                clear h7 hbar
                go_wp2_with fail
                rw [← HW6.out]
                refine (barrier_any _ _ _ D6 _ Hd66.out (by omega) (by omega)).mono ?_
                rintro e w7 ⟨rfl, hd7, hf7⟩
                rw [Hbar.out] at hd7 ⊢
                obtain ⟨hn7, hblkS7⟩ := hf7.blk HblkS66.out Hn6.out
                obtain ⟨hn71, hblkN7⟩ := hf7.blk HblkN66.out Hn61.out
                obtain ⟨hn7C, hblkC7⟩ := hf7.blk HblkC66.out Hn6C.out
                have hb07 := below_dev Hb66.out Hd66.out (by omega) hf7
                have hTl : (applyW D6.sure D6.loose).length = 6 := by rw [applyW_length]; exact Hpl6.out.len
                have HTl := Lib.hid hTl
                have HblkS7 := Lib.hid hblkS7
                have HblkN7 := Lib.hid hblkN7
                have HblkC7 := Lib.hid hblkC7
                have Hd7 := Lib.hid hd7
                have Hb07 := Lib.hid hb07
                clear hf7 hblkS7 hblkN7 hblkC7 hd7 hb07 hTl
                go_wp2_with (first
                  | (with_reducible refine wpList_load_mid (op := ⟨some 80, _, _, _, _, _⟩) rfl _ _ rfl (w3.heap.size + 1) 0 rfl ((applyW D6.sure D6.loose).map str) _ HblkN7.out.all Try.underlying46 rfl (by rw [size_s6, List.length_map, HTl.out]) ?_)
                  | (with_reducible refine wpList_store_fr (op := ⟨none, .store 46 (.tmp 7) (.tmp 80), _, _, _, _⟩) rfl _ _ _ rfl w3.heap.size 46 _ ((applyW D6.sure D6.loose).map str) rfl rfl HblkS7.out (by rw [List.length_map, List.length_map, HTl.out, Hpl6.out.len]) (by rw [size_s6, List.length_map, HTl.out]) (str_oneCell _) ?_; intro w8 hblkS8 hfr8))
                go_roundw
                case rel =>
                  refine ⟨m + 1, ({ D6 with sure := applyW D6.sure D6.loose, loose := [], changes := D6.changes + 1 } : Dev), G6, by omega, by go_num, by show D6.changes + 1 ≤ _; omega, Nat.zero_le _, ⟨Hpl6.out.off, Hpl6.out.left, HTl.out⟩, ?_, hn7, hn71, hn7C, hblkS8, (hfr8.blk HblkN7.out (by simp)).2, (hfr8.blk HblkC7.out (by show ¬ wc.heap.size = w3.heap.size; omega)).2, Hb07.out.trans (hfr8.below (fun q (hq : q = w3.heap.size) => by omega) Hb07.out.size)⟩
                  exact Hd7.out.keep (fun q hq => (hfr8.block q (Hd7.out.low q hq).2 (fun (e : q = w3.heap.size) => hn7 (e ▸ hq))).2) hfr8.size
                case measure => simp [intOf]; omega
              · have hd7 : ((m : Int) % 7 == 6) = false := by simpa using h7
                clear h7
                go_wp2_with fail
                rw [← HW6.out]
                go_roundw
                case rel => exact ⟨m + 1, D6, G6, by omega, by go_num, by omega, hfl6, Hpl6.out, Hd66.out, Hn6.out, Hn61.out, Hn6C.out, HblkS66.out, HblkN66.out, HblkC66.out, Hb66.out⟩
                case measure => simp [intOf]; omega
          · obtain rfl : m = L.length := by omega
            have hoff := hpl.off
            have hlen := hpl.len
            have hwf := hdv.wf
            have hld : D.loose.length ≤ 60 := by omega
            have Hdv := Lib.hid hdv
            have HblkS := Lib.hid hblkS
            have HblkN := Lib.hid hblkN
            have HblkC := Lib.hid hblkC
            have Hbw := Lib.hid hbw
            have Hno := Lib.hid hno
            have Hno1 := Lib.hid hno1
            have HnoC := Lib.hid hnoC
            have Hoff := Lib.hid hoff
            have Hlen := Lib.hid hlen
            have Hwf := Lib.hid hwf
            have hsw := hdv.size
            obtain ⟨wm, rfl⟩ : ∃ x, x = wr := ⟨wr, rfl⟩
            have hCw : wc.heap.size < wm.heap.size := hblkC.lt
            have hNC : w3.heap.size + 1 < wc.heap.size := hs35
            have hswB := hbw.size
            clear hpl hdv hno hno1 hnoC hblkS hblkN hblkC hbw hoff hlen hwf
            cases all with
            | false =>
              have hc0 := HblkC.out.cell 0
              have hc1 := HblkC.out.cell 1
              have hc2 := HblkC.out.cell 2
              simp at hc0 hc1 hc2
              have hct : D.cut (⟨[], -1, 0⟩ : Choice) = (⟨D.sure, [], -1, noChoice, D.changes, true⟩ : Dev) := by
                unfold Dev.cut
                rw [Hoff.out, cutS_none]
                rfl
              have Hct := Lib.hid hct
              have HvkU := Lib.hid (IsL.nil (K := kInt .i64) (w := wm) (ok := fun _ => True))
              have HdvU := Hdv
              have HblkU := HblkS
              have HbwU := Hbw
              have HTl := Hlen
              clear hct
              go_wp2_with fail
              refine (cut_any _ _ _ D _ _ (⟨[], -1, 0⟩ : Choice) _ HdvU.out HvkU.out (by omega)).mono ?_
              rintro e w5 ⟨rfl, hd5, hf5⟩
              rw [Hct.out] at hd5
              have hblkS5 := hf5.blk HblkU.out Hno.out
              have hb05 := below_dev HbwU.out HdvU.out (by omega) hf5
              have Hd5 := Lib.hid hd5
              have HblkS5 := Lib.hid hblkS5
              have Hb05 := Lib.hid hb05
              clear hd5 hf5 hblkS5 hb05
              go_wp2_with fail
              refine (read_any _ _ _ _ _ _ Hd5.out).mono ?_
              rintro e w6 hrd
              rcases hrd with ⟨_, rfl, rfl⟩ | ⟨h, _⟩
              rotate_left
              · exact absurd h (show ¬ (6 : Int) = 0 by decide)
              rw [show Dev.why (⟨D.sure, [], -1, noChoice, D.changes, true⟩ : Dev) 0 = 6 from rfl]
              go_wp2_with fail
              refine (on_any _ _ _ _ _ Hd5.out).mono ?_
              rintro e w7 ⟨rfl, hd7, hf7⟩
              have hblkS7 := (hf7.blk HblkS5.out.2 HblkS5.out.1).2
              have hb07 := below_dev Hb05.out Hd5.out (by omega) hf7
              obtain ⟨D7, hD7⟩ : ∃ D7 : Dev, D7 = (⟨D.sure, [], -1, noChoice, D.changes, false⟩ : Dev) := ⟨_, rfl⟩
              have hd77 : DevAt w7 w2.heap.size G g D7 := by rw [hD7]; exact hd7
              have hTl : (D.sure).length = 6 := HTl.out
              have hD7s : D7.sure.length = 6 := by rw [hD7]; exact hTl
              have hD7n : ∀ q : Nat, q < 6 → D7.why (q : Int) = 0 ∧ D7.now q = (D.sure).getD q [] := fun q hq => by
                rw [hD7]
                refine ⟨?_, rfl⟩
                unfold Dev.why
                show (if false = true then (6 : Int) else if (q : Int) < 0 ∨ (((D.sure).length : Nat) : Int) ≤ (q : Int) then 2 else 0) = 0
                rw [hTl, if_neg (by decide), if_neg (by omega)]
              have HblkS7 := Lib.hid hblkS7
              have Hd77 := Lib.hid hd77
              have Hb07 := Lib.hid hb07
              have HD7n := Lib.hid hD7n
              have HD7s := Lib.hid hD7s
              clear hblkS7 hd7 hf7 hb07 hD7 hd77 hTl hD7n hD7s
              go_wp2_with fail
              go_loopw [108] (fun x wx => ∃ q : Nat, q ≤ 6 ∧ x = .int .i64 (q : Int) ∧ Below w7.heap.size w7 wx) (fun x _ => 6 - (intOf x).toNat)
              case atStart => exact ⟨0, by omega, rfl, Below.refl _ _⟩
              case round =>
                obtain ⟨q, hq, rfl, hbq⟩ := hrel
                by_cases hlq : q < 6
                · obtain ⟨hw0, hnow⟩ := HD7n.out q hlq
                  have hdq := Hd77.out.grow hbq
                  have hsq := HblkS7.out.grow hbq
                  have hqT : q < (D.sure).length := by rw [HTl.out]; exact hlq
                  have hcq : _ = some (str (D.sure)[q]) := (hsq.cell q).trans (by simp [hqT])
                  rw [show (D.sure).getD q [] = (D.sure)[q] by rw [List.getD_eq_getElem?_getD, List.getElem?_eq_getElem hqT]; rfl] at hnow
                  obtain ⟨X, hX⟩ : ∃ X, X = (D.sure)[q] := ⟨_, rfl⟩
                  rw [← hX] at hnow hcq
                  have hXl : X.length = 256 := by
                    rw [← hnow]
                    exact now_length Hd77.out.wf q (by rw [HD7s.out]; exact hlq)
                  have Hw0 := Lib.hid hw0
                  have Hnow := Lib.hid hnow
                  have Hdq := Lib.hid hdq
                  have Hbq := Lib.hid hbq
                  have Hcq := Lib.hid hcq
                  have HXl := Lib.hid hXl
                  have hq6 : (q : Int) < 6 := by omega
                  clear hw0 hnow hdq hsq hX hbq hXl hcq
                  go_wp2_with fail
                  refine (read_any _ _ _ _ _ _ Hdq.out).mono ?_
                  rintro e w8 hrd
                  rcases hrd with ⟨h, _⟩ | ⟨_, v, rfl, hov, hb8⟩
                  · exact absurd Hw0.out h
                  rw [show ((q : Int)).toNat = q from rfl, Hnow.out] at hov
                  obtain ⟨A8, c8, hv8, _, _, _⟩ := hov.form
                  rw [List.length_map, HXl.out] at hv8
                  subst hv8
                  have hcq8 := cell_then hb8 Hcq.out
                  have hB8 := hov.isB
                  have hcv8 : ∀ n, (convert 42 9 (.slice A8 256 c8)).run Try.prog (w8.drewN n) = .ok (str X) (w8.drewN n) := fun n => conv_is (hB8.drewN n)
                  have Hb78 := Lib.hid (below_call Hbq.out hb8)
                  clear hov hB8 hb8
                  go_wp2_with fail
                  go_quiet (fail)
                  go_wp2
                  go_roundw
                  case rel => exact ⟨q + 1, by omega, by go_num, below_drewN Hb78.out _⟩
                  case measure => simp [intOf]; omega
                · obtain rfl : q = 6 := by omega
                  have Hbq := Lib.hid hbq
                  clear hbq
                  go_wp2
                  go_ret
                  exact ⟨rfl, below_call Hb07.out Hbq.out⟩
            | true =>
              go_wp2_with fail
              refine (loose_any _ _ _ D _ Hdv.out).mono ?_
              rintro e w' ⟨rfl, rfl⟩
              go_wp2_with fail
              go_loopw [85] (fun i wr => ∃ (k : Nat) (vk : Value), k ≤ D.loose.length ∧ i = .int .i64 (k : Int) ∧ Blk wr wc.heap.size 34 #[vk, .int .i64 (-1), .int .i64 0] ∧ OwnK wr wm.heap.size 3 1 vk k ((List.range k).map fun j => .int .i64 ((j : Nat) : Int)) ∧ Fr (fun q => q = wc.heap.size) (fun q => q = wc.heap.size ∨ wm.heap.size ≤ q) wm wr) (fun i _ => D.loose.length - (intOf i).toNat)
              case atStart => exact ⟨0, .slice none 0 0, by omega, rfl, HblkC.out, OwnK.nil _ _ _ _, (Fr.refl _ _).more (fun _ h => h)⟩
              case round =>
                obtain ⟨k, vk, hk, rfl, hblkC, hown, hfr⟩ := hrel
                have hsx := hfr.size
                obtain ⟨A0, n0, hv0, _, _, _⟩ := hown.form
                subst hv0
                by_cases hlk : k < D.loose.length
                · have hc0 := hblkC.cell 0
                  simp at hc0
                  have HblkC0 := Lib.hid hblkC
                  have Hown := Lib.hid hown
                  have Hfr := Lib.hid hfr
                  clear hblkC hown hfr
                  go_wp2_with (at_builtin; refine wpList_appK_new _ elemI rfl (.tmp 89) (.tmp 91) rfl wm.heap.size k _ _ rfl Hown.out [.int .i64 (k : Int)] 1 rfl 3 rfl (by simp [Value.oneCell']) (by omega) (by omega) hsx ?_; intro v1 w1 hown1 hg1 _; have hg1h := Lib.hid hg1; have hblkC1 := HblkC0.out.keep (hg1.block _ HblkC0.out.lt (fun e => by have := (Hown.out.lt _ e.symm).1; omega)); have hcc := hblkC1.cell 0; simp at hcc; have hff := hblkC1.frozen 0; have HblkC1 := Lib.hid hblkC1; obtain ⟨A1, n1, hv1, _, _, _⟩ := hown1.form; subst hv1; have Hown1 := Lib.hid hown1; clear hg1 hblkC1 hown1)
                  go_roundw
                  case rel =>
                    refine ⟨k + 1, .slice A1 (k + 1) n1, by omega, by go_num, ?_, ?_, ?_⟩
                    · have := HblkC1.out.set_ 0 (.slice A1 (k + 1) n1)
                      simpa using this
                    · have := Hown1.out.keep (w' := w1.setCell ⟨wc.heap.size, 0, none⟩ (.slice A1 (k + 1) n1)) (fun g hg => Below.heap_setCell _ _ _ _ (fun e => by have := (Hown1.out.lt _ hg).1; have e' : g = wc.heap.size := e; omega))
                      simpa [List.range_succ] using this
                    · exact ((Hfr.out.grown hg1h.out (fun q hq => .inr (Hown.out.lt _ hq).1)).setCell (.inl rfl) _)
                  case measure => simp [intOf]; omega
                · obtain rfl : k = D.loose.length := by omega
                  have hTl : (applyW D.sure D.loose).length = 6 := by rw [applyW_length]; exact Hlen.out
                  have HTl := Lib.hid hTl
                  have hdvx := Hdv.out.keep (fun q hq => (hfr.block q (Hdv.out.low q hq).2 (fun (e : q = wc.heap.size) => HnoC.out (e ▸ hq))).2) hfr.size
                  have hblkSx := (hfr.blk HblkS.out (fun (e : w3.heap.size = wc.heap.size) => by omega)).2
                  have hblkNx := (hfr.blk HblkN.out (fun (e : w3.heap.size + 1 = wc.heap.size) => by omega)).2
                  have hbwx : Below w.heap.size w wr := Hbw.out.trans (hfr.below (fun q (hq : q = wc.heap.size) => by omega) Hbw.out.size)
                  have Hdvx := Lib.hid hdvx
                  have HblkSx := Lib.hid hblkSx
                  have HblkNx := Lib.hid hblkNx
                  have Hbwx := Lib.hid hbwx
                  have HblkCx := Lib.hid hblkC
                  have Hown := Lib.hid hown
                  clear hfr hdvx hblkSx hblkNx hbwx hblkC hown hTl
                  go_upto_region 32 with (first
                    | (with_reducible refine wpList_load_mid (op := ⟨some 95, _, _, _, _, _⟩) rfl _ _ rfl (w3.heap.size + 1) 0 rfl ((applyW D.sure D.loose).map str) _ HblkNx.out.all Try.underlying46 rfl (by rw [size_s6, List.length_map, HTl.out]) ?_)
                    | (with_reducible refine wpList_store_fr (op := ⟨none, .store 46 (.tmp 7) (.tmp 95), _, _, _, _⟩) rfl _ _ _ rfl w3.heap.size 46 _ ((applyW D.sure D.loose).map str) rfl rfl HblkSx.out (by rw [List.length_map, List.length_map, HTl.out, Hlen.out]) (by rw [size_s6, List.length_map, HTl.out]) (str_oneCell _) ?_; intro wy hblkSy hfry))
                  simp only [Act.put, List.setIfInBounds_toArray, List.set_cons_zero, List.set_cons_succ]
                  have hdvy := Hdvx.out.keep (fun q hq => (hfry.block q (Hdvx.out.low q hq).2 (fun (e : q = w3.heap.size) => Hno.out (e ▸ hq))).2) hfry.size
                  have hblkCy := (hfry.blk HblkCx.out (fun (e : wc.heap.size = w3.heap.size) => by omega)).2
                  have hbwy : Below w.heap.size w wy := Hbwx.out.trans (hfry.below (fun q (hq : q = w3.heap.size) => by omega) Hbwx.out.size)
                  have howny := Hown.out.keep (w' := wy) (fun q hq => (hfry.block q (Hown.out.lt q hq).2 (fun (e : q = w3.heap.size) => by have := (Hown.out.lt q hq).1; omega)).2)
                  have hrow : OwnL (kInt .i64) wy wm.heap.size 3 (.slice A0 D.loose.length n0) ((List.range D.loose.length).map fun j => ((j : Nat) : Int)) := ⟨_, by rw [List.length_map, List.length_range]; exact howny, row_ints _ (by omega)⟩
                  have hvk := hrow.isL
                  have hct : D.cut (⟨(List.range D.loose.length).map fun j => ((j : Nat) : Int), -1, 0⟩ : Choice) = (⟨applyW D.sure D.loose, [], -1, noChoice, D.changes, true⟩ : Dev) := by
                    unfold Dev.cut
                    rw [Hoff.out, cutS_all _ _ _ _ (fun j hj => List.mem_map.2 ⟨j, List.mem_range.2 (by omega), rfl⟩) Hwf.out.sure Hwf.out.loose]
                    rfl
                  have hc0 := hblkCy.cell 0
                  have hc1 := hblkCy.cell 1
                  have hc2 := hblkCy.cell 2
                  simp at hc0 hc1 hc2
                  have Hct := Lib.hid hct
                  have HvkU := Lib.hid hvk
                  have HdvU := Lib.hid hdvy
                  have HblkU := Lib.hid hblkSy
                  have HbwU := Lib.hid hbwy
                  clear hct hvk hdvy hblkSy hbwy hrow howny hfry hblkCy
                  go_wp2_with fail
                  refine (cut_any _ _ _ D _ _ (⟨(List.range D.loose.length).map fun j => ((j : Nat) : Int), -1, 0⟩ : Choice) _ HdvU.out HvkU.out (by omega)).mono ?_
                  rintro e w5 ⟨rfl, hd5, hf5⟩
                  rw [Hct.out] at hd5
                  have hblkS5 := hf5.blk HblkU.out Hno.out
                  have hb05 := below_dev HbwU.out HdvU.out (by omega) hf5
                  have Hd5 := Lib.hid hd5
                  have HblkS5 := Lib.hid hblkS5
                  have Hb05 := Lib.hid hb05
                  clear hd5 hf5 hblkS5 hb05
                  go_wp2_with fail
                  refine (read_any _ _ _ _ _ _ Hd5.out).mono ?_
                  rintro e w6 hrd
                  rcases hrd with ⟨_, rfl, rfl⟩ | ⟨h, _⟩
                  rotate_left
                  · exact absurd h (show ¬ (6 : Int) = 0 by decide)
                  rw [show Dev.why (⟨applyW D.sure D.loose, [], -1, noChoice, D.changes, true⟩ : Dev) 0 = 6 from rfl]
                  go_wp2_with fail
                  refine (on_any _ _ _ _ _ Hd5.out).mono ?_
                  rintro e w7 ⟨rfl, hd7, hf7⟩
                  have hblkS7 := (hf7.blk HblkS5.out.2 HblkS5.out.1).2
                  have hb07 := below_dev Hb05.out Hd5.out (by omega) hf7
                  obtain ⟨D7, hD7⟩ : ∃ D7 : Dev, D7 = (⟨applyW D.sure D.loose, [], -1, noChoice, D.changes, false⟩ : Dev) := ⟨_, rfl⟩
                  have hd77 : DevAt w7 w2.heap.size G g D7 := by rw [hD7]; exact hd7
                  have hTl : (applyW D.sure D.loose).length = 6 := HTl.out
                  have hD7s : D7.sure.length = 6 := by rw [hD7]; exact hTl
                  have hD7n : ∀ q : Nat, q < 6 → D7.why (q : Int) = 0 ∧ D7.now q = (applyW D.sure D.loose).getD q [] := fun q hq => by
                    rw [hD7]
                    refine ⟨?_, rfl⟩
                    unfold Dev.why
                    show (if false = true then (6 : Int) else if (q : Int) < 0 ∨ (((applyW D.sure D.loose).length : Nat) : Int) ≤ (q : Int) then 2 else 0) = 0
                    rw [hTl, if_neg (by decide), if_neg (by omega)]
                  have HblkS7 := Lib.hid hblkS7
                  have Hd77 := Lib.hid hd77
                  have Hb07 := Lib.hid hb07
                  have HD7n := Lib.hid hD7n
                  have HD7s := Lib.hid hD7s
                  clear hblkS7 hd7 hf7 hb07 hD7 hd77 hTl hD7n hD7s
                  go_wp2_with fail
                  go_loopw [108] (fun x wx => ∃ q : Nat, q ≤ 6 ∧ x = .int .i64 (q : Int) ∧ Below w7.heap.size w7 wx) (fun x _ => 6 - (intOf x).toNat)
                  case atStart => exact ⟨0, by omega, rfl, Below.refl _ _⟩
                  case round =>
                    obtain ⟨q, hq, rfl, hbq⟩ := hrel
                    by_cases hlq : q < 6
                    · obtain ⟨hw0, hnow⟩ := HD7n.out q hlq
                      have hdq := Hd77.out.grow hbq
                      have hsq := HblkS7.out.grow hbq
                      have hqT : q < (applyW D.sure D.loose).length := by rw [HTl.out]; exact hlq
                      have hcq : _ = some (str (applyW D.sure D.loose)[q]) := (hsq.cell q).trans (by simp [hqT])
                      rw [show (applyW D.sure D.loose).getD q [] = (applyW D.sure D.loose)[q] by rw [List.getD_eq_getElem?_getD, List.getElem?_eq_getElem hqT]; rfl] at hnow
                      obtain ⟨X, hX⟩ : ∃ X, X = (applyW D.sure D.loose)[q] := ⟨_, rfl⟩
                      rw [← hX] at hnow hcq
                      have hXl : X.length = 256 := by
                        rw [← hnow]
                        exact now_length Hd77.out.wf q (by rw [HD7s.out]; exact hlq)
                      have Hw0 := Lib.hid hw0
                      have Hnow := Lib.hid hnow
                      have Hdq := Lib.hid hdq
                      have Hbq := Lib.hid hbq
                      have Hcq := Lib.hid hcq
                      have HXl := Lib.hid hXl
                      have hq6 : (q : Int) < 6 := by omega
                      clear hw0 hnow hdq hsq hX hbq hXl hcq
                      go_wp2_with fail
                      refine (read_any _ _ _ _ _ _ Hdq.out).mono ?_
                      rintro e w8 hrd
                      rcases hrd with ⟨h, _⟩ | ⟨_, v, rfl, hov, hb8⟩
                      · exact absurd Hw0.out h
                      rw [show ((q : Int)).toNat = q from rfl, Hnow.out] at hov
                      obtain ⟨A8, c8, hv8, _, _, _⟩ := hov.form
                      rw [List.length_map, HXl.out] at hv8
                      subst hv8
                      have hcq8 := cell_then hb8 Hcq.out
                      have hB8 := hov.isB
                      have hcv8 : ∀ n, (convert 42 9 (.slice A8 256 c8)).run Try.prog (w8.drewN n) = .ok (str X) (w8.drewN n) := fun n => conv_is (hB8.drewN n)
                      have Hb78 := Lib.hid (below_call Hbq.out hb8)
                      clear hov hB8 hb8
                      go_wp2_with fail
                      go_quiet (fail)
                      go_wp2
                      go_roundw
                      case rel => exact ⟨q + 1, by omega, by go_num, below_drewN Hb78.out _⟩
                      case measure => simp [intOf]; omega
                    · obtain rfl : q = 6 := by omega
                      have Hbq := Lib.hid hbq
                      clear hbq
                      go_wp2
                      go_ret
                      exact ⟨rfl, below_call Hb07.out Hbq.out⟩
end Go.Proofs.Ytodcjhkleiibfaa
