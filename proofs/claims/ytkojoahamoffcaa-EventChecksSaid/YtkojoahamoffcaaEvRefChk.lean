/-
  The document's Check.
  The document's Check, whatever the kind.
-/
import Derived.Test.YtkojoahamoffcaaEvHeads
import Derived.Test.YtkojoahamoffcaaEvRefCheckA
import Derived.Test.YtkojoahamoffcaaEvRefCheckB
import Derived.Test.YtkojoahamoffcaaEvRefCheckC
import Derived.Test.YtkojoahamoffcaaEvRefCheckD
namespace Go.Proofs.Ytkojoahamoffcaa
open Go.RowKit
set_option maxRecDepth 100000


set_option maxHeartbeats 16000000 in
theorem refcheckD (ok : Nat → Prop) (e : Ev) (vg vb : Value) (w : World) (hin : EvIn w ok e vg vb) (hks : e.kind = 5 ∨ e.kind = 6) :
    Calls Try.prog 10 #[.agg (evC e vg vb)] w fun x w' => x = .returned (.bool (checkB e)) ∧ Below w.heap.size w w' := by
  rw [check_eq]
  obtain ⟨Ag, cg, rfl, hg1, hg2, _⟩ := id_at hin.gone
  obtain ⟨Ab, cb, rfl, hb1, hb2, _⟩ := id_at hin.base
  obtain ⟨E, hE⟩ : ∃ E, E = evC e (.slice Ag e.gone.length cg) (.slice Ab e.base.length cb) := ⟨_, rfl⟩
  obtain ⟨h1, hbel⟩ := ev_box (evC e (.slice Ag e.gone.length cg) (.slice Ab e.base.length cb)) 29 w
  rw [← hE] at h1 hbel ⊢
  obtain ⟨W, hW⟩ : ∃ W, W = (w.alloc (.cells E 29)) := ⟨_, rfl⟩
  rw [← hW] at h1 hbel
  rw [hE] at h1
  obtain ⟨b, hbw⟩ : ∃ b, b = w.heap.size := ⟨_, rfl⟩
  have hV := hin.fits.dep
  obtain ⟨n, hn⟩ : ∃ n, n = getV e.dep e.rep := ⟨_, rfl⟩
  have hnl : n < 4294967296 := by rw [hn]; exact getV_lt hV e.rep
  obtain ⟨m, hm⟩ : ∃ m, m = (n + 1) % 4294967296 := ⟨_, rfl⟩
  have hsum : IntKind.u32.wrap ((n : Int) + 1) = (m : Int) := by rw [IntKind.wrap_u32, hm]; omega
  have hno := head_no n m hn hnl hm
  have hyes := head_yes n m hn hnl hm
  have k1 := fun y : Ext W => refget_any e.dep e.rep y.now
  unfold vv at k1
  simp only [← hn] at k1
  have K1 := Lib.hid k1
  have I1 := Lib.hid (range_exts (ev_dep h1))
  have c0 := fun y : Ext W => (EvCells.ext h1 y).rep
  have c1 := fun y : Ext W => (EvCells.ext h1 y).seq
  have H1 := Lib.hid h1
  have HW := Lib.hid hW
  have Hbel := Lib.hid hbel
  have Hin := Lib.hid hin
  have HE := Lib.hid hE
  have Hks := Lib.hid hks
  clear k1 h1 hW hbel hin hm hn hE hbw hnl hks
  obtain ⟨x1, f1⟩ : ∃ x, decide (e.rep < 1) = x := ⟨_, rfl⟩
  obtain ⟨x2, f2⟩ : ∃ x, decide (8 < e.rep) = x := ⟨_, rfl⟩
  obtain ⟨x3, f3⟩ : ∃ x, decide (e.seq < 1) = x := ⟨_, rfl⟩
  obtain ⟨x4, f4⟩ : ∃ x, decide (1048576 < e.seq) = x := ⟨_, rfl⟩
  obtain ⟨x5, f5⟩ : ∃ x, (m != e.seq) = x := ⟨_, rfl⟩
  rw [f1, f2, f3, f4, f5] at hno hyes
  have f3a : decide (e.seq = 0) = x3 := by rw [← f3]; congr 1; rw [Nat.lt_one_iff]
  have f3b : decide ((e.seq : Int) < 1) = x3 := by rw [← f3, Bool.eq_iff_iff, decide_eq_true_iff, decide_eq_true_iff]; omega
  have f3c : (e.seq == 0) = x3 := by rw [← f3a]; rfl
  have f4b : decide ((1048576 : Int) < (e.seq : Int)) = x4 := by rw [← f4, Bool.eq_iff_iff, decide_eq_true_iff, decide_eq_true_iff]; omega
  have f5b : ((m : Int) != (e.seq : Int)) = x5 := by rw [← f5, Bool.eq_iff_iff, bne_iff_ne, bne_iff_ne]; omega
  have Hno := Lib.hid hno
  have Hyes := Lib.hid hyes
  clear hno hyes
  rcases (show (x1 = true) ∨ (x1 = false ∧ x2 = true) ∨ (x1 = false ∧ x2 = false ∧ x3 = true) ∨ (x1 = false ∧ x2 = false ∧ x3 = false ∧ x4 = true) ∨ (x1 = false ∧ x2 = false ∧ x3 = false ∧ x4 = false ∧ x5 = true) ∨ (x1 = false ∧ x2 = false ∧ x3 = false ∧ x4 = false ∧ x5 = false) from by
      by_cases hx1 : x1 = true
      · exact .inl hx1
      by_cases hx2 : x2 = true
      · exact .inr (.inl ⟨by simpa using hx1, hx2⟩)
      by_cases hx3 : x3 = true
      · exact .inr (.inr (.inl ⟨by simpa using hx1, by simpa using hx2, hx3⟩))
      by_cases hx4 : x4 = true
      · exact .inr (.inr (.inr (.inl ⟨by simpa using hx1, by simpa using hx2, by simpa using hx3, hx4⟩)))
      by_cases hx5 : x5 = true
      · exact .inr (.inr (.inr (.inr (.inl ⟨by simpa using hx1, by simpa using hx2, by simpa using hx3, by simpa using hx4, hx5⟩))))
      exact .inr (.inr (.inr (.inr (.inr (⟨by simpa using hx1, by simpa using hx2, by simpa using hx3, by simpa using hx4, by simpa using hx5⟩)))))) with rfl | ⟨rfl, rfl⟩ | ⟨rfl, rfl, rfl⟩ | ⟨rfl, rfl, rfl, rfl⟩ | ⟨rfl, rfl, rfl, rfl, rfl⟩ | ⟨rfl, rfl, rfl, rfl, rfl⟩
  all_goals go_enter Try.func10, Try.ntmps10
  all_goals go_upto_region 1 with fail
  all_goals rw [← HW.out]
  all_goals refine wp_region_grow (by kernel_rfl) (by kernel_rfl) ?_
  all_goals repeat (first | (go_big_quiet_want; refine quiet_mid 26 (.tmp 32) rfl w.heap.size 2 rfl _ _ I1.out Try.underlying26 rfl vec_info ?_; go_simp; go_big_quiet_on) | go_big_quiet_step ((go_at_call 21; with_reducible exact calls_grow (K1.out _))) | quiet_step ((go_at_call 21; with_reducible exact calls_grow (K1.out _))))
  all_goals refine wpQuiet_nil ?_
  all_goals rintro w6 ⟨⟨_, hb6⟩, rfl⟩
  all_goals have hb06 := below_call Hbel.out hb6
  · go_wp2_with fail
    go_ret
    exact ⟨by rw [and_empty (Hno.out (by simp))]; rfl, hb06⟩
  · go_wp2_with fail
    go_ret
    exact ⟨by rw [and_empty (Hno.out (by simp))]; rfl, hb06⟩
  · go_wp2_with fail
    go_ret
    exact ⟨by rw [and_empty (Hno.out (by simp))]; rfl, hb06⟩
  · go_wp2_with fail
    go_ret
    exact ⟨by rw [and_empty (Hno.out (by simp))]; rfl, hb06⟩
  · go_wp2_with fail
    go_ret
    exact ⟨by rw [and_empty (Hno.out (by simp))]; rfl, hb06⟩
  have H6 := Lib.hid (H1.out.grow hb6)
  have hhead := Hyes.out (by trivial) (by trivial) (by trivial) (by trivial) (by trivial)
  have hdy : (∀ i, i < 8 → e.dep i ≤ 1048576) → headB e = true := fun h => by rw [hhead]; exact depB_iff.2 h
  have hdn : ∀ k, k < 8 → 1048576 < e.dep k → headB e = false := fun k hk h => by rw [hhead]; exact depB_not hk h
  have Hdy := Lib.hid hdy
  have Hdn := Lib.hid hdn
  clear hhead hdy hdn f1 f2 f3 f4 f5 f3a f3b f3c f4b f5b c0 c1 hsum
  go_wp2_with fail
  go_loop [3] (fun i => ∃ k : Nat, k ≤ 8 ∧ i = .int .i64 (k : Int) ∧ ∀ j, j < k → e.dep j ≤ 1048576) (fun i => 8 - (intOf i).toNat)
  case atStart => exact ⟨0, by omega, rfl, fun j hj => by omega⟩
  case round =>
    obtain ⟨k, hk, rfl, hall⟩ := hrel
    have Hall := Lib.hid hall
    clear hall
    by_cases hlt : k < 8
    · have hc : w6.cell? ⟨w.heap.size, 2 + k, none⟩ = some (.int .u32 (e.dep k : Int)) := ev_dep H6.out k _ (by rw [Array.getElem?_toList]; exact av_get e.dep hlt)
      by_cases hg : 1048576 < e.dep k
      · have e1 : decide (1048576 < e.dep k) = true := decide_eq_true hg
        have e2 : decide ((1048576 : Int) < (e.dep k : Int)) = true := by rw [decide_eq_true_iff]; omega
        have Hg := Lib.hid hg
        clear hg
        go_wp2_with fail
        go_ret
        exact ⟨by rw [and_empty (Hdn.out k hlt Hg.out)]; rfl, hb06⟩
      · have e1 : decide (1048576 < e.dep k) = false := decide_eq_false hg
        have e2 : decide ((1048576 : Int) < (e.dep k : Int)) = false := by rw [decide_eq_false_iff_not]; omega
        have Hg := Lib.hid hg
        clear hg
        go_wp2_with fail
        go_round
        case rel => exact ⟨k + 1, by omega, by go_num, fun j hj => by
          by_cases e : j = k
          · subst e; have := Hg.out; omega
          · exact Hall.out j (by omega)⟩
        case measure => simp [intOf]; omega
    · obtain rfl : k = 8 := by omega
      have Hh := Lib.hid (Hdy.out Hall.out)
      clear hlt hk
      go_upto_region 8 with fail

      obtain ⟨ho, h_ho⟩ : ∃ x, x = hasV e.dep e.orep e.oseq := ⟨_, rfl⟩
      have H_ho := Lib.hid h_ho
      clear h_ho
      obtain ⟨dd, h_dd⟩ : ∃ x, x = dirB e := ⟨_, rfl⟩
      have H_dd := Lib.hid h_dd
      clear h_dd
      obtain ⟨gg, h_gg⟩ : ∃ x, x = (decide (e.gone.length ≤ 8) && riseB e.dep e.gone) := ⟨_, rfl⟩
      have H_gg := Lib.hid h_gg
      clear h_gg
      obtain ⟨rb, h_rb⟩ : ∃ x, x = riseB e.dep e.base := ⟨_, rfl⟩
      have H_rb := Lib.hid h_rb
      clear h_rb
      obtain ⟨of, h_of⟩ : ∃ x, x = offB e := ⟨_, rfl⟩
      have H_of := Lib.hid h_of
      clear h_of
      have I1 := Lib.hid (range_exts (ev_dep H6.out))
      have I3 := Lib.hid (range_exts (ev_obj H6.out))
      have I4 := Lib.hid (range_exts (ev_dir H6.out))
      go_cut [4, 5] (fun o d wx => o = .bool ho ∧ d = .bool dd ∧ Below w6.heap.size w6 wx)
      case first =>
        have ko := fun y : Ext w6 => refhas_any e.dep e.orep e.oseq y.now
        have kz := fun y : Ext w6 => refzero_any e.drep e.dseq y.now
        have kd := fun y : Ext w6 => refhas_any e.dep e.drep e.dseq y.now
        unfold vv at ko kd
        simp only [idv_idC] at ko kd
        have hdd := H_dd.out
        unfold dirB at hdd
        obtain ⟨z, hz⟩ : ∃ z, z = zeroI e.drep e.dseq := ⟨_, rfl⟩
        obtain ⟨hd, hhd⟩ : ∃ z, z = hasV e.dep e.drep e.dseq := ⟨_, rfl⟩
        simp only [← H_ho.out] at ko
        simp only [← hz] at kz hdd
        simp only [← hhd] at kd hdd
        have KO := Lib.hid ko
        have KZ := Lib.hid kz
        have KD := Lib.hid kd
        have Hdd := Lib.hid hdd
        clear ko kz kd hdd hz hhd
        cases z
        all_goals refine wp_region_grow (by kernel_rfl) (by kernel_rfl) ?_
        all_goals repeat (first | (go_big_quiet_want; refine quiet_mid 26 (.tmp 53) rfl w.heap.size 2 rfl _ _ I1.out Try.underlying26 rfl vec_info ?_; go_simp; go_big_quiet_on) | (go_big_quiet_want; refine quiet_mid 24 (.tmp 55) rfl w.heap.size 11 rfl _ _ I3.out Try.underlying24 rfl id_info ?_; go_simp; go_big_quiet_on) | (go_big_quiet_want; refine quiet_mid 24 (.tmp 58) rfl w.heap.size 13 rfl _ _ I4.out Try.underlying24 rfl id_info ?_; go_simp; go_big_quiet_on) | (go_big_quiet_want; refine quiet_mid 26 (.tmp 62) rfl w.heap.size 2 rfl _ _ I1.out Try.underlying26 rfl vec_info ?_; go_simp; go_big_quiet_on) | (go_big_quiet_want; refine quiet_mid 24 (.tmp 64) rfl w.heap.size 13 rfl _ _ I4.out Try.underlying24 rfl id_info ?_; go_simp; go_big_quiet_on) | go_big_quiet_step ((first | (go_at_call 22; with_reducible exact calls_grow (KO.out _)) | (go_at_call 23; with_reducible exact calls_grow (KZ.out _)) | (go_at_call 22; with_reducible exact calls_grow (KD.out _)))) | quiet_step ((first | (go_at_call 22; with_reducible exact calls_grow (KO.out _)) | (go_at_call 23; with_reducible exact calls_grow (KZ.out _)) | (go_at_call 22; with_reducible exact calls_grow (KD.out _)))))
        all_goals refine wpQuiet_nil ?_
        all_goals rintro w7 ⟨⟨_, hb_w7⟩, rfl⟩
        all_goals go_wp2_with fail
        all_goals go_meet
        all_goals exact ⟨rfl, by rw [Hdd.out]; rfl, hb_w7⟩
      case rest =>
        obtain ⟨rfl, rfl, hb7⟩ := hcut
        obtain ⟨w7, rfl⟩ : ∃ x, x = wc := ⟨wc, rfl⟩
        have hb07 := below_call hb06 hb7
        have H7 := Lib.hid (H6.out.grow hb7)
        clear I1 I3 I4
        go_upto_region 9 with fail
        have I1 := Lib.hid (range_exts (ev_dep H7.out))
        have cg := fun y : Ext w7 => (EvCells.ext H7.out y).gone
        have cb := fun y : Ext w7 => (EvCells.ext H7.out y).base
        go_cut [6, 7] (fun g r wx => g = .bool gg ∧ r = .bool rb ∧ Below w7.heap.size w7 wx)
        case first =>
          have kg := fun y : Ext w7 => refrise_any ok _ e.gone e.dep y.now ((Hin.out.grow (hb07.trans (y.out.mono hb07.size))).gone)
          have kb := fun y : Ext w7 => refrise_any ok _ e.base e.dep y.now ((Hin.out.grow (hb07.trans (y.out.mono hb07.size))).base)
          unfold vv at kg kb
          have hgg := H_gg.out
          obtain ⟨l, hl⟩ : ∃ l, decide (e.gone.length ≤ 8) = l := ⟨_, rfl⟩
          have hl2 : decide ((e.gone.length : Int) ≤ 8) = l := by rw [← hl, Bool.eq_iff_iff, decide_eq_true_iff, decide_eq_true_iff]; omega
          obtain ⟨r, hr⟩ : ∃ l, l = riseB e.dep e.gone := ⟨_, rfl⟩
          rw [hl] at hgg
          simp only [← hr] at kg hgg
          simp only [← H_rb.out] at kb
          have KG := Lib.hid kg
          have KB := Lib.hid kb
          have Hgg := Lib.hid hgg
          clear kg kb hgg hr
          cases l
          all_goals refine wp_region_grow (by kernel_rfl) (by kernel_rfl) ?_
          all_goals repeat (first | (go_big_quiet_want; refine quiet_mid 26 (.tmp 75) rfl w.heap.size 2 rfl _ _ I1.out Try.underlying26 rfl vec_info ?_; go_simp; go_big_quiet_on) | (go_big_quiet_want; refine quiet_mid 26 (.tmp 81) rfl w.heap.size 2 rfl _ _ I1.out Try.underlying26 rfl vec_info ?_; go_simp; go_big_quiet_on) | go_big_quiet_step ((first | (go_at_call 24; with_reducible exact calls_grow (KG.out _)) | (go_at_call 24; with_reducible exact calls_grow (KB.out _)))) | quiet_step ((first | (go_at_call 24; with_reducible exact calls_grow (KG.out _)) | (go_at_call 24; with_reducible exact calls_grow (KB.out _)))))
          all_goals refine wpQuiet_nil ?_
          all_goals rintro w8 ⟨⟨_, hb_w8⟩, rfl⟩
          all_goals go_wp2_with fail
          all_goals go_meet
          all_goals exact ⟨by rw [Hgg.out]; rfl, rfl, hb_w8⟩
        case rest =>
          obtain ⟨rfl, rfl, hb8⟩ := hcut
          obtain ⟨w8, rfl⟩ : ∃ x, x = wc := ⟨wc, rfl⟩
          have hb08 := below_call hb07 hb8
          have H8 := Lib.hid (H7.out.grow hb8)
          clear I1 cg cb
          go_upto_region 10 with fail
          have co := H8.out.ev.off
          go_cut [8] (fun o wx => o = .bool of ∧ wx = w8)
          case first =>
            have hof := H_of.out
            unfold offB at hof
            obtain ⟨a, ha⟩ : ∃ l, decide (0 ≤ e.off) = l := ⟨_, rfl⟩
            obtain ⟨c, hc⟩ : ∃ l, decide (e.off ≤ 200) = l := ⟨_, rfl⟩
            rw [ha, hc] at hof
            have Hof := Lib.hid hof
            clear hof
            cases a
            all_goals go_wp2_with fail
            all_goals go_meet
            all_goals exact ⟨by rw [Hof.out]; rfl, rfl⟩
          case rest =>
            obtain ⟨rfl, hwc⟩ := hcut
            rw [hwc]
            clear co
            have e0 := H8.out.ev.kind
            by_cases hk1 : e.kind = 1
            · have hks := Hks.out
              exfalso
              omega
            by_cases hk2 : e.kind = 2
            · have hks := Hks.out
              exfalso
              omega
            by_cases hk3 : e.kind = 3
            · have hks := Hks.out
              exfalso
              omega
            by_cases hk4 : e.kind = 4
            · have hks := Hks.out
              exfalso
              omega
            by_cases hk5 : e.kind = 5
            · obtain ⟨b2, h_b2⟩ : ∃ x, decide (2 ≤ e.base.length) = x := ⟨_, rfl⟩
              have i_b2 : decide ((2 : Int) ≤ (e.base.length : Int)) = b2 := by rw [← h_b2, Bool.eq_iff_iff, decide_eq_true_iff, decide_eq_true_iff]; omega
              obtain ⟨b8, h_b8⟩ : ∃ x, decide (e.base.length ≤ 8) = x := ⟨_, rfl⟩
              have i_b8 : decide ((e.base.length : Int) ≤ 8) = b8 := by rw [← h_b8, Bool.eq_iff_iff, decide_eq_true_iff, decide_eq_true_iff]; omega
              obtain ⟨d2, h_d2⟩ : ∃ x, decide (e.data.length ≤ 200) = x := ⟨_, rfl⟩
              have i_d2 : decide ((e.data.length : Int) ≤ 200) = d2 := by rw [← h_d2, Bool.eq_iff_iff, decide_eq_true_iff, decide_eq_true_iff]; omega
              obtain ⟨md, h_md⟩ : ∃ x, x = madeB e true false false true false true false := ⟨_, rfl⟩
              have hK : kindB e = (ho && rb && b2 && b8 && d2 && md) := by
                unfold kindB
                rw [if_neg (by omega), if_neg (by omega), if_neg (by omega), if_pos hk5]
                rw [H_ho.out, H_rb.out, ← h_b2, ← h_b8, ← h_d2, h_md]
              have HK := Lib.hid hK
              have Hk := Lib.hid hk5
              have H_md := Lib.hid h_md
              clear hK h_md hk1 hk2 hk3 hk4 hk5
              rw [Hk.out] at e0
              go_upto_region 20 with fail
              clear e0
              have RA := Lib.hid (show ∀ w', (∃ x : Ext w8, w' = x.now) → w'.rangeAt w.heap.size 0 E.toList by rw [HE.out]; exact range_exts (ev_all H8.out))
              have hin8 := fun y : Ext w8 => Hin.out.grow (hb08.trans (y.out.mono hb08.size))
              have km := fun y : Ext w8 => made5 ok e _ _ y.now (hin8 y)
              rw [← HE.out] at km
              simp only [← H_md.out] at km
              have KM := Lib.hid km
              have c_base := fun y : Ext w8 => (EvCells.ext H8.out y).base
              have c_data := fun y : Ext w8 => (EvCells.ext H8.out y).data
              clear km hin8
              rcases (show (ho = false) ∨ (ho = true ∧ rb = false) ∨ (ho = true ∧ rb = true ∧ b2 = false) ∨ (ho = true ∧ rb = true ∧ b2 = true ∧ b8 = false) ∨ (ho = true ∧ rb = true ∧ b2 = true ∧ b8 = true ∧ d2 = false) ∨ (ho = true ∧ rb = true ∧ b2 = true ∧ b8 = true ∧ d2 = true) from by
                  by_cases hho : ho = false
                  · exact .inl hho
                  by_cases hrb : rb = false
                  · exact .inr (.inl ⟨by simpa using hho, hrb⟩)
                  by_cases hb2 : b2 = false
                  · exact .inr (.inr (.inl ⟨by simpa using hho, by simpa using hrb, hb2⟩))
                  by_cases hb8 : b8 = false
                  · exact .inr (.inr (.inr (.inl ⟨by simpa using hho, by simpa using hrb, by simpa using hb2, hb8⟩)))
                  by_cases hd2 : d2 = false
                  · exact .inr (.inr (.inr (.inr (.inl ⟨by simpa using hho, by simpa using hrb, by simpa using hb2, by simpa using hb8, hd2⟩))))
                  exact .inr (.inr (.inr (.inr (.inr (⟨by simpa using hho, by simpa using hrb, by simpa using hb2, by simpa using hb8, by simpa using hd2⟩)))))) with rfl | ⟨rfl, rfl⟩ | ⟨rfl, rfl, rfl⟩ | ⟨rfl, rfl, rfl, rfl⟩ | ⟨rfl, rfl, rfl, rfl, rfl⟩ | ⟨rfl, rfl, rfl, rfl, rfl⟩
              all_goals refine wp_plain_grow ?_
              all_goals repeat (first | (go_big_quiet_want; refine quiet_mid 29 (.tmp 1) rfl w.heap.size 0 rfl E _ RA.out Try.underlying29 rfl (by rw [HE.out]; exact ev_info) ?_; go_simp; go_big_quiet_on) | go_big_quiet_step ((go_at_call 25; with_reducible exact calls_grow (KM.out _))) | quiet_step ((go_at_call 25; with_reducible exact calls_grow (KM.out _))))
              all_goals refine wpQuiet_nil ?_
              all_goals rintro w9 ⟨⟨_, hb_w9⟩, rfl⟩
              all_goals go_wp2_with fail
              all_goals go_ret
              all_goals exact ⟨by rw [Hh.out, HK.out]; simp, below_call hb08 hb_w9⟩
            by_cases hk6 : e.kind = 6
            · obtain ⟨md, h_md⟩ : ∃ x, x = madeB e true false true false false false false := ⟨_, rfl⟩
              have hK : kindB e = (ho && gg && md) := by
                unfold kindB
                rw [if_neg (by omega), if_neg (by omega), if_neg (by omega), if_neg (by omega), if_pos hk6]
                rw [H_ho.out, H_gg.out, h_md]
              have HK := Lib.hid hK
              have Hk := Lib.hid hk6
              have H_md := Lib.hid h_md
              clear hK h_md hk1 hk2 hk3 hk4 hk5 hk6
              rw [Hk.out] at e0
              go_upto_region 22 with fail
              clear e0
              have RA := Lib.hid (show ∀ w', (∃ x : Ext w8, w' = x.now) → w'.rangeAt w.heap.size 0 E.toList by rw [HE.out]; exact range_exts (ev_all H8.out))
              have hin8 := fun y : Ext w8 => Hin.out.grow (hb08.trans (y.out.mono hb08.size))
              have km := fun y : Ext w8 => made6 ok e _ _ y.now (hin8 y)
              rw [← HE.out] at km
              simp only [← H_md.out] at km
              have KM := Lib.hid km
              clear km hin8
              rcases (show (ho = false) ∨ (ho = true ∧ gg = false) ∨ (ho = true ∧ gg = true) from by
                  by_cases hho : ho = false
                  · exact .inl hho
                  by_cases hgg : gg = false
                  · exact .inr (.inl ⟨by simpa using hho, hgg⟩)
                  exact .inr (.inr (⟨by simpa using hho, by simpa using hgg⟩))) with rfl | ⟨rfl, rfl⟩ | ⟨rfl, rfl⟩
              all_goals refine wp_plain_grow ?_
              all_goals repeat (first | (go_big_quiet_want; refine quiet_mid 29 (.tmp 1) rfl w.heap.size 0 rfl E _ RA.out Try.underlying29 rfl (by rw [HE.out]; exact ev_info) ?_; go_simp; go_big_quiet_on) | go_big_quiet_step ((go_at_call 25; with_reducible exact calls_grow (KM.out _))) | quiet_step ((go_at_call 25; with_reducible exact calls_grow (KM.out _))))
              all_goals refine wpQuiet_nil ?_
              all_goals rintro w9 ⟨⟨_, hb_w9⟩, rfl⟩
              all_goals go_wp2_with fail
              all_goals go_ret
              all_goals exact ⟨by rw [Hh.out, HK.out]; simp, below_call hb08 hb_w9⟩
            by_cases hk7 : e.kind = 7
            · have hks := Hks.out
              exfalso
              omega
            by_cases hk8 : e.kind = 8
            · have hks := Hks.out
              exfalso
              omega
            by_cases hk9 : e.kind = 9
            · have hks := Hks.out
              exfalso
              omega
            have hks := Hks.out
            exfalso
            omega
end Go.Proofs.Ytkojoahamoffcaa

namespace Go.Proofs.Ytkojoahamoffcaa
open Go.RowKit
theorem refcheck_any (ok : Nat → Prop) (e : Ev) (vg vb : Value) (w : World) (hin : EvIn w ok e vg vb) :
    Calls Try.prog 10 #[.agg (evC e vg vb)] w fun x w' => x = .returned (.bool (checkB e)) ∧ Below w.heap.size w w' := by
  by_cases hb : e.kind = 2 ∨ e.kind = 7 ∨ e.kind = 8
  · exact refcheckB ok e vg vb w hin hb
  by_cases hc : e.kind = 3
  · exact refcheckC ok e vg vb w hin hc
  by_cases he : e.kind = 4
  · exact refcheckE ok e vg vb w hin he
  by_cases hd : e.kind = 5 ∨ e.kind = 6
  · exact refcheckD ok e vg vb w hin hd
  exact refcheckA ok e vg vb w hin (by omega)
end Go.Proofs.Ytkojoahamoffcaa
