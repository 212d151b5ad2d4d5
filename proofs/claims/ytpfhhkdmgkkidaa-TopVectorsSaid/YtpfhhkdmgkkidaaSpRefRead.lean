/-
  wardshipref07.Read.
-/
import Derived.Test.YtpfhhkdmgkkidaaSpRefShrink
import Derived.Test.YtpfhhkdmgkkidaaRefAsNum
namespace Go.Proofs.Ytpfhhkdmgkkidaa
open Go.RowKit
set_option maxRecDepth 100000

theorem bothN_step {m s k : Nat} : ((List.range (k + 1)).any fun i => bitN m i && bitN s i) = (((List.range k).any fun i => bitN m i && bitN s i) || (bitN m k && bitN s k)) := by
  rw [List.range_succ, List.any_append]
  simp

theorem extract_str (b : List UInt8) (i j : Nat) : (⟨b.toArray⟩ : ByteArray).extract i j = ⟨((b.take j).drop i).toArray⟩ := by
  apply ByteArray.ext
  rw [ByteArray.data_extract]
  apply Array.ext'
  rw [Array.toList_extract]
  simp [List.drop_take]
theorem index_str (b : List UInt8) (k : Nat) (h : k < b.length) (w : World) : (Instr.index 9 (str b) (.int .i64 (k : Int))).run Try.prog w = .ok (.int .u8 (b[k].toNat : Int)) w := by
  have hs : k < (⟨b.toArray⟩ : ByteArray).size := h
  rw [run_index_string (h := by kernel_rfl), dif_pos ⟨by omega, by omega⟩]
  rfl

theorem bit_fact {m k p : Nat} (hp : p = 2 ^ k) : ((m : Int) / (p : Int) % 2 == 1) = bitN m k := by
  unfold bitN
  rw [← hp]
  have : (m : Int) / (p : Int) % 2 = ((m / p % 2 : Nat) : Int) := by omega
  rw [this]
  by_cases h : m / p % 2 = 1
  · rw [h]; rfl
  · rw [decide_eq_false h, beq_eq_false_iff_ne]; omega

theorem asNumV_lt (l : List UInt8) : (asNumV l).1 < 18446744073709551616 := by
  unfold asNumV
  split
  · omega
  · split
    · omega
    · have := asNum_lt64 l (by omega)
      simpa using this
theorem updD_twice (D : Nat → Int) (k : Nat) (a b : Int) : updD (updD D k a) k b = updD D k b := by
  funext i
  unfold updD
  split <;> rfl
theorem both_hit {m s k : Nat} (hk : k < 8) (h : ((List.range (k + 1)).any fun i => bitN m i && bitN s i) = (false || true && true)) : bothN m s = true := by
  unfold bothN
  have h : ((List.range (k + 1)).any fun i => bitN m i && bitN s i) = true := h
  rw [List.any_eq_true] at h ⊢
  obtain ⟨i, hi, h2⟩ := h
  exact ⟨i, by simp only [List.mem_range] at hi ⊢; omega, h2⟩
theorem both_not {m s : Nat} (h : bothN m s = false) (k : Nat) (hk : k < 8) (h1 : bitN m k = true) : bitN s k = false := by
  unfold bothN at h
  rw [List.any_eq_false] at h
  have := h k (by simpa using hk)
  rw [h1] at this
  simpa using this

set_option maxHeartbeats 4000000 in
theorem refread_any (l : List UInt8) (w : World) (hl : l.length ≤ 1000) :
    Calls Try.prog 21 #[str l] w (RDPost l w) := by
  obtain ⟨W, hW⟩ : ∃ W, W = ((w.alloc (.cells (ai zeroD) 46)).alloc (.cells (ai zeroD) 46)).alloc (.cells (ai zeroD) 46) := ⟨_, rfl⟩
  have h1 : Blk W w.heap.size 46 (ai zeroD) := by rw [hW]; exact ((Blk.new w _ _).alloc _).alloc _
  have h2 : Blk W (w.heap.size + 1) 46 (ai zeroD) := by
    rw [hW]
    have := (Blk.new (w.alloc (.cells (ai zeroD) 46)) 46 (ai zeroD)).alloc (.cells (ai zeroD) 46)
    rw [World.size_alloc] at this
    exact this
  have h3 : Blk W (w.heap.size + 1 + 1) 46 (ai zeroD) := by
    rw [hW]
    have := Blk.new ((w.alloc (.cells (ai zeroD) 46)).alloc (.cells (ai zeroD) 46)) 46 (ai zeroD)
    rw [World.size_alloc, World.size_alloc] at this
    exact this
  have hbel : Below w.heap.size w W := by rw [hW]; exact (((Below.refl _ _).alloc (Nat.le_refl _) _).alloc (by simp) _).alloc (by simp; omega) _
  obtain ⟨X, hX⟩ : ∃ X, X = (W.setRow (w.heap.size + 1) (ai zeroD)).setRow (w.heap.size + 1 + 1) (ai zeroD) := ⟨_, rfl⟩
  have g1 : Blk X w.heap.size 46 (ai zeroD) := by rw [hX]; exact (h1.setRowFar (by omega) _).setRowFar (by omega) _
  have g2 : Blk X (w.heap.size + 1) 46 (ai zeroD) := by rw [hX]; exact (h2.setRow_ _).setRowFar (by omega) _
  have g3 : Blk X (w.heap.size + 1 + 1) 46 (ai zeroD) := by rw [hX]; exact (h3.setRowFar (by omega) _).setRow_ _
  have gb : Below w.heap.size w X := by rw [hX]; exact below_setRow (below_setRow hbel (by omega) _) (by omega) _
  have h3' : Blk (W.setRow (w.heap.size + 1) (ai zeroD)) (w.heap.size + 1 + 1) 46 (ai zeroD) := h3.setRowFar (by omega) _
  have GB := Lib.hid gb
  have HW := Lib.hid hW
  have HX := Lib.hid hX
  have H2 := Lib.hid h2
  have H3' := Lib.hid h3'
  have G1 := Lib.hid g1
  have G2 := Lib.hid g2
  have G3 := Lib.hid g3
  clear hW hX h1 h2 h3 h3' hbel g1 g2 g3
  rw [zero_ai] at HW
  rcases l with _ | ⟨m, _ | ⟨s, r⟩⟩
  · have Hfin := Lib.hid (show readD [] = (zeroD, 8) from rfl)
    clear hl
    have GBo := GB.out
    go_enter Try.func21, Try.ntmps21
    go_wp2_with (first | (rw [← HW.out]; refine wpList_store_row rfl 46 (.tmp 4) (.tmp 13) rfl (w.heap.size + 1) (ai zeroD) rfl rfl 46 (ai zeroD) (by exact H2.out) arr_info rfl (ai_one _) ?_) | (refine wpList_store_row rfl 46 (.tmp 5) (.tmp 14) rfl (w.heap.size + 1 + 1) (ai zeroD) rfl rfl 46 (ai zeroD) (by exact H3'.out) arr_info rfl (ai_one _) ?_; rw [← HX.out]) | (refine wpList_load_row rfl 46 (.tmp 4) rfl (w.heap.size + 1) rfl 46 (ai zeroD) (0, 0) _ (by exact G2.out) Try.underlying46 rfl arr_info ?_) | (refine wpList_store_row rfl 46 (.tmp 2) (.tmp 18) rfl w.heap.size (ai zeroD) rfl rfl 46 (ai zeroD) (by exact G1.out) arr_info rfl (ai_one _) ?_))
    have hend := Blk.setRow_ G1.out (ai zeroD)
    exact bodyPost_ret (v := .tuple #[.agg (ai zeroD), .int .i64 8]) (results_cell_tmp Try.results21 _ _ w.heap.size 46 (ai zeroD) (0, 0) _ _ rfl rfl hend Try.underlying46 rfl arr_info) rfl (RDPost.of Hfin.out (below_setRow GBo (by omega) _))
  · have Hfin := Lib.hid (show readD [m] = (zeroD, 8) from rfl)
    clear hl
    have GBo := GB.out
    go_enter Try.func21, Try.ntmps21
    go_wp2_with (first | (rw [← HW.out]; refine wpList_store_row rfl 46 (.tmp 4) (.tmp 13) rfl (w.heap.size + 1) (ai zeroD) rfl rfl 46 (ai zeroD) (by exact H2.out) arr_info rfl (ai_one _) ?_) | (refine wpList_store_row rfl 46 (.tmp 5) (.tmp 14) rfl (w.heap.size + 1 + 1) (ai zeroD) rfl rfl 46 (ai zeroD) (by exact H3'.out) arr_info rfl (ai_one _) ?_; rw [← HX.out]) | (refine wpList_load_row rfl 46 (.tmp 4) rfl (w.heap.size + 1) rfl 46 (ai zeroD) (0, 0) _ (by exact G2.out) Try.underlying46 rfl arr_info ?_) | (refine wpList_store_row rfl 46 (.tmp 2) (.tmp 18) rfl w.heap.size (ai zeroD) rfl rfl 46 (ai zeroD) (by exact G1.out) arr_info rfl (ai_one _) ?_))
    have hend := Blk.setRow_ G1.out (ai zeroD)
    exact bodyPost_ret (v := .tuple #[.agg (ai zeroD), .int .i64 8]) (results_cell_tmp Try.results21 _ _ w.heap.size 46 (ai zeroD) (0, 0) _ _ rfl rfl hend Try.underlying46 rfl arr_info) rfl (RDPost.of Hfin.out (below_setRow GBo (by omega) _))
  · have hm := m.toNat_lt
    have hs := s.toNat_lt
    have hi0 : ∀ w, (Instr.index 9 (str (m :: s :: r)) (.int .i64 0)).run Try.prog w = .ok (.int .u8 (m.toNat : Int)) w := fun w => index_str (m :: s :: r) 0 (by simp) w
    have hi1 : ∀ w, (Instr.index 9 (str (m :: s :: r)) (.int .i64 1)).run Try.prog w = .ok (.int .u8 (s.toNat : Int)) w := fun w => index_str (m :: s :: r) 1 (by simp) w
    have hex : (⟨(m :: s :: r).toArray⟩ : ByteArray).extract 2 (m :: s :: r).length = ⟨r.toArray⟩ := by rw [extract_str, List.take_length]; rfl
    have hll : (m :: s :: r).length = r.length + 2 := rfl
    obtain ⟨l, hle⟩ : ∃ l, l = m :: s :: r := ⟨_, rfl⟩
    rw [← hle] at hi0 hi1 hex hll hl ⊢
    rw [hll] at hex
    have Hle := Lib.hid hle
    clear hle
    go_enter Try.func21, Try.ntmps21
    go_wp2_with (first | (rw [← HW.out]; refine wpList_store_row rfl 46 (.tmp 4) (.tmp 13) rfl (w.heap.size + 1) (ai zeroD) rfl rfl 46 (ai zeroD) (by exact H2.out) arr_info rfl (ai_one _) ?_) | (refine wpList_store_row rfl 46 (.tmp 5) (.tmp 14) rfl (w.heap.size + 1 + 1) (ai zeroD) rfl rfl 46 (ai zeroD) (by exact H3'.out) arr_info rfl (ai_one _) ?_; rw [← HX.out]))
    clear gb
    have gb : Below w.heap.size w X := GB.out
    go_loopw [7] (fun i wr => ∃ k : Nat, k ≤ 8 ∧ i = .int .i64 (k : Int) ∧ ((List.range k).any fun i => bitN m.toNat i && bitN s.toNat i) = false ∧ Blk wr w.heap.size 46 (ai zeroD) ∧ Blk wr (w.heap.size + 1) 46 (ai zeroD) ∧ Blk wr (w.heap.size + 1 + 1) 46 (ai zeroD) ∧ Below w.heap.size w wr) (fun i _ => 8 - (intOf i).toNat)
    case atStart => exact ⟨0, by omega, rfl, rfl, G1.out, G2.out, G3.out, gb⟩
    case round =>
      obtain ⟨k, hk, rfl, hall, hb1, hb2, hb3, hbw⟩ := hrel
      clear gb
      by_cases hlt : k < 8
      · obtain ⟨p, hp⟩ : ∃ p, p = (2 : Nat) ^ k := ⟨_, rfl⟩
        have hbit := fun w => bit_any k p hlt hp w
        have hp0 : 0 < p := by rw [hp]; exact Nat.pow_pos (by omega)
        have hp7 : p ≤ 128 := by
          have : (2 : Nat) ^ k ≤ 2 ^ 7 := Nat.pow_le_pow_right (by omega) (by omega)
          omega
        have hpne : ¬ ((p : Int) = 0) := by omega
        have hbm := bit_fact (m := m.toNat) hp
        have hbs := bit_fact (m := s.toNat) hp
        have hst := bothN_step (m := m.toNat) (s := s.toNat) (k := k)
        rw [hall] at hst
        have Hbit := Lib.hid hbit
        have Hb1 := Lib.hid hb1
        have Hb2 := Lib.hid hb2
        have Hb3 := Lib.hid hb3
        clear hb1 hb2 hb3 hp hbit
        generalize bitN m.toNat k = bm at *
        generalize bitN s.toNat k = bs at *
        have Hst := Lib.hid hst
        clear hst hall
        cases bm with
        | false =>
          go_wp2_with fail
          go_quiet ((go_at_call 19; exact quiet_same (Hbit.out _)))
          go_wp2_with fail
          go_roundw
          case rel => exact ⟨k + 1, by omega, by go_num, by rw [Hst.out]; rfl, Hb1.out, Hb2.out, Hb3.out, below_drewN hbw _⟩
          case measure => simp [intOf]; omega
        | true =>
          cases bs with
          | false =>
            go_wp2_with fail
            go_quiet ((go_at_call 19; exact quiet_same (Hbit.out _)))
            go_wp2_with fail
            go_roundw
            case rel => exact ⟨k + 1, by omega, by go_num, by rw [Hst.out]; rfl, Hb1.out, Hb2.out, Hb3.out, below_drewN hbw _⟩
            case measure => simp [intOf]; omega
          | true =>
            have hfin : readD l = (zeroD, 7) := by
              rw [Hle.out]
              exact if_pos (both_hit hlt Hst.out)
            have Hfin := Lib.hid hfin
            clear hfin
            go_wp2_with fail
            go_quiet ((go_at_call 19; exact quiet_same (Hbit.out _)))
            go_wp2_with (first | (refine wpList_load_row rfl 46 (.tmp 4) rfl (w.heap.size + 1) rfl 46 (ai zeroD) (0, 0) _ (by exact Hb2.out) Try.underlying46 rfl arr_info ?_) | (refine wpList_store_row rfl 46 (.tmp 2) (.tmp 41) rfl w.heap.size (ai zeroD) rfl rfl 46 (ai zeroD) (by exact Hb1.out) arr_info rfl (ai_one _) ?_))
            have hend := Blk.setRow_ Hb1.out (ai zeroD)
            exact bodyPost_ret (v := .tuple #[.agg (ai zeroD), .int .i64 7]) (results_cell_tmp Try.results21 _ _ w.heap.size 46 (ai zeroD) (0, 0) _ _ rfl rfl hend Try.underlying46 rfl arr_info) rfl (RDPost.of Hfin.out (below_setRow (below_drewN hbw _) (by omega) _))
      · obtain rfl : k = 8 := by omega
        have hboth : bothN m.toNat s.toNat = false := hall
        have hdf : readD l = if (stepsD m.toNat s.toNat r 8).2.2 ≠ 0 then (zeroD, (stepsD m.toNat s.toNat r 8).2.2) else if (stepsD m.toNat s.toNat r 8).2.1 ≠ [] then (zeroD, 4) else ((stepsD m.toNat s.toNat r 8).1, 0) := by
          rw [Hle.out]
          exact if_neg (by rw [hboth]; simp)
        have hno := both_not hboth
        have HV := Lib.hid hdf
        have HNO := Lib.hid hno
        have HS := Lib.hid (stepsD_ok m.toNat s.toNat r)
        have HE := Lib.hid (fun k h j => @stepsD_err m.toNat s.toNat r k h j)
        have HK := Lib.hid (fun k h => @stepsD_skip m.toNat s.toNat r k h)
        have HG := Lib.hid (fun k h0 h => @stepsD_go m.toNat s.toNat r k h0 h)
        have hT0 : stepsD m.toNat s.toNat r 0 = (zeroD, r, 0) := rfl
        clear hdf hno hboth hall
        generalize stepsD m.toNat s.toNat r = T at HV HS HE HK HG hT0
        have HT0 := Lib.hid hT0
        clear hT0
        go_wp2_with fail
        obtain ⟨Y, hY⟩ : ∃ Y, Y = wr := ⟨_, rfl⟩
        rw [← hY] at hb1 hb2 hb3 hbw ⊢
        clear hY
        rw [show (((8 : Nat) : Int)) = 8 from rfl]
        go_loopw [6, 8] (fun v i wq => ∃ k : Nat, k ≤ 8 ∧ i = .int .i64 (k : Int) ∧ (T k).2.2 = 0 ∧ v = str (T k).2.1 ∧ Blk wq w.heap.size 46 (ai zeroD) ∧ Blk wq (w.heap.size + 1) 46 (ai zeroD) ∧ Blk wq (w.heap.size + 1 + 1) 46 (ai (T k).1) ∧ Below w.heap.size w wq) (fun _ i _ => 8 - (intOf i).toNat)
        case atStart => exact ⟨0, by omega, rfl, by rw [HT0.out], by rw [HT0.out], hb1, hb2, by rw [HT0.out]; exact hb3, hbw⟩
        case round =>
          obtain ⟨k, hk, rfl, he, rfl, hb1, hb2, hb3, hbw⟩ := hrel
          have Hb1 := Lib.hid hb1
          have Hb2 := Lib.hid hb2
          have Hb3 := Lib.hid hb3
          clear hb1 hb2
          by_cases hlt : k < 8
          · obtain ⟨p, hp⟩ : ∃ p, p = (2 : Nat) ^ k := ⟨_, rfl⟩
            have hbit := fun w => bit_any k p hlt hp w
            have hp0 : 0 < p := by rw [hp]; exact Nat.pow_pos (by omega)
            have hp7 : p ≤ 128 := by
              have : (2 : Nat) ^ k ≤ 2 ^ 7 := Nat.pow_le_pow_right (by omega) (by omega)
              omega
            have hpne : ¬ ((p : Int) = 0) := by omega
            have hbm := bit_fact (m := m.toNat) hp
            have hbs := bit_fact (m := s.toNat) hp
            have Hbit := Lib.hid hbit
            clear hp hbit
            cases hm1 : bitN m.toNat k with
            | true =>
              have hs1 := HNO.out k hlt hm1
              have hsg : signN m.toNat s.toNat k = 1 := by unfold signN; rw [if_pos hm1]
              rw [hm1] at hbm
              rw [hs1] at hbs
              clear hm1 hs1
              have hdone : True := trivial
              · skip
                have hgo := HG.out k he (by rw [hsg]; omega)
                rw [hsg] at hgo
                have hfl := firstS_le (T k).2.1
                have hlen := (HS.out k).1
                have hfail : ∀ q, q ≠ 0 → (firstS (T k).2.1).2.2 = q → readD l = (zeroD, q) := fun q hq hf => by
                  have hT8 : (T 8).2.2 = q := by
                    have := HE.out (k + 1) (by rw [hgo, hf]; exact hq) (8 - (k + 1))
                    rw [show k + 1 + (8 - (k + 1)) = 8 by omega] at this
                    rw [this, hgo, hf]
                  rw [HV.out, hT8, if_pos hq]
                generalize (T k).2.1 = rl at hgo hfl hlen hfail ⊢
                have Hgo := Lib.hid hgo
                have Hfail := Lib.hid hfail
                clear hgo hfail he
                rcases rl with _ | ⟨x0, r2⟩
                · have Hfin := Lib.hid (Hfail.out 8 (by omega) rfl)
                  clear hfl
                  go_wp2_with fail
                  go_quiet ((go_at_call 19; exact quiet_same (Hbit.out _)))
                  go_wp2_with (first | (refine wpList_load_row rfl 46 (.tmp 4) rfl (w.heap.size + 1) rfl 46 (ai zeroD) (0, 0) _ (by exact Hb2.out) Try.underlying46 rfl arr_info ?_) | (refine wpList_store_row rfl 46 (.tmp 2) (.tmp 77) rfl w.heap.size (ai zeroD) rfl rfl 46 (ai zeroD) (by exact Hb1.out) arr_info rfl (ai_one _) ?_))
                  have hend := Blk.setRow_ Hb1.out (ai zeroD)
                  exact bodyPost_ret (v := .tuple #[.agg (ai zeroD), .int .i64 8]) (results_cell_tmp Try.results21 _ _ w.heap.size 46 (ai zeroD) (0, 0) _ _ rfl rfl hend Try.underlying46 rfl arr_info) rfl (RDPost.of Hfin.out (below_setRow (below_drewN hbw _) (by omega) _))
                · have hx0 := x0.toNat_lt
                  have hix0 : ∀ w, (Instr.index 9 (str (x0 :: r2)) (.int .i64 0)).run Try.prog w = .ok (.int .u8 (x0.toNat : Int)) w := fun w => index_str (x0 :: r2) 0 (by simp) w
                  have hex1 : (⟨(x0 :: r2).toArray⟩ : ByteArray).extract 1 (1 + x0.toNat) = ⟨(r2.take x0.toNat).toArray⟩ := by rw [extract_str, Nat.add_comm, List.take_succ_cons, List.drop_one, List.tail_cons]
                  have hex2 : (⟨(x0 :: r2).toArray⟩ : ByteArray).extract (1 + x0.toNat) (r2.length + 1) = ⟨(r2.drop x0.toNat).toArray⟩ := by
                    rw [extract_str, List.take_of_length_le (by simp), Nat.add_comm, List.drop_succ_cons]
                  have hll2 : (x0 :: r2).length = r2.length + 1 := rfl
                  have hemp : (x0 :: r2).isEmpty = false := rfl
                  have hfs : firstS (x0 :: r2) = if r2.length < x0.toNat then (0, [], 8) else if (asNumV (r2.take x0.toNat)).2 ≠ 0 ∨ (asNumV (r2.take x0.toNat)).1 = 0 ∨ 4294967295 < (asNumV (r2.take x0.toNat)).1 then (0, [], 7) else ((asNumV (r2.take x0.toNat)).1, r2.drop x0.toNat, 0) := rfl
                  have hrl : (r2.take x0.toNat).length ≤ 1000 := by rw [List.length_take]; omega
                  have hasn := fun w => refasnum_any (r2.take x0.toNat) w (by unfold maxLen; omega)
                  have hm64 : (asNumV (r2.take x0.toNat)).1 < 18446744073709551616 := asNumV_lt _
                  obtain ⟨rl, hrle⟩ : ∃ rl, rl = x0 :: r2 := ⟨_, rfl⟩
                  rw [← hrle] at hix0 hex1 hex2 hll2 hemp hfs hfl Hgo Hfail hlen ⊢
                  generalize asNumV (r2.take x0.toNat) = R at hfs hasn hm64
                  obtain ⟨n, q⟩ := R
                  simp only [] at hfs hasn hm64
                  generalize r2.take x0.toNat = tk at hex1 hasn hrl
                  have Hasn := Lib.hid hasn
                  have Hfs := Lib.hid hfs
                  have Hm64 := Lib.hid hm64
                  clear hasn hfs hrle hm64 hfl
                  by_cases hcut : r2.length < x0.toNat
                  · have Hfin := Lib.hid (Hfail.out 8 (by omega) (by rw [Hfs.out, if_pos hcut]))
                    go_wp2_with fail
                    go_quiet ((go_at_call 19; exact quiet_same (Hbit.out _)))
                    go_wp2_with (first | (refine wpList_load_row rfl 46 (.tmp 4) rfl (w.heap.size + 1) rfl 46 (ai zeroD) (0, 0) _ (by exact Hb2.out) Try.underlying46 rfl arr_info ?_) | (refine wpList_store_row rfl 46 (.tmp 2) (.tmp 77) rfl w.heap.size (ai zeroD) rfl rfl 46 (ai zeroD) (by exact Hb1.out) arr_info rfl (ai_one _) ?_))
                    have hend := Blk.setRow_ Hb1.out (ai zeroD)
                    exact bodyPost_ret (v := .tuple #[.agg (ai zeroD), .int .i64 8]) (results_cell_tmp Try.results21 _ _ w.heap.size 46 (ai zeroD) (0, 0) _ _ rfl rfl hend Try.underlying46 rfl arr_info) rfl (RDPost.of Hfin.out (below_setRow (below_drewN hbw _) (by omega) _))
                  · have hfs2 := Hfs.out
                    rw [if_neg hcut] at hfs2
                    have Hfs2 := Lib.hid hfs2
                    clear hfs2
                    by_cases hq : q ≠ 0
                    · have Hfin := Lib.hid (Hfail.out 7 (by omega) (by rw [Hfs2.out, if_pos (.inl hq)]))
                      have hq' : ((q : Int) != 0) = true := by rw [bne_iff_ne]; omega
                      clear hq
                      go_wp2_with fail
                      go_quiet ((go_at_call 19; exact quiet_same (Hbit.out _)))
                      go_wp2_with fail
                      refine (Hasn.out _).mono ?_
                      rintro e w2 ⟨rfl, hb2⟩
                      have hb02 := below_call (below_drewN hbw nq) hb2
                      have C1 := Lib.hid (Blk.grow (w := wr.drewN nq) Hb1.out hb2)
                      have C2 := Lib.hid (Blk.grow (w := wr.drewN nq) Hb2.out hb2)
                      have C3 := Lib.hid (Blk.grow (w := wr.drewN nq) Hb3.out hb2)
                      go_wp2_with (first | (refine wpList_load_row rfl 46 (.tmp 4) rfl (w.heap.size + 1) rfl 46 (ai zeroD) (0, 0) _ (by exact C2.out) Try.underlying46 rfl arr_info ?_) | (refine wpList_store_row rfl 46 (.tmp 2) (.tmp 98) rfl w.heap.size (ai zeroD) rfl rfl 46 (ai zeroD) (by exact C1.out) arr_info rfl (ai_one _) ?_))
                      have hend := Blk.setRow_ C1.out (ai zeroD)
                      exact bodyPost_ret (v := .tuple #[.agg (ai zeroD), .int .i64 7]) (results_cell_tmp Try.results21 _ _ w.heap.size 46 (ai zeroD) (0, 0) _ _ rfl rfl hend Try.underlying46 rfl arr_info) rfl (RDPost.of Hfin.out (below_setRow (hb02) (by omega) _))
                    · obtain rfl : q = 0 := by omega
                      by_cases hn0 : n = 0
                      · have Hfin := Lib.hid (Hfail.out 7 (by omega) (by rw [Hfs2.out, if_pos (.inr (.inl hn0))]))
                        subst hn0
                        clear hq
                        go_wp2_with fail
                        go_quiet ((go_at_call 19; exact quiet_same (Hbit.out _)))
                        go_wp2_with fail
                        refine (Hasn.out _).mono ?_
                        rintro e w2 ⟨rfl, hb2⟩
                        have hb02 := below_call (below_drewN hbw nq) hb2
                        have C1 := Lib.hid (Blk.grow (w := wr.drewN nq) Hb1.out hb2)
                        have C2 := Lib.hid (Blk.grow (w := wr.drewN nq) Hb2.out hb2)
                        have C3 := Lib.hid (Blk.grow (w := wr.drewN nq) Hb3.out hb2)
                        go_wp2_with (first | (refine wpList_load_row rfl 46 (.tmp 4) rfl (w.heap.size + 1) rfl 46 (ai zeroD) (0, 0) _ (by exact C2.out) Try.underlying46 rfl arr_info ?_) | (refine wpList_store_row rfl 46 (.tmp 2) (.tmp 98) rfl w.heap.size (ai zeroD) rfl rfl 46 (ai zeroD) (by exact C1.out) arr_info rfl (ai_one _) ?_))
                        have hend := Blk.setRow_ C1.out (ai zeroD)
                        exact bodyPost_ret (v := .tuple #[.agg (ai zeroD), .int .i64 7]) (results_cell_tmp Try.results21 _ _ w.heap.size 46 (ai zeroD) (0, 0) _ _ rfl rfl hend Try.underlying46 rfl arr_info) rfl (RDPost.of Hfin.out (below_setRow (hb02) (by omega) _))
                      · have hd1 : decide ((n : Int) < 1) = false := by rw [decide_eq_false_iff_not]; omega
                        by_cases hbig : 4294967295 < n
                        · have Hfin := Lib.hid (Hfail.out 7 (by omega) (by rw [Hfs2.out, if_pos (.inr (.inr hbig))]))
                          have hd2 : decide ((4294967295 : Int) < (n : Int)) = true := by rw [decide_eq_true_iff]; omega
                          clear hq hbig hn0
                          go_wp2_with fail
                          go_quiet ((go_at_call 19; exact quiet_same (Hbit.out _)))
                          go_wp2_with fail
                          refine (Hasn.out _).mono ?_
                          rintro e w2 ⟨rfl, hb2⟩
                          have hb02 := below_call (below_drewN hbw nq) hb2
                          have C1 := Lib.hid (Blk.grow (w := wr.drewN nq) Hb1.out hb2)
                          have C2 := Lib.hid (Blk.grow (w := wr.drewN nq) Hb2.out hb2)
                          have C3 := Lib.hid (Blk.grow (w := wr.drewN nq) Hb3.out hb2)
                          go_wp2_with (first | (refine wpList_load_row rfl 46 (.tmp 4) rfl (w.heap.size + 1) rfl 46 (ai zeroD) (0, 0) _ (by exact C2.out) Try.underlying46 rfl arr_info ?_) | (refine wpList_store_row rfl 46 (.tmp 2) (.tmp 98) rfl w.heap.size (ai zeroD) rfl rfl 46 (ai zeroD) (by exact C1.out) arr_info rfl (ai_one _) ?_))
                          have hend := Blk.setRow_ C1.out (ai zeroD)
                          exact bodyPost_ret (v := .tuple #[.agg (ai zeroD), .int .i64 7]) (results_cell_tmp Try.results21 _ _ w.heap.size 46 (ai zeroD) (0, 0) _ _ rfl rfl hend Try.underlying46 rfl arr_info) rfl (RDPost.of Hfin.out (below_setRow (hb02) (by omega) _))
                        · have hd2 : decide ((4294967295 : Int) < (n : Int)) = false := by rw [decide_eq_false_iff_not]; omega
                          have hfs3 := Hfs2.out
                          rw [if_neg (by simp only [not_or]; exact ⟨fun h => h rfl, hn0, hbig⟩)] at hfs3
                          have hgo := Hgo.out
                          rw [hfs3] at hgo
                          simp only [] at hgo
                          have Hgo2 := Lib.hid hgo
                          have hnb : n < 4294967296 := by omega
                          have hcell := hb3.cell k
                          rw [ai_get _ hlt] at hcell
                          have hfrz := hb3.frozen k
                          have hb3l := hb3.lt
                          clear hq hbig hn0 hfs3 hgo hb3
                          go_wp2_with fail
                          go_quiet ((go_at_call 19; exact quiet_same (Hbit.out _)))
                          go_wp2_with fail
                          refine (Hasn.out _).mono ?_
                          rintro e w2 ⟨rfl, hb2⟩
                          have hb02 := below_call (below_drewN hbw nq) hb2
                          have C1 := Lib.hid (Blk.grow (w := wr.drewN nq) Hb1.out hb2)
                          have C2 := Lib.hid (Blk.grow (w := wr.drewN nq) Hb2.out hb2)
                          have C3 := Lib.hid (Blk.grow (w := wr.drewN nq) Hb3.out hb2)
                          have hcell2 := C3.out.cell k
                          rw [ai_get _ hlt] at hcell2
                          have hfrz2 := C3.out.frozen k
                          go_wp2_with fail
                          go_roundw
                          case rel =>
                            have hset := C3.out.set_ k (.int .i64 ((n : Int)))
                            rw [ai_set _ k _ hlt] at hset
                            refine ⟨k + 1, by omega, by go_num, by rw [Hgo2.out], by rw [hex2, Hgo2.out], ?_, ?_, ?_, ?_⟩
                            · exact C1.out.far (by show w.heap.size ≠ w.heap.size + 1 + 1; omega) _
                            · exact C2.out.far (by show w.heap.size + 1 ≠ w.heap.size + 1 + 1; omega) _
                            · rw [Hgo2.out]
                              simp only []
                              rw [show (1 : Int) * (n : Int) = (n : Int) by omega]
                              exact hset
                            · exact hb02.setCell (by show w.heap.size ≤ w.heap.size + 1 + 1; omega) _
                          case measure => simp [intOf]; omega
            | false =>
              cases hs1 : bitN s.toNat k with
              | true =>
                have hsg : signN m.toNat s.toNat k = -1 := by unfold signN; rw [hm1, hs1]; rfl
                rw [hm1] at hbm
                rw [hs1] at hbs
                clear hm1 hs1
                have hdone : True := trivial
                · skip
                  have hgo := HG.out k he (by rw [hsg]; omega)
                  rw [hsg] at hgo
                  have hfl := firstS_le (T k).2.1
                  have hlen := (HS.out k).1
                  have hfail : ∀ q, q ≠ 0 → (firstS (T k).2.1).2.2 = q → readD l = (zeroD, q) := fun q hq hf => by
                    have hT8 : (T 8).2.2 = q := by
                      have := HE.out (k + 1) (by rw [hgo, hf]; exact hq) (8 - (k + 1))
                      rw [show k + 1 + (8 - (k + 1)) = 8 by omega] at this
                      rw [this, hgo, hf]
                    rw [HV.out, hT8, if_pos hq]
                  generalize (T k).2.1 = rl at hgo hfl hlen hfail ⊢
                  have Hgo := Lib.hid hgo
                  have Hfail := Lib.hid hfail
                  clear hgo hfail he
                  rcases rl with _ | ⟨x0, r2⟩
                  · have Hfin := Lib.hid (Hfail.out 8 (by omega) rfl)
                    clear hfl
                    go_wp2_with fail
                    go_quiet ((go_at_call 19; exact quiet_same (Hbit.out _)))
                    go_wp2_with (first | (refine wpList_load_row rfl 46 (.tmp 4) rfl (w.heap.size + 1) rfl 46 (ai zeroD) (0, 0) _ (by exact Hb2.out) Try.underlying46 rfl arr_info ?_) | (refine wpList_store_row rfl 46 (.tmp 2) (.tmp 77) rfl w.heap.size (ai zeroD) rfl rfl 46 (ai zeroD) (by exact Hb1.out) arr_info rfl (ai_one _) ?_))
                    have hend := Blk.setRow_ Hb1.out (ai zeroD)
                    exact bodyPost_ret (v := .tuple #[.agg (ai zeroD), .int .i64 8]) (results_cell_tmp Try.results21 _ _ w.heap.size 46 (ai zeroD) (0, 0) _ _ rfl rfl hend Try.underlying46 rfl arr_info) rfl (RDPost.of Hfin.out (below_setRow (below_drewN hbw _) (by omega) _))
                  · have hx0 := x0.toNat_lt
                    have hix0 : ∀ w, (Instr.index 9 (str (x0 :: r2)) (.int .i64 0)).run Try.prog w = .ok (.int .u8 (x0.toNat : Int)) w := fun w => index_str (x0 :: r2) 0 (by simp) w
                    have hex1 : (⟨(x0 :: r2).toArray⟩ : ByteArray).extract 1 (1 + x0.toNat) = ⟨(r2.take x0.toNat).toArray⟩ := by rw [extract_str, Nat.add_comm, List.take_succ_cons, List.drop_one, List.tail_cons]
                    have hex2 : (⟨(x0 :: r2).toArray⟩ : ByteArray).extract (1 + x0.toNat) (r2.length + 1) = ⟨(r2.drop x0.toNat).toArray⟩ := by
                      rw [extract_str, List.take_of_length_le (by simp), Nat.add_comm, List.drop_succ_cons]
                    have hll2 : (x0 :: r2).length = r2.length + 1 := rfl
                    have hemp : (x0 :: r2).isEmpty = false := rfl
                    have hfs : firstS (x0 :: r2) = if r2.length < x0.toNat then (0, [], 8) else if (asNumV (r2.take x0.toNat)).2 ≠ 0 ∨ (asNumV (r2.take x0.toNat)).1 = 0 ∨ 4294967295 < (asNumV (r2.take x0.toNat)).1 then (0, [], 7) else ((asNumV (r2.take x0.toNat)).1, r2.drop x0.toNat, 0) := rfl
                    have hrl : (r2.take x0.toNat).length ≤ 1000 := by rw [List.length_take]; omega
                    have hasn := fun w => refasnum_any (r2.take x0.toNat) w (by unfold maxLen; omega)
                    have hm64 : (asNumV (r2.take x0.toNat)).1 < 18446744073709551616 := asNumV_lt _
                    obtain ⟨rl, hrle⟩ : ∃ rl, rl = x0 :: r2 := ⟨_, rfl⟩
                    rw [← hrle] at hix0 hex1 hex2 hll2 hemp hfs hfl Hgo Hfail hlen ⊢
                    generalize asNumV (r2.take x0.toNat) = R at hfs hasn hm64
                    obtain ⟨n, q⟩ := R
                    simp only [] at hfs hasn hm64
                    generalize r2.take x0.toNat = tk at hex1 hasn hrl
                    have Hasn := Lib.hid hasn
                    have Hfs := Lib.hid hfs
                    have Hm64 := Lib.hid hm64
                    clear hasn hfs hrle hm64 hfl
                    by_cases hcut : r2.length < x0.toNat
                    · have Hfin := Lib.hid (Hfail.out 8 (by omega) (by rw [Hfs.out, if_pos hcut]))
                      go_wp2_with fail
                      go_quiet ((go_at_call 19; exact quiet_same (Hbit.out _)))
                      go_wp2_with (first | (refine wpList_load_row rfl 46 (.tmp 4) rfl (w.heap.size + 1) rfl 46 (ai zeroD) (0, 0) _ (by exact Hb2.out) Try.underlying46 rfl arr_info ?_) | (refine wpList_store_row rfl 46 (.tmp 2) (.tmp 77) rfl w.heap.size (ai zeroD) rfl rfl 46 (ai zeroD) (by exact Hb1.out) arr_info rfl (ai_one _) ?_))
                      have hend := Blk.setRow_ Hb1.out (ai zeroD)
                      exact bodyPost_ret (v := .tuple #[.agg (ai zeroD), .int .i64 8]) (results_cell_tmp Try.results21 _ _ w.heap.size 46 (ai zeroD) (0, 0) _ _ rfl rfl hend Try.underlying46 rfl arr_info) rfl (RDPost.of Hfin.out (below_setRow (below_drewN hbw _) (by omega) _))
                    · have hfs2 := Hfs.out
                      rw [if_neg hcut] at hfs2
                      have Hfs2 := Lib.hid hfs2
                      clear hfs2
                      by_cases hq : q ≠ 0
                      · have Hfin := Lib.hid (Hfail.out 7 (by omega) (by rw [Hfs2.out, if_pos (.inl hq)]))
                        have hq' : ((q : Int) != 0) = true := by rw [bne_iff_ne]; omega
                        clear hq
                        go_wp2_with fail
                        go_quiet ((go_at_call 19; exact quiet_same (Hbit.out _)))
                        go_wp2_with fail
                        refine (Hasn.out _).mono ?_
                        rintro e w2 ⟨rfl, hb2⟩
                        have hb02 := below_call (below_drewN hbw nq) hb2
                        have C1 := Lib.hid (Blk.grow (w := wr.drewN nq) Hb1.out hb2)
                        have C2 := Lib.hid (Blk.grow (w := wr.drewN nq) Hb2.out hb2)
                        have C3 := Lib.hid (Blk.grow (w := wr.drewN nq) Hb3.out hb2)
                        go_wp2_with (first | (refine wpList_load_row rfl 46 (.tmp 4) rfl (w.heap.size + 1) rfl 46 (ai zeroD) (0, 0) _ (by exact C2.out) Try.underlying46 rfl arr_info ?_) | (refine wpList_store_row rfl 46 (.tmp 2) (.tmp 98) rfl w.heap.size (ai zeroD) rfl rfl 46 (ai zeroD) (by exact C1.out) arr_info rfl (ai_one _) ?_))
                        have hend := Blk.setRow_ C1.out (ai zeroD)
                        exact bodyPost_ret (v := .tuple #[.agg (ai zeroD), .int .i64 7]) (results_cell_tmp Try.results21 _ _ w.heap.size 46 (ai zeroD) (0, 0) _ _ rfl rfl hend Try.underlying46 rfl arr_info) rfl (RDPost.of Hfin.out (below_setRow (hb02) (by omega) _))
                      · obtain rfl : q = 0 := by omega
                        by_cases hn0 : n = 0
                        · have Hfin := Lib.hid (Hfail.out 7 (by omega) (by rw [Hfs2.out, if_pos (.inr (.inl hn0))]))
                          subst hn0
                          clear hq
                          go_wp2_with fail
                          go_quiet ((go_at_call 19; exact quiet_same (Hbit.out _)))
                          go_wp2_with fail
                          refine (Hasn.out _).mono ?_
                          rintro e w2 ⟨rfl, hb2⟩
                          have hb02 := below_call (below_drewN hbw nq) hb2
                          have C1 := Lib.hid (Blk.grow (w := wr.drewN nq) Hb1.out hb2)
                          have C2 := Lib.hid (Blk.grow (w := wr.drewN nq) Hb2.out hb2)
                          have C3 := Lib.hid (Blk.grow (w := wr.drewN nq) Hb3.out hb2)
                          go_wp2_with (first | (refine wpList_load_row rfl 46 (.tmp 4) rfl (w.heap.size + 1) rfl 46 (ai zeroD) (0, 0) _ (by exact C2.out) Try.underlying46 rfl arr_info ?_) | (refine wpList_store_row rfl 46 (.tmp 2) (.tmp 98) rfl w.heap.size (ai zeroD) rfl rfl 46 (ai zeroD) (by exact C1.out) arr_info rfl (ai_one _) ?_))
                          have hend := Blk.setRow_ C1.out (ai zeroD)
                          exact bodyPost_ret (v := .tuple #[.agg (ai zeroD), .int .i64 7]) (results_cell_tmp Try.results21 _ _ w.heap.size 46 (ai zeroD) (0, 0) _ _ rfl rfl hend Try.underlying46 rfl arr_info) rfl (RDPost.of Hfin.out (below_setRow (hb02) (by omega) _))
                        · have hd1 : decide ((n : Int) < 1) = false := by rw [decide_eq_false_iff_not]; omega
                          by_cases hbig : 4294967295 < n
                          · have Hfin := Lib.hid (Hfail.out 7 (by omega) (by rw [Hfs2.out, if_pos (.inr (.inr hbig))]))
                            have hd2 : decide ((4294967295 : Int) < (n : Int)) = true := by rw [decide_eq_true_iff]; omega
                            clear hq hbig hn0
                            go_wp2_with fail
                            go_quiet ((go_at_call 19; exact quiet_same (Hbit.out _)))
                            go_wp2_with fail
                            refine (Hasn.out _).mono ?_
                            rintro e w2 ⟨rfl, hb2⟩
                            have hb02 := below_call (below_drewN hbw nq) hb2
                            have C1 := Lib.hid (Blk.grow (w := wr.drewN nq) Hb1.out hb2)
                            have C2 := Lib.hid (Blk.grow (w := wr.drewN nq) Hb2.out hb2)
                            have C3 := Lib.hid (Blk.grow (w := wr.drewN nq) Hb3.out hb2)
                            go_wp2_with (first | (refine wpList_load_row rfl 46 (.tmp 4) rfl (w.heap.size + 1) rfl 46 (ai zeroD) (0, 0) _ (by exact C2.out) Try.underlying46 rfl arr_info ?_) | (refine wpList_store_row rfl 46 (.tmp 2) (.tmp 98) rfl w.heap.size (ai zeroD) rfl rfl 46 (ai zeroD) (by exact C1.out) arr_info rfl (ai_one _) ?_))
                            have hend := Blk.setRow_ C1.out (ai zeroD)
                            exact bodyPost_ret (v := .tuple #[.agg (ai zeroD), .int .i64 7]) (results_cell_tmp Try.results21 _ _ w.heap.size 46 (ai zeroD) (0, 0) _ _ rfl rfl hend Try.underlying46 rfl arr_info) rfl (RDPost.of Hfin.out (below_setRow (hb02) (by omega) _))
                          · have hd2 : decide ((4294967295 : Int) < (n : Int)) = false := by rw [decide_eq_false_iff_not]; omega
                            have hfs3 := Hfs2.out
                            rw [if_neg (by simp only [not_or]; exact ⟨fun h => h rfl, hn0, hbig⟩)] at hfs3
                            have hgo := Hgo.out
                            rw [hfs3] at hgo
                            simp only [] at hgo
                            have Hgo2 := Lib.hid hgo
                            have hnb : n < 4294967296 := by omega
                            have hcell := hb3.cell k
                            rw [ai_get _ hlt] at hcell
                            have hfrz := hb3.frozen k
                            have hb3l := hb3.lt
                            clear hq hbig hn0 hfs3 hgo hb3
                            go_wp2_with fail
                            go_quiet ((go_at_call 19; exact quiet_same (Hbit.out _)))
                            go_wp2_with fail
                            refine (Hasn.out _).mono ?_
                            rintro e w2 ⟨rfl, hb2⟩
                            have hb02 := below_call (below_drewN hbw nq) hb2
                            have C1 := Lib.hid (Blk.grow (w := wr.drewN nq) Hb1.out hb2)
                            have C2 := Lib.hid (Blk.grow (w := wr.drewN nq) Hb2.out hb2)
                            have C3 := Lib.hid (Blk.grow (w := wr.drewN nq) Hb3.out hb2)
                            have hcell2 := C3.out.cell k
                            rw [ai_get _ hlt] at hcell2
                            have hfrz2 := C3.out.frozen k
                            go_wp2_with fail
                            go_roundw
                            case rel =>
                              have hset := (C3.out.set_ k (.int .i64 (n : Int))).set_ k (.int .i64 (-(n : Int)))
                              rw [ai_set _ k _ hlt, ai_set _ k _ hlt, updD_twice] at hset
                              refine ⟨k + 1, by omega, by go_num, by rw [Hgo2.out], by rw [hex2, Hgo2.out], ?_, ?_, ?_, ?_⟩
                              · exact (C1.out.far (p := ⟨w.heap.size + 1 + 1, k, none⟩) (by show w.heap.size ≠ w.heap.size + 1 + 1; omega) _).far (by show w.heap.size ≠ w.heap.size + 1 + 1; omega) _
                              · exact (C2.out.far (p := ⟨w.heap.size + 1 + 1, k, none⟩) (by show w.heap.size + 1 ≠ w.heap.size + 1 + 1; omega) _).far (by show w.heap.size + 1 ≠ w.heap.size + 1 + 1; omega) _
                              · rw [Hgo2.out]
                                simp only []
                                rw [show (-1 : Int) * (n : Int) = -(n : Int) by omega]
                                exact hset
                              · exact (hb02.setCell (p := ⟨w.heap.size + 1 + 1, k, none⟩) (by show w.heap.size ≤ w.heap.size + 1 + 1; omega) _).setCell (by show w.heap.size ≤ w.heap.size + 1 + 1; omega) _
                            case measure => simp [intOf]; omega
              | false =>
                have hsg : signN m.toNat s.toNat k = 0 := by unfold signN; rw [hm1, hs1]; rfl
                have hsk := HK.out k hsg
                rw [hm1] at hbm
                rw [hs1] at hbs
                have Hsk := Lib.hid hsk
                clear hm1 hs1 hsk
                go_wp2_with fail
                go_quiet ((go_at_call 19; exact quiet_same (Hbit.out _)))
                go_wp2_with fail
                go_roundw
                case rel => exact ⟨k + 1, by omega, by go_num, by rw [Hsk.out]; exact he, by rw [Hsk.out], Hb1.out, Hb2.out, by rw [Hsk.out]; exact Hb3.out, below_drewN hbw _⟩
                case measure => simp [intOf]; omega
          · obtain rfl : k = 8 := by omega
            have hfin := HV.out
            rw [if_neg (by rw [he]; simp)] at hfin
            clear hb3 he
            by_cases hnil : (T 8).2.1 = []
            · rw [if_neg (by rw [hnil]; simp)] at hfin
              have Hfin := Lib.hid hfin
              generalize (T 8).2.1 = rl at hnil ⊢
              subst hnil
              clear hfin
              go_wp2_with (first | (refine wpList_load_row rfl 46 (.tmp 5) rfl (w.heap.size + 1 + 1) rfl 46 (ai (T 8).1) (0, 0) _ (by exact Hb3.out) Try.underlying46 rfl arr_info ?_) | (refine wpList_store_row rfl 46 (.tmp 2) (.tmp 118) rfl w.heap.size (ai (T 8).1) rfl rfl 46 (ai zeroD) (by exact Hb1.out) arr_info rfl (ai_one _) ?_))
              have hend := Blk.setRow_ Hb1.out (ai (T 8).1)
              exact bodyPost_ret (v := .tuple #[.agg (ai (T 8).1), .int .i64 0]) (results_cell_tmp Try.results21 _ _ w.heap.size 46 (ai (T 8).1) (0, 0) _ _ rfl rfl hend Try.underlying46 rfl arr_info) rfl (RDPost.of Hfin.out (below_setRow (hbw) (by omega) _))
            · rw [if_pos hnil] at hfin
              have Hfin := Lib.hid hfin
              have hemp : (T 8).2.1.isEmpty = false := by simpa using hnil
              generalize (T 8).2.1 = rl at hemp ⊢
              clear hfin hnil
              go_wp2_with (first | (refine wpList_load_row rfl 46 (.tmp 4) rfl (w.heap.size + 1) rfl 46 (ai zeroD) (0, 0) _ (by exact Hb2.out) Try.underlying46 rfl arr_info ?_) | (refine wpList_store_row rfl 46 (.tmp 2) (.tmp 117) rfl w.heap.size (ai zeroD) rfl rfl 46 (ai zeroD) (by exact Hb1.out) arr_info rfl (ai_one _) ?_))
              have hend := Blk.setRow_ Hb1.out (ai zeroD)
              exact bodyPost_ret (v := .tuple #[.agg (ai zeroD), .int .i64 4]) (results_cell_tmp Try.results21 _ _ w.heap.size 46 (ai zeroD) (0, 0) _ _ rfl rfl hend Try.underlying46 rfl arr_info) rfl (RDPost.of Hfin.out (below_setRow (hbw) (by omega) _))
end Go.Proofs.Ytpfhhkdmgkkidaa
