/-
  The walk of SpanGrows.
-/
import Derived.Test.YtpfhhkdmgkkidaaSpLaw4
namespace Go.Proofs.Ytpfhhkdmgkkidaa
open Go.RowKit
set_option maxRecDepth 100000

theorem Blk.vec {W : World} {g : Nat} {V : Nat → Nat} (h : Blk W g 24 (av V)) : ∀ i, i < 8 → W.cell? ⟨g, i, none⟩ = some (.int .u32 (V i : Int)) := fun i hi => by rw [h.cell, av_get V hi]
theorem neq_lit (V : Nat → Nat) : ∀ w : World, (binOp .neq 24 (.agg #[.int .u32 (V 0 : Int), .int .u32 (V 1 : Int), .int .u32 (V 2 : Int), .int .u32 (V 3 : Int), .int .u32 (V 4 : Int), .int .u32 (V 5 : Int), .int .u32 (V 6 : Int), .int .u32 (V 7 : Int)]) (.agg #[.int .u32 (V 0 : Int), .int .u32 (V 1 : Int), .int .u32 (V 2 : Int), .int .u32 (V 3 : Int), .int .u32 (V 4 : Int), .int .u32 (V 5 : Int), .int .u32 (V 6 : Int), .int .u32 (V 7 : Int)])).run Try.prog w = .ok (.bool false) w := fun w => by
  have h := eql_same V w
  rw [run_eql_struct] at h
  rw [run_neq_struct]
  show ((Op.equalIn 10000 24 (.agg (av V)) (.agg (av V))).run Try.prog w).andThen _ = _
  cases hq : (Op.equalIn 10000 24 (.agg (av V)) (.agg (av V))).run Try.prog w with
  | ok b w' =>
    rw [hq] at h
    simp only [Result.andThen_ok] at h ⊢
    injection h with h1 h2
    injection h1 with h1
    subst h1 h2
    rfl
  | halt x w' => rw [hq] at h; cases h
theorem neq_av (V : Nat → Nat) : ∀ w : World, (binOp .neq 24 (.agg (av V)) (.agg (av V))).run Try.prog w = .ok (.bool false) w := neq_lit V
theorem Own1.empty (w : World) (t : TypeId) : Own1 (w.alloc (.cells #[] t)) w.heap.size t (.slice (some ⟨w.heap.size, 0, none⟩) 0 0) [] :=
  ⟨rfl, .inr ⟨w.heap.size, 0, #[], rfl, Nat.le_refl _, Blk.new w t #[], Nat.le_refl _, Nat.zero_le _, rfl, rfl⟩⟩

set_option maxHeartbeats 2000000 in
theorem spangrows_walk (v0 : Value) (l : List UInt8) (B C : Nat → Nat) (w : World) (hv : IsB w (fun _ => True) v0 l) (hB : okV B) (hC : okV C) :
    Calls Try.prog 4 #[v0, vv B, vv C] w fun e w' => e = .returned (.bool true) ∧ Below w.heap.size w w' := by
  obtain ⟨A0, c0, rfl, hlc0, hcm0, hr0⟩ := hv
  obtain ⟨h1, h2, hbel⟩ := boxes2 B C w
  obtain ⟨W, hW⟩ : ∃ W, W = ((w.alloc (.cells (av B) 24)).alloc (.cells (av C) 24)) := ⟨_, rfl⟩
  rw [← hW] at h1 h2 hbel
  have hm63 : l.length ≤ 9223372036854775807 := by unfold maxLen at hcm0; omega
  have HW := Lib.hid hW
  have H1 := Lib.hid h1
  have H2 := Lib.hid h2
  have Hr0 := Lib.hid hr0
  clear hW h1 h2 hr0
  by_cases hlong : 300 < l.length
  · clear hcm0
    unfold vv
    go_enter Try.func4, Try.ntmps4
    go_wp2_with fail
    rw [← HW.out]
    refine (lives_any _).mono ?_
    rintro e w1 ⟨rfl, hb1⟩
    go_wp2_with fail
    refine (lives_any _).mono ?_
    rintro e w2 ⟨rfl, hb2⟩
    go_wp2_with fail
    go_ret
    exact ⟨rfl, below_call (below_call hbel hb1) hb2⟩
  · have hg1 := fun Ad c w h1 h2 h3 => grow_any (fun _ => True) Ad c l B hB w h1 h2 h3
    have hg2 := fun w => refgrow_any l B hB w (by omega)
    have hg3 := fun Ad c w h1 h2 h3 => rebase_any (fun _ => True) Ad c l B C hB hC w h1 h2 h3
    have hok := okV_grow l B
    unfold GrowPost at hg1 hg2
    unfold RebPost rebS at hg3
    unfold vv at hg1 hg2 hg3
    generalize growV l B = R at hg1 hg2 hg3 hok
    obtain ⟨V, q⟩ := R
    simp only [] at hg1 hg2 hg3 hok
    have hsr := fun w => refshrink_any V C hok hC w
    unfold vv av at hsr
    have Hcm0 := Lib.hid hcm0
    clear hcm0
    by_cases hq : q = 0
    · subst hq
      rw [if_pos rfl] at hg3
      generalize spanB V C = S3 at hg3 hsr
      have Hg1 := Lib.hid hg1
      have Hg2 := Lib.hid hg2
      have Hg3 := Lib.hid hg3
      have Hsr := Lib.hid hsr
      clear hg1 hg2 hg3 hsr
      unfold vv
      go_enter Try.func4, Try.ntmps4
      go_wp2_with fail
      rw [← HW.out]
      refine (lives_any _).mono ?_
      rintro e w1 ⟨rfl, hb1⟩
      have hb01 := below_call hbel hb1
      have HB1 := Lib.hid (H1.out.grow hb1)
      have HC1 := Lib.hid (H2.out.grow hb1)
      have hr1 := Hr0.out.grow hb01
      have hb1s := hb01.size
      clear hb1 hbel
      go_wp2_with (first | (refine wpList_load_row rfl 24 (.tmp 4) rfl (w.heap.size) rfl 24 (av B) (0, 0) _ (by exact HB1.out) Try.underlying24 rfl vec_info ?_) | (at_builtin; refine wpList_app1 _ elemB rfl (.tmp 22) (.tmp 23) rfl w1.heap.size (.slice (some ⟨w1.heap.size, 0, none⟩) 0 0) [] rfl (Own1.empty w1 5) (fun _ => True) A0 l.length c0 (l.map Go.Proofs.Ytpfhhkdmgkkidaa.u8) (List.length_map _) rfl (hr1.grow ((Below.refl _ _).alloc (Nat.le_refl _) _)) (u8_oneCell _) (by simp; omega) (by simp; omega) (by simp) ?_; intro vo w2 hown2 hg2 hat2; have hb12 : Below w1.heap.size w1 w2 := ((Below.refl _ _).alloc (Nat.le_refl _) _).trans ((Own1.empty w1 5).below_of hg2 (by simp) (Nat.le_refl _)); clear hg2 hat2; simp only [List.nil_append] at hown2; obtain ⟨Ao, co, rfl, hlo, hmo, hro⟩ := hown2.isB; clear hown2; have hro2 := hro.weaken (ok' := fun _ => True) (fun _ _ => trivial); clear hro; have HB2 := Lib.hid (HB1.out.grow hb12); have HC2 := Lib.hid (HC1.out.grow hb12); have hb02 := below_call hb01 hb12; have hr2 := hr1.grow hb12; have Hmo := Lib.hid hmo; clear hmo hb12) | (refine wpList_load_row rfl 24 (.tmp 4) rfl (w.heap.size) rfl 24 (av B) (0, 0) _ (by exact HB2.out) Try.underlying24 rfl vec_info ?_))
      refine (Hg1.out Ao co _ hlo Hmo.out hro2).mono ?_
      rintro e w3 ⟨rfl, hb3⟩
      have hb03 := below_call hb02 hb3
      obtain ⟨f1, f2, f3⟩ := fresh_store V hb03 hb03.size
      have f4 := f3 (HB2.out.grow hb3)
      have f5 := f3 (HC2.out.grow hb3)
      have f6 := (hr2.grow hb3).fresh V
      have f7 := (hro2.grow hb3).fresh V
      have hN : Blk (w3.alloc (.cells (av zeroV) 24)) w3.heap.size 24 (av zeroV) := Blk.new w3 _ _
      obtain ⟨Z, hZ⟩ : ∃ Z, Z = ((w3.alloc (.cells (av zeroV) 24)).setRow w3.heap.size (av V)) := ⟨_, rfl⟩
      rw [← hZ] at f1 f2 f4 f5 f6 f7
      have HV3 := Lib.hid f1
      have HB3 := Lib.hid f4
      have HC3 := Lib.hid f5
      have hcv : (convert 26 9 (.slice A0 l.length c0)).run Try.prog Z = .ok (str l) Z := run_bytes_str _ _ _ Try.underlying26 Try.underlying5 Try.underlying9 f6
      have HN := Lib.hid hN
      have HZ := Lib.hid hZ
      rw [zero_av] at HZ
      clear f1 f3 f4 f5 hN hZ hb3 hb02 hb03 HB1 HC1 HB2 HC2 hr1 hr2 hro2 hb01 hb1s
      go_wp2_with (first | (refine wpList_store_row rfl 24 (.tmp 8) (.tmp 29) rfl (w3.heap.size) (av V) rfl rfl 24 (av zeroV) (by exact HN.out) vec_info rfl (av_one _) ?_; rw [← HZ.out]) | (refine wpList_load_row rfl 24 (.tmp 4) rfl (w.heap.size) rfl 24 (av B) (0, 0) _ (by exact HB3.out) Try.underlying24 rfl vec_info ?_))
      refine (Hg2.out _).mono ?_
      rintro e w4 ⟨rfl, hb4⟩
      have hb04 := below_call f2 hb4
      obtain ⟨g1, g2, g3⟩ := fresh_store V hb04 hb04.size
      have g4 := g3 (HB3.out.grow hb4)
      have g5 := g3 (HC3.out.grow hb4)
      have g6 := (f6.grow hb4).fresh V
      have g7 := (f7.grow hb4).fresh V
      have g8 := g3 (HV3.out.grow hb4)
      have hN : Blk (w4.alloc (.cells (av zeroV) 24)) w4.heap.size 24 (av zeroV) := Blk.new w4 _ _
      obtain ⟨Y, hY⟩ : ∃ Y, Y = ((w4.alloc (.cells (av zeroV) 24)).setRow w4.heap.size (av V)) := ⟨_, rfl⟩
      rw [← hY] at g1 g2 g4 g5 g6 g7 g8
      have HB4 := Lib.hid g4
      have HC4 := Lib.hid g5
      have HV4 := Lib.hid g8
      have HW4 := Lib.hid g1
      have HN4 := Lib.hid hN
      have HY := Lib.hid hY
      rw [zero_av] at HY
      clear g1 g3 g4 g5 g8 hN hY hb4 hb04 f6 f7 f2 HB3 HC3 HV3 HN HZ hcv
      go_wp2_with (first | (refine wpList_store_row rfl 24 (.tmp 10) (.tmp 36) rfl (w4.heap.size) (av V) rfl rfl 24 (av zeroV) (by exact HN4.out) vec_info rfl (av_one _) ?_; rw [← HY.out]) | (refine wpList_load_row rfl 24 (.tmp 4) rfl (w.heap.size) rfl 24 (av B) (0, 0) _ (by exact HB4.out) Try.underlying24 rfl vec_info ?_) | (refine wpList_load_row rfl 24 (.tmp 5) rfl (w.heap.size + 1) rfl 24 (av C) (0, 0) _ (by exact HC4.out) Try.underlying24 rfl vec_info ?_))
      refine (Hg3.out Ao co _ hlo Hmo.out g7).mono ?_
      rintro e w5 ⟨vc, rfl, hown5, hb5⟩
      obtain ⟨Ac, cc, rfl, hl5, hm5, hr5⟩ := hown5.isB
      have hb05 := below_call g2 hb5
      have j1 := HV4.out.grow hb5
      have j2 := HW4.out.grow hb5
      have j3 := HC4.out.grow hb5
      have xv := j1.vec
      have xw := j2.vec
      have hk1 : (convert 26 9 (.slice A0 l.length c0)).run Try.prog w5 = .ok (str l) w5 := run_bytes_str _ _ _ Try.underlying26 Try.underlying5 Try.underlying9 (g6.grow hb5)
      have hk2 : (convert 26 9 (.slice Ao l.length co)).run Try.prog w5 = .ok (str l) w5 := run_bytes_str _ _ _ Try.underlying26 Try.underlying5 Try.underlying9 (g7.grow hb5)
      have hnq := neq_av V
      have r2 := j2.reads
      have r3 := j3.reads
      have Hr5 := Lib.hid hr5
      have HV5 := Lib.hid j1
      have HW5 := Lib.hid j2
      clear hown5 hb5 g2 g6 g7 j1 j2 j3 HB4 HC4 HV4 HW4 HN4 HY hr5
      go_wp2_with (first | (refine wpList_load_row rfl 24 (.tmp 8) rfl (w3.heap.size) rfl 24 (av V) (0, 0) _ (by exact HV5.out) Try.underlying24 rfl vec_info ?_) | (refine wpList_load_row rfl 24 (.tmp 10) rfl (w4.heap.size) rfl 24 (av V) (0, 0) _ (by exact HW5.out) Try.underlying24 rfl vec_info ?_))
      have heq0 : True := trivial
      have kc := conv_ext (c := cc) Hr5.out
      refine wp_region_grow (by kernel_rfl) (by kernel_rfl) ?_
      repeat (first | go_big_quiet_step ((go_at_call 12; exact calls_grow (Hsr.out _))) | quiet_step ((go_at_call 12; exact calls_grow (Hsr.out _))))
      refine wpQuiet_nil ?_
      rintro _ ⟨⟨w6, hb6⟩, rfl⟩
      go_wp2
      go_ret
      exact ⟨rfl, below_call hb05 hb6⟩
    · rw [if_neg hq] at hg3
      have q1 : ((q : Int) == 0) = false := by rw [beq_eq_false_iff_ne]; omega
      have q2 : ((q : Int) != 0) = true := by rw [bne_iff_ne]; omega
      clear hq
      have Hg1 := Lib.hid hg1
      have Hg2 := Lib.hid hg2
      have Hg3 := Lib.hid hg3
      have Hsr := Lib.hid hsr
      clear hg1 hg2 hg3 hsr
      unfold vv
      go_enter Try.func4, Try.ntmps4
      go_wp2_with fail
      rw [← HW.out]
      refine (lives_any _).mono ?_
      rintro e w1 ⟨rfl, hb1⟩
      have hb01 := below_call hbel hb1
      have HB1 := Lib.hid (H1.out.grow hb1)
      have HC1 := Lib.hid (H2.out.grow hb1)
      have hr1 := Hr0.out.grow hb01
      have hb1s := hb01.size
      clear hb1 hbel
      go_wp2_with (first | (refine wpList_load_row rfl 24 (.tmp 4) rfl (w.heap.size) rfl 24 (av B) (0, 0) _ (by exact HB1.out) Try.underlying24 rfl vec_info ?_) | (at_builtin; refine wpList_app1 _ elemB rfl (.tmp 22) (.tmp 23) rfl w1.heap.size (.slice (some ⟨w1.heap.size, 0, none⟩) 0 0) [] rfl (Own1.empty w1 5) (fun _ => True) A0 l.length c0 (l.map Go.Proofs.Ytpfhhkdmgkkidaa.u8) (List.length_map _) rfl (hr1.grow ((Below.refl _ _).alloc (Nat.le_refl _) _)) (u8_oneCell _) (by simp; omega) (by simp; omega) (by simp) ?_; intro vo w2 hown2 hg2 hat2; have hb12 : Below w1.heap.size w1 w2 := ((Below.refl _ _).alloc (Nat.le_refl _) _).trans ((Own1.empty w1 5).below_of hg2 (by simp) (Nat.le_refl _)); clear hg2 hat2; simp only [List.nil_append] at hown2; obtain ⟨Ao, co, rfl, hlo, hmo, hro⟩ := hown2.isB; clear hown2; have hro2 := hro.weaken (ok' := fun _ => True) (fun _ _ => trivial); clear hro; have HB2 := Lib.hid (HB1.out.grow hb12); have HC2 := Lib.hid (HC1.out.grow hb12); have hb02 := below_call hb01 hb12; have hr2 := hr1.grow hb12; have Hmo := Lib.hid hmo; clear hmo hb12) | (refine wpList_load_row rfl 24 (.tmp 4) rfl (w.heap.size) rfl 24 (av B) (0, 0) _ (by exact HB2.out) Try.underlying24 rfl vec_info ?_))
      refine (Hg1.out Ao co _ hlo Hmo.out hro2).mono ?_
      rintro e w3 ⟨rfl, hb3⟩
      have hb03 := below_call hb02 hb3
      obtain ⟨f1, f2, f3⟩ := fresh_store V hb03 hb03.size
      have f4 := f3 (HB2.out.grow hb3)
      have f5 := f3 (HC2.out.grow hb3)
      have f6 := (hr2.grow hb3).fresh V
      have f7 := (hro2.grow hb3).fresh V
      have hN : Blk (w3.alloc (.cells (av zeroV) 24)) w3.heap.size 24 (av zeroV) := Blk.new w3 _ _
      obtain ⟨Z, hZ⟩ : ∃ Z, Z = ((w3.alloc (.cells (av zeroV) 24)).setRow w3.heap.size (av V)) := ⟨_, rfl⟩
      rw [← hZ] at f1 f2 f4 f5 f6 f7
      have HV3 := Lib.hid f1
      have HB3 := Lib.hid f4
      have HC3 := Lib.hid f5
      have hcv : (convert 26 9 (.slice A0 l.length c0)).run Try.prog Z = .ok (str l) Z := run_bytes_str _ _ _ Try.underlying26 Try.underlying5 Try.underlying9 f6
      have HN := Lib.hid hN
      have HZ := Lib.hid hZ
      rw [zero_av] at HZ
      clear f1 f3 f4 f5 hN hZ hb3 hb02 hb03 HB1 HC1 HB2 HC2 hr1 hr2 hro2 hb01 hb1s
      go_wp2_with (first | (refine wpList_store_row rfl 24 (.tmp 8) (.tmp 29) rfl (w3.heap.size) (av V) rfl rfl 24 (av zeroV) (by exact HN.out) vec_info rfl (av_one _) ?_; rw [← HZ.out]) | (refine wpList_load_row rfl 24 (.tmp 4) rfl (w.heap.size) rfl 24 (av B) (0, 0) _ (by exact HB3.out) Try.underlying24 rfl vec_info ?_))
      refine (Hg2.out _).mono ?_
      rintro e w4 ⟨rfl, hb4⟩
      have hb04 := below_call f2 hb4
      obtain ⟨g1, g2, g3⟩ := fresh_store V hb04 hb04.size
      have g4 := g3 (HB3.out.grow hb4)
      have g5 := g3 (HC3.out.grow hb4)
      have g6 := (f6.grow hb4).fresh V
      have g7 := (f7.grow hb4).fresh V
      have g8 := g3 (HV3.out.grow hb4)
      have hN : Blk (w4.alloc (.cells (av zeroV) 24)) w4.heap.size 24 (av zeroV) := Blk.new w4 _ _
      obtain ⟨Y, hY⟩ : ∃ Y, Y = ((w4.alloc (.cells (av zeroV) 24)).setRow w4.heap.size (av V)) := ⟨_, rfl⟩
      rw [← hY] at g1 g2 g4 g5 g6 g7 g8
      have HB4 := Lib.hid g4
      have HC4 := Lib.hid g5
      have HV4 := Lib.hid g8
      have HW4 := Lib.hid g1
      have HN4 := Lib.hid hN
      have HY := Lib.hid hY
      rw [zero_av] at HY
      clear g1 g3 g4 g5 g8 hN hY hb4 hb04 f6 f7 f2 HB3 HC3 HV3 HN HZ hcv
      go_wp2_with (first | (refine wpList_store_row rfl 24 (.tmp 10) (.tmp 36) rfl (w4.heap.size) (av V) rfl rfl 24 (av zeroV) (by exact HN4.out) vec_info rfl (av_one _) ?_; rw [← HY.out]) | (refine wpList_load_row rfl 24 (.tmp 4) rfl (w.heap.size) rfl 24 (av B) (0, 0) _ (by exact HB4.out) Try.underlying24 rfl vec_info ?_) | (refine wpList_load_row rfl 24 (.tmp 5) rfl (w.heap.size + 1) rfl 24 (av C) (0, 0) _ (by exact HC4.out) Try.underlying24 rfl vec_info ?_))
      refine (Hg3.out Ao co _ hlo Hmo.out g7).mono ?_
      rintro e w5 ⟨vc, rfl, hown5, hb5⟩
      obtain ⟨Ac, cc, rfl, hl5, hm5, hr5⟩ := hown5.isB
      have hb05 := below_call g2 hb5
      have j1 := HV4.out.grow hb5
      have j2 := HW4.out.grow hb5
      have j3 := HC4.out.grow hb5
      have xv := j1.vec
      have xw := j2.vec
      have hk1 : (convert 26 9 (.slice A0 l.length c0)).run Try.prog w5 = .ok (str l) w5 := run_bytes_str _ _ _ Try.underlying26 Try.underlying5 Try.underlying9 (g6.grow hb5)
      have hk2 : (convert 26 9 (.slice Ao l.length co)).run Try.prog w5 = .ok (str l) w5 := run_bytes_str _ _ _ Try.underlying26 Try.underlying5 Try.underlying9 (g7.grow hb5)
      have hnq := neq_av V
      have r2 := j2.reads
      have r3 := j3.reads
      have Hr5 := Lib.hid hr5
      have HV5 := Lib.hid j1
      have HW5 := Lib.hid j2
      clear hown5 hb5 g2 g6 g7 j1 j2 j3 HB4 HC4 HV4 HW4 HN4 HY hr5
      go_wp2_with (first | (refine wpList_load_row rfl 24 (.tmp 8) rfl (w3.heap.size) rfl 24 (av V) (0, 0) _ (by exact HV5.out) Try.underlying24 rfl vec_info ?_) | (refine wpList_load_row rfl 24 (.tmp 10) rfl (w4.heap.size) rfl 24 (av V) (0, 0) _ (by exact HW5.out) Try.underlying24 rfl vec_info ?_))
      go_quiet (fail)
      go_wp2
      go_ret
      exact ⟨rfl, below_drewN hb05 _⟩
end Go.Proofs.Ytpfhhkdmgkkidaa
