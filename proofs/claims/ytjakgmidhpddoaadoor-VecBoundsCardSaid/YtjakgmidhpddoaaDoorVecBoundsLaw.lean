/-
  The walk of VecBounds.
-/
import Derived.Test.YtjakgmidhpddoaaDoorVecLawKit
import Derived.Test.YtjakgmidhpddoaaDoorVecA
import Derived.Test.YtjakgmidhpddoaaDoorRegionInv
import Derived.Deep.RegionWith
import Derived.Deep.Cut
import Derived.Deep.DeepCutAuto
namespace Go.Proofs.YtjakgmidhpddoaaDoor
open Go.RowKit
set_option maxRecDepth 100000

theorem Blk.vec {W : World} {g : Nat} {V : Nat → Nat} (h : Blk W g 24 (av V)) : ∀ i, i < 8 → W.cell? ⟨g, i, none⟩ = some (.int .u32 (V i : Int)) := fun i hi => by rw [h.cell, av_get V hi]
theorem blk_lt' {w : World} {g : Nat} {t : TypeId} {cs : Array Value} (h : Blk w g t cs) : g < w.heap.size := (Array.getElem?_eq_some_iff.1 h).1
/-- What stands while the two bounds are made, whatever has been done of it. -/
def bI (A B C J M : Nat → Nat) (w w1 : World) (d : Nat → Bool) (a : Act) (x : World) : Prop :=
  ∃ (v7 v8 v11 v12 v13 v14 v15 v16 : Value) (g7 g8 : Nat), a = ⟨#[.agg (av A), .agg (av B), .agg (av C), .pointer (some ⟨w.heap.size, 0, none⟩), .pointer (some ⟨w.heap.size + 1, 0, none⟩), .pointer (some ⟨w.heap.size + 1 + 1, 0, none⟩), .bool false, v7, v8, .bool true, .bool false, v11, v12, v13, v14, v15, v16, undef, undef, undef, undef, undef, undef, undef, undef, undef, undef, undef, undef, undef, undef, undef, undef, undef, undef, undef, undef, undef, undef, undef, undef, undef, undef, undef, undef, undef, undef, undef, undef, undef, undef, undef, undef, undef, undef, undef, undef, undef, undef, undef, undef, undef, undef, undef, undef], []⟩ ∧ Below w1.heap.size w1 x ∧
    (d 0 = true → v11 = .agg (av A)) ∧ (d 1 = true → v12 = .agg (av B)) ∧ (d 2 = true → v13 = .agg (av J)) ∧ (d 3 = true → v14 = .agg (av A)) ∧ (d 4 = true → v15 = .agg (av B)) ∧ (d 5 = true → v16 = .agg (av M)) ∧
    (d 6 = true → v7 = .pointer (some ⟨g7, 0, none⟩) ∧ w1.heap.size ≤ g7 ∧ Blk x g7 24 (if d 8 = true then av J else av zeroV)) ∧
    (d 7 = true → v8 = .pointer (some ⟨g8, 0, none⟩) ∧ w1.heap.size ≤ g8 ∧ Blk x g8 24 (if d 9 = true then av M else av zeroV)) ∧
    (d 6 = true → d 7 = true → g7 ≠ g8) ∧ (d 8 = true → d 6 = true) ∧ (d 9 = true → d 7 = true)
theorem ten {k n : Nat} (h : k < n) (hn : n = 10) : k = 0 ∨ k = 1 ∨ k = 2 ∨ k = 3 ∨ k = 4 ∨ k = 5 ∨ k = 6 ∨ k = 7 ∨ k = 8 ∨ k = 9 := by omega

set_option maxHeartbeats 4000000 in
theorem vecbounds_walk (A B C : Nat → Nat) (w : World) (_ : okV A) (_ : okV B) (_ : okV C) :
    Calls Tryd.prog 5 #[vv A, vv B, vv C] w fun e w' => e = .returned (.bool true) ∧ Below w.heap.size w w' := by
  obtain ⟨hA, hB, hC, hbel⟩ := boxes3 A B C w
  have HA := Lib.hid hA
  have HB := Lib.hid hB
  have HC := Lib.hid hC
  have j1 := fun w => join_any A B w
  have m1 := fun w => meet_any A B w
  have a1 := fun w => leq_any A (joinV A B) w
  have a2 := fun w => leq_any B (joinV A B) w
  have a3 := fun w => leq_any (meetV A B) A w
  have a4 := fun w => leq_any (meetV A B) B w
  rw [leqV_join1] at a1
  rw [leqV_join2] at a2
  rw [leqV_meet1] at a3
  rw [leqV_meet2] at a4
  have e5 := leqV_joinC A B C
  have e6 := leqV_meetC A B C
  unfold vv at *
  generalize joinV A B = J at *
  generalize meetV A B = M at *
  unfold av at j1 m1
  have J1 := Lib.hid j1
  have M1 := Lib.hid m1
  have A1 := Lib.hid a1
  have A2 := Lib.hid a2
  have A3 := Lib.hid a3
  have A4 := Lib.hid a4
  have E5 := Lib.hid e5
  have E6 := Lib.hid e6
  clear hA hB hC j1 m1 a1 a2 a3 a4 e5 e6
  go_enter Tryd.func5, Tryd.ntmps5
  go_wp2_with fail
  refine (lives_any _).mono ?_
  rintro e w1 ⟨rfl, hb1⟩
  have hb01 := below_call hbel hb1
  have hA1 := HA.out.grow hb1
  have hB1 := HB.out.grow hb1
  have hC1 := HC.out.grow hb1
  have HA1 := Lib.hid hA1
  have HB1 := Lib.hid hB1
  have HC1 := Lib.hid hC1
  have xa := hA1.vec
  have xb := hB1.vec
  clear hA1 hB1 hC1 hb1 hbel HA HB HC
  go_upto_region 3 with (fail)
  go_cut [7, 8] (fun p q wx => ∃ gJ gM : Nat, p = .pointer (some ⟨gJ, 0, none⟩) ∧ q = .pointer (some ⟨gM, 0, none⟩) ∧ Blk wx gJ 24 (av J) ∧ Blk wx gM 24 (av M) ∧ Below w1.heap.size w1 wx)
  case first =>
    refine wp_region_inv (bI A B C J M w w1) (by kernel_rfl) (by kernel_rfl) ?_ ?_ ?_
    · exact ⟨undef, undef, undef, undef, undef, undef, undef, undef, 0, 0, rfl, (Below.refl w1.heap.size w1).drew, (fun q => by cases q), (fun q => by cases q), (fun q => by cases q), (fun q => by cases q), (fun q => by cases q), (fun q => by cases q), (fun q => by cases q), (fun q => by cases q), (fun q => by cases q), (fun q => by cases q), (fun q => by cases q)⟩
    · intro i o hi d a x hd hpre hI K hK
      obtain ⟨v7, v8, v11, v12, v13, v14, v15, v16, g7, g8, rfl, hb, h0, h1, h2, h3, h4, h5, h6, h7, hn, k8, k9⟩ := hI
      have hlt := (Array.getElem?_eq_some_iff.1 hi).1
      rcases ten hlt rfl with rfl | rfl | rfl | rfl | rfl | rfl | rfl | rfl | rfl | rfl
      all_goals (have ho := Option.some.inj hi; subst ho; clear hi hlt)
      · refine step_plain rfl (wp_load_row 24 (.tmp 3) rfl w.heap.size rfl 24 (av A) (0, 0) _ (HA1.out.grow hb) Tryd.underlying24 rfl vec_info (hK _ _ ?_))
        exact ⟨v7, v8, .agg (av A), v12, v13, v14, v15, v16, g7, g8, rfl, hb, fun _ => rfl, h1, h2, h3, h4, h5, h6, h7, hn, k8, k9⟩
      · refine step_plain rfl (wp_load_row 24 (.tmp 4) rfl (w.heap.size + 1) rfl 24 (av B) (0, 0) _ (HB1.out.grow hb) Tryd.underlying24 rfl vec_info (hK _ _ ?_))
        exact ⟨v7, v8, v11, .agg (av B), v13, v14, v15, v16, g7, g8, rfl, hb, h0, fun _ => rfl, h2, h3, h4, h5, h6, h7, hn, k8, k9⟩
      · obtain rfl := h0 (hpre { on := 0, ground := Ground.data } (by simp) rfl)
        obtain rfl := h1 (hpre { on := 1, ground := Ground.data } (by simp) rfl)
        go_simp
        refine (J1.out _).mono ?_
        rintro e x2 ⟨rfl, hb2⟩
        go_simp
        exact hK _ _ ⟨v7, v8, _, _, .agg (av J), v14, v15, v16, g7, g8, rfl, below_call hb hb2, h0, h1, fun _ => rfl, h3, h4, h5, fun q => ⟨(h6 q).1, (h6 q).2.1, (h6 q).2.2.grow hb2⟩, fun q => ⟨(h7 q).1, (h7 q).2.1, (h7 q).2.2.grow hb2⟩, hn, k8, k9⟩
      · refine step_plain rfl (wp_load_row 24 (.tmp 3) rfl w.heap.size rfl 24 (av A) (0, 0) _ (HA1.out.grow hb) Tryd.underlying24 rfl vec_info (hK _ _ ?_))
        exact ⟨v7, v8, v11, v12, v13, .agg (av A), v15, v16, g7, g8, rfl, hb, h0, h1, h2, fun _ => rfl, h4, h5, h6, h7, hn, k8, k9⟩
      · refine step_plain rfl (wp_load_row 24 (.tmp 4) rfl (w.heap.size + 1) rfl 24 (av B) (0, 0) _ (HB1.out.grow hb) Tryd.underlying24 rfl vec_info (hK _ _ ?_))
        exact ⟨v7, v8, v11, v12, v13, v14, .agg (av B), v16, g7, g8, rfl, hb, h0, h1, h2, h3, fun _ => rfl, h5, h6, h7, hn, k8, k9⟩
      · obtain rfl := h3 (hpre { on := 3, ground := Ground.data } (by simp) rfl)
        obtain rfl := h4 (hpre { on := 4, ground := Ground.data } (by simp) rfl)
        go_simp
        refine (M1.out _).mono ?_
        rintro e x2 ⟨rfl, hb2⟩
        go_simp
        exact hK _ _ ⟨v7, v8, v11, v12, v13, _, _, .agg (av M), g7, g8, rfl, below_call hb hb2, h0, h1, h2, h3, h4, fun _ => rfl, fun q => ⟨(h6 q).1, (h6 q).2.1, (h6 q).2.2.grow hb2⟩, fun q => ⟨(h7 q).1, (h7 q).2.1, (h7 q).2.2.grow hb2⟩, hn, k8, k9⟩
      · go_simp
        exact hK _ _ ⟨.pointer (some ⟨x.heap.size, 0, none⟩), v8, v11, v12, v13, v14, v15, v16, x.heap.size, g8, rfl, hb.alloc hb.size _, h0, h1, h2, h3, h4, h5, fun _ => ⟨rfl, hb.size, by rw [if_neg (fun q => by have q2 := k8 q; rw [hd] at q2; cases q2)]; exact Blk.new x _ _⟩, fun q => ⟨(h7 q).1, (h7 q).2.1, (h7 q).2.2.alloc _⟩, fun _ q => Ne.symm (Nat.ne_of_lt (blk_lt' (h7 q).2.2)), fun _ => rfl, k9⟩
      · go_simp
        exact hK _ _ ⟨v7, .pointer (some ⟨x.heap.size, 0, none⟩), v11, v12, v13, v14, v15, v16, g7, x.heap.size, rfl, hb.alloc hb.size _, h0, h1, h2, h3, h4, h5, fun q => ⟨(h6 q).1, (h6 q).2.1, (h6 q).2.2.alloc _⟩, fun _ => ⟨rfl, hb.size, by rw [if_neg (fun q => by have q2 := k9 q; rw [hd] at q2; cases q2)]; exact Blk.new x _ _⟩, fun q _ => Nat.ne_of_lt (blk_lt' (h6 q).2.2), k8, fun _ => rfl⟩
      · have d6 := hpre { on := 6, ground := Ground.data } (by simp) rfl
        obtain rfl := h2 (hpre { on := 2, ground := Ground.data } (by simp) rfl)
        obtain ⟨rfl, hg, hblk⟩ := h6 d6
        rw [if_neg (by rw [hd]; decide)] at hblk
        refine step_plain rfl (wp_store_row 24 (.tmp 7) (.tmp 13) rfl g7 (av J) rfl rfl 24 (av zeroV) hblk vec_info rfl (av_one _) (hK _ _ ?_))
        exact ⟨_, v8, v11, v12, _, v14, v15, v16, g7, g8, rfl, below_setRow hb hg _, h0, h1, h2, h3, h4, h5, fun _ => ⟨rfl, hg, hblk.setRow_ (av J)⟩, fun q => ⟨(h7 q).1, (h7 q).2.1, (h7 q).2.2.setRowFar (fun e => hn d6 q e.symm) _⟩, hn, fun _ => d6, k9⟩
      · have d7 := hpre { on := 7, ground := Ground.data } (by simp) rfl
        obtain rfl := h5 (hpre { on := 5, ground := Ground.data } (by simp) rfl)
        obtain ⟨rfl, hg, hblk⟩ := h7 d7
        rw [if_neg (by rw [hd]; decide)] at hblk
        refine step_plain rfl (wp_store_row 24 (.tmp 8) (.tmp 16) rfl g8 (av M) rfl rfl 24 (av zeroV) hblk vec_info rfl (av_one _) (hK _ _ ?_))
        exact ⟨v7, _, v11, v12, v13, v14, v15, _, g7, g8, rfl, below_setRow hb hg _, h0, h1, h2, h3, h4, h5, fun q => ⟨(h6 q).1, (h6 q).2.1, (h6 q).2.2.setRowFar (fun e => hn q d7 e) _⟩, fun _ => ⟨rfl, hg, hblk.setRow_ (av M)⟩, hn, k8, fun _ => d7⟩
    · intro d a x hall hI
      obtain ⟨v7, v8, v11, v12, v13, v14, v15, v16, g7, g8, rfl, hb, h0, h1, h2, h3, h4, h5, h6, h7, hn, k8, k9⟩ := hI
      obtain ⟨rfl, hg7, b7⟩ := h6 (hall 6 (by decide))
      obtain ⟨rfl, hg8, b8⟩ := h7 (hall 7 (by decide))
      rw [if_pos (hall 8 (by decide))] at b7
      rw [if_pos (hall 9 (by decide))] at b8
      have B7 := Lib.hid b7
      have B8 := Lib.hid b8
      clear h0 h1 h2 h3 h4 h5 h6 h7 hn k8 k9 hall b7 b8 hg7 hg8
      dsimp only
      go_wp2_with fail
      go_meet
      exact ⟨_, _, rfl, rfl, B7.out, B8.out, hb⟩
  case rest =>
    obtain ⟨gJ, gM, rfl, rfl, hJ3, hM3, hb3⟩ := hcut
    have hb03 := below_call hb01 hb3
    have hA3 := HA1.out.grow hb3
    have hB3 := HB1.out.grow hb3
    have hC3 := HC1.out.grow hb3
    have xa3 := hA3.vec
    have xj3 := hJ3.vec
    have HA3 := Lib.hid hA3
    have HB3 := Lib.hid hB3
    have HC3 := Lib.hid hC3
    have HJ3 := Lib.hid hJ3
    have HM3 := Lib.hid hM3
    clear hA3 hB3 hC3 hJ3 hM3 hb3 xa xb
    go_wp2_with fail
    refine (A1.out _).mono ?_
    rintro e w4 ⟨rfl, hb4⟩
    have xb4 := (HB3.out.grow hb4).vec
    have xj4 := (HJ3.out.grow hb4).vec
    clear xa3 xj3
    go_wp2_with fail
    refine (A2.out _).mono ?_
    rintro e w5 ⟨rfl, hb5⟩
    have hb35 := below_call hb4 hb5
    have xm5 := (HM3.out.grow hb35).vec
    have xa5 := (HA3.out.grow hb35).vec
    clear xb4 xj4 hb4 hb5
    go_wp2_with fail
    refine (A3.out _).mono ?_
    rintro e w6 ⟨rfl, hb6⟩
    have hb36 := below_call hb35 hb6
    have xm6 := (HM3.out.grow hb36).vec
    have xb6 := (HB3.out.grow hb36).vec
    clear xm5 xa5 hb35 hb6
    go_wp2_with fail
    refine (A4.out _).mono ?_
    rintro e w7 ⟨rfl, hb7⟩
    have hb37 := below_call hb36 hb7
    have rJ := (HJ3.out.grow hb37).reads
    have rM := (HM3.out.grow hb37).reads
    have rA := (HA3.out.grow hb37).reads
    have rB := (HB3.out.grow hb37).reads
    have rC := (HC3.out.grow hb37).reads
    have hb07 := below_call hb03 hb37
    clear xm6 xb6 hb36 hb7 hb37
    cases h1 : leqV A C <;> cases h2 : leqV C A
    all_goals have e5 := E5.out
    all_goals have e6 := E6.out
    all_goals rw [h1] at e5
    all_goals rw [h2] at e6
    all_goals simp only [Bool.true_and, Bool.false_and] at e5 e6
    all_goals have lac : ∀ z : World, Calls Tryd.prog 12 #[.agg #[.int .u32 (A 0 : Int), .int .u32 (A 1 : Int), .int .u32 (A 2 : Int), .int .u32 (A 3 : Int), .int .u32 (A 4 : Int), .int .u32 (A 5 : Int), .int .u32 (A 6 : Int), .int .u32 (A 7 : Int)], .agg #[.int .u32 (C 0 : Int), .int .u32 (C 1 : Int), .int .u32 (C 2 : Int), .int .u32 (C 3 : Int), .int .u32 (C 4 : Int), .int .u32 (C 5 : Int), .int .u32 (C 6 : Int), .int .u32 (C 7 : Int)]] z fun e z' => e = .returned (.bool (leqV A C)) ∧ Below z.heap.size z z' := fun z => leq_any A C z
    all_goals have lca : ∀ z : World, Calls Tryd.prog 12 #[.agg #[.int .u32 (C 0 : Int), .int .u32 (C 1 : Int), .int .u32 (C 2 : Int), .int .u32 (C 3 : Int), .int .u32 (C 4 : Int), .int .u32 (C 5 : Int), .int .u32 (C 6 : Int), .int .u32 (C 7 : Int)], .agg #[.int .u32 (A 0 : Int), .int .u32 (A 1 : Int), .int .u32 (A 2 : Int), .int .u32 (A 3 : Int), .int .u32 (A 4 : Int), .int .u32 (A 5 : Int), .int .u32 (A 6 : Int), .int .u32 (A 7 : Int)]] z fun e z' => e = .returned (.bool (leqV C A)) ∧ Below z.heap.size z z' := fun z => leq_any C A z
    all_goals rw [h1] at lac
    all_goals rw [h2] at lca
    all_goals have Lac := Lib.hid lac
    all_goals have Lca := Lib.hid lca
    all_goals clear lac lca
    all_goals go_wp2_with fail
    all_goals refine wp_region_grow (by kernel_rfl) (by kernel_rfl) ?_
    all_goals repeat (first | go_big_quiet_step ((go_at_call 12; first | with_reducible exact calls_grow (Lac.out _) | with_reducible exact calls_grow (Lca.out _) | exact calls_grow (leq_any _ _ _))))
    all_goals refine wpQuiet_nil ?_
    all_goals rintro _ ⟨⟨w8, hb8⟩, rfl⟩
    all_goals go_wp2
    all_goals go_ret
    all_goals exact ⟨rfl, below_call hb07 hb8⟩
end Go.Proofs.YtjakgmidhpddoaaDoor
