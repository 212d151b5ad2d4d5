/-
  keep's iterator over the keys, rising; Keys.
-/
import Derived.Test.YtdmbmkjiffhbcaaGreatSortD
import Derived.Test.YtdmbmkjiffhbcaaGreatKinds2
namespace Go.Proofs.YtdmbmkjiffhbcaaGreat
open Go.RowKit Go.Shelf
set_option maxRecDepth 100000
attribute [local go_sem] Oper.semAt_some

theorem ksorted_any (g : Nat) (w : World) : Calls Tryz.prog 42 #[.map (some g)] w fun e w' => e = .returned (.func (.func 66) #[] #[.pointer (some ⟨w.heap.size, 0, none⟩)]) ∧ w' = w.alloc (.cells #[.map (some g)] 69) := by
  go_enter Tryz.func42, Tryz.ntmps42
  go_wp2
  go_ret
  exact ⟨rfl, rfl⟩
theorem below_call2 {A B C : World} (h : Below A.heap.size A B) (g : Below B.heap.size B C) : Below A.heap.size A C := h.trans (g.mono h.size)
set_option maxHeartbeats 2000000 in
theorem ksorted_iter (n : Nat) (Bm g nn : Nat) (hnn : nn ≤ 1099511627776) (F : Nat → Option Value) (w : World) (hBm : w.cell? ⟨Bm, 0, none⟩ = some (.map (some g))) (hg : MapU w g nn F) :
    Iter2 n Tryz.prog 66 #[.pointer (some ⟨Bm, 0, none⟩)] encU (fun _ => False) nn (fun xs => SortedKeys F xs ∧ xs.length ≤ nn) (fun _ => True) w := by
  intro l J Jx M W hbel hM hY h0
  have hBl : Bm < w.heap.size := World.block_lt_of_cell? w _ hBm
  have hcell : W.cell? ⟨Bm, 0, none⟩ = some (.map (some g)) := (hbel.cell (p := ⟨Bm, 0, none⟩) hBl).trans hBm
  have hgW : MapU W g nn F := hg.keep (hbel.block g hg.lt)
  have hb1 : Below W.heap.size W (W.alloc (.cells #[.map (some g)] 69)) := (Below.refl _ _).alloc (Nat.le_refl _) _
  have hso := sortedu_any F g nn W.heap.size hnn (W.alloc (.cells #[.map (some g)] 69)) (by
    rw [(Blk.new W 69 #[.map (some g)]).cell 0]
    rfl) (hgW.keep (hb1.block g hgW.lt))
  have hmk := mapkeys_any g W
  have Hso := Lib.hid ((callsIn_wide (n := n - 1)).2 hso)
  have Hmk := Lib.hid ((callsIn_wide (n := n - 1)).2 hmk)
  have HM := Lib.hid hM
  have HY := Lib.hid hY
  have Hbel := Lib.hid hbel
  have Hb1 := Lib.hid hb1
  have H0 := Lib.hid h0
  clear hM hY hBm hbel hso hmk hb1 hg hgW h0
  refine callsIn_of_wp Tryz.func66 rfl trivial ?_ rfl
  simp only [Tryz.ntmps66, List.size_toArray, List.length_cons, List.length_nil, Nat.reduceAdd, Nat.reduceSub, Array.replicate_succ, Array.replicate_zero, List.push_toArray, List.append_toArray, List.nil_append, List.cons_append]
  gi_wp2_with (first
    | (refine ⟨trivial, Bool.noConfusion, ?_⟩; gi_at_call 68; refine Hmk.out.mono ?_; rintro e1 w1 ⟨rfl, rfl⟩)
    | (refine ⟨trivial, Bool.noConfusion, ?_⟩; gi_at_call 67; refine Hso.out.mono ?_; rintro e1 w2 ⟨⟨v, ys, rfl, ⟨hys, hyn⟩, A, c, rfl, hyc, hcm, hrd⟩, hb2⟩; have Hys := Lib.hid hys; have Hrd := Lib.hid hrd; clear hys hrd))
  try go_frame
  gi_loopw [9] (fun i wr => ∃ (k : Nat) (M : Nat → Prop) (W0 : World), k ≤ ys.length ∧ i = .int .i64 (k : Int) ∧ J M (ys.take k) W0 ∧ w.heap.size ≤ W0.heap.size ∧ Hold (fun j => j < w.heap.size ∨ M j) W0 wr ∧ (∀ j, M j → w.heap.size ≤ j ∧ j < W0.heap.size) ∧ Rd wr (fun j => w.heap.size ≤ j ∧ ¬ M j) A (ys.map numV))
    (fun i _ => ys.length - (intOf i).toNat)
  case atStart =>
    have hs1 := Hb1.out.size
    have hsw := Hbel.out.size
    have hbw2 : Below W.heap.size W w2 := below_call2 Hb1.out hb2
    refine ⟨0, M, W, by omega, rfl, H0.out, hsw, Below.hold hbw2 _, HM.out, Hrd.out.weaken fun j hj => ⟨?_, fun h => ?_⟩⟩
    · have := hj.1; simp at this; omega
    · have := (HM.out j h).2
      have := hj.1; simp at this; omega
  case round =>
    obtain ⟨k, M1, W0, hk, rfl, hJ, hsz, hh, hM1, hrow⟩ := hrel
    have HJ := Lib.hid hJ
    have Hh := Lib.hid hh
    have HM1 := Lib.hid hM1
    have Hrow := Lib.hid hrow
    clear hJ hh hM1 hrow
    by_cases hlt : k < ys.length
    · obtain ⟨b, off, rfl, hok, hbl, hcell⟩ := Hrow.out.at' (by intro e; have := List.map_eq_nil_iff.1 e; subst this; simp at hlt)
      have hck := hcell k (by simpa using hlt)
      rw [List.getElem_map] at hck
      have htk : ys.take (k + 1) = ys.take k ++ [ys[k]] := List.take_succ_eq_append_getElem hlt
      have Htk := Lib.hid htk
      obtain ⟨fn, tmps, assign, body, hy, hR⟩ := HY.out M1 (ys.take k) ys[k] W0 wr HJ.out hsz Hh.out (by rw [List.length_take]; omega)
      generalize ys[k] = x at hck Htk hy hR
      unfold numV at hck
      unfold encU at hy
      clear hcell htk
      gi_wp2
      refine ⟨Bool.noConfusion, hR.mono ?_⟩
      rintro e W3 (⟨rfl, M', hJ3, hsub, hk3⟩ | ⟨rfl, M', hJx3, hsub, hk3⟩)
      · gi_wp2
        have hs3 := hk3.size
        have hs0 := Hh.out.size
        go_roundw
        case rel =>
          refine ⟨k + 1, M', W3, by omega, by go_num, by rw [Htk.out]; exact hJ3, by omega, Hold.refl _ _, fun j h => ?_, ?_⟩
          · obtain ⟨h1, h2⟩ := hsub j h
            rcases h1 with h1 | h1
            · exact ⟨(HM1.out j h1).1, h2⟩
            · exact ⟨by omega, h2⟩
          · refine Hrow.out.move fun j hj hjl => ⟨⟨hj.1, fun h => ?_⟩, hk3.block j hjl ⟨hj.2, .inl hj.1⟩⟩
            rcases (hsub j h).1 with h1 | h1
            · exact hj.2 h1
            · omega
        case measure => simp [intOf]; omega
      · gi_wp2
        refine bodyPost_ret (results_none rfl _ _ _) rfl ?_
        have hs0 := Hh.out.size
        exact ⟨⟨_, rfl⟩, .inr ⟨M', _, W3, trivial, hJx3, by omega, Hold.refl _ _⟩⟩
    · obtain rfl : k = ys.length := by omega
      have hJ := HJ.out
      rw [List.take_length] at hJ
      have HJ2 := Lib.hid hJ
      clear hJ HJ
      gi_wp2
      go_end0
      exact ⟨⟨_, rfl⟩, .inl ⟨M1, ys, W0, ⟨Hys.out, hyn⟩, HJ2.out, hsz, Hh.out⟩⟩
/-- What has been collected, the rows from B on. -/
def CollB (w : World) (B : Nat) (M : Nat → Prop) (pre : List Nat) (W : World) : Prop :=
  ∃ v, Blk W w.heap.size 61 #[v] ∧ Own1 W B 46 v (pre.map numV) ∧ (∀ k, v.ownBlock = some k → M k) ∧ Below w.heap.size w W
theorem CollB.hold {w : World} {B : Nat} {M : Nat → Prop} {pre : List Nat} {A W : World} (h : CollB w B M pre A) (hB : w.heap.size < B) (hs : B ≤ A.heap.size) (hh : Hold (fun k => k < B ∨ M k) A W) : CollB w B M pre W := by
  obtain ⟨v, h1, h2, h3, h4⟩ := h
  exact ⟨v, h1.keep (hh.block _ (by omega) (.inl (by omega))), h2.keep (fun k hk => hh.block k (h2.lt k hk).2 (.inr (h3 k hk))), h3, h4.trans (hh.below (fun k hk => .inl (by omega)) (by omega))⟩
theorem keys_nil (w : World) : Calls Tryz.prog 21 #[.pointer none] w fun e w' => e = .returned (.slice none 0 0) ∧ Below w.heap.size w w' := by
  go_enter Tryz.func21, Tryz.ntmps21
  go_wp2
  go_ret
  exact ⟨rfl, Below.refl _ _⟩

set_option maxHeartbeats 1000000 in
theorem keys_any (kb g nn : Nat) (hnn : nn ≤ 1099511627776) (F : Nat → Option Value) (w : World) (hk : w.cell? ⟨kb, 1, none⟩ = some (.map (some g))) (hg : MapU w g nn F) :
    Calls Tryz.prog 21 #[.pointer (some ⟨kb, 0, none⟩)] w fun e w' => (∃ v ys, e = .returned v ∧ (SortedKeys F ys ∧ ys.length ≤ nn) ∧ Own1 w' (w.heap.size + 2) 46 v (ys.map numV)) ∧ Below w.heap.size w w' := by
  have hkl : kb < w.heap.size := World.block_lt_of_cell? w _ hk
  have hb0 : Below w.heap.size w (w.alloc (.cells #[.slice none 0 0] 61)) := (Below.refl _ _).alloc (Nat.le_refl _) _
  have hk1 := (hb0.cell (p := ⟨kb, 1, none⟩) hkl).trans hk
  rw [← callsIn_wide (n := 9)]
  refine callsIn_of_wp_marks Tryz.func21 rfl trivial ?_ rfl
  simp only [Tryz.ntmps21, List.size_toArray, List.length_cons, List.length_nil, Nat.reduceAdd, Nat.reduceSub, Array.replicate_succ, Array.replicate_zero, List.push_toArray, List.append_toArray, List.nil_append, List.cons_append]
  gi_wp2_with (refine ⟨trivial, ?_⟩; gi_at_call 42; refine ((callsIn_wide (n := 8)).2 (ksorted_any g _)).mono ?_; rintro e1 w1 ⟨rfl, rfl⟩)
  have hC0 : CollB w (w.heap.size + 2) (fun _ => False) [] ((w.alloc (.cells #[.slice none 0 0] 61)).alloc (.cells #[.map (some g)] 69)) := ⟨_, (Blk.new w _ _).alloc _, Own1.nil _ _ _, fun k h => (by cases h), hb0.alloc hb0.size _⟩
  have hsz1 : ((w.alloc (.cells #[.slice none 0 0] 61)).alloc (.cells #[.map (some g)] 69)).heap.size = w.heap.size + 2 := by simp
  have hbx : ((w.alloc (.cells #[.slice none 0 0] 61)).alloc (.cells #[.map (some g)] 69)).cell? ⟨w.heap.size + 1, 0, none⟩ = some (.map (some g)) := by
    have := Blk.new (w.alloc (.cells #[.slice none 0 0] 61)) 69 #[.map (some g)]
    rw [World.size_alloc] at this
    rw [this.cell 0]
    rfl
  have hb01 : Below w.heap.size w ((w.alloc (.cells #[.slice none 0 0] 61)).alloc (.cells #[.map (some g)] 69)) := hb0.alloc hb0.size _
  have hg1 := hg.keep (hb01.block g hg.lt)
  have hit1 := ksorted_iter 8 (w.heap.size + 1) g nn hnn F _ hbx hg1
  obtain ⟨w1, hw1⟩ : ∃ w1, w1 = (w.alloc (.cells #[.slice none 0 0] 61)).alloc (.cells #[.map (some g)] 69) := ⟨_, rfl⟩
  rw [← hw1] at hsz1 hC0 hit1 hb01 ⊢
  clear hw1 hbx hg1 hk1
  refine wp_range2 (gf := 66) (lb := #[.pointer (some ⟨w.heap.size + 1, 0, none⟩)]) rfl (enters_of Tryz.func66 (by kernel_rfl) rfl) hit1 (fun _ => rfl)
    (CollB w (w.heap.size + 2)) (fun _ _ _ _ => False) (fun M xs A W h hs hh => h.hold (by omega) (by omega) (by rw [hsz1] at hh; exact hh)) (fun _ _ _ _ _ h => h.elim) hC0
    (fun x => { tmps := #[.pointer (some ⟨kb, 0, none⟩), undef, .slice none 0 0, .pointer (some ⟨w.heap.size, 0, none⟩), .int .u64 (x : Int), .pointer (some ⟨kb, 0, none⟩), .bool false, .pointer (some ⟨kb, 0, none⟩), .pointer (some ⟨kb, 0, none⟩), .pointer (some ⟨kb, 1, none⟩), .map (some g), .func (.func 66) #[] #[.pointer (some ⟨w.heap.size + 1, 0, none⟩)], .int .u64 (x : Int), undef, undef, undef, undef, undef], defers := [] }) ?assign ?body ?done ?stop
  case assign =>
    intro L x W K hK
    unfold encU
    gi_wp2
    exact hK
  case body =>
    rintro L M pre x W ⟨v, hbox, hown, hM, hbel⟩ hMb hs2 hlt
    have c2 := hbox.cell 0
    have z2 := hbox.frozen 0
    simp only [List.getElem?_toArray, List.getElem?_cons_zero] at c2
    obtain ⟨Av, cv, hv, hvc, hvm, _⟩ := hown.form
    rw [List.length_map] at hv hvc
    subst hv
    have hown0 : ∀ k, (Value.slice Av pre.length cv).ownBlock = some k → w.heap.size + 2 ≤ k ∧ k < W.heap.size := fun k hk => hown.lt k hk
    have HM := Lib.hid hM
    have HMb := Lib.hid hMb
    have H0 := Lib.hid hown0
    clear hM hMb hown0
    gi_wp2_with (first | (gi_at_builtin; refine wpListIn_app1_one _ elemU rfl (.tmp 13) (.tmp 15) rfl (w.heap.size + 2) _ _ rfl hown (.int .u64 (x : Int)) _ rfl rfl (by simp; omega) (by simp; omega) (by omega) ?_; intro v3 w3 hown3 hgr3 hat3; obtain ⟨A3, n3, hv3, hc3, hm3, _⟩ := hown3.form; rw [List.length_append, List.length_map, List.length_singleton] at hv3 hc3; subst hv3; have hb3 := (hbox.alloc _).grown hgr3 (fun h => by have := (H0.out _ h).1; omega); have c3 := hb3.cell 0; have z3 := hb3.frozen 0; simp only [List.getElem?_toArray, List.getElem?_cons_zero] at c3))
    have hbw : Below w.heap.size w w3 := (hbel.alloc hbel.size _).grown hgr3 (by simp; omega) (fun k hk => by have := (H0.out k hk).1; omega)
    have hs3 : W.heap.size + 1 ≤ w3.heap.size := by have := hgr3.size; simpa using this
    have hlt3 := hown3.lt
    refine ⟨fun k => M k ∨ (Value.slice A3 (pre.length + 1) n3).ownBlock = some k, ⟨_, hb3.set_ 0 _, ?_, fun k hk => .inr hk, hbw.setCell (p := ⟨w.heap.size, 0, none⟩) (Nat.le_refl _) _⟩, fun k hk => ?_, ?_⟩
    · rw [List.map_append]
      exact hown3.keep fun k hk => Below.heap_setCell _ _ _ k (by have := (hlt3 k hk).1; show k ≠ w.heap.size; omega)
    · rcases hk with hk | hk
      · refine ⟨.inl hk, ?_⟩
        have := (HMb.out k hk).2
        simp
        omega
      · refine ⟨?_, by simp; exact (hlt3 k hk).2⟩
        rcases hat3 with h | h
        · rw [h] at hk; exact .inl (HM.out k hk)
        · rw [h] at hk; cases hk; exact .inr (Nat.le_succ _)
    · refine ((Hold.alloc W _ _).trans (Hold.grown hgr3 _ fun g e h => h.1 (HM.out g e))).trans (Hold.setCell _ _ _ _ ?_)
      rintro ⟨_, h | h⟩
      · rw [hsz1] at h
        have : w.heap.size + 2 ≤ w.heap.size := h
        omega
      · exact h.elim
  case done =>
    rintro D M xs W hD hS ⟨v, hbox, hown, hM, hbel⟩ hK hW hMD
    have c2 := hbox.cell 0
    simp only [List.getElem?_toArray, List.getElem?_cons_zero] at c2
    obtain ⟨Av, cv, hv, hvc, hvm, _⟩ := hown.form
    rw [List.length_map] at hv hvc
    subst hv
    have HS := Lib.hid hS
    clear hS
    gi_wp2
    refine ⟨by simp, .inl ⟨_, _, rfl, run_takeDeferred hK, ?_⟩⟩
    have hlt := hown.lt
    have hown2 : Own1 (W.putObj D (.deferred none)) (w.heap.size + 2) 46 (.slice Av xs.length cv) (xs.map numV) := hown.keep fun k hk => World.putObj_heap_other (fun e => hMD (e ▸ hM k hk))
    refine ⟨.slice Av xs.length cv, by simp [results, Tryz.f21, go_sem], ⟨_, xs, rfl, HS.out, hown2⟩, hbel.trans ⟨rfl, rfl, rfl, by simp, fun k hk => World.putObj_heap_other (by omega)⟩⟩
  case stop =>
    rintro D c M xs W hD h
    exact h.elim
end Go.Proofs.YtdmbmkjiffhbcaaGreat
