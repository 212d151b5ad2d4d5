/-
  wardshipref03: Put.
-/
import Derived.Test.YtffmnhjkfeoofaaRefNew
namespace Go.Proofs.Ytffmnhjkfeoofaa
open Go.RowKit
set_option maxRecDepth 100000

theorem elemRW : ElemK Try.prog 31 93 2 24 := ElemK.mk_ (z := .agg #[.int .i64 0, .string ⟨#[]⟩]) Try.underlying31 (by kernel_rfl) rfl (by decide)
theorem kMany.oneCell_write {w : World} {ok : Nat → Prop} {ds : List Value} {L : List (Nat × List UInt8)} (h : kMany kWrite w ok ds L) : ∀ u ∈ ds, u.oneCell' = true := by
  obtain ⟨css, rfl, hl, hr⟩ := h
  intro u hu
  obtain ⟨cs, hcs, hu⟩ := List.mem_flatten.1 hu
  obtain ⟨k, hk, rfl⟩ := List.getElem_of_mem hcs
  obtain ⟨c1, c2, e, ⟨rfl, _⟩, rfl, _⟩ := hr k hk (by omega)
  rw [e] at hu
  simp at hu
  rcases hu with rfl | rfl <;> rfl

set_option maxHeartbeats 4000000 in
theorem refput_any (ok : Nat → Prop) (v : Value) (D : Dev) (i : Int) (s : List UInt8) (w : World) (hv : IsDev w ok v D) (hwf : D.Wf) (hn : D.sure.length ≤ 1099511627776) (hl : D.loose.length < 1099511627776) (hcn : D.changes ≤ 1099511627776) (hlt : D.left ≤ 9223372036854775807) (hs : s.length ≤ maxLen) :
    Calls Try.prog 39 #[v, .int .i64 i, str s] w fun e w' => ∃ v', e = .returned (.tuple #[v', .int .i64 (D.put i s).2]) ∧ IsDev w' (fun k => ok k ∨ w.heap.size ≤ k) v' (D.put i s).1 ∧ Below w.heap.size w w' := by
  obtain ⟨A1, c1, A2, c2, A3, c3, rfl, h1, h2, h3⟩ := hv
  have G1 := Lib.hid (h1.move (w' := w) (ok' := fun k => ok k ∧ k < w.heap.size) (fun k h hl => ⟨⟨h, hl⟩, rfl⟩))
  have G2 := Lib.hid (h2.move (w' := w) (ok' := fun k => ok k ∧ k < w.heap.size) (fun k h hl => ⟨⟨h, hl⟩, rfl⟩))
  have G3 := Lib.hid (h3.move (w' := w) (ok' := fun k => ok k ∧ k < w.heap.size) (fun k h hl => ⟨⟨h, hl⟩, rfl⟩))
  have Hwf := Lib.hid hwf
  have Hs := Lib.hid hs
  have hbA : Below w.heap.size w ((w.alloc (.cells #[.slice A1 D.sure.length c1, .slice A2 D.loose.length c2, .int .i64 D.left, .slice A3 D.choice.kept.length c3, .int .i64 D.choice.torn, .int .i64 D.choice.half, .int .i64 (D.changes : Int), .bool D.off] 36)).alloc (.cells #[.slice none 0 0, .slice none 0 0, .int .i64 0, .slice none 0 0, .int .i64 0, .int .i64 0, .int .i64 0, .bool false] 36)) := (((Below.refl _ _).alloc (Nat.le_refl _) _).alloc (by simp) _)
  have hB0 : Blk ((w.alloc (.cells #[.slice A1 D.sure.length c1, .slice A2 D.loose.length c2, .int .i64 D.left, .slice A3 D.choice.kept.length c3, .int .i64 D.choice.torn, .int .i64 D.choice.half, .int .i64 (D.changes : Int), .bool D.off] 36)).alloc (.cells #[.slice none 0 0, .slice none 0 0, .int .i64 0, .slice none 0 0, .int .i64 0, .int .i64 0, .int .i64 0, .bool false] 36)) w.heap.size 36 #[.slice A1 D.sure.length c1, .slice A2 D.loose.length c2, .int .i64 D.left, .slice A3 D.choice.kept.length c3, .int .i64 D.choice.torn, .int .i64 D.choice.half, .int .i64 (D.changes : Int), .bool D.off] := (Blk.new w _ _).alloc _
  have hBr : Blk ((w.alloc (.cells #[.slice A1 D.sure.length c1, .slice A2 D.loose.length c2, .int .i64 D.left, .slice A3 D.choice.kept.length c3, .int .i64 D.choice.torn, .int .i64 D.choice.half, .int .i64 (D.changes : Int), .bool D.off] 36)).alloc (.cells #[.slice none 0 0, .slice none 0 0, .int .i64 0, .slice none 0 0, .int .i64 0, .int .i64 0, .int .i64 0, .bool false] 36)) (w.heap.size + 1) 36 #[.slice none 0 0, .slice none 0 0, .int .i64 0, .slice none 0 0, .int .i64 0, .int .i64 0, .int .i64 0, .bool false] := by
    have := Blk.new (w.alloc (.cells #[.slice A1 D.sure.length c1, .slice A2 D.loose.length c2, .int .i64 D.left, .slice A3 D.choice.kept.length c3, .int .i64 D.choice.torn, .int .i64 D.choice.half, .int .i64 (D.changes : Int), .bool D.off] 36)) 36 #[.slice none 0 0, .slice none 0 0, .int .i64 0, .slice none 0 0, .int .i64 0, .int .i64 0, .int .i64 0, .bool false]
    simpa using this
  obtain ⟨W, hW⟩ : ∃ W, W = (w.alloc (.cells #[.slice A1 D.sure.length c1, .slice A2 D.loose.length c2, .int .i64 D.left, .slice A3 D.choice.kept.length c3, .int .i64 D.choice.torn, .int .i64 D.choice.half, .int .i64 (D.changes : Int), .bool D.off] 36)).alloc (.cells #[.slice none 0 0, .slice none 0 0, .int .i64 0, .slice none 0 0, .int .i64 0, .int .i64 0, .int .i64 0, .bool false] 36) := ⟨_, rfl⟩
  rw [← hW] at hbA hBr hB0
  have hsW := hBr.lt
  have HW := Lib.hid hW
  have HbA := Lib.hid hbA
  have HBr := Lib.hid hBr
  have HB0 := Lib.hid hB0
  clear h1 h2 h3 hwf hs hW hbA hBr hB0
  go_enter Try.func39, Try.ntmps39
  go_wp2_with fail
  rw [← HW.out]
  refine (why_any (fun k => ok k ∧ k < w.heap.size) _ D i W ⟨A1, c1, A2, c2, A3, c3, rfl, G1.out.grow HbA.out, G2.out.grow HbA.out, G3.out.grow HbA.out⟩).mono ?_
  rintro e w1 ⟨rfl, hb1⟩
  have HB1 := Lib.hid (HB0.out.grow hb1)
  have HR1 := Lib.hid (HBr.out.grow hb1)
  have hbW := below_call HbA.out hb1
  have HbW := Lib.hid hbW
  have hsz1 := HR1.out.lt
  have hsz0 : w.heap.size < w1.heap.size := HB1.out.lt
  have K1 := Lib.hid (G1.out.grow hbW)
  have K2 := Lib.hid (G2.out.grow hbW)
  have K3 := Lib.hid (G3.out.grow hbW)
  have x0 := HB1.out.cell 0
  have x1 := HB1.out.cell 1
  have x2 := HB1.out.cell 2
  have x3 := HB1.out.cell 3
  have x4 := HB1.out.cell 4
  have x5 := HB1.out.cell 5
  have x6 := HB1.out.cell 6
  have x7 := HB1.out.cell 7
  have xf := HB1.out.frozen 1
  simp at x0 x1 x2 x3 x4 x5 x6 x7
  clear hb1 hbW G1 G2 G3 HB0 HBr HbA HW hsW
  by_cases hwhy : D.why i = 0
  · rw [hwhy]
    by_cases hlen : s.length = 256
    · have hl1 : ((s.length : Int) == 256) = true := by rw [hlen]; rfl
      have hwy : D.off = false ∧ 0 ≤ i ∧ i < (D.sure.length : Int) := by
        unfold Dev.why at hwhy
        cases hoff : D.off with
        | true => rw [hoff] at hwhy; cases hwhy
        | false =>
          rw [hoff, if_neg (by decide)] at hwhy
          by_cases hh : i < 0 ∨ (D.sure.length : Int) ≤ i
          · rw [if_pos hh] at hwhy; cases hwhy
          · exact ⟨rfl, by omega, by omega⟩
      obtain ⟨-, hi0, hi1⟩ := hwy
      obtain ⟨ii, rfl⟩ := Int.eq_ofNat_of_zero_le hi0
      obtain ⟨E, hE⟩ : ∃ E : Dev, E = { D with loose := D.loose ++ [(ii, s)] } := ⟨_, rfl⟩
      have hput : D.put (ii : Int) s = E.change := by unfold Dev.put; rw [if_neg (by rw [hwhy]; decide), if_neg (by rw [hlen]; decide), hE]; rfl
      have hEwf : E.Wf := by
        rw [hE]
        exact ⟨Hwf.out.sure, fun x hx => by
          rcases List.mem_append.1 hx with hx | hx
          · exact Hwf.out.loose x hx
          · simp at hx; subst hx; exact ⟨by show ii < D.sure.length; omega, hlen⟩, Hwf.out.left⟩
      have Hput := Lib.hid hput
      have HEwf := Lib.hid hEwf
      have HE := Lib.hid hE
      obtain ⟨_, _, ds, e2, hc2, hm2, hr2, hmany2⟩ := K2.out
      cases e2
      have hone := kMany.oneCell_write hmany2
      have hds : ds.length = D.loose.length * 2 := hmany2.length
      have Hr2 := Lib.hid hr2
      have Hmany2 := Lib.hid hmany2
      have Hone := Lib.hid hone
      clear hput hEwf hE hwhy hone hr2 hmany2 hc2 hm2
      have hbE : Below w1.heap.size w1 (w1.alloc (.cells #[] 93)) := (Below.refl _ _).alloc (Nat.le_refl _) _
      have HbE := Lib.hid hbE
      clear hbE
      have hsL : D.loose.length + 1 ≤ 1099511627776 := by omega
      have hus : [Value.int .i64 (ii : Int), str s].length = 1 * 2 := rfl
      have huo : ∀ u ∈ [Value.int .i64 (ii : Int), str s], u.oneCell' = true := by intro u hu; simp at hu; rcases hu with rfl | rfl <;> rfl
      have Huo := Lib.hid huo
      clear huo
      go_wp2_with (first | (at_builtin; refine wpList_appK _ elemRW rfl (.tmp 21) (.tmp 23) rfl w1.heap.size 0 _ [] rfl (OwnK.empty w1 _ _) (fun k => ok k ∧ k < w.heap.size) A2 D.loose.length c2 ds hds rfl (Hr2.out.grow HbE.out) Hone.out (by omega) (by omega) HbE.out.size ?_; intro v2 w2 hown2 hg2 _; have hb2 := HbE.out.trans ((OwnK.empty w1 93 2).below_of hg2 HbE.out.size (Nat.le_refl _)); clear hg2; simp only [Nat.zero_add, List.nil_append] at hown2; obtain ⟨B2, d2, rfl, _, _, _⟩ := hown2.form; have hs2 := hb2.size; have HB2 := HB1.out.grow hb2; have hxs2 := HB2.lt; have Hown2 := Lib.hid hown2; have Hb2 := Lib.hid hb2; have HB2' := Lib.hid HB2; clear hown2 hb2 HB2) | (at_builtin; refine wpList_appK_new _ elemRW rfl (.tmp 25) (.tmp 29) rfl w1.heap.size D.loose.length _ ds rfl Hown2.out [Value.int .i64 (ii : Int), str s] 1 hus 93 rfl Huo.out (by omega) (by omega) hs2 ?_; intro v3 w3 hown3 hg3 _; have hb3 := Hb2.out.trans (Hown2.out.below_of hg3 hs2 (Nat.le_refl _)); clear hg3; obtain ⟨B3, d3, rfl, _, _, _⟩ := hown3.form; have hs3 := hb3.size; have HB3 := HB1.out.grow hb3; have hxs3 := HB3.lt; have y0 := HB3.cell 0; have y1 := HB3.cell 1; have y2 := HB3.cell 2; have y3 := HB3.cell 3; have y4 := HB3.cell 4; have y5 := HB3.cell 5; have y6 := HB3.cell 6; have y7 := HB3.cell 7; have yf := HB3.frozen 1; simp at y0 y1 y2 y3 y4 y5 y6 y7; have Hown3 := Lib.hid hown3; have Hb3 := Lib.hid hb3; have HB3' := Lib.hid HB3; clear hown3 hb3 HB3))
      have hst : ∀ q, q ≠ w.heap.size → (w3.setCell ⟨w.heap.size, 1, none⟩ (.slice B3 (D.loose.length + 1) d3)).heap[q]? = w3.heap[q]? := fun q hq => Below.heap_setCell _ _ _ _ hq
      have hr3 := (HR1.out.grow Hb3.out).keep (hst (w.heap.size + 1) (by omega))
      have hb3' : Below w.heap.size w (w3.setCell ⟨w.heap.size, 1, none⟩ (.slice B3 (D.loose.length + 1) d3)) := (below_call HbW.out Hb3.out).setCell (Nat.le_refl _) _
      have hkk : ∀ q, (ok q ∧ q < w.heap.size) → q < w1.heap.size → ((ok q ∧ q < w.heap.size) ∨ w1.heap.size ≤ q) ∧ (w3.setCell ⟨w.heap.size, 1, none⟩ (.slice B3 (D.loose.length + 1) d3)).heap[q]? = w1.heap[q]? := fun q hq hlt => ⟨.inl hq, (hst q (by omega)).trans (Hb3.out.block q hlt)⟩
      have hloose : IsL kWrite (w3.setCell ⟨w.heap.size, 1, none⟩ (.slice B3 (D.loose.length + 1) d3)) (fun q => (ok q ∧ q < w.heap.size) ∨ w1.heap.size ≤ q) (.slice B3 (D.loose.length + 1) d3) (D.loose ++ [(ii, s)]) := by
        obtain ⟨_, _, e3, hc3, hm3, hr3⟩ := Hown3.out.form
        cases e3
        refine ⟨B3, d3, _, by rw [List.length_append]; rfl, by rw [List.length_append]; exact hc3, hm3, hr3.move fun q hq hlt => ?_, ?_⟩
        · have := (Hown3.out.lt q hq).1
          exact ⟨.inr this, hst q (by omega)⟩
        · refine kMany.append (kMany.flat (of_flat (kPair_flat (kInt_flat _) kStr_flat) _) Hmany2.out) (kMany.one ?_)
          exact ⟨[.int .i64 (ii : Int)], [str s], rfl, ⟨rfl, by simp [Lit.wf, IntKind.min, IntKind.max, IntKind.signed, IntKind.bits]; omega⟩, rfl, Hs.out⟩
      have hdevE : IsDev (w3.setCell ⟨w.heap.size, 1, none⟩ (.slice B3 (D.loose.length + 1) d3)) (fun q => (ok q ∧ q < w.heap.size) ∨ w1.heap.size ≤ q) (.agg #[.slice A1 D.sure.length c1, .slice B3 (D.loose.length + 1) d3, .int .i64 D.left, .slice A3 D.choice.kept.length c3, .int .i64 D.choice.torn, .int .i64 D.choice.half, .int .i64 (D.changes : Int), .bool D.off]) E := by
        rw [HE.out]
        refine ⟨A1, c1, B3, d3, A3, c3, by simp, K1.out.move hkk, ?_, K3.out.move hkk⟩
        rw [show ({ D with loose := D.loose ++ [(ii, s)] } : Dev).loose.length = D.loose.length + 1 by simp]
        exact hloose
      have hE1 : E.sure.length = D.sure.length := by rw [HE.out]
      have hE2 : E.loose.length = D.loose.length + 1 := by rw [HE.out]; simp
      have hE3 : E.changes = D.changes := by rw [HE.out]
      have hE4 : E.left = D.left := by rw [HE.out]
      obtain ⟨W3, hW3⟩ : ∃ x, x = w3.setCell ⟨w.heap.size, 1, none⟩ (.slice B3 (D.loose.length + 1) d3) := ⟨_, rfl⟩
      have hsz3 : w3.heap.size = W3.heap.size := by rw [hW3]; simp [World.setCell]
      rw [← hW3] at hr3 hb3' hdevE ⊢
      have Hr3 := Lib.hid hr3
      have Hb3' := Lib.hid hb3'
      clear hst hkk hloose hr3 hb3'
      refine (refchange_any _ _ E W3 hdevE HEwf.out (by omega) (by omega) (by omega) (by omega)).mono ?_
      rintro e w5 ⟨v5, rfl, hdev5, hb5⟩
      rw [← Hput.out] at hdev5 ⊢
      obtain ⟨R, hR⟩ : ∃ R : Dev × Int, R = D.put (ii : Int) s := ⟨_, rfl⟩
      rw [← hR] at hdev5 ⊢
      obtain ⟨a1, d1, a2, d2', a3, d3', rfl, k1, k2, k3⟩ := hdev5
      have HR5 := Lib.hid (Hr3.out.grow hb5)
      have HL1 := Lib.hid k1
      have HL2 := Lib.hid k2
      have HL3 := Lib.hid k3
      have hb05 := below_call Hb3'.out hb5
      have Hb05 := Lib.hid hb05
      have HRR := Lib.hid hR
      clear hb5 k1 k2 k3 hb05 hdevE hR
      go_wp2_with (with_reducible refine wpList_store_fr (op := ⟨none, .store 36 (.tmp 6) (.tmp 34), _, _, _, _⟩) rfl _ _ _ rfl (w.heap.size + 1) 36 [.slice none 0 0, .slice none 0 0, .int .i64 0, .slice none 0 0, .int .i64 0, .int .i64 0, .int .i64 0, .bool false] [.slice a1 R.1.sure.length d1, .slice a2 R.1.loose.length d2', .int .i64 R.1.left, .slice a3 R.1.choice.kept.length d3', .int .i64 R.1.choice.torn, .int .i64 R.1.choice.half, .int .i64 (R.1.changes : Int), .bool R.1.off] rfl rfl HR5.out rfl (by kernel_rfl) (by simp [Value.oneCell']) ?_; intro w9 hblk9 hfr9)
      have z0 := hblk9.cell 0
      have z1 := hblk9.cell 1
      have z2 := hblk9.cell 2
      have z3 := hblk9.cell 3
      have z4 := hblk9.cell 4
      have z5 := hblk9.cell 5
      have z6 := hblk9.cell 6
      have z7 := hblk9.cell 7
      simp at z0 z1 z2 z3 z4 z5 z6 z7
      have hb9 : Below w.heap.size w w9 := Hb05.out.trans (hfr9.below (fun q (hq : q = w.heap.size + 1) => by omega) Hb05.out.size)
      refine bodyPost_ret (v := .tuple #[.agg #[.slice a1 R.1.sure.length d1, .slice a2 R.1.loose.length d2', .int .i64 R.1.left, .slice a3 R.1.choice.kept.length d3', .int .i64 R.1.choice.torn, .int .i64 R.1.choice.half, .int .i64 (R.1.changes : Int), .bool R.1.off], .int .i64 R.2]) (by simp [results, Try.results39, go_sem, z0, z1, z2, z3, z4, z5, z6, z7]) rfl ?_
      rw [← HRR.out]
      refine ⟨_, rfl, ?_, hb9⟩
      have hkeep : ∀ q, (((ok q ∧ q < w.heap.size) ∨ w1.heap.size ≤ q) ∨ W3.heap.size ≤ q) → q < w5.heap.size → (ok q ∨ w.heap.size ≤ q) ∧ w9.heap[q]? = w5.heap[q]? := fun q hq hlt => ⟨by rcases hq with (h | h) | h; exact .inl h.1; exact .inr (by omega); exact .inr (by omega), (hfr9.block q hlt (fun (e : q = w.heap.size + 1) => by rcases hq with (h | h) | h <;> omega)).2⟩
      exact ⟨a1, d1, a2, d2', a3, d3', rfl, HL1.out.move hkeep, HL2.out.move hkeep, HL3.out.move hkeep⟩
    · have hl1 : ((s.length : Int) == 256) = false := by rw [beq_eq_false_iff_ne]; omega
      have hput : D.put i s = (D, 1) := by unfold Dev.put; rw [if_neg (by rw [hwhy]; decide), if_pos hlen]
      have Hput := Lib.hid hput
      clear hput
      go_wp2_with (with_reducible refine wpList_store_fr (op := ⟨none, .store 36 (.tmp 6) (.tmp 20), _, _, _, _⟩) rfl _ _ _ rfl (w.heap.size + 1) 36 [.slice none 0 0, .slice none 0 0, .int .i64 0, .slice none 0 0, .int .i64 0, .int .i64 0, .int .i64 0, .bool false] [.slice A1 D.sure.length c1, .slice A2 D.loose.length c2, .int .i64 D.left, .slice A3 D.choice.kept.length c3, .int .i64 D.choice.torn, .int .i64 D.choice.half, .int .i64 (D.changes : Int), .bool D.off] rfl rfl HR1.out rfl (by kernel_rfl) (by simp [Value.oneCell']) ?_; intro w9 hblk9 hfr9)
      have z0 := hblk9.cell 0
      have z1 := hblk9.cell 1
      have z2 := hblk9.cell 2
      have z3 := hblk9.cell 3
      have z4 := hblk9.cell 4
      have z5 := hblk9.cell 5
      have z6 := hblk9.cell 6
      have z7 := hblk9.cell 7
      simp at z0 z1 z2 z3 z4 z5 z6 z7
      have hb9 : Below w.heap.size w w9 := HbW.out.trans (hfr9.below (fun q (hq : q = w.heap.size + 1) => by omega) HbW.out.size)
      refine bodyPost_ret (v := .tuple #[.agg #[.slice A1 D.sure.length c1, .slice A2 D.loose.length c2, .int .i64 D.left, .slice A3 D.choice.kept.length c3, .int .i64 D.choice.torn, .int .i64 D.choice.half, .int .i64 (D.changes : Int), .bool D.off], .int .i64 (1)]) (by simp [results, Try.results39, go_sem, z0, z1, z2, z3, z4, z5, z6, z7]) rfl ?_
      refine ⟨_, by rw [Hput.out], ?_, hb9⟩
      rw [Hput.out]
      have hkeep : ∀ q, (ok q ∧ q < w.heap.size) → q < w1.heap.size → (ok q ∨ w.heap.size ≤ q) ∧ w9.heap[q]? = w1.heap[q]? := fun q hq hlt => ⟨.inl hq.1, (hfr9.block q hlt (fun (e : q = w.heap.size + 1) => by omega)).2⟩
      exact ⟨A1, c1, A2, c2, A3, c3, rfl, K1.out.move hkeep, K2.out.move hkeep, K3.out.move hkeep⟩
  · have hw1 : (D.why i == 0) = false := by rw [beq_eq_false_iff_ne]; exact hwhy
    have hput : D.put i s = (D, D.why i) := by unfold Dev.put; rw [if_pos hwhy]
    have Hput := Lib.hid hput
    clear hput
    go_wp2_with (with_reducible refine wpList_store_fr (op := ⟨none, .store 36 (.tmp 6) (.tmp 15), _, _, _, _⟩) rfl _ _ _ rfl (w.heap.size + 1) 36 [.slice none 0 0, .slice none 0 0, .int .i64 0, .slice none 0 0, .int .i64 0, .int .i64 0, .int .i64 0, .bool false] [.slice A1 D.sure.length c1, .slice A2 D.loose.length c2, .int .i64 D.left, .slice A3 D.choice.kept.length c3, .int .i64 D.choice.torn, .int .i64 D.choice.half, .int .i64 (D.changes : Int), .bool D.off] rfl rfl HR1.out rfl (by kernel_rfl) (by simp [Value.oneCell']) ?_; intro w9 hblk9 hfr9)
    have z0 := hblk9.cell 0
    have z1 := hblk9.cell 1
    have z2 := hblk9.cell 2
    have z3 := hblk9.cell 3
    have z4 := hblk9.cell 4
    have z5 := hblk9.cell 5
    have z6 := hblk9.cell 6
    have z7 := hblk9.cell 7
    simp at z0 z1 z2 z3 z4 z5 z6 z7
    have hb9 : Below w.heap.size w w9 := HbW.out.trans (hfr9.below (fun q (hq : q = w.heap.size + 1) => by omega) HbW.out.size)
    refine bodyPost_ret (v := .tuple #[.agg #[.slice A1 D.sure.length c1, .slice A2 D.loose.length c2, .int .i64 D.left, .slice A3 D.choice.kept.length c3, .int .i64 D.choice.torn, .int .i64 D.choice.half, .int .i64 (D.changes : Int), .bool D.off], .int .i64 (D.why i)]) (by simp [results, Try.results39, go_sem, z0, z1, z2, z3, z4, z5, z6, z7]) rfl ?_
    refine ⟨_, by rw [Hput.out], ?_, hb9⟩
    rw [Hput.out]
    have hkeep : ∀ q, (ok q ∧ q < w.heap.size) → q < w1.heap.size → (ok q ∨ w.heap.size ≤ q) ∧ w9.heap[q]? = w1.heap[q]? := fun q hq hlt => ⟨.inl hq.1, (hfr9.block q hlt (fun (e : q = w.heap.size + 1) => by omega)).2⟩
    exact ⟨A1, c1, A2, c2, A3, c3, rfl, K1.out.move hkeep, K2.out.move hkeep, K3.out.move hkeep⟩
end Go.Proofs.Ytffmnhjkfeoofaa
