/-
  The walk of JournalAtomic, where records are added.
-/
import Derived.Test.YtjobkmcbindhmaaJAtomMath
import Derived.Test.YtjobkmcbindhmaaJFindsLaw
namespace Go.Proofs.Ytjobkmcbindhmaa
open Go.RowKit
set_option maxRecDepth 100000

set_option maxHeartbeats 2000000 in
theorem journalatomic_add (v1 : Value) (F : List (List UInt8)) (v2 : Value) (T : List (List UInt8)) (after : Int) (ch : Choice) (Ak : Option Addr) (nk : Nat) (w : World) (hF : IsBB w (fun _ => True) v1 F) (hT : IsBB w (fun _ => True) v2 T) (hk : IsL (kInt .i64) w (fun _ => True) (.slice Ak ch.kept.length nk) ch.kept)
    (htw : (Lit.int .i64 ch.torn).wf = true) (hhw : (Lit.int .i64 ch.half).wf = true) :
    Calls Try.prog 4 #[v1, v2, .agg #[.bool false, .int .i64 after, .slice Ak ch.kept.length nk, .int .i64 ch.torn, .int .i64 ch.half]] w fun e w' => e = .returned (.bool true) ∧ Below w.heap.size w w' := by
  obtain ⟨A1, c1, rfl, _⟩ := hF.elem
  obtain ⟨A2, c2, rfl, _⟩ := hT.elem
  have hb0 : Below w.heap.size w (w.alloc (.cells #[.bool false, .int .i64 after, .slice Ak ch.kept.length nk, .int .i64 ch.torn, .int .i64 ch.half] 53)) := (Below.refl _ _).alloc (Nat.le_refl _) _
  have hB0 : Blk (w.alloc (.cells #[.bool false, .int .i64 after, .slice Ak ch.kept.length nk, .int .i64 ch.torn, .int .i64 ch.half] 53)) w.heap.size 53 #[.bool false, .int .i64 after, .slice Ak ch.kept.length nk, .int .i64 ch.torn, .int .i64 ch.half] := Blk.new _ _ _
  obtain ⟨w0, hw0⟩ : ∃ w0, w0 = w.alloc (.cells #[.bool false, .int .i64 after, .slice Ak ch.kept.length nk, .int .i64 ch.torn, .int .i64 ch.half] 53) := ⟨_, rfl⟩
  rw [← hw0] at hb0 hB0
  have x0 := hB0.cell 0
  have x1 := hB0.cell 1
  have x2 := hB0.cell 2
  have x3 := hB0.cell 3
  have x4 := hB0.cell 4
  simp only [List.getElem?_toArray, List.getElem?_cons_zero, List.getElem?_cons_succ] at x0 x1 x2 x3 x4
  have Hb0 := Lib.hid hb0
  have Hw0 := Lib.hid hw0
  have HF := Lib.hid hF
  have HT := Lib.hid hT
  have Hk := Lib.hid hk
  have Htw := Lib.hid htw
  have Hhw := Lib.hid hhw
  clear hb0 hB0 hw0 hF hT hk htw hhw
  go_enter Try.func4, Try.ntmps4
  go_wp2_with fail
  rw [← Hw0.out]
  have hb1 : Below w0.heap.size w0 (w0.alloc (.cells #[.slice none 0 0, .int .i64 0, .int .i64 0] 34)) := (Below.refl _ _).alloc (Nat.le_refl _) _
  have y0 : (w0.alloc (.cells #[.slice none 0 0, .int .i64 0, .int .i64 0] 34)).drew.cell? ⟨w.heap.size, 0, none⟩ = _ := cell_then hb1.drew x0
  have y1 : (w0.alloc (.cells #[.slice none 0 0, .int .i64 0, .int .i64 0] 34)).drew.cell? ⟨w.heap.size, 1, none⟩ = _ := cell_then hb1.drew x1
  have y2 : (w0.alloc (.cells #[.slice none 0 0, .int .i64 0, .int .i64 0] 34)).drew.cell? ⟨w.heap.size, 2, none⟩ = _ := cell_then hb1.drew x2
  have y3 : (w0.alloc (.cells #[.slice none 0 0, .int .i64 0, .int .i64 0] 34)).drew.cell? ⟨w.heap.size, 3, none⟩ = _ := cell_then hb1.drew x3
  have y4 : (w0.alloc (.cells #[.slice none 0 0, .int .i64 0, .int .i64 0] 34)).drew.cell? ⟨w.heap.size, 4, none⟩ = _ := cell_then hb1.drew x4
  go_region
  clear hb1 y0 y1 y2 y3 y4 x0 x1 x2 x3 x4
  have hbb : Below w0.heap.size w0 (w0.alloc (.cells #[.slice Ak ch.kept.length nk, .int .i64 ch.torn, .int .i64 ch.half] 34)).drew := ((Below.refl _ _).alloc (Nat.le_refl _) _).drew
  have hBb : Blk (w0.alloc (.cells #[.slice Ak ch.kept.length nk, .int .i64 ch.torn, .int .i64 ch.half] 34)).drew w0.heap.size 34 #[.slice Ak ch.kept.length nk, .int .i64 ch.torn, .int .i64 ch.half] := (Blk.new w0 _ _).drew
  obtain ⟨wb, hwb⟩ : ∃ wb, wb = (w0.alloc (.cells #[.slice Ak ch.kept.length nk, .int .i64 ch.torn, .int .i64 ch.half] 34)).drew := ⟨_, rfl⟩
  rw [← hwb] at hbb hBb ⊢
  have Hbb := Lib.hid (below_call Hb0.out hbb)
  have HBb := Lib.hid hBb
  have hs0 := Hb0.out.size
  clear hwb hbb hBb
  go_wp2_with fail
  refine (lives_any _).mono ?_
  rintro e w1 ⟨rfl, hb1⟩
  have Hb1 := Lib.hid (below_call Hbb.out hb1)
  have HB1 := Lib.hid (HBb.out.grow hb1)
  have z0 := HB1.out.cell 0
  have z1 := HB1.out.cell 1
  have z2 := HB1.out.cell 2
  simp only [List.getElem?_toArray, List.getElem?_cons_zero, List.getElem?_cons_succ] at z0 z1 z2
  clear hb1 HBb Hbb
  have hfit := fitsj_any (fun _ => True) (.slice (some ⟨w1.heap.size, 0, none⟩) 2 2) 6 [⟨0, F, 0, ⟨[], 0, 0⟩⟩, ⟨0, T, 0, ch⟩] _ (isOp_two w1 _ _ _ _ _ F T Ak nk ch (HF.out.grow Hb1.out) (HT.out.grow Hb1.out) (Hk.out.grow Hb1.out) Htw.out Hhw.out)
  have Hfit := Lib.hid hfit
  clear hfit
  cases hfJ : fitsJ 6 [⟨0, F, 0, ⟨[], 0, 0⟩⟩, ⟨0, T, 0, ch⟩] with
  | false =>
    rw [hfJ] at Hfit
    clear hfJ
    go_wp2_with fail
    refine Hfit.out.mono ?_
    rintro e w2 ⟨rfl, hb2⟩
    have hb02 := below_call (Hb1.out.alloc Hb1.out.size _) hb2
    go_wp2_with fail
    refine (lives_any _).mono ?_
    rintro e w3 ⟨rfl, hb3⟩
    go_wp2
    go_ret
    exact ⟨rfl, below_call hb02 hb3⟩
  | true =>
    obtain ⟨_, hall⟩ := fitsJ_all hfJ
    obtain ⟨hF6, _, hF2000⟩ := hall ⟨0, F, 0, ⟨[], 0, 0⟩⟩ (by simp)
    obtain ⟨hT6, hk70, hT2000⟩ := hall ⟨0, T, 0, ch⟩ (by simp)
    dsimp only at hF6 hF2000 hT6 hk70 hT2000
    rw [hfJ] at Hfit
    have hfF : fewLong F := fun r hr => by have := hF2000 r hr; omega
    have hfT : fewLong T := fun r hr => by have := hT2000 r hr; omega
    have hlF : (recsB F).length ≤ 12042 := by have := recsB_most F 2000 hF2000; omega
    obtain ⟨D1, ho1, hi1, hl1, hn1, hc1, hlo1⟩ := open_new 120 (by omega) (by omega)
    have hs1 : sideN D1 = 59 := by unfold sideN; rw [hn1]
    obtain ⟨R1, hR1⟩ : ∃ R1, R1 = addJ ⟨1, 0, 0, 0, false⟩ D1 F := ⟨_, rfl⟩
    have hadd : R1.2 = 0 ∧ JInv R1.1.2 R1.1.1 F ∧ R1.1.1.number ≤ 2 := by
      rcases add_inv hi1 (by decide) F hfF with ⟨a, _⟩ | ⟨_, b, c, _, d, _⟩ | ⟨_, a, _⟩
      · rw [hs1] at a
        dsimp only at a
        omega
      · rw [← hR1] at b c d
        rw [List.nil_append] at c
        exact ⟨b, c, d⟩
      · exact absurd hl1 a
    obtain ⟨hR10, hin1, hnum1⟩ := hadd
    have hfew1 : D1.Few 10 := ⟨by rw [hlo1]; decide, by rw [hc1]; decide⟩
    have hR1len : R1.1.2.sure.length = 120 := by rw [hR1, addJ_length, hn1]
    have hR1few : R1.1.2.Few (10 + 2100) := by rw [hR1]; exact addJ_few hfew1 (by omega) _ _
    obtain ⟨kk, hkk, hkw⟩ := mod_idx after 60 (by omega) (by omega)
    rw [show ((60 : Nat) : Int) = 60 from rfl] at hkw
    obtain ⟨D2, hD2⟩ : ∃ D2, D2 = R1.1.2.plan (kk : Int) ch := ⟨_, rfl⟩
    have hin2 : JInv D2 R1.1.1 F := by rw [hD2]; exact hin1.plan _ _
    have hD2len : D2.sure.length = 120 := by rw [hD2]; exact hR1len
    have hD2few : D2.Few (10 + 2100) := by rw [hD2]; exact plan_few hR1few _ _
    obtain ⟨R, hR⟩ : ∃ R, R = addJ R1.1.1 D2 T := ⟨_, rfl⟩
    have hcases := atomic_cases hin2 (by omega) hfT false
    simp only [Bool.false_eq_true, if_false] at hcases
    rw [← hR] at hcases
    obtain ⟨X, n3, s3, u3, hcont, hfX, hcase⟩ := hcases
    have hRfew : R.1.2.Few (10 + 2100 + 2100) := by rw [hR]; exact addJ_few hD2few (by omega) _ _
    have hM3 := (open_cont (hcont.on ch) rfl hfX).1
    have hX40 : X.length ≤ 1099511627776 := by
      have h1 := recsB_count X
      have h2 := (hcont.ok).2.2
      have h3 := hcont.use_
      have h4 := useB_full hcont.wf s3 u3 (hcont.ok).2.1 h2 hcont.big
      have h5 := sideN_le _ hcont.small
      rw [h3] at h4
      omega
    have HF40 := Lib.hid (show F.length ≤ 1099511627776 by omega)
    have HT40 := Lib.hid (show T.length ≤ 1099511627776 by omega)
    have HX40 := Lib.hid hX40
    have HM3 := Lib.hid hM3
    have Hfew3 := Lib.hid (show ({ R.1.2.cut ch with off := false } : Dev).Few 900000 from on_few ((cut_few hRfew ch).mono (by omega)))
    have Hlo := Lib.hid (show R.1.2.loose.length ≤ 1099511627776 by have := hRfew.1; omega)
    have Hfit1 := Lib.hid hi1.fit
    have Hfit2 := Lib.hid hin2.fit
    have HR := Lib.hid hR
    have HR1 := Lib.hid hR1
    have HR10 := Lib.hid hR10
    have HD2 := Lib.hid hD2
    have Hfew1 := Lib.hid hfew1
    have HR1few := Lib.hid hR1few
    have HD2few := Lib.hid hD2few
    have HM := Lib.hid ho1
    have Hk70 := Lib.hid hk70
    have hFT : F.length + T.length ≤ 12 := by omega
    clear hfJ hall hF2000 hT2000 hfF hfT hlF ho1 hi1 hl1 hn1 hc1 hlo1 hs1 hR1 hR10 hin1 hnum1 hfew1 hR1len hR1few hD2 hin2 hD2len hD2few hR hcont hfX hRfew hM3 hX40 hk70
    go_wp2_with fail
    refine Hfit.out.mono ?_
    rintro e w2 ⟨rfl, hb2⟩
    have hb02 := below_call (Hb1.out.alloc Hb1.out.size _) hb2
    have hs02 := hb02.size
    have hbox2 := (HB1.out.alloc (.cells #[.int .i64 0, .slice A1 F.length c1, .int .i64 0, .slice none 0 0, .int .i64 0, .int .i64 0, .int .i64 0, .slice A2 T.length c2, .int .i64 0, .slice Ak ch.kept.length nk, .int .i64 ch.torn, .int .i64 ch.half] 46)).grow hb2
    have Hb2 := Lib.hid hb02
    have Hbox := Lib.hid (show ∀ z, Below w2.heap.size w2 z → z.cell? ⟨w0.heap.size, 0, none⟩ = some (.slice Ak ch.kept.length nk) ∧ z.cell? ⟨w0.heap.size, 1, none⟩ = some (.int .i64 ch.torn) ∧ z.cell? ⟨w0.heap.size, 2, none⟩ = some (.int .i64 ch.half) from fun z hz => by
      have h := hbox2.grow hz
      refine ⟨?_, ?_, ?_⟩ <;> (rw [h.cell]; rfl))
    have Hkept := Lib.hid (show ∀ z, Below w2.heap.size w2 z → IsL (kInt .i64) z (fun k => k < w.heap.size) (.slice Ak ch.kept.length nk) ch.kept from fun z hz => Hk.out.move fun k _ hlt => ⟨hlt, (hz.block k (by omega)).trans (Hb2.out.block k hlt)⟩)
    have HF2 := Lib.hid (show ∀ z, Below w2.heap.size w2 z → IsBB z (fun _ => True) (.slice A1 F.length c1) F from fun z hz => HF.out.grow (Hb2.out.trans (hz.mono hs02)))
    have HT2 := Lib.hid (show ∀ z, Below w2.heap.size w2 z → IsBB z (fun _ => True) (.slice A2 T.length c2) T from fun z hz => HT.out.grow (Hb2.out.trans (hz.mono hs02)))
    clear hb2 hb02 hbox2 z0 z1 z2 HB1 Hb1 Hfit
    go_wp2_with fail
    refine (new_ok 120 w2 (by omega) (by omega)).mono ?_
    rintro e w3 ⟨g, F3, rfl, hd3, hb3⟩
    have Hd3 := Lib.hid hd3
    have Hx3 := Lib.hid hb3
    have hs23 := hb3.size
    clear hd3 hb3
    go_wp2_with fail
    refine (jopen_any _ _ _ _ _ (newD_few 120 900000) Hd3.out).mono ?_
    rintro e w4 ⟨vp, x, rfl, G4, hd4, hf4, ⟨hbad, _⟩ | ⟨_, j, B4, rfl, hja4, hB4, hG4, hx4, hBj⟩⟩
    · rw [HM.out] at hbad
      exact absurd rfl hbad
    rw [HM.out] at hd4 hja4 hx4 ⊢
    dsimp only at hd4 hja4 hx4 ⊢
    have hnj4 : ¬ G4 j := fun h => by have := hG4 _ h; omega
    have hwj : w2.heap.size ≤ j := by omega
    have Hx4 := Lib.hid (Hx3.out.trans (hf4.below (fun k hk => (Hd3.out.low k hk).1) Hd3.out.size))
    have Hd4 := Lib.hid hd4
    have Hja4 := Lib.hid hja4
    have Hnj4 := Lib.hid hnj4
    clear hd4 hja4 hnj4 hf4 hG4 hx4 hB4 hBj
    go_wp2_with fail
    refine (jadd_any w2.heap.size G4 (fun _ => True) j g _ D1 _ F _ Hfit1.out (Hfew1.out.mono (by omega)) Hd4.out Hja4.out Hnj4.out (HF2.out w4 Hx4.out)).mono ?_
    rintro e w5 hp5
    have hb5 := hp5.below Hd4.out hwj
    obtain ⟨rfl, G5, hd5, hja5, hnj5, _⟩ := hp5
    rw [← HR1.out] at hd5 hja5 ⊢
    rw [HR10.out]
    have Hx5 := Lib.hid (Hx4.out.trans hb5)
    have Hd5 := Lib.hid hd5
    have Hja5 := Lib.hid hja5
    have Hnj5 := Lib.hid hnj5
    clear hb5 hd5 hja5 hnj5
    obtain ⟨z0, z1, z2⟩ := Hbox.out w5 Hx5.out
    have hgw : w2.heap.size ≤ g := Hd5.out.base_le.1
    go_wp2_with fail
    refine (plan_any w2.heap.size G5 g R1.1.2 (fun k => k < w.heap.size) (kk : Int) _ ch w5 Hd5.out (Hkept.out w5 Hx5.out) (fun q hq => by omega) (by have := Hk70.out; omega) Hd5.out.size (by omega)).mono ?_
    rintro e w6 ⟨rfl, G6, hd6, hf6⟩
    rw [← HD2.out] at hd6
    have hkj := hf6.block j Hja5.out.blk.lt Hnj5.out
    have Hx6 := Lib.hid (Hx5.out.trans (hf6.below (fun k hk => (Hd5.out.low k hk).1) Hd5.out.size))
    have Hd6 := Lib.hid hd6
    have Hja6 := Lib.hid (Hja5.out.keep hkj.2)
    have Hnj6 := Lib.hid hkj.1
    clear hd6 hf6 hkj z0 z1 z2
    go_wp2_with fail
    refine (texts_at _ _ F _ (HF2.out w6 Hx6.out) HF40.out).mono ?_
    rintro e w7 ⟨A7, c7, rfl, hown7, _, hb7⟩
    have Hx7 := Lib.hid (Hx6.out.trans (hb7.mono Hx6.out.size))
    have Hown7 := Lib.hid (hown7.mono Hd6.out.size)
    have hq7 : ∀ q, (Value.slice A7 F.length c7).ownBlock = some q → w6.heap.size ≤ q := fun q hq => (hown7.lt q hq).1
    have Hq7 := Lib.hid hq7
    have Hb7 := Lib.hid hb7
    clear hown7 hb7 hq7
    go_wp2_with fail
    refine (texts_at _ _ T _ (HT2.out w7 Hx7.out) HT40.out).mono ?_
    rintro e wx ⟨Ay, cy, rfl, _, hrdy, hby⟩
    have hownx := Hown7.out.grow hby
    have Hownx := Lib.hid hownx
    have Hrdy := Lib.hid hrdy
    have Hbx := Lib.hid (below_call Hb7.out hby)
    have Hxx := Lib.hid (Hx7.out.trans (hby.mono Hx7.out.size))
    have hbase : w2.heap.size ≤ wx.heap.size := Hxx.out.size
    have hsx := Hbx.out.size
    have Hml := Lib.hid (show (F.map str).length = F.length from List.length_map _)
    clear hownx hrdy hby Hown7
    go_wp2_with (at_builtin; refine wpList_app1 _ elemS rfl (.tmp 64) (.tmp 66) rfl w2.heap.size _ (F.map str) rfl Hownx.out _ Ay T.length cy (T.map str) (List.length_map _) rfl Hrdy.out strs_oneCell (by rw [Hml.out]; omega) (by rw [Hml.out]; omega) hbase ?_; intro vw w8 hownw hgw8 hatw)
    have hne8 : ∀ q, G6 q → some q ≠ (Value.slice A7 F.length c7).ownBlock := fun q hq e => by have h1 := Hq7.out q e.symm; have h2 := (Hd6.out.low _ hq).2; omega
    have Hd8 := Lib.hid ((Hd6.out.grow Hbx.out).keep (fun q hq => hgw8.block q ((Hd6.out.grow Hbx.out).low q hq).2 (hne8 q hq)) hgw8.size)
    have Hja8 := Lib.hid (show JAt w8 j g R1.1.1 from (Hja6.out.grow Hbx.out).blk.grown hgw8 (Hownx.out.apart (Hja6.out.grow Hbx.out).blk (by decide)))
    have hwant : Own1 w8 w2.heap.size 9 vw ((F ++ T).map str) := by rw [List.map_append]; exact hownw
    obtain ⟨Aw, cw, hvw, _, _, _⟩ := hwant.form
    rw [List.length_map] at hvw
    subst hvw
    have Hwant := Lib.hid hwant
    have Hngw := Lib.hid (show ∀ q, (Value.slice Aw (F ++ T).length cw).ownBlock = some q → ¬ G6 q from fun q hq h => by
      rcases hatw with e | e
      · rw [e] at hq; have h1 := Hq7.out q hq; have h2 := (Hd6.out.low _ h).2; omega
      · rw [e] at hq; cases hq; have := (Hd6.out.low _ h).2; omega)
    have Hxw := Lib.hid (Hxx.out.trans (Hownx.out.below_of hgw8 hbase (Nat.le_refl _)))
    clear hownw hgw8 hatw hne8 hwant Hownx Hrdy Hq7
    go_wp2_with fail
    refine (jadd_any w2.heap.size G6 (fun _ => True) j g R1.1.1 D2 _ T _ Hfit2.out (HD2few.out.mono (by omega)) Hd8.out Hja8.out Hnj6.out (HT2.out w8 Hxw.out)).mono ?_
    rintro e w9 hp9
    have hb9 := hp9.below Hd8.out hwj
    obtain ⟨rfl, G9, hd9, hja9, hnj9, hf9⟩ := hp9
    rw [← HR.out] at hd9 ⊢
    have Hxa := Lib.hid (Hxw.out.trans hb9)
    have hq9 : ∀ q, (Value.slice Aw (F ++ T).length cw).ownBlock = some q → ¬ G9 q ∧ w9.heap[q]? = w8.heap[q]? := fun q hq => by
      have hlt := (Hwant.out.lt q hq).2
      have h := hf9.block q hlt (fun h => h.elim (fun h => Hngw.out q hq h) (fun e => Hwant.out.apart Hja8.out.blk (by decide) (e ▸ hq)))
      exact ⟨fun hg => h.1 (.inl hg), h.2⟩
    have Hown := Lib.hid (Hwant.out.keep fun q hq => (hq9 q hq).2)
    have Hng := Lib.hid fun q hq => (hq9 q hq).1
    have Hda := Lib.hid hd9
    clear hq9 hb9 hd9 hja9 hnj9 hf9
    rcases hcase with hcase | hcase | hcase
    · -- refused
      obtain ⟨he, hXe⟩ := hcase
      have hXe' := hXe.symm
      subst hXe'
      rw [he]
      have HdaOld := Hda
      clear he
      have hFa := HF2.out w9 Hxa.out
      go_wp2_with fail
      refine (texts_at _ _ F _ hFa HF40.out).mono ?_
      rintro e wt ⟨At, ct, rfl, hownt, hrdt, hbt⟩
      have hst := Hda.out.size
      have Hda := Lib.hid (Hda.out.grow hbt)
      have Hown := Lib.hid (hownt.mono hst)
      have Hng := Lib.hid (show ∀ q, (Value.slice At F.length ct).ownBlock = some q → ¬ G9 q from fun q hq h => by have h1 := (hownt.lt q hq).1; have h2 := (HdaOld.out.low _ h).2; omega)
      have Hxa := Lib.hid (Hxa.out.trans (hbt.mono Hxa.out.size))
      clear hownt hrdt hbt hFa
      obtain ⟨z0, z1, z2⟩ := Hbox.out wt Hxa.out
      go_wp2_with fail
      refine (cut_any w2.heap.size G9 g R.1.2 (fun k => k < w.heap.size) _ ch wt Hda.out (Hkept.out wt Hxa.out) Hlo.out).mono ?_
      rintro e wb1 ⟨rfl, hdb, hfb⟩
      have hown1 := Hown.out.keep fun q hq => (hfb.block q (Hown.out.lt q hq).2 (Hng.out q hq)).2
      have Hdb := Lib.hid hdb
      have Hown1 := Lib.hid hown1
      have Hxb := Lib.hid (Hxa.out.trans (hfb.below (fun k hk => (Hda.out.low k hk).1) Hda.out.size))
      clear hdb hown1 hfb z0 z1 z2
      go_wp2_with fail
      refine (on_any w2.heap.size G9 g (R.1.2.cut ch) wb1 Hdb.out).mono ?_
      rintro e wc1 ⟨rfl, hdc, hfc⟩
      have hown2 := Hown1.out.keep fun q hq => (hfc.block q (Hown1.out.lt q hq).2 (Hng.out q hq)).2
      have Hdc := Lib.hid hdc
      have Hown2 := Lib.hid hown2
      have Hxc := Lib.hid (Hxb.out.trans (hfc.below (fun k hk => (Hdb.out.low k hk).1) Hdb.out.size))
      clear hdc hown2 hfc
      go_wp2_with fail
      refine (jopen_any w2.heap.size G9 g { R.1.2.cut ch with off := false } wc1 Hfew3.out Hdc.out).mono ?_
      rintro e wd1 ⟨vp, x, rfl, Gd, hdd, hfd, ⟨hbad, _⟩ | ⟨_, j5, B5, rfl, hja5, hB5, hG5, hx5, hBj5⟩⟩
      case inl => exact absurd (by rw [HM3.out]) hbad
      rw [HM3.out] at hx5 ⊢
      dsimp only at hx5 ⊢
      have hown3 := Hown2.out.keep fun q hq => (hfd.block q (Hown2.out.lt q hq).2 (Hng.out q hq)).2
      obtain ⟨Ab, cb, hbv, _, _, hrb⟩ := hown3.form
      rw [List.length_map] at hbv
      cases hbv
      have hsame := samej_any _ _ x At ct _ F wd1 hx5.isBB' hrb HX40.out
      unfold SamePost at hsame
      have Hsame := Lib.hid hsame
      have Hxd := Lib.hid (Hxc.out.trans (hfd.below (fun k hk => (Hdc.out.low k hk).1) Hdc.out.size))
      have Hx5 := Lib.hid hx5.isBB'
      clear hsame hrb hown3 hx5 hdd hja5 hfd hG5
      have hXX : (F == F) = true := by simp
      rw [hXX] at Hsame
      go_wp2_with fail
      refine Hsame.out.mono ?_
      rintro e we ⟨rfl, hbe⟩
      go_wp2
      go_ret
      exact ⟨rfl, Hb2.out.trans ((Hxd.out.trans (hbe.mono Hxd.out.size)).mono hs02)⟩
    · -- done
      obtain ⟨he, hXe⟩ := hcase
      have hXe' := hXe.symm
      subst hXe'
      rw [he]
      clear he
      obtain ⟨z0, z1, z2⟩ := Hbox.out w9 Hxa.out
      go_wp2_with fail
      refine (cut_any w2.heap.size G9 g R.1.2 (fun k => k < w.heap.size) _ ch w9 Hda.out (Hkept.out w9 Hxa.out) Hlo.out).mono ?_
      rintro e wb1 ⟨rfl, hdb, hfb⟩
      have hown1 := Hown.out.keep fun q hq => (hfb.block q (Hown.out.lt q hq).2 (Hng.out q hq)).2
      have Hdb := Lib.hid hdb
      have Hown1 := Lib.hid hown1
      have Hxb := Lib.hid (Hxa.out.trans (hfb.below (fun k hk => (Hda.out.low k hk).1) Hda.out.size))
      clear hdb hown1 hfb z0 z1 z2
      go_wp2_with fail
      refine (on_any w2.heap.size G9 g (R.1.2.cut ch) wb1 Hdb.out).mono ?_
      rintro e wc1 ⟨rfl, hdc, hfc⟩
      have hown2 := Hown1.out.keep fun q hq => (hfc.block q (Hown1.out.lt q hq).2 (Hng.out q hq)).2
      have Hdc := Lib.hid hdc
      have Hown2 := Lib.hid hown2
      have Hxc := Lib.hid (Hxb.out.trans (hfc.below (fun k hk => (Hdb.out.low k hk).1) Hdb.out.size))
      clear hdc hown2 hfc
      go_wp2_with fail
      refine (jopen_any w2.heap.size G9 g { R.1.2.cut ch with off := false } wc1 Hfew3.out Hdc.out).mono ?_
      rintro e wd1 ⟨vp, x, rfl, Gd, hdd, hfd, ⟨hbad, _⟩ | ⟨_, j5, B5, rfl, hja5, hB5, hG5, hx5, hBj5⟩⟩
      case inl => exact absurd (by rw [HM3.out]) hbad
      rw [HM3.out] at hx5 ⊢
      dsimp only at hx5 ⊢
      have hown3 := Hown2.out.keep fun q hq => (hfd.block q (Hown2.out.lt q hq).2 (Hng.out q hq)).2
      obtain ⟨Ab, cb, hbv, _, _, hrb⟩ := hown3.form
      rw [List.length_map] at hbv
      cases hbv
      have hsame := samej_any _ _ x Aw cw _ (F ++ T) wd1 hx5.isBB' hrb HX40.out
      unfold SamePost at hsame
      rw [show (F ++ T).length = F.length + T.length from List.length_append] at hsame
      have Hsame := Lib.hid hsame
      have Hxd := Lib.hid (Hxc.out.trans (hfd.below (fun k hk => (Hdc.out.low k hk).1) Hdc.out.size))
      have Hx5 := Lib.hid hx5.isBB'
      clear hsame hrb hown3 hx5 hdd hja5 hfd hG5
      have hXX : ((F ++ T) == (F ++ T)) = true := by simp
      rw [hXX] at Hsame
      go_wp2_with fail
      refine Hsame.out.mono ?_
      rintro e we ⟨rfl, hbe⟩
      go_wp2
      go_ret
      exact ⟨rfl, Hb2.out.trans ((Hxd.out.trans (hbe.mono Hxd.out.size)).mono hs02)⟩
    · -- cut
      obtain ⟨he, hX⟩ := hcase
      rw [he]
      clear he
      obtain ⟨z0, z1, z2⟩ := Hbox.out w9 Hxa.out
      go_wp2_with fail
      refine (cut_any w2.heap.size G9 g R.1.2 (fun k => k < w.heap.size) _ ch w9 Hda.out (Hkept.out w9 Hxa.out) Hlo.out).mono ?_
      rintro e wb1 ⟨rfl, hdb, hfb⟩
      have hown1 := Hown.out.keep fun q hq => (hfb.block q (Hown.out.lt q hq).2 (Hng.out q hq)).2
      have Hdb := Lib.hid hdb
      have Hown1 := Lib.hid hown1
      have Hxb := Lib.hid (Hxa.out.trans (hfb.below (fun k hk => (Hda.out.low k hk).1) Hda.out.size))
      clear hdb hown1 hfb z0 z1 z2
      go_wp2_with fail
      refine (on_any w2.heap.size G9 g (R.1.2.cut ch) wb1 Hdb.out).mono ?_
      rintro e wc1 ⟨rfl, hdc, hfc⟩
      have hown2 := Hown1.out.keep fun q hq => (hfc.block q (Hown1.out.lt q hq).2 (Hng.out q hq)).2
      have Hdc := Lib.hid hdc
      have Hown2 := Lib.hid hown2
      have Hxc := Lib.hid (Hxb.out.trans (hfc.below (fun k hk => (Hdb.out.low k hk).1) Hdb.out.size))
      clear hdc hown2 hfc
      go_wp2_with fail
      refine (jopen_any w2.heap.size G9 g { R.1.2.cut ch with off := false } wc1 Hfew3.out Hdc.out).mono ?_
      rintro e wd1 ⟨vp, x, rfl, Gd, hdd, hfd, ⟨hbad, _⟩ | ⟨_, j5, B5, rfl, hja5, hB5, hG5, hx5, hBj5⟩⟩
      case inl => exact absurd (by rw [HM3.out]) hbad
      rw [HM3.out] at hx5 ⊢
      dsimp only at hx5 ⊢
      have hown3 := Hown2.out.keep fun q hq => (hfd.block q (Hown2.out.lt q hq).2 (Hng.out q hq)).2
      obtain ⟨Ab, cb, hbv, _, _, hrb⟩ := hown3.form
      rw [List.length_map] at hbv
      cases hbv
      have hsame := samej_any _ _ x Aw cw _ (F ++ T) wd1 hx5.isBB' hrb HX40.out
      unfold SamePost at hsame
      rw [show (F ++ T).length = F.length + T.length from List.length_append] at hsame
      have Hsame := Lib.hid hsame
      have Hxd := Lib.hid (Hxc.out.trans (hfd.below (fun k hk => (Hdc.out.low k hk).1) Hdc.out.size))
      have Hx5 := Lib.hid hx5.isBB'
      clear hsame hrb hown3 hx5 hdd hja5 hfd hG5
      cases hXL : (X == (F ++ T)) with
      | true =>
        rw [hXL] at Hsame
        clear hX hXL
        go_wp2_with fail
        refine Hsame.out.mono ?_
        rintro e we ⟨rfl, hbe⟩
        go_wp2
        go_ret
        exact ⟨rfl, Hb2.out.trans ((Hxd.out.trans (hbe.mono Hxd.out.size)).mono hs02)⟩
      | false =>
        have hXF : X = F := hX.resolve_right (fun e => by rw [e] at hXL; simp at hXL)
        rw [hXL] at Hsame
        clear hX hXL
        go_wp2_with fail
        refine Hsame.out.mono ?_
        rintro e we ⟨rfl, hbe⟩
        have Hxe := Lib.hid (Hxd.out.trans (hbe.mono Hxd.out.size))
        go_wp2_with fail
        refine (texts_at _ _ F _ (HF2.out we Hxe.out) HF40.out).mono ?_
        rintro e wt ⟨At, ct, rfl, hownt, hrdt, hbt⟩
        have hs2 := samej_any _ _ x At ct X F wt ((Hx5.out.grow hbe).grow hbt) hrdt HX40.out
        unfold SamePost at hs2
        have hXX : (X == F) = true := by rw [hXF]; simp
        rw [hXX] at hs2
        have Hs2 := Lib.hid hs2
        have Hxt := Lib.hid (Hxe.out.trans (hbt.mono Hxe.out.size))
        clear hs2 hbt hrdt hownt hbe hXF
        go_wp2_with fail
        refine Hs2.out.mono ?_
        rintro e wu ⟨rfl, hbu⟩
        go_wp2
        go_ret
        exact ⟨rfl, Hb2.out.trans ((Hxt.out.trans (hbu.mono Hxt.out.size)).mono hs02)⟩
end Go.Proofs.Ytjobkmcbindhmaa
