/-
  wardshiplaw04.lives.
-/
import Derived.Test.YtiaabgmmmekpnaaJKit
import Derived.Test.YtiaabgmmmekpnaaQuiet
namespace Go.Proofs.Ytiaabgmmmekpnaa
open Go.RowKit
set_option maxRecDepth 100000

def twoRecs : List (List UInt8) := [[97, 98], []]
theorem twoRecs_len : (recsB twoRecs).length = 12 := by decide +kernel
theorem twoRecs_few : fewLong twoRecs := by decide +kernel

set_option maxHeartbeats 1000000 in
theorem lives_any (w : World) : Calls Try.prog 4 #[] w fun e w' => e = .returned (.bool true) ∧ Below w.heap.size w w' := by
  obtain ⟨D1, ho1, hi1, hl1, hn1, hc1, hlo1⟩ := open_new 6 (by decide) (by decide)
  have hs1 : sideN D1 = 2 := by unfold sideN; rw [hn1]
  obtain ⟨R, hR⟩ : ∃ R, R = addJ ⟨1, 0, 0, 0, false⟩ D1 twoRecs := ⟨_, rfl⟩
  have hadd : R.2 = 0 ∧ JInv R.1.2 R.1.1 twoRecs ∧ R.1.1.used = 12 ∧ R.1.2.sure.length = 6 := by
    rcases add_inv hi1 (by decide) twoRecs twoRecs_few with ⟨a, _⟩ | ⟨_, b, c, d, _⟩ | ⟨_, a, _⟩
    · rw [twoRecs_len, hs1] at a
      exact absurd a (by decide)
    · rw [← hR] at b c d
      refine ⟨b, c, ?_, ?_⟩
      · rw [d, twoRecs_len]
      · rw [hR, addJ_length, hn1]
    · exact absurd hl1 a
  obtain ⟨ha2, hi2, hu2, hn2⟩ := hadd
  have ho2 := (open_cont hi2.cont hi2.off hi2.long).1
  have hf1 : D1.Few 10 := ⟨by rw [hlo1]; decide, by rw [hc1]; decide⟩
  have hf2 : R.1.2.Few (10 + 2100) := by rw [hR]; exact addJ_few hf1 (by omega) _ _
  have hj1 := hi1.fit
  have hs2 : sideN R.1.2 = 2 := by unfold sideN; rw [hn2]
  have hcnt : R.1.1.count = 2 := by rw [hi2.count]; rfl
  have HR := Lib.hid hR
  have Hj1 := Lib.hid hj1
  have Hf1 := Lib.hid hf1
  have Hf2 := Lib.hid hf2
  have Ho1 := Lib.hid ho1
  have Ho2 := Lib.hid ho2
  have Ha2 := Lib.hid ha2
  have Hu2 := Lib.hid hu2
  have Hs2 := Lib.hid hs2
  have Hcnt := Lib.hid hcnt
  clear ho1 hi1 hl1 hn1 hc1 hlo1 hs1 hR ha2 hi2 hu2 hn2 ho2 hf1 hf2 hj1 hs2 hcnt
  have kc := fun (w : World) (C : Array Value) (n c : Nat) => Lib.run_convert_bytes_const (P := Try.prog) w 48 5 C n c Try.underlying48 Try.underlying5
  go_enter Try.func4, Try.ntmps4
  go_wp2_with fail
  refine (new_ok 6 w (by decide) (by decide)).mono ?_
  rintro e w1 ⟨g, F1, rfl, hd1, hb1⟩
  have Hd1 := Lib.hid hd1
  have Hb1 := Lib.hid hb1
  clear hd1 hb1
  go_wp2_with fail
  refine (jopen_any _ _ _ _ _ (newD_few 6 900000) Hd1.out).mono ?_
  rintro e w2 ⟨vp, x, rfl, G2, hd2, hfr2, ⟨hbad, _⟩ | ⟨_, j, B2, rfl, hja2, hB2, hG2, hx2, hBj⟩⟩
  · rw [Ho1.out] at hbad
    exact absurd rfl hbad
  rw [Ho1.out] at hd2 hja2 hx2 ⊢
  dsimp only at hd2 hja2 hx2 ⊢
  obtain ⟨vs2, hown2, hvl2, _⟩ := hx2
  obtain ⟨A2, c2, hxe2, _, _, _⟩ := hown2.form
  rw [hvl2, List.length_nil] at hxe2
  subst hxe2
  have hs1 := Hb1.out.size
  have hb2 := below_dev Hb1.out Hd1.out (Nat.le_refl _) hfr2
  have hnj2 : ¬ G2 j := fun h => by have := hG2 _ h; omega
  have Hd2 := Lib.hid hd2
  have Hja2 := Lib.hid hja2
  have Hb2 := Lib.hid hb2
  have Hnj2 := Lib.hid hnj2
  have hwj : w.heap.size ≤ j := by omega
  clear hd2 hja2 hb2 hnj2 hG2 hfr2 hown2
  go_wp2_with fail
  have hb3 : Below w2.heap.size w2 (w2.alloc (.cells #[.int .u8 97, .int .u8 98] 5 (2, 3))) := (Below.refl _ _).alloc (Nat.le_refl _) _
  have hr3 : (w2.alloc (.cells #[.int .u8 97, .int .u8 98] 5 (2, 3))).heap[w2.heap.size]? = some (.cells #[.int .u8 97, .int .u8 98] 5 (2, 3)) := row_new _ _
  obtain ⟨w3, hw3⟩ : ∃ w3, w3 = w2.alloc (.cells #[.int .u8 97, .int .u8 98] 5 (2, 3)) := ⟨_, rfl⟩
  have hsz3 : w3.heap.size = w2.heap.size + 1 := by rw [hw3]; simp
  rw [← hw3] at hb3 hr3
  have hb4 : Below w3.heap.size w3 (w3.alloc (.cells #[.slice (some ⟨w2.heap.size, 0, none⟩) 2 2, .slice none 0 0] 48)) := (Below.refl _ _).alloc (Nat.le_refl _) _
  have hbb : IsBB (w3.alloc (.cells #[.slice (some ⟨w2.heap.size, 0, none⟩) 2 2, .slice none 0 0] 48)) (fun _ => True) (.slice (some ⟨w3.heap.size, 0, none⟩) 2 2) twoRecs := by
    refine isBB_of [(.slice (some ⟨w2.heap.size, 0, none⟩) 2 2, [97, 98]), (.slice none 0 0, [])] (by simp) (by unfold maxLen; omega) ((Blk.new w3 48 #[.slice (some ⟨w2.heap.size, 0, none⟩) 2 2, .slice none 0 0]).rd _ trivial) ?_
    intro p hp
    simp only [List.mem_cons, List.not_mem_nil, or_false] at hp
    rcases hp with rfl | rfl
    · exact IsB.grow ⟨_, 2, rfl, Nat.le_refl _, by unfold maxLen; omega, rd_of_row hr3 _ trivial⟩ hb4
    · exact ⟨none, 0, rfl, Nat.le_refl _, by unfold maxLen; omega, Rd.nil⟩
  have hb24 := below_call hb3 hb4
  have Hbb := Lib.hid hbb
  have Hb24 := Lib.hid hb24
  have hs24 := hb24.size
  have hs2 := Hb2.out.size
  rw [show w2.heap.size + 1 = w3.heap.size from hsz3.symm]
  have Hadd := Lib.hid (jadd_any w.heap.size G2 (fun _ => True) j g ⟨1, 0, 0, 0, false⟩ D1 _ twoRecs _ Hj1.out (Hf1.out.mono (by decide)) (Hd2.out.grow hb24) (Hja2.out.grow hb24) Hnj2.out hbb)
  rw [← hw3]
  clear hb3 hr3 hb4 hbb hb24 hw3
  refine Hadd.out.mono ?_
  rintro e w5 hp5
  have hb5 := hp5.below (Hd2.out.grow Hb24.out) hwj
  obtain ⟨rfl, G5, hd5, hja5, hnj5, _⟩ := hp5
  rw [← HR.out] at hd5 hja5 ⊢
  rw [Ha2.out]
  have hb05 := (below_call Hb2.out Hb24.out).trans hb5
  have Hd5 := Lib.hid hd5
  have Hja5 := Lib.hid hja5
  have Hb05 := Lib.hid hb05
  have Hnj5 := Lib.hid hnj5
  clear hd5 hja5 hb05 hnj5 hb5 Hadd
  go_wp2_with fail
  refine (jopen_any _ _ _ _ _ (Hf2.out.mono (by decide)) Hd5.out).mono ?_
  rintro e w6 ⟨vp, x, rfl, G6, hd6, hfr6, ⟨hbad, _⟩ | ⟨_, j6, B6, rfl, hja6, hB6, hG6, hx6, hBj6⟩⟩
  · rw [Ho2.out] at hbad
    exact absurd rfl hbad
  rw [Ho2.out] at hd6 hx6 ⊢
  dsimp only at hd6 hx6 ⊢
  have hs5 := Hb05.out.size
  have hb6 := below_dev Hb05.out Hd5.out (Nat.le_refl _) hfr6
  have hjk := (hfr6.block j (Hja5.out.blk.lt) Hnj5.out).2
  have hja6' : JAt w6 j g R.1.1 := Hja5.out.keep hjk
  obtain ⟨vs, hown, hvl, hel, _⟩ := hx6
  obtain ⟨v0, v1, rfl⟩ : ∃ v0 v1, vs = [v0, v1] := by
    match vs, hvl with
    | [a, b], _ => exact ⟨a, b, rfl⟩
  have h0 := hel 0 (by simp) (by simp [twoRecs])
  have h1 := hel 1 (by simp) (by simp [twoRecs])
  obtain ⟨q, cap, cur, rfl, hq, hblk, _, _, htk⟩ := hown.cons_form
  obtain ⟨A0, c0, hv0, _, _, _⟩ := h0.form
  obtain ⟨A1, c1, hv1, _, _, _⟩ := h1.form
  have hB0 := h0.isB
  simp only [List.getElem_cons_zero, List.getElem_cons_succ, twoRecs, List.map_cons, List.map_nil, List.length_cons, List.length_nil] at hv0 hv1 hB0
  have e0 : w6.cell? ⟨q, 0, none⟩ = some v0 := by
    rw [hblk.cell, ← Array.getElem?_toList]
    have := congrArg (fun l => l[0]?) htk
    simpa using this
  have e1 : w6.cell? ⟨q, 1, none⟩ = some v1 := by
    rw [hblk.cell, ← Array.getElem?_toList]
    have := congrArg (fun l => l[1]?) htk
    simpa using this
  subst hv0 hv1
  have hcv := conv_is hB0
  rw [show (str [97, 98] : Value) = .string ⟨#[97, 98]⟩ from rfl] at hcv
  have hro := jroom_any w.heap.size G6 w6 j g R.1.2 R.1.1 hja6' hd6 (by rw [Hu2.out, Hs2.out]; decide)
  rw [Hu2.out, Hs2.out] at hro
  have hle := fun (z : World) (hz : Below w6.heap.size w6 z) => jlen_any z j g R.1.1 (hja6'.grow hz)
  rw [Hcnt.out] at hle
  have Hro := Lib.hid hro
  have Hle := Lib.hid hle
  have Hb6 := Lib.hid hb6
  clear hro hle hb6 hja6' hjk hja6 hd6 hfr6 hel hown hblk htk h0 h1 hB0 hG6
  go_wp2_with fail
  refine Hro.out.mono ?_
  rintro e w7 ⟨rfl, hb7⟩
  go_wp2_with fail
  refine (Hle.out _ hb7).mono ?_
  rintro e w' ⟨rfl, rfl⟩
  go_wp2
  go_ret
  exact ⟨rfl, below_call Hb6.out hb7⟩
end Go.Proofs.Ytiaabgmmmekpnaa
