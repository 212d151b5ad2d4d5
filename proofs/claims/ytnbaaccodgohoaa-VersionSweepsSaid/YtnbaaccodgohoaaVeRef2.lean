/-
  The document's Sweep, Unseen, has, Data, Same at lists of versions; Fine; fits.
-/
import Derived.Test.YtnbaaccodgohoaaVeRef
namespace Go.Proofs.Ytnbaaccodgohoaa
open Go.RowKit
set_option maxRecDepth 100000

set_option maxHeartbeats 2000000 in
theorem refsweep_any (ok : Nat → Prop) (v : Value) (L : List Ver) (B : Nat → Nat) (w : World) (hL : IsL kVer w ok v L) (hl : L.length ≤ 1000) :
    Calls Try.prog 24 #[v, vv B] w fun e w' => (∃ u, e = .returned u ∧ OwnV w' w.heap.size u (L.filter fun x => !goneV x.by_ B)) ∧ Below w.heap.size w w' := by
  obtain ⟨A, c, rfl, hc1, hc2, hL⟩ := ver_at hL
  have hm : maxLen ≤ 9223372036854775807 := by decide
  have Hel := Lib.hid hL
  obtain ⟨BV, hBV⟩ : ∃ A, A = av B := ⟨_, rfl⟩
  have HinfB := Lib.hid (show (Try.prog.info? 37).map (·.size) = some BV.toList.length by rw [hBV]; exact vec_info)
  have hgn := fun (x : Ver) (z : World) => refgone_any x.by_ B z
  unfold vv at hgn ⊢
  rw [← hBV] at hgn ⊢
  have Hgn := Lib.hid hgn
  obtain ⟨F, hF⟩ : ∃ F : Ver → Bool, F = fun x => !goneV x.by_ B := ⟨_, rfl⟩
  rw [← hF]
  have HF := Lib.hid hF
  obtain ⟨wb, hwb⟩ : ∃ wb, wb = w.alloc (.cells BV 37) := ⟨_, rfl⟩
  have Hbox := Lib.hid (show Blk wb w.heap.size 37 BV by rw [hwb]; exact Blk.new w _ _)
  have Hbel := Lib.hid (show Below w.heap.size w wb by rw [hwb]; exact (Below.refl _ w).alloc (Nat.le_refl _) _)
  have HW := Lib.hid hwb
  obtain ⟨n, hn⟩ : ∃ n, n = L.length := ⟨_, rfl⟩
  rw [← hn] at hc1 hl ⊢
  have Hn := Lib.hid hn
  clear hL hn hBV hgn hF hwb
  go_enter Try.func24, Try.ntmps24
  go_upto_region 1 with fail
  rw [← HW.out]
  go_wp2_with fail
  go_loopw [5, 6] (fun s i wr => ∃ (k : Nat), k ≤ n ∧ i = .int .i64 (k : Int) ∧ Hid (OwnV wr wb.heap.size s ((L.take k).filter F)) ∧ Hid (Below wb.heap.size wb wr)) (fun _ i _ => n - (intOf i).toNat)
  case atStart => exact ⟨0, by omega, rfl, Lib.hid (by rw [List.take_zero]; exact OwnV.nil _ _), Lib.hid (Below.refl _ _)⟩
  case round =>
    obtain ⟨k, hk, rfl, Hown, Hbw0⟩ := hrel
    have Hbw := Lib.hid (below_call Hbel.out Hbw0.out)
    by_cases hlt : k < n
    · have hkl : k < L.length := by rw [← Hn.out]; exact hlt
      obtain ⟨b, off, rfl, hxok, hxc⟩ := ver_here Hel.out hkl Hbw.out
      have htk : L.take (k + 1) = L.take k ++ [L[k]] := by rw [List.take_succ_eq_append_getElem hkl]
      have hgn := Hgn.out L[k]
      obtain ⟨x, hxe⟩ : ∃ x, x = L[k] := ⟨_, rfl⟩
      rw [← hxe] at hxok hxc htk hgn
      have R := Lib.hid hxc.all
      have Hxok := Lib.hid hxok
      have Htk := Lib.hid htk
      obtain ⟨q, hq⟩ : ∃ q, q = goneV x.by_ B := ⟨_, rfl⟩
      rw [← hq] at hgn
      have Hq := Lib.hid (show F x = !q by rw [HF.out, hq])
      have hlen : ((L.take k).filter F).length ≤ 1000 := Nat.le_trans (List.length_filter_le _ _) (by rw [List.length_take]; omega)
      obtain ⟨M, hM⟩ : ∃ M, M = (L.take k).filter F := ⟨_, rfl⟩
      rw [← hM] at Hown hlen
      have HM := Lib.hid hM
      obtain ⟨AV, hAV⟩ : ∃ A, A = av x.by_ := ⟨_, rfl⟩
      have HinfA := Lib.hid (show (Try.prog.info? 37).map (·.size) = some AV.toList.length by rw [hAV]; exact vec_info)
      have hrb := hxc.by_
      rw [← hAV] at hgn hrb
      have Hgx := Lib.hid hgn
      have RA := Lib.hid (range_exts hrb)
      have RB := Lib.hid (range_exts ((Hbox.out.grow Hbw0.out).range 0 BV.toList fun j u hu => by rw [Nat.zero_add, ← Array.getElem?_toList]; exact hu))
      obtain ⟨C, hC⟩ : ∃ C, C = verC x := ⟨_, rfl⟩
      have hsz : C.size = 11 := by rw [hC]; rfl
      have hinfL : (Try.prog.info? 39).map (·.size) = some C.toList.length := by rw [hC]; exact ver_info
      have hfold := fold_ver x
      have HC := Lib.hid hC
      rw [← hC] at R hfold
      have HinfL := Lib.hid hinfL
      have Hfold := Lib.hid hfold
      clear hxok hxc htk hxe hq hM hC hinfL hfold hgn hAV hrb
      cases q with
      | true =>
        have HM2 := Lib.hid (show (L.take (k + 1)).filter F = M by rw [Htk.out, List.filter_append, HM.out]; simp [Hq.out])
        go_wp2_with fail
        refine wp_region_grow (by kernel_rfl) (by kernel_rfl) ?_
        repeat (first | (go_big_quiet_want; refine quiet_mid 37 (.tmp 16) rfl b (off + k * 11 + 3) rfl _ _ RA.out Try.underlying37 rfl HinfA.out ?_; go_simp; go_big_quiet_on) | (go_big_quiet_want; refine quiet_mid 37 (.tmp 3) rfl w.heap.size 0 rfl _ _ RB.out Try.underlying37 rfl HinfB.out ?_; go_simp; go_big_quiet_on) | go_big_quiet_step ((go_at_call 44; exact calls_grow (Hgx.out _))) | quiet_step ((go_at_call 44; exact calls_grow (Hgx.out _))))
        refine wpQuiet_nil ?_
        rintro w6 ⟨⟨_, hb6⟩, rfl⟩
        go_wp2_with fail
        go_roundw
        case rel => exact ⟨k + 1, by omega, by go_num, Lib.hid (by rw [HM2.out]; exact Hown.out.grow hb6), Lib.hid (Hbw0.out.trans (hb6.mono Hbw0.out.size))⟩
        case measure => simp [intOf]; omega
      | false =>
        have HM2 := Lib.hid (show (L.take (k + 1)).filter F = M ++ [x] by rw [Htk.out, List.filter_append, HM.out]; simp [Hq.out])
        go_wp2_with fail
        refine wp_region_grow (by kernel_rfl) (by kernel_rfl) ?_
        repeat (first | (go_big_quiet_want; refine quiet_mid 37 (.tmp 16) rfl b (off + k * 11 + 3) rfl _ _ RA.out Try.underlying37 rfl HinfA.out ?_; go_simp; go_big_quiet_on) | (go_big_quiet_want; refine quiet_mid 37 (.tmp 3) rfl w.heap.size 0 rfl _ _ RB.out Try.underlying37 rfl HinfB.out ?_; go_simp; go_big_quiet_on) | go_big_quiet_step ((go_at_call 44; exact calls_grow (Hgx.out _))) | quiet_step ((go_at_call 44; exact calls_grow (Hgx.out _))))
        refine wpQuiet_nil ?_
        rintro w6 ⟨y6, rfl⟩
        have hb6 := y6.out
        obtain ⟨w7, hw7⟩ : ∃ w7, w7 = y6.now := ⟨_, rfl⟩
        rw [← hw7] at hb6 ⊢
        clear hw7
        have R1 := Lib.hid (range_ext R.out hb6)
        have Hown2 := Lib.hid (Hown.out.grow hb6)
        have Hbel2 := Lib.hid (Hbw0.out.trans (hb6.mono Hbw0.out.size))
        have hws2 := Hbel2.out.size
        clear hb6
        go_wp2_with (first | (refine wpList_load_mid (op := ⟨some 25, _, _, _, _, _⟩) rfl 39 (.tmp 24) rfl b (off + k * 11) rfl _ _ R1.out Try.underlying39 rfl HinfL.out ?_) | (at_builtin; go_must (rw [Hfold.out]; refine wpList_app_ver w7 rfl (.tmp 21) (.tmp 26) rfl wb.heap.size u5 M rfl Hown2.out C x HC.out Hxok.out 39 rfl (by omega) hws2 ?_; intro v9 w9 hown9 hg9 hat9; have Hown9 := Lib.hid hown9; have Hg9 := Lib.hid hg9; clear hown9 hg9 hat9)))
        go_roundw
        case rel => exact ⟨k + 1, by omega, by go_num, Lib.hid (by rw [HM2.out]; exact Hown9.out), Lib.hid (Hbel2.out.trans (Hown2.out.1.below_of Hg9.out hws2 (Nat.le_refl _)))⟩
        case measure => simp [intOf]; omega
    · obtain rfl : k = n := by omega
      have hall : (L.take k).filter F = L.filter F := by rw [List.take_of_length_le (by rw [Hn.out]; exact Nat.le_refl _)]
      rw [hall] at Hown
      go_wp2_with fail
      go_ret
      exact ⟨⟨_, rfl, Hown.out.mono Hbel.out.size⟩, Hbw.out⟩
end Go.Proofs.Ytnbaaccodgohoaa
