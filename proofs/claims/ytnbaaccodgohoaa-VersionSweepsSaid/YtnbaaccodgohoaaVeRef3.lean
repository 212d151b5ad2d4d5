/-
  The document's Unseen, has, Data, Same at lists of versions; Fine; fits.
-/
import Derived.Test.YtnbaaccodgohoaaVeRef2
namespace Go.Proofs.Ytnbaaccodgohoaa
open Go.RowKit
set_option maxRecDepth 100000

set_option maxHeartbeats 2000000 in
theorem refunseen_any (ok : Nat → Prop) (v : Value) (L : List Ver) (B : Nat → Nat) (w : World) (hL : IsL kVer w ok v L) :
    Calls Try.prog 26 #[v, vv B] w fun e w' => e = .returned (.bool (L.any fun x => headV x && !hasV B x.rep x.seq)) ∧ Below w.heap.size w w' := by
  obtain ⟨A, c, rfl, hc1, hc2, hL⟩ := ver_at hL
  have hm : maxLen ≤ 9223372036854775807 := by decide
  have Hel := Lib.hid hL
  obtain ⟨BV, hBV⟩ : ∃ A, A = av B := ⟨_, rfl⟩
  have HinfB := Lib.hid (show (Try.prog.info? 37).map (·.size) = some BV.toList.length by rw [hBV]; exact vec_info)
  have hgn := fun (x : Ver) (z : World) => refhas_any B x.rep x.seq z
  unfold vv at hgn ⊢
  rw [← hBV] at hgn ⊢
  have Hgn := Lib.hid hgn
  obtain ⟨F, hF⟩ : ∃ F : Ver → Bool, F = fun x => headV x && !hasV B x.rep x.seq := ⟨_, rfl⟩
  rw [← hF]
  have HF := Lib.hid hF
  obtain ⟨T, hT⟩ : ∃ T, T = L.any F := ⟨_, rfl⟩
  rw [← hT]
  have HT := Lib.hid hT
  obtain ⟨wb, hwb⟩ : ∃ wb, wb = w.alloc (.cells BV 37) := ⟨_, rfl⟩
  have Hbox := Lib.hid (show Blk wb w.heap.size 37 BV by rw [hwb]; exact Blk.new w _ _)
  have Hbel := Lib.hid (show Below w.heap.size w wb by rw [hwb]; exact (Below.refl _ w).alloc (Nat.le_refl _) _)
  have HW := Lib.hid hwb
  obtain ⟨n, hn⟩ : ∃ n, n = L.length := ⟨_, rfl⟩
  rw [← hn] at hc1 ⊢
  have Hn := Lib.hid hn
  clear hL hn hBV hgn hF hwb hT
  go_enter Try.func26, Try.ntmps26
  go_upto_region 1 with fail
  rw [← HW.out]
  go_wp2_with fail
  go_loopw [5] (fun i wr => ∃ (k : Nat), k ≤ n ∧ i = .int .i64 (k : Int) ∧ Hid ((L.take k).any F = false) ∧ Hid (Below wb.heap.size wb wr)) (fun i _ => n - (intOf i).toNat)
  case atStart => exact ⟨0, by omega, rfl, Lib.hid rfl, Lib.hid (Below.refl _ _)⟩
  case round =>
    obtain ⟨k, hk, rfl, Hnone, Hbw0⟩ := hrel
    have Hbw := Lib.hid (below_call Hbel.out Hbw0.out)
    by_cases hlt : k < n
    · have hkl : k < L.length := by rw [← Hn.out]; exact hlt
      obtain ⟨b, off, rfl, hxok, hxc⟩ := ver_here Hel.out hkl Hbw.out
      have htk : L.take (k + 1) = L.take k ++ [L[k]] := by rw [List.take_succ_eq_append_getElem hkl]
      have hmem : L[k] ∈ L := List.getElem_mem hkl
      have hgn := Hgn.out L[k]
      obtain ⟨x, hxe⟩ : ∃ x, x = L[k] := ⟨_, rfl⟩
      rw [← hxe] at hxok hxc htk hgn hmem
      have hhd := fun z => refhead_any x z
      obtain ⟨p, hp⟩ : ∃ p, p = headV x := ⟨_, rfl⟩
      rw [← hp] at hhd
      obtain ⟨q, hq⟩ : ∃ q, q = hasV B x.rep x.seq := ⟨_, rfl⟩
      rw [← hq] at hgn
      have Hq := Lib.hid (show F x = (p && !q) by rw [HF.out, hq, hp])
      have Htk := Lib.hid htk
      have Hmem := Lib.hid hmem
      have hri := hxc.id
      obtain ⟨IX, hIX⟩ : ∃ I, I = idC x.rep x.seq := ⟨_, rfl⟩
      have HinfI := Lib.hid (show (Try.prog.info? 35).map (·.size) = some IX.toList.length by rw [hIX]; exact id_info)
      rw [idv_idC] at hgn
      rw [← hIX] at hgn hri
      have Hgx := Lib.hid hgn
      have RI := Lib.hid (range_exts hri)
      have RB := Lib.hid (range_exts ((Hbox.out.grow Hbw0.out).range 0 BV.toList fun j u hu => by rw [Nat.zero_add, ← Array.getElem?_toList]; exact hu))
      obtain ⟨C, hC⟩ : ∃ C, C = verC x := ⟨_, rfl⟩
      have HinfL := Lib.hid (show (Try.prog.info? 39).map (·.size) = some C.toList.length by rw [hC]; exact ver_info)
      have hra := hxc.all
      rw [← hC] at hra hhd
      have RA := Lib.hid (range_exts hra)
      have Hhd := Lib.hid hhd
      clear hxok hxc htk hxe hq hp hC hgn hri hIX hra hhd hmem
      have hstep : ∀ Tb : Bool, F x = Tb → Tb = false → Hid ((L.take (k + 1)).any F = false) := fun Tb h1 h2 => Lib.hid (by rw [Htk.out, List.any_append, Hnone.out]; simp [h1, h2])
      have hyes : F x = true → T = true := fun h => by rw [HT.out, List.any_eq_true]; exact ⟨x, Hmem.out, h⟩
      have Hstep := Lib.hid hstep
      have Hyes := Lib.hid hyes
      clear hstep hyes
      cases p <;> cases q
      all_goals go_wp2_with fail
      all_goals refine wp_region_grow (by kernel_rfl) (by kernel_rfl) ?_
      all_goals repeat (first | (go_big_quiet_want; refine quiet_mid 39 (.tmp 14) rfl b (off + k * 11) rfl _ _ RA.out Try.underlying39 rfl HinfL.out ?_; go_simp; go_big_quiet_on) | (go_big_quiet_want; refine quiet_mid 35 (.tmp 22) rfl b (off + k * 11) rfl _ _ RI.out Try.underlying35 rfl HinfI.out ?_; go_simp; go_big_quiet_on) | (go_big_quiet_want; refine quiet_mid 37 (.tmp 3) rfl w.heap.size 0 rfl _ _ RB.out Try.underlying37 rfl HinfB.out ?_; go_simp; go_big_quiet_on) | go_big_quiet_step ((first | (go_at_call 22; exact calls_grow (Hhd.out _)) | (go_at_call 48; exact calls_grow (Hgx.out _)))) | quiet_step ((first | (go_at_call 22; exact calls_grow (Hhd.out _)) | (go_at_call 48; exact calls_grow (Hgx.out _)))))
      all_goals refine wpQuiet_nil ?_
      all_goals rintro w6 ⟨y6, rfl⟩
      all_goals have hb6 := y6.out
      all_goals obtain ⟨w7, hw7⟩ : ∃ w7, w7 = y6.now := ⟨_, rfl⟩
      all_goals rw [← hw7] at hb6 ⊢
      all_goals clear hw7
      · go_wp2_with fail
        go_roundw
        case rel => exact ⟨k + 1, by omega, by go_num, Hstep.out _ Hq.out rfl, Lib.hid (Hbw0.out.trans (hb6.mono Hbw0.out.size))⟩
        case measure => simp [intOf]; omega
      · go_wp2_with fail
        go_roundw
        case rel => exact ⟨k + 1, by omega, by go_num, Hstep.out _ Hq.out rfl, Lib.hid (Hbw0.out.trans (hb6.mono Hbw0.out.size))⟩
        case measure => simp [intOf]; omega
      · go_wp2_with fail
        go_ret
        exact ⟨by rw [Hyes.out Hq.out]; rfl, below_call Hbw.out hb6⟩
      · go_wp2_with fail
        go_roundw
        case rel => exact ⟨k + 1, by omega, by go_num, Hstep.out _ Hq.out rfl, Lib.hid (Hbw0.out.trans (hb6.mono Hbw0.out.size))⟩
        case measure => simp [intOf]; omega
    · obtain rfl : k = n := by omega
      have Hno := Lib.hid (show T = false by rw [HT.out, ← Hnone.out, List.take_of_length_le (by rw [Hn.out]; exact Nat.le_refl _)])
      go_wp2_with fail
      go_ret
      exact ⟨by rw [Hno.out]; rfl, Hbw.out⟩
end Go.Proofs.Ytnbaaccodgohoaa
