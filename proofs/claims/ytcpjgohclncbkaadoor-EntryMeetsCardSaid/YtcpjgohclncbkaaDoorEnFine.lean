/-
  The document's Fine answers true where the list rises; two entries compared as structs, what they were deleted by set aside.
-/
import Derived.Test.YtcpjgohclncbkaaDoorEnRefs
import Derived.Test.YtcpjgohclncbkaaDoorEnMeetMaths
namespace Go.Proofs.YtcpjgohclncbkaaDoor
open Go.RowKit
set_option maxRecDepth 100000

set_option maxHeartbeats 1000000 in
theorem ereffine_true (ok : Nat → Prop) (v : Value) (L : List Ent) (w : World) (hL : IsL kEnt w ok v L) (hl : L.length ≤ 1000) (hs : SortedE L) :
    Calls Tryd.prog 33 #[v] w fun e w' => e = .returned (.bool true) ∧ Below w.heap.size w w' := by
  obtain ⟨A, c, rfl, hc1, hc2, hL⟩ := ent_at hL
  have hm : maxLen ≤ 9223372036854775807 := by decide
  have Hel := Lib.hid hL
  have Hs := Lib.hid hs
  obtain ⟨n, hn⟩ : ∃ n, n = L.length := ⟨_, rfl⟩
  rw [← hn] at hc1 hl ⊢
  have Hn := Lib.hid hn
  clear hL hn hs
  go_enter Tryd.func33, Tryd.ntmps33
  go_wp2_with fail
  go_loopw [3] (fun i wr => ∃ k : Nat, 1 ≤ k ∧ k ≤ n + 1 ∧ i = .int .i64 (k : Int) ∧ Hid (∀ i j (hi : i < L.length) (hj : j < L.length), i < j → j < k → lessV L[i].rep L[i].seq L[j].rep L[j].seq = true) ∧ Hid (Below w.heap.size w wr)) (fun i _ => n + 1 - (intOf i).toNat)
  case atStart => exact ⟨1, by omega, by omega, rfl, Lib.hid (fun i j _ _ h h' => by omega), Lib.hid (Below.refl _ _)⟩
  case round =>
    obtain ⟨k, hk0, hk, rfl, Hall, Hbw⟩ := hrel
    by_cases hlt : k < n
    · obtain ⟨j, rfl⟩ : ∃ j, k = j + 1 := ⟨k - 1, by omega⟩
      have hkl : j + 1 < L.length := by rw [← Hn.out]; exact hlt
      have hjl : j < L.length := by omega
      obtain ⟨b, off, rfl, _, hxc⟩ := ent_here Hel.out hkl Hbw.out
      obtain ⟨b', off', he, _, hxc'⟩ := ent_here Hel.out hjl Hbw.out
      injection he with he
      injection he with he1 he2 _
      subst he1 he2
      have hls := fun z => refless_any L[j].rep L[j].seq L[j + 1].rep L[j + 1].seq z
      obtain ⟨q, hq⟩ : ∃ q, q = lessV L[j].rep L[j].seq L[j + 1].rep L[j + 1].seq := ⟨_, rfl⟩
      rw [← hq, idv_idC, idv_idC] at hls
      have hqt0 : q = true := by rw [hq]; exact Hs.out j (j + 1) hjl hkl (by omega)
      have Hq := Lib.hid hq
      obtain ⟨I1, hI1⟩ : ∃ I, I = idC L[j].rep L[j].seq := ⟨_, rfl⟩
      obtain ⟨I2, hI2⟩ : ∃ I, I = idC L[j + 1].rep L[j + 1].seq := ⟨_, rfl⟩
      have Hi1 := Lib.hid (show (Tryd.prog.info? 25).map (·.size) = some I1.toList.length by rw [hI1]; exact id_info)
      have Hi2 := Lib.hid (show (Tryd.prog.info? 25).map (·.size) = some I2.toList.length by rw [hI2]; exact id_info)
      have h1 := hxc'.id
      have h2 := hxc.id
      rw [← hI1] at h1 hls
      rw [← hI2] at h2 hls
      have R1 := Lib.hid (range_exts h1)
      have R2 := Lib.hid (range_exts h2)
      have Hls := Lib.hid hls
      have hnx : q = true → Hid (∀ i k (hi : i < L.length) (hk : k < L.length), i < k → k < j + 1 + 1 → lessV L[i].rep L[i].seq L[k].rep L[k].seq = true) := fun hqt => Lib.hid fun i k hi hk h h' => by
        by_cases e : k = j + 1
        · subst e
          by_cases e2 : i = j
          · subst e2; rw [← Hq.out]; exact hqt
          · exact lessV_trans (Hall.out i j hi hjl (by omega) (by omega)) (by rw [← Hq.out]; exact hqt)
        · exact Hall.out i k hi hk h (by omega)
      have Hnx := Lib.hid hnx
      have hsub : (((j + 1 : Nat) : Int) - 1) = (j : Int) := by omega
      clear hxc hxc' hI1 hI2 h1 h2 hls hq hnx
      subst hqt0
      go_wp2_with fail
      refine wp_region_grow (by kernel_rfl) (by kernel_rfl) ?_
      repeat (first | (go_big_quiet_want; refine quiet_mid 25 (.tmp 14) rfl b (off + j * 15) rfl _ _ R1.out Tryd.underlying25 rfl Hi1.out ?_; go_simp; go_big_quiet_on) | (go_big_quiet_want; refine quiet_mid 25 (.tmp 19) rfl b (off + (j + 1) * 15) rfl _ _ R2.out Tryd.underlying25 rfl Hi2.out ?_; go_simp; go_big_quiet_on) | go_big_quiet_step ((go_at_call 57; exact calls_grow (Hls.out _))) | quiet_step ((go_at_call 57; exact calls_grow (Hls.out _))))
      refine wpQuiet_nil ?_
      rintro w6 ⟨⟨_, hb6⟩, rfl⟩
      go_wp2_with fail
      go_roundw
      case rel => exact ⟨j + 1 + 1, by omega, by omega, by go_num, Hnx.out (by trivial), Lib.hid (Hbw.out.trans (hb6.mono Hbw.out.size))⟩
      case measure => simp [intOf]; omega
    · go_wp2_with fail
      go_ret
      exact ⟨rfl, Hbw.out⟩
instance (x y : Ent) : Decidable (AlikeX x y) := by unfold AlikeX; infer_instance
set_option maxHeartbeats 1000000 in
theorem ent_neq_zero (x y : Ent) (w : World) : (binOp .neq 29 (.agg (entC { x with by_ := zeroV })) (.agg (entC { y with by_ := zeroV }))).run Tryd.prog w = .ok (.bool (!decide (AlikeX x y))) w := by
  have u3 := Tryd.underlying3
  have a3 := Tryd.isAgg3
  have z3 := Tryd.sizeOf3
  have u4 := Tryd.underlying23
  have a4 := Tryd.isAgg23
  have z4 := Tryd.sizeOf23
  have u5 := Tryd.underlying9
  have a5 := Tryd.isAgg9
  have z5 := Tryd.sizeOf9
  have u6 := Tryd.underlying25
  have u7 := Tryd.underlying27
  have a6 := Tryd.isAgg25
  have z6 := Tryd.sizeOf25
  have a7 := Tryd.isAgg27
  have z7 := Tryd.sizeOf27
  have hS : Tryd.prog.underlying 29 = some (.struct (Tryd.prog.fieldsOf 29)) := by kernel_rfl
  have hp : Tryd.prog.stoodInHeld 29 = false := by kernel_rfl
  have hv := vec_in_self zeroV w
  unfold av at hv
  have hS2 : Tryd.prog.underlying 25 = some (.struct (Tryd.prog.fieldsOf 25)) := by kernel_rfl
  have hp2 : Tryd.prog.stoodInHeld 25 = false := by kernel_rfl
  unfold entC
  rw [run_neq_struct, show (10000 : Nat) = 9999 + 1 from rfl, run_equalIn_agg w 9999 29 _ _ hS hp]
  simp only [Program.fieldsOf, Tryd.underlying29]
  go_simp
  by_cases h : AlikeX x y
  · obtain ⟨h1, h2, h3, h4, h5, h6, h7⟩ := id h
    rw [if_pos h1, if_pos (by rw [h2]), if_pos h3, if_pos (by rw [h4]), if_pos h5, if_pos h6, if_pos (by rw [h7])]
    simp [h]
  · have hd : decide (AlikeX x y) = false := decide_eq_false h
    rw [hd]
    split
    · split
      · split
        · split
          · split
            · split
              · split
                · rename_i h1 h2 h3 h4 h5 h6 h7
                  exact absurd ⟨h1, by omega, h3, by omega, h5, h6, by omega⟩ h
                · rfl
              · rfl
            · rfl
          · rfl
        · rfl
      · rfl
    · rfl
end Go.Proofs.YtcpjgohclncbkaaDoor
