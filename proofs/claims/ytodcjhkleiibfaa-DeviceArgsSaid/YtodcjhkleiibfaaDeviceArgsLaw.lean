/-
  The walk of DeviceArgs.
-/
import Derived.Test.YtodcjhkleiibfaaLives03
namespace Go.Proofs.Ytodcjhkleiibfaa
open Go.RowKit
set_option maxRecDepth 100000

theorem why_new (n : Nat) (i : Int) (h : 0 ≤ i ∧ i < n) : (newD n).why i = 0 := by
  unfold Dev.why newD
  simp
  omega
theorem why_new' (n : Nat) (i : Int) (h : i < 0 ∨ (n : Int) ≤ i) : (newD n).why i = 2 := by
  unfold Dev.why newD
  simp
  omega
theorem now_new (n i : Nat) (h : i < n) : (newD n).now i = List.replicate 256 0 := by
  unfold Dev.now newD
  simp [lastW, List.getD_eq_getElem?_getD, h]

set_option maxHeartbeats 1000000 in
theorem deviceargs_walk (n i : Int) (w : World) (hn : -9223372036854775808 ≤ n ∧ n ≤ 9223372036854775807) (hi : -9223372036854775808 ≤ i ∧ i ≤ 9223372036854775807) :
    Calls Try.prog 7 #[.int .i64 n, .int .i64 i] w fun e w' => e = .returned (.bool true) ∧ Below w.heap.size w w' := by
  by_cases hbad : n < 1 ∨ 4096 < n
  · have hd : (decide (n < 1) || decide (4096 < n)) = true := by simpa using hbad
    rcases hbad with hbad | hbad
    all_goals
      go_enter Try.func7, Try.ntmps7
      go_wp2_with fail
      refine (lives_any _).mono ?_
      rintro e w1 ⟨rfl, hb1⟩
      go_wp2_with fail
      refine (new_bad n _ (by omega)).mono ?_
      rintro e w' ⟨rfl, rfl⟩
      go_wp2_with fail
      refine (read_nil i _).mono ?_
      rintro e w' ⟨rfl, rfl⟩
      go_wp2_with fail
      refine (full_any 1 [] _).mono ?_
      rintro e w2 ⟨g2, rfl, hg2, hbl2, hb2⟩
      have hb02 := below_call hb1 hb2
      clear hbl2 hb2 hb1
      go_wp2_with fail
      refine (write_nil i _ _).mono ?_
      rintro e w' ⟨rfl, rfl⟩
      go_wp2_with fail
      refine (barrier_nil _).mono ?_
      rintro e w' ⟨rfl, rfl⟩
      go_wp2_with fail
      refine (on_nil _).mono ?_
      rintro e w' ⟨rfl, rfl⟩
      go_wp2_with fail
      refine (off_nil _).mono ?_
      rintro e w' ⟨rfl, rfl⟩
      go_wp2_with fail
      refine (loose_nil _).mono ?_
      rintro e w' ⟨rfl, rfl⟩
      go_wp2_with fail
      refine (changes_nil _).mono ?_
      rintro e w' ⟨rfl, rfl⟩
      go_wp2_with fail
      refine (size_nil _).mono ?_
      rintro e w' ⟨rfl, rfl⟩
      go_wp2_with fail
      refine (plan_nil _ _ _ _ _).mono ?_
      rintro e w3 ⟨rfl, hb3⟩
      have hb03 := below_call hb02 hb3
      clear hb02 hb3
      go_wp2_with fail
      refine (cut_nil _ _ _ _).mono ?_
      rintro e w4 ⟨rfl, hb4⟩
      have hb04 := below_call hb03 hb4
      clear hb03 hb4
      go_wp2_with fail
      go_ret
      exact ⟨by simp, hb04⟩
  · obtain ⟨k, rfl⟩ := Int.eq_ofNat_of_zero_le (show 0 ≤ n by omega)
    have hk1 : ¬ (k : Int) < 1 := by omega
    have hk2 : ¬ (4096 : Int) < (k : Int) := by omega
    have hk3 : 0 < k := by omega
    have hk4 : k ≤ 4096 := by omega
    clear hbad
    by_cases hin : 0 ≤ i ∧ i < (k : Int)
    · obtain ⟨h0, h1⟩ := hin
      have Hwhy := Lib.hid (why_new k i ⟨h0, h1⟩)
      have Hnow := Lib.hid (now_new k i.toNat (by omega))
      have hmk := run_bytes256
      obtain ⟨Z, hZ⟩ : ∃ Z : Array Value, Z = Array.replicate 256 (.int .u8 0) := ⟨_, rfl⟩
      obtain ⟨X, hX⟩ : ∃ X : List UInt8, X = List.replicate 256 0 := ⟨_, rfl⟩
      have hXl : X.length = 256 := by rw [hX]; simp
      rw [← hX] at Hnow
      rw [← hZ] at hmk
      have hZX : Z = (X.map u8).toArray := by
        rw [hX, hZ, List.map_replicate, ← zeros_u8 0 256, List.replicate_zero, List.nil_append, List.map_replicate]
      have hcvZ : ∀ z : World, (convert 42 9 (.slice (some ⟨z.heap.size, 0, none⟩) 256 256)).run Try.prog (z.alloc (.cells Z 5)).drew = .ok (str X) (z.alloc (.cells Z 5)).drew := fun z => by
        refine conv_is (ok := fun _ => True) ⟨some ⟨z.heap.size, 0, none⟩, 256, by rw [hXl], by rw [hXl]; omega, by unfold maxLen; omega, ?_⟩
        have := (Blk.new z 5 Z).drew.rd (fun _ => True) trivial
        rw [hZX] at this ⊢
        simpa using this
      have HX := Lib.hid hX
      have HXl := Lib.hid hXl
      have Hmk := Lib.hid hmk
      have HcvZ := Lib.hid hcvZ
      clear hX hXl hZ hZX hmk hcvZ
      go_enter Try.func7, Try.ntmps7
      go_wp2_with fail
      refine (lives_any _).mono ?_
      rintro e w1 ⟨rfl, hb1⟩
      go_wp2_with fail
      refine (new_ok k _ hk3 hk4).mono ?_
      rintro e w2 ⟨g, F, rfl, hdev, hb2⟩
      have hb02 := below_call hb1 hb2
      have Hdev := Lib.hid hdev
      clear hb1 hb2 hdev
      go_wp2_with fail
      refine (read_nil i _).mono ?_
      rintro e w' ⟨rfl, rfl⟩
      go_wp2_with fail
      refine (full_any 1 [] _).mono ?_
      rintro e w3 ⟨g2, rfl, hg2, hbl2, hb3⟩
      have hb03 := below_call hb02 hb3
      have Hdev3 := Lib.hid (Hdev.out.grow hb3)
      clear hbl2 hb3 hb02
      go_wp2_with fail
      refine (write_nil i _ _).mono ?_
      rintro e w' ⟨rfl, rfl⟩
      go_wp2_with fail
      refine (barrier_nil _).mono ?_
      rintro e w' ⟨rfl, rfl⟩
      go_wp2_with fail
      refine (on_nil _).mono ?_
      rintro e w' ⟨rfl, rfl⟩
      go_wp2_with fail
      refine (off_nil _).mono ?_
      rintro e w' ⟨rfl, rfl⟩
      go_wp2_with fail
      refine (loose_nil _).mono ?_
      rintro e w' ⟨rfl, rfl⟩
      go_wp2_with fail
      refine (changes_nil _).mono ?_
      rintro e w' ⟨rfl, rfl⟩
      go_wp2_with fail
      refine (size_nil _).mono ?_
      rintro e w' ⟨rfl, rfl⟩
      go_wp2_with fail
      refine (plan_nil _ _ _ _ _).mono ?_
      rintro e w4 ⟨rfl, hb4⟩
      have hb04 := below_call hb03 hb4
      have Hdev4 := Lib.hid (Hdev3.out.grow hb4)
      clear hb03 hb4
      go_wp2_with fail
      refine (cut_nil _ _ _ _).mono ?_
      rintro e w5 ⟨rfl, hb5⟩
      have hb05 := below_call hb04 hb5
      have Hdev5 := Lib.hid (Hdev4.out.grow hb5)
      clear hb04 hb5
      go_wp2_with fail
      refine (read_any _ _ _ _ i _ Hdev5.out).mono ?_
      rintro e w9 hrd
      rcases hrd with ⟨h, _⟩ | ⟨_, v, rfl, hov, hb9⟩
      · exact absurd Hwhy.out h
      rw [Hnow.out] at hov
      have hb09 := below_call hb05 hb9
      have Hdev9 := Lib.hid (Hdev5.out.grow hb9)
      have hov' : OwnK w9 w5.heap.size 5 1 v (X.map u8).length (X.map u8) := hov
      rw [List.length_map, HXl.out] at hov'
      obtain ⟨gv, c9, cur, rfl, _, _, hc9, hc9m, _⟩ := hov'.addr (by omega)
      have hB9 : IsB w9 (fun _ => True) (.slice (some ⟨gv, 0, none⟩) 256 c9) X := by
        have := hov.isB
        exact this.weaken (fun _ _ => trivial)
      have hcv9 : ∀ z, Below w9.heap.size w9 z → (convert 42 9 (.slice (some ⟨gv, 0, none⟩) 256 c9)).run Try.prog z = .ok (str X) z := fun z hz => conv_is (hB9.grow hz)
      have hmk := Hmk.out
      have hcvZ := HcvZ.out
      have hc91 : ¬ c9 = 1 := by omega
      unfold maxLen at hc9m
      clear hov hov' hb9 hb05 hB9
      go_wp2_with fail
      go_region_held (fun u => Below w9.heap.size w9 u) (first | assumption | exact below_then_drew (Below.refl _ _) | exact below_then_drew ((Below.refl _ _).alloc (Nat.le_refl _) _))
        (first | (go_at_call 22; refine (write_bad _ _ _ _ i _ _ _ _ (Hdev9.out.grow (by assumption)) Hwhy.out (by decide)).mono ?_; rintro e w' ⟨rfl, rfl⟩) | (go_at_call 17; refine (changes_any _ _ _ _ _ (Hdev9.out.grow (by assumption))).mono ?_; rintro e w' ⟨rfl, rfl⟩; rw [show (newD k).changes = 0 from rfl]))
      all_goals go_wp2
      all_goals go_ret
      all_goals exact ⟨by simp, below_call hb09 (by assumption)⟩
    · have Hwhy := Lib.hid (why_new' k i (by omega))
      by_cases hz : i < 0
      all_goals
        go_enter Try.func7, Try.ntmps7
        go_wp2_with fail
        refine (lives_any _).mono ?_
        rintro e w1 ⟨rfl, hb1⟩
        go_wp2_with fail
        refine (new_ok k _ hk3 hk4).mono ?_
        rintro e w2 ⟨g, F, rfl, hdev, hb2⟩
        have hb02 := below_call hb1 hb2
        have Hdev := Lib.hid hdev
        clear hb1 hb2 hdev
        go_wp2_with fail
        refine (read_nil i _).mono ?_
        rintro e w' ⟨rfl, rfl⟩
        go_wp2_with fail
        refine (full_any 1 [] _).mono ?_
        rintro e w3 ⟨g2, rfl, hg2, hbl2, hb3⟩
        have hb03 := below_call hb02 hb3
        have Hdev3 := Lib.hid (Hdev.out.grow hb3)
        clear hbl2 hb3 hb02
        go_wp2_with fail
        refine (write_nil i _ _).mono ?_
        rintro e w' ⟨rfl, rfl⟩
        go_wp2_with fail
        refine (barrier_nil _).mono ?_
        rintro e w' ⟨rfl, rfl⟩
        go_wp2_with fail
        refine (on_nil _).mono ?_
        rintro e w' ⟨rfl, rfl⟩
        go_wp2_with fail
        refine (off_nil _).mono ?_
        rintro e w' ⟨rfl, rfl⟩
        go_wp2_with fail
        refine (loose_nil _).mono ?_
        rintro e w' ⟨rfl, rfl⟩
        go_wp2_with fail
        refine (changes_nil _).mono ?_
        rintro e w' ⟨rfl, rfl⟩
        go_wp2_with fail
        refine (size_nil _).mono ?_
        rintro e w' ⟨rfl, rfl⟩
        go_wp2_with fail
        refine (plan_nil _ _ _ _ _).mono ?_
        rintro e w4 ⟨rfl, hb4⟩
        have hb04 := below_call hb03 hb4
        have Hdev4 := Lib.hid (Hdev3.out.grow hb4)
        clear hb03 hb4
        go_wp2_with fail
        refine (cut_nil _ _ _ _).mono ?_
        rintro e w5 ⟨rfl, hb5⟩
        have hb05 := below_call hb04 hb5
        have Hdev5 := Lib.hid (Hdev4.out.grow hb5)
        clear hb04 hb5
        go_wp2_with fail
        refine (read_any _ _ _ _ i _ Hdev5.out).mono ?_
        rintro e w' hrd
        rcases hrd with ⟨_, rfl, rfl⟩ | ⟨h0, _⟩
        rotate_left
        · rw [Hwhy.out] at h0; cases h0
        rw [Hwhy.out]
        go_wp2_with fail
        refine (full_any 1 [] _).mono ?_
        rintro e w6 ⟨g6, rfl, hg6, hbl6, hb6⟩
        have hb06 := below_call hb05 hb6
        have Hdev6 := Lib.hid (Hdev5.out.grow hb6)
        clear hbl6 hb6 hb05
        go_wp2_with fail
        refine (write_why _ _ _ _ i _ _ Hdev6.out (by rw [Hwhy.out]; decide)).mono ?_
        rintro e w' ⟨rfl, rfl⟩
        rw [Hwhy.out]
        go_wp2_with fail
        refine (changes_any _ _ _ _ _ Hdev6.out).mono ?_
        rintro e w' ⟨rfl, rfl⟩
        rw [show (newD k).changes = 0 from rfl]
        go_wp2_with fail
        go_ret
        exact ⟨by simp, hb06⟩
end Go.Proofs.Ytodcjhkleiibfaa
