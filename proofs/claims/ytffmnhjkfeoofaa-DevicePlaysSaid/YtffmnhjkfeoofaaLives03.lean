/-
  wardshiplaw03.lives.
-/
import Derived.Test.YtffmnhjkfeoofaaDevNew
import Derived.Test.YtffmnhjkfeoofaaDevWrite
import Derived.Test.YtffmnhjkfeoofaaDevBarrier
import Derived.Test.YtffmnhjkfeoofaaDevFull
import Derived.Test.YtffmnhjkfeoofaaQuiet
namespace Go.Proofs.Ytffmnhjkfeoofaa
open Go.RowKit
set_option maxRecDepth 100000

theorem isB_full {w : World} {g : Nat} {c : UInt8} {l : List UInt8} (h : Blk w g 5 ((fullB c l).map u8).toArray) : IsB w (fun k => k = g) (.slice (some ⟨g, 0, none⟩) 256 256) (fullB c l) := by
  refine ⟨_, 256, by rw [fullB_length], by rw [fullB_length]; omega, by unfold maxLen; omega, ?_⟩
  have := h.rd (fun k => k = g) rfl
  simpa using this
/-- The device of lives, step by step. -/
def dl1 : Dev := ((newD 2).put 1 (fullB 120 [])).1
def dl2 : Dev := dl1.barrier.1
def dl3 : Dev := (dl2.put 1 (fullB 121 [])).1
def dl4 : Dev := dl3.cut ⟨[], 0, 2⟩
def dl5 : Dev := { dl4 with off := false }
theorem dl1_ok : ((newD 2).put 1 (fullB 120 [])).2 = 0 := by decide +kernel
theorem dl2_ok : dl1.barrier.2 = 0 := by decide +kernel
theorem dl3_ok : (dl2.put 1 (fullB 121 [])).2 = 0 := by decide +kernel
theorem dl4_off : dl4.off = true := by decide +kernel
theorem dl5_why : dl5.why 1 = 0 := by decide +kernel
theorem dl5_now : dl5.now 1 = fullB 120 [121, 121] := by decide +kernel
theorem dl_few : (newD 2).changes ≤ 5 ∧ (newD 2).loose.length ≤ 5 ∧ dl1.changes ≤ 5 ∧ dl1.loose.length ≤ 5 ∧ dl2.changes ≤ 5 ∧ dl2.loose.length ≤ 5 ∧ dl3.loose.length ≤ 5 := by decide +kernel

theorem conv_is {w : World} {ok : Nat → Prop} {A : Option Addr} {n c : Nat} {l : List UInt8} (h : IsB w ok (.slice A n c) l) : (convert 42 9 (.slice A n c)).run Try.prog w = .ok (str l) w := by
  obtain ⟨A', c', e, _, _, hr⟩ := h
  cases e
  exact run_bytes_str 42 9 5 Try.underlying42 Try.underlying5 Try.underlying9 hr

set_option maxHeartbeats 1000000 in
theorem lives_any (w : World) : Calls Try.prog 9 #[] w fun e w' => e = .returned (.bool true) ∧ Below w.heap.size w w' := by
  obtain ⟨f1, f2, f3, f4, f5, f6, f7⟩ := dl_few
  go_enter Try.func9, Try.ntmps9
  go_wp2_with fail
  refine (new_ok 2 _ (by omega) (by omega)).mono ?_
  rintro e w1 ⟨g, F1, rfl, hd1, hb1⟩
  have Hd1 := Lib.hid hd1
  have Hb1 := Lib.hid hb1
  have hs1 := hb1.size
  clear hd1 hb1
  go_wp2_with fail
  refine (full_any 120 [] _).mono ?_
  rintro e w2 ⟨g2, rfl, hg2, hbl2, hb2⟩
  have hd2 := Hd1.out.grow hb2
  have hb02 := below_call Hb1.out hb2
  have Hd2 := Lib.hid hd2
  have Hbl2 := Lib.hid hbl2
  have Hb02 := Lib.hid hb02
  have hs2 := hb02.size
  clear hd2 hbl2 hb02 hb2
  go_wp2_with fail
  refine (write_any _ _ _ _ _ 1 _ _ _ Hd2.out (isB_full Hbl2.out) hs2 (by omega) (by omega)).mono ?_
  rintro e w3 ⟨rfl, F3, hd3, hf3⟩
  rw [dl1_ok]
  have hb03 := Hb02.out.trans (hf3.below (fun k hk => (Hd2.out.low k hk).1) hs2)
  have Hd3 := Lib.hid (show DevAt w3 w.heap.size F3 g dl1 from hd3)
  have Hb03 := Lib.hid hb03
  have hs3 := hb03.size
  clear hd3 hf3 hb03
  go_wp2_with fail
  refine (barrier_any _ _ _ dl1 _ Hd3.out (by omega) (by omega)).mono ?_
  rintro e w4 ⟨rfl, hd4, hf4⟩
  rw [dl2_ok]
  have hb04 := Hb03.out.trans (hf4.below (fun k hk => (Hd3.out.low k hk).1) hs3)
  have Hd4 := Lib.hid (show DevAt w4 w.heap.size F3 g dl2 from hd4)
  have Hb04 := Lib.hid hb04
  have hs4 := hb04.size
  clear hd4 hf4 hb04
  go_wp2_with fail
  refine (full_any 121 [] _).mono ?_
  rintro e w5 ⟨g5, rfl, hg5, hbl5, hb5⟩
  have hd5 := Hd4.out.grow hb5
  have hb05 := below_call Hb04.out hb5
  have Hd5 := Lib.hid hd5
  have Hbl5 := Lib.hid hbl5
  have Hb05 := Lib.hid hb05
  have hs5 := hb05.size
  clear hd5 hbl5 hb05 hb5
  go_wp2_with fail
  refine (write_any _ _ _ dl2 _ 1 _ _ _ Hd5.out (isB_full Hbl5.out) hs5 (by omega) (by omega)).mono ?_
  rintro e w6 ⟨rfl, F6, hd6, hf6⟩
  rw [dl3_ok]
  have hb06 := Hb05.out.trans (hf6.below (fun k hk => (Hd5.out.low k hk).1) hs5)
  have Hd6 := Lib.hid (show DevAt w6 w.heap.size F6 g dl3 from hd6)
  have Hb06 := Lib.hid hb06
  have hs6 := hb06.size
  clear hd6 hf6 hb06
  go_wp2_with fail
  refine (cut_any _ _ _ dl3 (fun _ => True) (.slice none 0 0) ⟨[], 0, 2⟩ _ Hd6.out IsL.nil (by omega)).mono ?_
  rintro e w7 ⟨rfl, hd7, hf7⟩
  have hb07 := Hb06.out.trans (hf7.below (fun k hk => (Hd6.out.low k hk).1) hs6)
  have Hd7 := Lib.hid (show DevAt w7 w.heap.size F6 g dl4 from hd7)
  have Hb07 := Lib.hid hb07
  have hs7 := hb07.size
  clear hd7 hf7 hb07
  go_wp2_with fail
  refine (off_any _ _ _ dl4 _ Hd7.out).mono ?_
  rintro e w' ⟨rfl, rfl⟩
  rw [dl4_off]
  go_wp2_with fail
  refine (on_any _ _ _ dl4 _ Hd7.out).mono ?_
  rintro e w8 ⟨rfl, hd8, hf8⟩
  rw [dl4_off]
  have hb08 := Hb07.out.trans (hf8.below (fun k hk => (Hd7.out.low k hk).1) hs7)
  have Hd8 := Lib.hid (show DevAt w8 w.heap.size F6 g dl5 from hd8)
  have Hb08 := Lib.hid hb08
  have hs8 := hb08.size
  clear hd8 hf8 hb08
  go_wp2_with fail
  refine (read_any _ _ _ dl5 1 _ Hd8.out).mono ?_
  rintro e w9 hrd
  rcases hrd with ⟨hno, _⟩ | ⟨_, v, rfl, hov, hb9⟩
  · exact absurd dl5_why hno
  rw [show (1 : Int).toNat = 1 from rfl, dl5_now] at hov
  have hb09 := below_call Hb08.out hb9
  obtain ⟨A9, c9, hv9, _, _, _⟩ := hov.form
  rw [List.length_map, fullB_length] at hv9
  subst hv9
  have hB9 := hov.isB
  have Hb09 := Lib.hid hb09
  have HB9 := Lib.hid hB9
  clear hov hb9 hb09 hB9
  go_wp2_with fail
  obtain ⟨X, hX⟩ : ∃ X, X = fullB 120 [121, 121] := ⟨_, rfl⟩
  have hcv9 : ∀ z, Below w9.heap.size w9 z → (convert 42 9 (.slice A9 256 c9)).run Try.prog z = .ok (str X) z := fun z hz => by rw [hX]; exact conv_is (HB9.out.grow hz)
  have HX := Lib.hid hX
  clear hX
  go_region_held (fun u => Below w9.heap.size w9 u) (first | assumption | exact below_then_drew (Below.refl _ _) | exact below_call (by assumption) hbb) ((go_at_call 37; refine (full_any 120 [121, 121] _).mono ?_; rintro e wb ⟨gb, rfl, hgb, hblb, hbb⟩; have hcvb := conv_is (isB_full hblb); rw [← HX.out] at hcvb))
  all_goals go_wp2
  all_goals go_ret
  all_goals exact ⟨by simp, below_call Hb09.out (by assumption)⟩
end Go.Proofs.Ytffmnhjkfeoofaa
