/-
  The walk of VersionBytes.
-/
import Derived.Test.YtnbaaccodgohoaaVeLives
import Derived.Test.YtnbaaccodgohoaaVeBytesR
namespace Go.Proofs.Ytnbaaccodgohoaa
open Go.RowKit
set_option maxRecDepth 100000

set_option maxHeartbeats 1000000 in
theorem versionbytes_any (d : List UInt8) (off : Int) (s : List UInt8) (w : World) (ho : off ≤ 9223372036854775807) :
    Calls Try.prog 3 #[str d, .int .i64 off, str s] w fun e w' => e = .returned (.bool true) ∧ Below w.heap.size w w' := by
  have Hl := Lib.hid fun z => lives11_any z
  by_cases hd : 500 < d.length
  · have hd' : decide ((500 : Int) < (d.length : Int)) = true := decide_eq_true (by omega)
    clear ho
    go_enter Try.func3, Try.ntmps3
    go_upto_region 2 with (go_at_call 8; go_must (refine (Hl.out _).mono ?_; rintro e1 w1 ⟨rfl, hb1⟩))
    go_wp2_with (go_at_call 8; go_must (refine (Hl.out _).mono ?_; rintro e2 w2 ⟨rfl, hb2⟩))
    go_ret
    exact ⟨rfl, below_call hb1 hb2⟩
  · have hd' : decide ((500 : Int) < (d.length : Int)) = false := decide_eq_false (by omega)
    by_cases hs : 500 < s.length
    · have hs' : decide ((500 : Int) < (s.length : Int)) = true := decide_eq_true (by omega)
      clear ho
      go_enter Try.func3, Try.ntmps3
      go_upto_region 2 with (go_at_call 8; go_must (refine (Hl.out _).mono ?_; rintro e1 w1 ⟨rfl, hb1⟩))
      go_wp2_with (go_at_call 8; go_must (refine (Hl.out _).mono ?_; rintro e2 w2 ⟨rfl, hb2⟩))
      go_ret
      exact ⟨rfl, below_call hb1 hb2⟩
    · have hs' : decide ((500 : Int) < (s.length : Int)) = false := decide_eq_false (by omega)
      obtain ⟨P, hP⟩ : ∃ P, P = patchV d off s := ⟨_, rfl⟩
      obtain ⟨Q, hQ⟩ : ∃ Q, Q = cutV d off := ⟨_, rfl⟩
      have h1 := fun z => patch_any d off s z (by omega) (by omega) ho
      have h2 := fun z => refpatch_any d off s z (by omega) (by omega)
      have h3 := fun z => cut_any d off z
      have h4 := fun z => refcut_any d off z (by omega)
      rw [← hP] at h1 h2
      rw [← hQ] at h3 h4
      have H1 := Lib.hid h1
      have H2 := Lib.hid h2
      have H3 := Lib.hid h3
      have H4 := Lib.hid h4
      clear h1 h2 h3 h4 hP hQ ho
      go_enter Try.func3, Try.ntmps3
      go_wp2_with (first | (go_at_call 8; go_must (refine (Hl.out _).mono ?_; rintro e1 w1 ⟨rfl, hb1⟩)) | (go_at_call 9; go_must (refine (H1.out _).mono ?_; rintro e2 w2 ⟨rfl, hb2⟩)) | (go_at_call 10; go_must (refine (H2.out _).mono ?_; rintro e3 w3 ⟨rfl, hb3⟩)) | (go_at_call 11; go_must (refine (H3.out _).mono ?_; rintro e4 w4 ⟨rfl, hb4⟩)) | (go_at_call 12; go_must (refine (H4.out _).mono ?_; rintro e5 w5 ⟨rfl, hb5⟩)))
      go_ret
      exact ⟨rfl, below_call (below_call (below_call (below_call hb1 hb2) hb3) hb4) hb5⟩
theorem versionbytes_walk (d : List UInt8) (off : Int) (s : List UInt8) (w : World) (_ : d.length ≤ maxLen) (h : -9223372036854775808 ≤ off ∧ off ≤ 9223372036854775807) (_ : s.length ≤ maxLen) :
    Calls Try.prog 3 #[str d, .int .i64 off, str s] w fun e w' => e = .returned (.bool true) ∧ Below w.heap.size w w' := versionbytes_any d off s w h.2
end Go.Proofs.Ytnbaaccodgohoaa
