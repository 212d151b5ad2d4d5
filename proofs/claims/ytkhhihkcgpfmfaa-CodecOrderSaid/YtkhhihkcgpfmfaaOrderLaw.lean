/-
  The walk of CodecOrder.
-/
import Derived.Test.YtkhhihkcgpfmfaaLives01
import Derived.Test.YtkhhihkcgpfmfaaNum
import Derived.Test.YtkhhihkcgpfmfaaOrderMath
import Derived.Deep.RegionWith
import Derived.WalkSpells
import Derived.WalkLawsBesides
namespace Go.Proofs.Ytkhhihkcgpfmfaa
open Go.RowKit
set_option maxRecDepth 100000

/-- The conversion of bytes to a text, in whatever later world. -/
theorem conv_later {ok : Nat → Prop} {A : Option Addr} {c : Nat} {l : List UInt8} {w : World} (h : Rd w ok A (l.map u8)) : ∀ u : World, Below w.heap.size w u → (convert 23 9 (.slice A l.length c)).run Try.prog u = .ok (str l) u :=
  fun _ hb => run_bytes_str _ _ _ Try.underlying23 Try.underlying5 Try.underlying9 (h.grow hb)

theorem below_twice {B : Nat} {w w1 w2 w3 : World} (h1 : Below B w w1) (hB : Below w1.drew.heap.size w1.drew w2) (h3 : Below w2.heap.size w2 w3) (hle : B ≤ w1.heap.size) : Below B w w3 :=
  (h1.drew.trans (hB.mono hle)).trans (h3.mono (Nat.le_trans hle hB.size))

set_option maxHeartbeats 1000000 in
theorem codecorder_walk (a b : Nat) (ha : a < 18446744073709551616) (hb : b < 18446744073709551616) (w : World) :
    Calls Try.prog 7 #[.int .u64 (a : Int), .int .u64 (b : Int)] w fun e w' => e = .returned (.bool true) ∧ Below w.heap.size w w' := by
  have hla := numLen_le a (by omega)
  have hlb := numLen_le b (by omega)
  rw [← numB_length] at hla hlb
  have F1 : (numB a == numB b) = ((a : Int) == (b : Int)) := by
    rw [Bool.eq_iff_iff, beq_iff_eq, beq_iff_eq]
    constructor
    · intro h; rw [numB_inj a b (by omega) (by omega) h]
    · intro h; rw [show a = b by omega]
  have hlt : ((numB a).length < (numB b).length ∨ (numB a).length = (numB b).length ∧ Op.bytesLess (numB a) (numB b) = true) ↔ a < b := by
    constructor
    · rintro (h | ⟨h, h'⟩)
      · rcases Nat.lt_or_ge a b with h' | h'
        · exact h'
        · have hm := numLen_mono b a h' (by omega)
          rw [← numB_length, ← numB_length] at hm
          omega
      · rw [numB_less a b (by omega) (by omega) (by rw [← numB_length, ← numB_length]; exact h)] at h'
        exact of_decide_eq_true h'
    · intro h
      have hm := numLen_mono a b (by omega) (by omega)
      rw [← numB_length, ← numB_length] at hm
      rcases Nat.lt_or_ge (numB a).length (numB b).length with h' | h'
      · exact .inl h'
      · refine .inr ⟨by omega, ?_⟩
        rw [numB_less a b (by omega) (by omega) (by rw [← numB_length, ← numB_length]; omega)]
        exact decide_eq_true h
  have F2 : ((numB a).length : Int) = ((numB b).length : Int) → (decide ((numB a).length < (numB b).length) || Op.bytesLess (numB a) (numB b)) = decide (a < b) := by
    intro h
    have h' : (numB a).length = (numB b).length := by omega
    rw [Bool.eq_iff_iff, decide_eq_true_iff, ← hlt]
    simp [h']
  have F3 : ¬ ((numB a).length : Int) = ((numB b).length : Int) → ((numB a).length < (numB b).length ↔ a < b) := by
    intro h
    have h' : ¬ (numB a).length = (numB b).length := by omega
    rw [← hlt]
    simp [h']
  have F4 : (numB a).length < (numB b).length → a < b := fun h => hlt.1 (.inl h)
  clear hlt
  have h8a : decide (((numB a).length : Int) ≤ 8) = true := decide_eq_true (by omega)
  have h8b : decide (((numB b).length : Int) ≤ 8) = true := decide_eq_true (by omega)
  go_enter Try.func7, Try.ntmps7
  go_wp2_with fail
  refine (lives_any _).mono ?_
  rintro e w1 ⟨rfl, hb1⟩
  go_wp2_with fail
  have hrefl : ∀ B (u : World), Below B u u := Below.refl
  go_region_with (go_at_call 10; (first | ((with_reducible refine (num_any a ha _).mono ?_)) | ((with_reducible refine (num_any b hb _).mono ?_))); rintro e w' ⟨x, rfl, hx, hb'⟩; obtain ⟨Ax, cx, rfl, _, _, hr⟩ := hx.isB; have hcv := conv_later (c := cx) hr; clear hx hr)
  all_goals go_wp2_with fail
  all_goals go_ret
  all_goals (first | (exact ⟨rfl, below_twice hb1 (by assumption) hb' hb1.size⟩) | (exfalso; omega) | (exact absurd F1 (by assumption)) | (exact absurd (F2 (by assumption)) (by assumption)) | (exact absurd (F3 (by assumption)) (by assumption)) | (exact absurd (F4 (Nat.lt_of_not_le (by assumption))) (by assumption)))
end Go.Proofs.Ytkhhihkcgpfmfaa
