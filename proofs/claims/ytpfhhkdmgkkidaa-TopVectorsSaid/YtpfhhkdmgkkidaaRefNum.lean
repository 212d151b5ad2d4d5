/-
  wardshipref01.Num: the bytes of a number, as a text.
-/
import Derived.Test.YtpfhhkdmgkkidaaBytes
import Derived.Test.YtpfhhkdmgkkidaaNumMath
import Derived.Lib.Hide
import Derived.Deep.RegionWith
import Derived.WalkSpells
namespace Go.Proofs.Ytpfhhkdmgkkidaa
open Go.RowKit

set_option maxHeartbeats 400000 in
theorem refnum_any (k : Nat) : ∀ (N : Nat) (w : World), numLen N ≤ k → N < 18446744073709551616 →
    Calls Try.prog 20 #[.int .u64 (N : Int)] w fun e w' => e = .returned (str (numB N)) ∧ Below w.heap.size w w' := by
  induction k with
  | zero =>
    intro N w hk hN
    have h0 : N = 0 := by
      rcases Nat.eq_zero_or_pos N with h | h
      · exact h
      · have := numLen_step N (by omega) (by omega); omega
    subst h0
    go_enter Try.func20, Try.ntmps20
    go_wp2_with fail
    go_ret
    exact ⟨by rw [numB_zero]; rfl, Below.refl _ _⟩
  | succ k ih =>
    intro N w hk hN
    by_cases h0 : N = 0
    · subst h0
      go_enter Try.func20, Try.ntmps20
      go_wp2_with fail
      go_ret
      exact ⟨by rw [numB_zero]; rfl, Below.refl _ _⟩
    · have hb : ((N : Int) == 0) = false := by simpa using h0
      have hl := numLen_step N h0 (by omega)
      have ih' : ∀ w : World, Calls Try.prog 20 #[.int .u64 ((N : Int) / 256)] w fun e w' => e = .returned (str (numB (N / 256))) ∧ Below w.heap.size w w' := fun w => ih (N / 256) w (by omega) (by omega)
      have e1 : IntKind.u64.wrap ((N : Int) / 256) = (N : Int) / 256 := IntWalk.u64_in _ (by omega)
      have e2 : (N : Int).tmod 256 = (N : Int) % 256 := Int.tmod_eq_emod_of_nonneg (by omega)
      have e3 : IntKind.u8.wrap ((N : Int) % 256) = (N : Int) % 256 := IntWalk.u8_in _ (by omega)
      go_enter Try.func20, Try.ntmps20
      go_wp2_with fail
      have hadd : ∀ u : World, (Op.stringOp .add ⟨(numB (N / 256)).toArray⟩ ⟨[UInt8.ofNat (N % 256)].toArray⟩).run Try.prog u = .ok (str (numB N)) u := fun u => by
        rw [run_str_add u _ _ (by have := numB_length (N / 256); have := numLen_le (N / 256) (by omega); simp only [List.length_singleton]; omega), ← numB_step N h0 (by omega)]
      have hcv : ∀ (u : World) (b : Nat), u.cell? ⟨b, 0, none⟩ = some (.int .u8 ((N : Int) % 256)) → (convert 26 9 (.slice (some ⟨b, 0, none⟩) 1 1)).run Try.prog u = .ok (str [UInt8.ofNat (N % 256)]) u := fun u b hu =>
        run_bytes_str (c := 1) (l := [UInt8.ofNat (N % 256)]) _ _ _ Try.underlying26 Try.underlying5 Try.underlying9 (ok := fun _ => True) (fun _ => ⟨_, rfl, trivial, fun j v hj => by
          match j, hj with
          | 0, hj => simp only [List.map_cons, List.getElem?_cons_zero, Option.some.injEq] at hj; subst hj; rw [u8_ofNat]; exact hu⟩)
      go_region_with (go_at_call 20; refine (ih' _).mono ?_; rintro e w' ⟨rfl, hw⟩; obtain ⟨hc, hf⟩ := bcell hw)
      all_goals go_wp2
      all_goals go_ret
      · exact ⟨rfl, (((Below.refl w.heap.size w).drew).trans hw).alloc hw.size _⟩
      · exact ⟨rfl, (((Below.refl w.heap.size w).drew).alloc (Nat.le_refl _) _).trans (hw.mono (by simp))⟩
      · exact ⟨rfl, (((Below.refl w.heap.size w).drew).alloc (Nat.le_refl _) _).trans (hw.mono (by simp))⟩

theorem refnum (N : Nat) (w : World) (hN : N < 18446744073709551616) :
    Calls Try.prog 20 #[.int .u64 (N : Int)] w fun e w' => e = .returned (str (numB N)) ∧ Below w.heap.size w w' :=
  refnum_any _ N w (Nat.le_refl _) hN
end Go.Proofs.Ytpfhhkdmgkkidaa
