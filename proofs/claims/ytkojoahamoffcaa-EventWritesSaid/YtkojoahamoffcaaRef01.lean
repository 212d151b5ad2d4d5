/-
  wardshipref01.Num and Field: the bytes of a number, and a field as it lies, as texts.
-/
import Derived.Test.YtkojoahamoffcaaBytes
import Derived.Test.YtkojoahamoffcaaNumMath
import Derived.Test.YtkojoahamoffcaaCodMath
import Derived.Lib.Hide
import Derived.Deep.RegionWith
import Derived.WalkSpells
namespace Go.Proofs.Ytkojoahamoffcaa
open Go.RowKit

set_option maxHeartbeats 400000 in
theorem refnum_any (k : Nat) : ∀ (N : Nat) (w : World), numLen N ≤ k → N < 18446744073709551616 →
    Calls Try.prog 35 #[.int .u64 (N : Int)] w fun e w' => e = .returned (str (numB N)) ∧ Below w.heap.size w w' := by
  induction k with
  | zero =>
    intro N w hk hN
    have h0 : N = 0 := by
      rcases Nat.eq_zero_or_pos N with h | h
      · exact h
      · have := numLen_step N (by omega) (by omega); omega
    subst h0
    go_enter Try.func35, Try.ntmps35
    go_wp2_with fail
    go_ret
    exact ⟨by rw [numB_zero]; rfl, Below.refl _ _⟩
  | succ k ih =>
    intro N w hk hN
    by_cases h0 : N = 0
    · subst h0
      go_enter Try.func35, Try.ntmps35
      go_wp2_with fail
      go_ret
      exact ⟨by rw [numB_zero]; rfl, Below.refl _ _⟩
    · have hb : ((N : Int) == 0) = false := by simpa using h0
      have hl := numLen_step N h0 (by omega)
      have ih' : ∀ w : World, Calls Try.prog 35 #[.int .u64 ((N : Int) / 256)] w fun e w' => e = .returned (str (numB (N / 256))) ∧ Below w.heap.size w w' := fun w => ih (N / 256) w (by omega) (by omega)
      have e1 : IntKind.u64.wrap ((N : Int) / 256) = (N : Int) / 256 := IntWalk.u64_in _ (by omega)
      have e2 : (N : Int).tmod 256 = (N : Int) % 256 := Int.tmod_eq_emod_of_nonneg (by omega)
      have e3 : IntKind.u8.wrap ((N : Int) % 256) = (N : Int) % 256 := IntWalk.u8_in _ (by omega)
      go_enter Try.func35, Try.ntmps35
      go_wp2_with fail
      have hadd : ∀ u : World, (Op.stringOp .add ⟨(numB (N / 256)).toArray⟩ ⟨[UInt8.ofNat (N % 256)].toArray⟩).run Try.prog u = .ok (str (numB N)) u := fun u => by
        rw [run_str_add u _ _ (by have := numB_length (N / 256); have := numLen_le (N / 256) (by omega); simp only [List.length_singleton]; omega), ← numB_step N h0 (by omega)]
      have hcv : ∀ (u : World) (b : Nat), u.cell? ⟨b, 0, none⟩ = some (.int .u8 ((N : Int) % 256)) → (convert 34 9 (.slice (some ⟨b, 0, none⟩) 1 1)).run Try.prog u = .ok (str [UInt8.ofNat (N % 256)]) u := fun u b hu =>
        run_bytes_str (c := 1) (l := [UInt8.ofNat (N % 256)]) _ _ _ Try.underlying34 Try.underlying5 Try.underlying9 (ok := fun _ => True) (fun _ => ⟨_, rfl, trivial, fun j v hj => by
          match j, hj with
          | 0, hj => simp only [List.map_cons, List.getElem?_cons_zero, Option.some.injEq] at hj; subst hj; rw [u8_ofNat]; exact hu⟩)
      go_region_with (go_at_call 35; refine (ih' _).mono ?_; rintro e w' ⟨rfl, hw⟩; obtain ⟨hc, hf⟩ := bcell hw)
      all_goals go_wp2
      all_goals go_ret
      · exact ⟨rfl, (((Below.refl w.heap.size w).drew).trans hw).alloc hw.size _⟩
      · exact ⟨rfl, (((Below.refl w.heap.size w).drew).alloc (Nat.le_refl _) _).trans (hw.mono (by simp))⟩
      · exact ⟨rfl, (((Below.refl w.heap.size w).drew).alloc (Nat.le_refl _) _).trans (hw.mono (by simp))⟩

theorem refnum (N : Nat) (w : World) (hN : N < 18446744073709551616) :
    Calls Try.prog 35 #[.int .u64 (N : Int)] w fun e w' => e = .returned (str (numB N)) ∧ Below w.heap.size w w' :=
  refnum_any _ N w (Nat.le_refl _) hN
set_option maxRecDepth 100000

theorem conv_new (w : World) (l : List UInt8) (cs : List Value) (n c : Nat) (hcs : cs = l.map u8) (hn : n = l.length) :
    (convert 34 9 (.slice (some ⟨w.heap.size, 0, none⟩) n c)).run Try.prog (w.alloc (.cells cs.toArray 5)) = .ok (str l) (w.alloc (.cells cs.toArray 5)) := by
  subst hcs
  subst hn
  exact run_bytes_str _ _ _ Try.underlying34 Try.underlying5 Try.underlying9 ((Blk.new w 5 (l.map u8).toArray).rd (fun _ => True) trivial)

theorem reffield_any (f : List UInt8) (w : World) (hf : f.length ≤ 65535) :
    Calls Try.prog 56 #[str f] w fun e w' => e = .returned (.tuple #[str (fieldB f), .bool true]) ∧ Below w.heap.size w w' := by
  by_cases h : f.length < 255
  · have hl2 : lenB f.length = [UInt8.ofNat (f.length % 256)] := by rw [lenB, if_pos h, Nat.mod_eq_of_lt (by omega)]
    have hv : fieldB f = [UInt8.ofNat (f.length % 256)] ++ f := by rw [fieldB, hl2]
    have hcv := conv_new w [UInt8.ofNat (f.length % 256)] [.int .u8 (f.length : Int)] 1 1 (by rw [List.map_singleton, u8_ofNat, Int.emod_eq_of_lt (by omega) (by omega)]) rfl
    have hadd : ∀ u : World, (Op.stringOp .add ⟨[UInt8.ofNat (f.length % 256)].toArray⟩ ⟨f.toArray⟩).run Try.prog u = .ok (str (fieldB f)) u := fun u => by
      rw [run_str_add u _ _ (by simp only [List.length_singleton]; omega), hv]
    clear hv hl2
    go_enter Try.func56, Try.ntmps56
    go_wp2_with fail
    go_ret2
    exact ⟨rfl, (Below.refl _ _).alloc (Nat.le_refl _) _⟩
  · have hl2 : lenB f.length = [255, UInt8.ofNat (f.length / 256 % 256), UInt8.ofNat (f.length % 256)] := by rw [lenB, if_neg h]
    have hv : fieldB f = [255, UInt8.ofNat (f.length / 256 % 256), UInt8.ofNat (f.length % 256)] ++ f := by rw [fieldB, hl2]
    have hcv := conv_new w [255, UInt8.ofNat (f.length / 256 % 256), UInt8.ofNat (f.length % 256)] [.int .u8 255, .int .u8 ((f.length : Int) / 256), .int .u8 ((f.length : Int) % 256)] 3 3
      (by rw [List.map_cons, List.map_cons, List.map_singleton, u8_ofNat, u8_ofNat, show ((f.length / 256 : Nat) : Int) % 256 = (f.length : Int) / 256 from by omega]; rfl) rfl
    have hadd : ∀ u : World, (Op.stringOp .add ⟨[255, UInt8.ofNat (f.length / 256 % 256), UInt8.ofNat (f.length % 256)].toArray⟩ ⟨f.toArray⟩).run Try.prog u = .ok (str (fieldB f)) u := fun u => by
      rw [run_str_add u _ _ (by simp only [List.length_cons, List.length_nil]; omega), hv]
    clear hv hl2
    go_enter Try.func56, Try.ntmps56
    go_wp2_with fail
    go_ret2
    exact ⟨rfl, (Below.refl _ _).alloc (Nat.le_refl _) _⟩

end Go.Proofs.Ytkojoahamoffcaa
