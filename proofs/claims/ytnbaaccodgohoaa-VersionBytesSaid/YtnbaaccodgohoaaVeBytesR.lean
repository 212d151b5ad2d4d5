/-
  The document's zeros, Patch, Cut.
-/
import Derived.Test.YtnbaaccodgohoaaVeBytes
import Derived.Test.YtnbaaccodgohoaaRegions
namespace Go.Proofs.Ytnbaaccodgohoaa
open Go.RowKit
set_option maxRecDepth 100000

theorem ext_list (b : List UInt8) (lo hi : Nat) : (⟨b.toArray⟩ : ByteArray).extract lo hi = ⟨((b.take hi).drop lo).toArray⟩ := by
  apply ByteArray.ext
  simp only [ByteArray.data_extract]
  apply Array.toList_inj.1
  rw [Array.toList_extract]
  simp [List.drop_take]
theorem zeros_any (n : Int) (hn : n ≤ 1000) (w : World) :
    Calls Try.prog 29 #[.int .i64 n] w fun e w' => e = .returned (str (List.replicate n.toNat 0)) ∧ w = w' := by
  go_enter Try.func29, Try.ntmps29
  go_wp2_with fail
  go_loopw [3, 4] (fun s i wr => ∃ k : Nat, (k ≤ n.toNat) ∧ s = str (List.replicate k 0) ∧ i = .int .i64 (k : Int) ∧ wr = w) (fun _ i _ => n.toNat - (intOf i).toNat)
  case atStart => exact ⟨0, by omega, rfl, rfl, rfl⟩
  case round =>
    obtain ⟨k, hk, rfl, rfl, rfl⟩ := hrel
    by_cases hlt : (k : Int) < n
    · have hadd := fun z : World => run_str_add (P := Try.prog) z (List.replicate k 0) [0] (by simp; omega)
      rw [← List.replicate_succ'] at hadd
      have hd : decide ((k : Int) < n) = true := decide_eq_true hlt
      obtain ⟨Z, hZ⟩ : ∃ Z : List UInt8, Z = List.replicate k 0 := ⟨_, rfl⟩
      rw [← hZ] at hadd ⊢
      obtain ⟨Z2, hZ2⟩ : ∃ Z : List UInt8, Z = List.replicate (k + 1) 0 := ⟨_, rfl⟩
      rw [← hZ2] at hadd
      have HZ2 := Lib.hid hZ2
      clear hZ hZ2
      go_wp2_with fail
      go_roundw
      case rel => exact ⟨k + 1, by omega, by rw [← HZ2.out], by go_num, (by trivial)⟩
      case measure => simp [intOf]; omega
    · have hd : decide ((k : Int) < n) = false := decide_eq_false hlt
      obtain rfl : k = n.toNat := by omega
      go_wp2_with fail
      go_ret
      exact ⟨rfl, (by trivial)⟩
theorem sized_zeros (d : List UInt8) (n : Nat) : (d ++ List.replicate ((n : Int) - (d.length : Int)).toNat 0).take n = sizedB d n := by
  unfold sizedB
  rw [List.take_append]
  congr 1
  rw [List.take_of_length_le (by rw [List.length_replicate]; omega)]
  congr 1
  omega
theorem sized_zeros2 (d : List UInt8) (n : Nat) : d ++ List.replicate ((n : Int) - (d.length : Int)).toNat 0 = sizedB d (max d.length n) := by
  unfold sizedB
  rw [List.take_of_length_le (by omega)]
  congr 2
  omega

theorem refcut_any (d : List UInt8) (n : Int) (w : World) (hd : d.length ≤ 1000) :
    Calls Try.prog 12 #[str d, .int .i64 n] w fun e w' => e = .returned (.tuple #[str (cutV d n).1, .int .i64 (cutV d n).2]) ∧ Below w.heap.size w w' := by
  obtain ⟨R, hR⟩ : ∃ R, R = cutV d n := ⟨_, rfl⟩
  rw [← hR]
  by_cases h0 : n < 0
  · have hR2 : R = ([], 4) := by rw [hR]; unfold cutV; rw [if_pos (.inl h0)]
    subst hR2
    clear hR
    go_enter Try.func12, Try.ntmps12
    go_wp2_with fail
    go_ret2
    exact ⟨rfl, Below.refl _ _⟩
  · by_cases h1 : 200 < n
    · have hR2 : R = ([], 4) := by rw [hR]; unfold cutV; rw [if_pos (.inr h1)]
      subst hR2
      clear hR
      go_enter Try.func12, Try.ntmps12
      go_wp2_with fail
      go_ret2
      exact ⟨rfl, Below.refl _ _⟩
    · obtain ⟨m, rfl⟩ : ∃ m : Nat, n = (m : Int) := ⟨n.toNat, by omega⟩
      have hm : m ≤ 200 := by omega
      have hR2 : R = (sizedB d m, 0) := by rw [hR]; unfold cutV; rw [if_neg (by omega), Int.toNat_natCast]
      obtain ⟨X, hX⟩ : ∃ X, X = d ++ List.replicate ((m : Int) - (d.length : Int)).toNat 0 := ⟨_, rfl⟩
      have hz := fun z : World => zeros_any ((m : Int) - (d.length : Int)) (by omega) z
      have hadd := fun z : World => run_str_add (P := Try.prog) z d (List.replicate ((m : Int) - (d.length : Int)).toNat 0) (by rw [List.length_replicate]; omega)
      rw [← hX] at hadd
      have hXt : X.take m = sizedB d m := by rw [hX]; exact sized_zeros d m
      have hXl : m ≤ X.length := by rw [hX, List.length_append, List.length_replicate]; omega
      have hex := ext_list X 0 m
      rw [List.drop_zero, hXt] at hex
      obtain ⟨Z, hZ⟩ : ∃ Z : List UInt8, Z = List.replicate ((m : Int) - (d.length : Int)).toNat 0 := ⟨_, rfl⟩
      rw [← hZ] at hadd hz
      have hsz : (m : Int) ≤ ((⟨X.toArray⟩ : ByteArray).size : Int) := by show (m : Int) ≤ (X.length : Int); omega
      have Hz := Lib.hid hz
      have HR := Lib.hid hR2
      clear hR hR2 hZ hX hz hXt
      go_enter Try.func12, Try.ntmps12
      go_wp2_with (go_at_call 29; go_must (refine (Hz.out _).mono ?_; rintro e1 w1 ⟨rfl, rfl⟩))
      go_ret2
      rw [HR.out]
      exact ⟨rfl, Below.refl _ _⟩

set_option maxHeartbeats 400000 in
theorem refpatch_any (d : List UInt8) (off : Int) (s : List UInt8) (w : World) (hs : s.length ≤ 1000) (hd : d.length ≤ 1000) :
    Calls Try.prog 10 #[str d, .int .i64 off, str s] w fun e w' => e = .returned (.tuple #[str (patchV d off s).1, .int .i64 (patchV d off s).2]) ∧ Below w.heap.size w w' := by
  obtain ⟨R, hR⟩ : ∃ R, R = patchV d off s := ⟨_, rfl⟩
  rw [← hR]
  by_cases h0 : off < 0
  · have hR2 : R = ([], 4) := by rw [hR]; unfold patchV; rw [if_pos (.inl h0)]
    subst hR2
    clear hR
    go_enter Try.func10, Try.ntmps10
    go_wp2_with fail
    go_ret2
    exact ⟨rfl, Below.refl _ _⟩
  · by_cases h1 : 200 < off
    · have hR2 : R = ([], 4) := by rw [hR]; unfold patchV; rw [if_pos (by omega)]
      subst hR2
      clear hR
      go_enter Try.func10, Try.ntmps10
      go_wp2_with fail
      go_ret2
      exact ⟨rfl, Below.refl _ _⟩
    · by_cases h2 : 200 < d.length
      · have hR2 : R = ([], 4) := by rw [hR]; unfold patchV; rw [if_pos (by omega)]
        have h2' : (200 : Int) < (d.length : Int) := by omega
        subst hR2
        clear hR
        go_enter Try.func10, Try.ntmps10
        go_wp2_with fail
        go_ret2
        exact ⟨rfl, Below.refl _ _⟩
      · have h2' : ¬ (200 : Int) < (d.length : Int) := by omega
        by_cases h3 : 200 < off + s.length
        · have hR2 : R = ([], 4) := by rw [hR]; unfold patchV; rw [if_pos (by omega)]
          subst hR2
          clear hR
          go_enter Try.func10, Try.ntmps10
          go_wp2_with fail
          go_ret2
          exact ⟨rfl, Below.refl _ _⟩
        · obtain ⟨m, rfl⟩ : ∃ m : Nat, off = (m : Int) := ⟨off.toNat, by omega⟩
          have hms : m + s.length ≤ 200 := by omega
          have hR2 : R = (putB d m s, 0) := by rw [hR]; unfold patchV; rw [if_neg (by omega), Int.toNat_natCast]
          obtain ⟨X, hX⟩ : ∃ X, X = d ++ List.replicate (((m + s.length : Nat) : Int) - (d.length : Int)).toNat 0 := ⟨_, rfl⟩
          have hz := fun z : World => zeros_any (((m + s.length : Nat) : Int) - (d.length : Int)) (by omega) z
          have hadd := fun z : World => run_str_add (P := Try.prog) z d (List.replicate (((m + s.length : Nat) : Int) - (d.length : Int)).toNat 0) (by rw [List.length_replicate]; omega)
          rw [← hX] at hadd
          have hXe : X = sizedB d (max d.length (m + s.length)) := by rw [hX]; exact sized_zeros2 d (m + s.length)
          have hXl : X.length = max d.length (m + s.length) := by rw [hXe, sizedB_length]
          have hex1 := ext_list X 0 m
          have hex2 := ext_list X (m + s.length) X.length
          rw [List.drop_zero] at hex1
          rw [List.take_length] at hex2
          have hput : putB d m s = X.take m ++ s ++ X.drop (m + s.length) := by unfold putB splice; rw [← hXe, List.append_assoc]
          obtain ⟨Z, hZ⟩ : ∃ Z : List UInt8, Z = List.replicate (((m + s.length : Nat) : Int) - (d.length : Int)).toNat 0 := ⟨_, rfl⟩
          rw [← hZ] at hadd hz
          obtain ⟨X1, hX1⟩ : ∃ Z : List UInt8, Z = X.take m := ⟨_, rfl⟩
          obtain ⟨X2, hX2⟩ : ∃ Z : List UInt8, Z = X.drop (m + s.length) := ⟨_, rfl⟩
          have hl1 : X1.length ≤ 1200 := by rw [hX1, List.length_take]; omega
          have hl2 : X2.length ≤ 1200 := by rw [hX2, List.length_drop]; omega
          rw [← hX1] at hex1 hput
          rw [← hX2] at hex2 hput
          have hadd1 := fun z : World => run_str_add (P := Try.prog) z X1 s (by omega)
          have hadd2 := fun z : World => run_str_add (P := Try.prog) z (X1 ++ s) X2 (by rw [List.length_append]; omega)
          rw [← hput] at hadd2
          have hsz : ((⟨X.toArray⟩ : ByteArray).size : Int) = (X.length : Int) := rfl
          have hsz' : (⟨X.toArray⟩ : ByteArray).size = X.length := rfl
          have hmX : (m : Int) ≤ (X.length : Int) := by omega
          have hmX2 : (m : Int) + (s.length : Int) ≤ (X.length : Int) := by omega
          have Hz := Lib.hid hz
          have HR := Lib.hid hR2
          obtain ⟨X3, hX3⟩ : ∃ Z : List UInt8, Z = X1 ++ s := ⟨_, rfl⟩
          rw [← hX3] at hadd1 hadd2
          rw [show (((m + s.length : Nat) : Int) - (d.length : Int)) = (m : Int) + (s.length : Int) - (d.length : Int) by omega] at Hz
          obtain ⟨PB, hPB⟩ : ∃ PB, PB = putB d m s := ⟨_, rfl⟩
          rw [← hPB] at hadd2 HR
          clear hR hR2 hZ hX hz hXe hput hX1 hX2 hX3 hXl hl1 hl2 hPB
          go_enter Try.func10, Try.ntmps10
          go_upto_region 4 with (go_at_call 29; go_must (refine (Hz.out _).mono ?_; rintro e1 w1 ⟨rfl, rfl⟩))
          go_quiet (fail)
          go_wp2_with fail
          go_ret2
          rw [HR.out]
          exact ⟨rfl, below_drewN (Below.refl _ _) _⟩
end Go.Proofs.Ytnbaaccodgohoaa
