/-
  codec.Num and wardshipref01.Num: the bytes of a number.
-/
import Derived.Test.YtkojoahamoffcaaBytes
import Derived.Test.YtkojoahamoffcaaNumMath
import Derived.Test.YtkojoahamoffcaaShelf
import Derived.WalkKit
import Derived.Laws.MakeOwn
import Derived.Lib.Hide
namespace Go.Proofs.Ytkojoahamoffcaa
open Go.RowKit

theorem madeCells_byte (n : Nat) : madeCells #[.int .u8 0] n = Array.replicate n (Value.int .u8 0) := by
  apply Array.ext
  · simp [madeCells]
  · intro i h1 h2
    simp [madeCells, Nat.mod_one]

/-- What has been written of a number's bytes when i of them are still to come. -/
theorem num_step (N K k : Nat) (hk : k + 1 ≤ K) (b : UInt8) (hb : b = UInt8.ofNat (N / 256 ^ (K - (k + 1)) % 256)) :
    ((List.replicate (k + 1) (Value.int .u8 0)) ++ (digs (K - (k + 1)) N).map u8).toArray.setIfInBounds k (u8 b) = ((List.replicate k (Value.int .u8 0)) ++ (digs (K - k) N).map u8).toArray := by
  have e : K - k = (K - (k + 1)) + 1 := by omega
  rw [e, digs_cons, hb]
  apply Array.ext'
  simp only [List.setIfInBounds_toArray]
  rw [List.replicate_succ', List.append_assoc]
  simp

set_option maxHeartbeats 400000 in
theorem num_any (N : Nat) (hN : N < 18446744073709551616) (w : World) :
    Calls Try.prog 28 #[.int .u64 (N : Int)] w fun e w' => ∃ v, e = .returned v ∧ Own1 w' w.heap.size 5 v ((numB N).map u8) ∧ Below w.heap.size w w' := by
  obtain ⟨i0, hi, hz0, hz1, hz2⟩ := info_parts info_byte
  have hK8 : numLen N ≤ 8 := numLen_le N (by omega)
  have hbl : Lib.bitLen N ≤ 64 := Lib.bitLen_le N 64 (Nat.le_refl _) (by omega)
  have hmk : ∀ u : World, (Instr.makeSlice 34 (.int .i64 (((Lib.bitLen N : Int) + 7) / 8)) (.int .i64 (((Lib.bitLen N : Int) + 7) / 8))).run Try.prog u =
      .ok (.slice (some ⟨u.heap.size, 0, none⟩) (numLen N) (numLen N)) (u.alloc (.cells (madeCells #[.int .u8 0] (numLen N)) 5)) := fun u => by
    have e : ((Lib.bitLen N : Int) + 7) / 8 = ((numLen N : Nat) : Int) := by unfold numLen; omega
    have h := run_make (P := Try.prog) u 34 5 i0 (.int .u8 0) Try.underlying34 hi hz0 .i64 .i64 (numLen N : Int) (numLen N : Int) (by omega) (Int.le_refl _) (by rw [hz2]; omega) (by omega)
    rw [e]
    simpa [hz1, Value.cells] using h
  have hb0 : (0 : Int) ≤ (Lib.bitLen N : Int) := by omega
  go_enter Try.func28, Try.ntmps28
  go_wp2_with (go_at_call 49; refine (Try.bits_Len64 _ _ (by omega) (by omega)).mono ?_; rintro e w' ⟨rfl, hw⟩; obtain rfl := hw.symm; clear hw; rw [Int.toNat_natCast])
  clear hmk
  have hsz : (0 : Nat) ≤ w.heap.size := Nat.zero_le _
  go_loopw [0, 4] (fun n i wr => ∃ k : Nat, k ≤ numLen N ∧ i = .int .i64 ((k : Int) - 1) ∧ n = .int .u64 ((N / 256 ^ (numLen N - k) : Nat) : Int) ∧
      Blk wr w.heap.size 5 ((List.replicate k (Value.int .u8 0)) ++ (digs (numLen N - k) N).map u8).toArray ∧ Below w.heap.size w wr) (fun _ i _ => (intOf i + 1).toNat)
  case atStart =>
    refine ⟨numLen N, Nat.le_refl _, rfl, by simp, ?_, (Below.refl _ _).alloc (Nat.le_refl _) _⟩
    have h := Blk.new w 5 (madeCells #[.int .u8 0] (numLen N))
    rw [madeCells_byte] at h ⊢
    simpa [digs] using h
  case round =>
    obtain ⟨k, hk, rfl, rfl, hblk, hbel⟩ := hrel
    by_cases hk1 : 1 ≤ k
    · obtain ⟨j, rfl⟩ : ∃ j, k = j + 1 := ⟨k - 1, by omega⟩
      have hc : wr.cell? ⟨w.heap.size, j, none⟩ = some (.int .u8 0) := by rw [hblk.cell]; simp [List.getElem?_append]
      have hfz : wr.frozen? ⟨w.heap.size, j, none⟩ = false := hblk.frozen _
      have hlt := Nat.div_le_self N (256 ^ (numLen N - (j + 1)))
      generalize hq : N / 256 ^ (numLen N - (j + 1)) = q at *
      have HQ := Lib.hid hq
      clear hq
      go_wp2
      go_roundw
      case rel =>
        have hst := num_step N (numLen N) j hk (UInt8.ofNat (q % 256)) (by rw [HQ.out])
        have hb := hblk.set_ j (u8 (UInt8.ofNat (q % 256)))
        rw [hst] at hb
        rw [u8_ofNat] at hb
        refine ⟨j, by omega, rfl, ?_, hb, hbel.setCell (Nat.le_refl _) _⟩
        have e : numLen N - j = (numLen N - (j + 1)) + 1 := by omega
        rw [e, Nat.pow_succ, ← Nat.div_div_eq_div_mul, HQ.out]
        rfl
      case measure => simp [intOf]
    · obtain rfl : k = 0 := by omega
      go_wp2
      go_ret
      simp only [Nat.sub_zero, List.replicate_zero, List.nil_append] at hblk
      refine ⟨_, rfl, ⟨by simp, .inr ⟨w.heap.size, numLen N, _, ?_, Nat.le_refl _, hblk, ?_⟩⟩, hbel⟩
      · rw [List.length_map, numB_length]
        rfl
      · rw [List.length_map, numB_length]
        refine ⟨Nat.le_refl _, by unfold maxLen; omega, by simp [digs_length], ?_⟩
        rw [List.take_of_length_le (by simp [digs_length])]
        rfl
end Go.Proofs.Ytkojoahamoffcaa
