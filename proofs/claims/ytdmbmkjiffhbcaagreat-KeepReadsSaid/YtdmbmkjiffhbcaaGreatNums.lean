/-
  codec.Num and wardshipref01.Num: the bytes of a number.
  codec.AsNum: the number of bytes.
-/
import Derived.Test.YtdmbmkjiffhbcaaGreatWordsB
import Derived.Test.YtdmbmkjiffhbcaaGreatCodNumMath
import Derived.Test.YtdmbmkjiffhbcaaGreatShelf
import Derived.WalkKit
import Derived.Laws.MakeOwn
import Derived.Lib.Hide
namespace Go.Proofs.YtdmbmkjiffhbcaaGreat
open Go.RowKit

theorem madeCells_byte (n : Nat) : madeCells #[.int .u8 0] n = Array.replicate n (Value.int .u8 0) := by
  apply Array.ext
  · simp [madeCells]
  · intro i h1 h2
    simp [madeCells, Nat.mod_one]

/-- What has been written of a number's bytes when i of them are still to come. -/
theorem num_step (N K k : Nat) (hk : k + 1 ≤ K) (b : UInt8) (hb : b = UInt8.ofNat (N / 256 ^ (K - (k + 1)) % 256)) :
    ((List.replicate (k + 1) (Value.int .u8 0)) ++ (digs (K - (k + 1)) N).map u8).toArray.setIfInBounds k (u8 b) = ((List.replicate k (Value.int .u8 0)) ++ (digs (K - k) N).map u8).toArray := by
  have e : K - k = (K - (k + 1)) + 1 := by omega
  rw [e, digs_cons, hb]
  apply Array.ext'
  simp only [List.setIfInBounds_toArray]
  rw [List.replicate_succ', List.append_assoc]
  simp

set_option maxHeartbeats 400000 in
theorem num_any (N : Nat) (hN : N < 18446744073709551616) (w : World) :
    Calls Tryz.prog 48 #[.int .u64 (N : Int)] w fun e w' => ∃ v, e = .returned v ∧ Own1 w' w.heap.size 5 v ((numB N).map u8) ∧ Below w.heap.size w w' := by
  obtain ⟨i0, hi, hz0, hz1, hz2⟩ := info_parts info_byte
  have hK8 : numLen N ≤ 8 := numLen_le N (by omega)
  have hbl : Lib.bitLen N ≤ 64 := Lib.bitLen_le N 64 (Nat.le_refl _) (by omega)
  have hmk : ∀ u : World, (Instr.makeSlice 47 (.int .i64 (((Lib.bitLen N : Int) + 7) / 8)) (.int .i64 (((Lib.bitLen N : Int) + 7) / 8))).run Tryz.prog u =
      .ok (.slice (some ⟨u.heap.size, 0, none⟩) (numLen N) (numLen N)) (u.alloc (.cells (madeCells #[.int .u8 0] (numLen N)) 5)) := fun u => by
    have e : ((Lib.bitLen N : Int) + 7) / 8 = ((numLen N : Nat) : Int) := by unfold numLen; omega
    have h := run_make (P := Tryz.prog) u 47 5 i0 (.int .u8 0) Tryz.underlying47 hi hz0 .i64 .i64 (numLen N : Int) (numLen N : Int) (by omega) (Int.le_refl _) (by rw [hz2]; omega) (by omega)
    rw [e]
    simpa [hz1, Value.cells] using h
  have hb0 : (0 : Int) ≤ (Lib.bitLen N : Int) := by omega
  go_enter Tryz.func48, Tryz.ntmps48
  go_wp2_with (go_at_call 72; refine (Tryz.bits_Len64 _ _ (by omega) (by omega)).mono ?_; rintro e w' ⟨rfl, hw⟩; obtain rfl := hw.symm; clear hw; rw [Int.toNat_natCast])
  clear hmk
  have hsz : (0 : Nat) ≤ w.heap.size := Nat.zero_le _
  go_loopw [0, 4] (fun n i wr => ∃ k : Nat, k ≤ numLen N ∧ i = .int .i64 ((k : Int) - 1) ∧ n = .int .u64 ((N / 256 ^ (numLen N - k) : Nat) : Int) ∧
      Blk wr w.heap.size 5 ((List.replicate k (Value.int .u8 0)) ++ (digs (numLen N - k) N).map u8).toArray ∧ Below w.heap.size w wr) (fun _ i _ => (intOf i + 1).toNat)
  case atStart =>
    refine ⟨numLen N, Nat.le_refl _, rfl, by simp, ?_, (Below.refl _ _).alloc (Nat.le_refl _) _⟩
    have h := Blk.new w 5 (madeCells #[.int .u8 0] (numLen N))
    rw [madeCells_byte] at h ⊢
    simpa [digs] using h
  case round =>
    obtain ⟨k, hk, rfl, rfl, hblk, hbel⟩ := hrel
    by_cases hk1 : 1 ≤ k
    · obtain ⟨j, rfl⟩ : ∃ j, k = j + 1 := ⟨k - 1, by omega⟩
      have hc : wr.cell? ⟨w.heap.size, j, none⟩ = some (.int .u8 0) := by rw [hblk.cell]; simp [List.getElem?_append]
      have hfz : wr.frozen? ⟨w.heap.size, j, none⟩ = false := hblk.frozen _
      have hlt := Nat.div_le_self N (256 ^ (numLen N - (j + 1)))
      generalize hq : N / 256 ^ (numLen N - (j + 1)) = q at *
      have HQ := Lib.hid hq
      clear hq
      go_wp2
      go_roundw
      case rel =>
        have hst := num_step N (numLen N) j hk (UInt8.ofNat (q % 256)) (by rw [HQ.out])
        have hb := hblk.set_ j (u8 (UInt8.ofNat (q % 256)))
        rw [hst] at hb
        rw [u8_ofNat] at hb
        refine ⟨j, by omega, rfl, ?_, hb, hbel.setCell (Nat.le_refl _) _⟩
        have e : numLen N - j = (numLen N - (j + 1)) + 1 := by omega
        rw [e, Nat.pow_succ, ← Nat.div_div_eq_div_mul, HQ.out]
        rfl
      case measure => simp [intOf]
    · obtain rfl : k = 0 := by omega
      go_wp2
      go_ret
      simp only [Nat.sub_zero, List.replicate_zero, List.nil_append] at hblk
      refine ⟨_, rfl, ⟨by simp, .inr ⟨w.heap.size, numLen N, _, ?_, Nat.le_refl _, hblk, ?_⟩⟩, hbel⟩
      · rw [List.length_map, numB_length]
        rfl
      · rw [List.length_map, numB_length]
        refine ⟨Nat.le_refl _, by unfold maxLen; omega, by simp [digs_length], ?_⟩
        rw [List.take_of_length_le (by simp [digs_length])]
        rfl
end Go.Proofs.YtdmbmkjiffhbcaaGreat

namespace Go.Proofs.YtdmbmkjiffhbcaaGreat
open Go.RowKit

/-- What AsNum answers of bytes. -/
def asNumV (l : List UInt8) : Nat × Nat := if 8 < l.length then (0, 4) else if l.head? = some 0 then (0, 7) else (asNum l, 0)

theorem u64_join (x b : Nat) (hx : x < 72057594037927936) (hb : b < 256) : bits .or .u64 ((x : Int) * 256) (b : Int) = ((x * 256 + b : Nat) : Int) := by
  have h := u64_or_nat (x * 256) b (by omega) (by omega)
  rw [nat_join 8 (x * 256) b (by omega) (by omega)] at h
  simpa using h

theorem take_succ (l : List UInt8) (k : Nat) (h : k < l.length) : l.take (k + 1) = l.take k ++ [l[k]] := by
  rw [List.take_succ_eq_append_getElem h]

set_option maxHeartbeats 400000 in
theorem asnum_any (ok : Nat → Prop) (A : Option Addr) (c : Nat) (l : List UInt8) (w : World) (hl : l.length ≤ maxLen) (hr : Rd w ok A (l.map u8)) :
    Calls Tryz.prog 70 #[.slice A l.length c] w fun e w' => e = .returned (.tuple #[.int .u64 ((asNumV l).1 : Int), .int .i64 ((asNumV l).2 : Int)]) ∧ w' = w := by
  unfold maxLen at hl
  by_cases h8 : 8 < l.length
  · have hv : asNumV l = (0, 4) := if_pos h8
    rw [hv]
    go_enter Tryz.func70, Tryz.ntmps70
    go_wp2
    go_ret2
    exact ⟨rfl, rfl⟩
  · by_cases h0 : l.length = 0
    · have hl0 : l = [] := List.eq_nil_of_length_eq_zero h0
      subst hl0
      have hv : asNumV [] = (0, 0) := rfl
      rw [hv]
      simp only [List.length_nil]
      clear hr hv h8 h0 hl
      go_enter Tryz.func70, Tryz.ntmps70
      go_wp2
      go_loop [4, 21] (fun n i => n = .int .u64 0 ∧ i = .int .i64 0) (fun _ _ => 0)
      case atStart => exact ⟨rfl, rfl⟩
      case round =>
        obtain ⟨rfl, rfl⟩ := hrel
        go_wp2
        go_ret2
        exact ⟨rfl, rfl⟩
    · obtain ⟨b, off, rfl, _, hb, hc⟩ := hr.byte (by omega)
      have hc0 := hc 0 (by omega)
      rw [Nat.add_zero] at hc0
      by_cases hz : l[0]'(by omega) = 0
      · have hv : asNumV l = (0, 7) := by
          rw [asNumV, if_neg h8, if_pos]
          rw [List.head?_eq_getElem?, List.getElem?_eq_getElem (by omega), hz]
        rw [hv]
        rw [hz] at hc0
        clear hv hc hz
        simp only [UInt8.toNat_zero] at hc0
        go_enter Tryz.func70, Tryz.ntmps70
        go_wp2
        go_ret2
        exact ⟨rfl, rfl⟩
      · have hv : asNumV l = (asNum l, 0) := by
          rw [asNumV, if_neg h8, if_neg]
          rw [List.head?_eq_getElem?, List.getElem?_eq_getElem (by omega)]
          simpa using hz
        rw [hv]
        have hz' : (((l[0]'(by omega)).toNat : Int) == 0) = false := by
          rw [beq_eq_false_iff_ne]
          intro h
          exact hz (UInt8.toNat_inj.1 (by simpa using h))
        clear hv hz
        have Hc := Lib.hid hc
        clear hc
        go_enter Tryz.func70, Tryz.ntmps70
        go_wp2
        go_loop [4, 21] (fun n i => ∃ k : Nat, k ≤ l.length ∧ i = .int .i64 (k : Int) ∧ n = .int .u64 (asNum (l.take k) : Int)) (fun _ i => l.length - (intOf i).toNat)
        case atStart => exact ⟨0, by omega, rfl, rfl⟩
        case round =>
          obtain ⟨k, hk, rfl, rfl⟩ := hrel
          have ha := asNum_lt (l.take k)
          by_cases hlt : k < l.length
          · have hck := Hc.out k hlt
            have h56 : asNum (l.take k) < 72057594037927936 := by
              have e1 : (l.take k).length ≤ 7 := by rw [List.length_take]; omega
              have e2 : 256 ^ (l.take k).length ≤ 256 ^ 7 := Nat.pow_le_pow_right (by decide) e1
              have e3 : (256 : Nat) ^ 7 = 72057594037927936 := by decide
              omega
            have hj := Lib.hid (u64_join (asNum (l.take k)) l[k].toNat h56 l[k].toNat_lt)
            have hbb := l[k].toNat_lt
            clear ha
            go_wp2
            go_round
            case rel =>
              refine ⟨k + 1, by omega, by go_num, ?_⟩
              rw [hj.out, take_succ l k hlt, asNum_snoc]
            case measure => simp [intOf]; omega
          · go_wp2
            go_ret2
            exact ⟨by rw [List.take_of_length_le (by omega)]; rfl, rfl⟩
end Go.Proofs.YtdmbmkjiffhbcaaGreat
