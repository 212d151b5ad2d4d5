/-
  sum.Sum: the checksum of bytes.
-/
import Derived.Test.YthlkcdlnjlncfaaBytes
import Derived.Test.YthlkcdlnjlncfaaSumMath
import Derived.Lib.Hide
import Derived.WalkKit
import Derived.WalkSpells
import Derived.Laws.BitsAllLaws
namespace Go.Proofs.Ythlkcdlnjlncfaa
open Go.RowKit

theorem u32_pack (h l : Int) (h0 : 0 ≤ h) (h1 : h < 65536) (l0 : 0 ≤ l) (l1 : l < 65536) : bits .or .u32 (h * 65536) l = h * 65536 + l := by
  obtain ⟨H, rfl⟩ := Int.eq_ofNat_of_zero_le h0
  obtain ⟨L, rfl⟩ := Int.eq_ofNat_of_zero_le l0
  have e : H * 65536 ||| L = H * 65536 + L := by
    have := Nat.shiftLeft_add_eq_or_of_lt (i := 16) (b := L) (by omega) H
    rw [Nat.shiftLeft_eq, show (2 : Nat) ^ 16 = 65536 from rfl] at this
    exact this.symm
  have := u32_or_nat (H * 65536) L (by omega) (by omega)
  rw [e] at this
  simpa using this

set_option maxHeartbeats 400000 in
theorem sum_any (ok : Nat → Prop) (v0 : Value) (l : List UInt8) (w : World) (hv : IsB w ok v0 l) :
    Calls Try.prog 11 #[v0] w fun e w' => e = .returned (.int .u32 (adler l : Int)) ∧ w = w' := by
  obtain ⟨A, c, rfl, hc, hm, hr⟩ := hv
  unfold maxLen at hm
  have Hr := Lib.hid hr
  have Hm : l.length ≤ 9223372036854775807 := by omega
  clear hr hc hm
  go_enter Try.func11, Try.ntmps11
  go_wp2
  go_loop [3, 4, 9] (fun a b i => ∃ k : Nat, k ≤ l.length ∧ i = .int .i64 (k : Int) ∧ a = .int .u32 (lo (l.take k) : Int) ∧ b = .int .u32 (hi (l.take k) : Int)) (fun _ _ i => l.length - (intOf i).toNat)
  case atStart => exact ⟨0, by omega, rfl, rfl, rfl⟩
  case round =>
    obtain ⟨k, hk, rfl, rfl, rfl⟩ := hrel
    have h1 := lo_lt (l.take k)
    have h2 := hi_lt (l.take k)
    by_cases hlt : k < l.length
    · obtain ⟨b, off, rfl, _, had, hel⟩ := Hr.out.byte (by omega)
      have hcell := hel k hlt
      have e1 := Lib.hid (lo_take l k hlt)
      have e2 := Lib.hid (hi_take l k hlt)
      have h3 := l[k].toNat_lt
      clear hel
      generalize lo (l.take k) = p at *
      generalize hi (l.take k) = q at *
      generalize l[k].toNat = x at *
      go_wp2
      go_round
      case rel => 
        refine ⟨k + 1, by omega, by go_num, ?_, ?_⟩
        · rw [e1.out]; go_num
        · rw [e2.out, e1.out]; go_num
      case measure => simp [intOf]; omega
    · obtain rfl : k = l.length := by omega
      simp only [List.take_length] at h1 h2 ⊢
      go_wp2
      go_ret
      refine ⟨?_, rfl⟩
      have := u32_pack (hi l) (lo l) (by omega) (by omega) (by omega) (by omega)
      simp [this, adler]
theorem residue_math (n : Int) : (n.tmod 65521 + 65521).tmod 65521 = n % 65521 ∧ -65521 < n.tmod 65521 ∧ n.tmod 65521 < 65521 := by
  have h : n.tmod 65521 = n % 65521 ∨ (n.tmod 65521 = n % 65521 - 65521 ∧ 0 < n % 65521) := by
    by_cases h0 : 0 ≤ n
    · exact .inl (Int.tmod_eq_emod_of_nonneg h0)
    · obtain ⟨m, rfl⟩ : ∃ m, n = -m := ⟨-n, by omega⟩
      rw [Int.neg_tmod, Int.tmod_eq_emod_of_nonneg (a := m) (by omega)]
      omega
  have h1 : -65521 < n.tmod 65521 := by omega
  rw [Int.tmod_eq_emod_of_nonneg (a := n.tmod 65521 + 65521) (by omega)]
  omega

theorem residue_any (n : Int) (w : World) :
    Calls Try.prog 21 #[.int .i64 n] w fun e w' => e = .returned (.int .i64 (n % 65521)) ∧ w = w' := by
  obtain ⟨e1, e2, e3⟩ := residue_math n
  have e4 := IntWalk.wrap64_in (n.tmod 65521 + 65521) (by omega)
  have E1 := Lib.hid e1
  have E4 := Lib.hid e4
  clear e1 e2 e3 e4
  go_enter Try.func21, Try.ntmps21
  go_wp2
  go_ret
  refine ⟨?_, rfl⟩
  simp [E4.out, E1.out]

/-- The form in which the walk leaves Roll's answer. -/
theorem roll_form (s : Nat) (hs : s < 4294967296) (n : Int) (x y : Nat) (p : Int) (h0 : 0 ≤ p) (h1 : p ≤ 65520 * 255) (hp : p = max n 0 % 65521 * (x : Int)) :
    bits .or .u32 (wrap64 (wrap64 (wrap64 ((s : Int) / 65536 - wrap64 p) + ((s : Int) % 65536 - x + y) % 65521) - 1) % 65521 * 65536) (((s : Int) % 65536 - x + y) % 65521) = (roll s n x y : Int) := by
  have a1 := rollLo_range s x y
  have a2 := rollHi_range s n x y
  have e1 : ((s : Int) % 65536 - x + y) % 65521 = rollLo s x y := by unfold rollLo; omega
  have e2 : wrap64 (wrap64 (wrap64 ((s : Int) / 65536 - wrap64 p) + rollLo s x y) - 1) % 65521 = rollHi s n x y := by
    rw [IntWalk.wrap64_in p (by omega), IntWalk.wrap64_in ((s : Int) / 65536 - p) (by omega), IntWalk.wrap64_in ((s : Int) / 65536 - p + rollLo s x y) (by omega), IntWalk.wrap64_in _ (by omega)]
    unfold rollHi
    rw [← hp]
    rfl
  rw [e1, e2, u32_pack _ _ a2.1 (by omega) a1.1 (by omega)]
  unfold roll
  omega

set_option maxHeartbeats 1000000 in
set_option maxRecDepth 100000 in
theorem roll_any (s : Nat) (hs : s < 4294967296) (n : Int) (hn1 : -9223372036854775808 ≤ n) (hn2 : n ≤ 9223372036854775807) (x y : Nat) (hx : x < 256) (hy : y < 256) (w : World) :
    Calls Try.prog 16 #[.int .u32 (s : Int), .int .i64 n, .int .u8 (x : Int), .int .u8 (y : Int)] w fun e w' => e = .returned (.int .u32 (roll s n x y : Int)) ∧ w = w' := by
  by_cases h0 : 0 ≤ n
  · have hm : max n 0 = n := by omega
    have hp0 : 0 ≤ n % 65521 * (x : Int) := Int.mul_nonneg (by omega) (by omega)
    have hp1 : n % 65521 * (x : Int) ≤ 65520 * 255 := Int.mul_le_mul (by omega) (by omega) (by omega) (by omega)
    have hfin := roll_form s hs n x y (n % 65521 * (x : Int)) hp0 hp1 (by rw [hm])
    have Hfin := Lib.hid hfin
    clear hfin hm hp0 hp1
    go_enter Try.func16, Try.ntmps16
    go_wp2_with fail
    refine (residue_any _ _).mono ?_
    rintro e w1 ⟨rfl, rfl⟩
    go_wp2_with fail
    refine (residue_any _ _).mono ?_
    rintro e w1 ⟨rfl, rfl⟩
    go_wp2_with fail
    go_ret
    exact ⟨by simp [Hfin.out], rfl⟩
  · have hm : max n 0 = 0 := by omega
    have hfin := roll_form s hs n x y 0 (by omega) (by omega) (by rw [hm]; simp)
    rw [IntWalk.wrap64_in 0 (by omega), Int.sub_zero, IntWalk.wrap64_in ((s : Int) / 65536) (by omega), IntWalk.wrap64_in ((s : Int) / 65536 + ((s : Int) % 65536 - x + y) % 65521) (by omega), IntWalk.wrap64_in _ (by omega)] at hfin
    have Hfin := Lib.hid hfin
    clear hfin hm
    go_enter Try.func16, Try.ntmps16
    go_wp2_with fail
    refine (residue_any _ _).mono ?_
    rintro e w1 ⟨rfl, rfl⟩
    go_wp2_with fail
    refine (residue_any _ _).mono ?_
    rintro e w1 ⟨rfl, rfl⟩
    go_wp2_with fail
    go_ret
    exact ⟨by simp [Hfin.out], rfl⟩

theorem sumbytes_any (ok : Nat → Prop) (v0 : Value) (l : List UInt8) (w : World) (hv : IsB w ok v0 l) :
    Calls Try.prog 18 #[v0] w fun e w' => ∃ v, e = .returned v ∧ Own1 w' w.heap.size 5 v ((sumB l).map u8) ∧ Below w.heap.size w w' := by
  go_enter Try.func18, Try.ntmps18
  have ha := adler_lt l
  go_wp2_with (go_at_call 11; refine (sum_any ok _ l _ hv).mono ?_; rintro e w1 ⟨rfl, rfl⟩)
  go_ret
  refine ⟨_, rfl, ⟨by simp [sumB_length], .inr ⟨w.heap.size, 4, _, rfl, Nat.le_refl _, Blk.new _ _ _, ?_⟩⟩, (Below.refl _ _).alloc (Nat.le_refl _) _⟩
  refine ⟨by simp [sumB_length], by unfold maxLen; decide, rfl, ?_⟩
  simp only [sumB, be4, List.map_cons, List.map_nil, u8_ofNat]
  simp
  omega
end Go.Proofs.Ythlkcdlnjlncfaa
