/-
  codec.AsNum: the number of bytes.
-/
import Derived.Test.YtkojoahamoffcaaNum
namespace Go.Proofs.Ytkojoahamoffcaa
open Go.RowKit

/-- What AsNum answers of bytes. -/
def asNumV (l : List UInt8) : Nat × Nat := if 8 < l.length then (0, 4) else if l.head? = some 0 then (0, 7) else (asNum l, 0)

theorem u64_join (x b : Nat) (hx : x < 72057594037927936) (hb : b < 256) : bits .or .u64 ((x : Int) * 256) (b : Int) = ((x * 256 + b : Nat) : Int) := by
  have h := u64_or_nat (x * 256) b (by omega) (by omega)
  rw [nat_join 8 (x * 256) b (by omega) (by omega)] at h
  simpa using h

theorem take_succ (l : List UInt8) (k : Nat) (h : k < l.length) : l.take (k + 1) = l.take k ++ [l[k]] := by
  rw [List.take_succ_eq_append_getElem h]

set_option maxHeartbeats 400000 in
theorem asnum_any (ok : Nat → Prop) (A : Option Addr) (c : Nat) (l : List UInt8) (w : World) (hl : l.length ≤ maxLen) (hr : Rd w ok A (l.map u8)) :
    Calls Try.prog 68 #[.slice A l.length c] w fun e w' => e = .returned (.tuple #[.int .u64 ((asNumV l).1 : Int), .int .i64 ((asNumV l).2 : Int)]) ∧ w' = w := by
  unfold maxLen at hl
  by_cases h8 : 8 < l.length
  · have hv : asNumV l = (0, 4) := if_pos h8
    rw [hv]
    go_enter Try.func68, Try.ntmps68
    go_wp2
    go_ret2
    exact ⟨rfl, rfl⟩
  · by_cases h0 : l.length = 0
    · have hl0 : l = [] := List.eq_nil_of_length_eq_zero h0
      subst hl0
      have hv : asNumV [] = (0, 0) := rfl
      rw [hv]
      simp only [List.length_nil]
      clear hr hv h8 h0 hl
      go_enter Try.func68, Try.ntmps68
      go_wp2
      go_loop [4, 21] (fun n i => n = .int .u64 0 ∧ i = .int .i64 0) (fun _ _ => 0)
      case atStart => exact ⟨rfl, rfl⟩
      case round =>
        obtain ⟨rfl, rfl⟩ := hrel
        go_wp2
        go_ret2
        exact ⟨rfl, rfl⟩
    · obtain ⟨b, off, rfl, _, hb, hc⟩ := hr.byte (by omega)
      have hc0 := hc 0 (by omega)
      rw [Nat.add_zero] at hc0
      by_cases hz : l[0]'(by omega) = 0
      · have hv : asNumV l = (0, 7) := by
          rw [asNumV, if_neg h8, if_pos]
          rw [List.head?_eq_getElem?, List.getElem?_eq_getElem (by omega), hz]
        rw [hv]
        rw [hz] at hc0
        clear hv hc hz
        simp only [UInt8.toNat_zero] at hc0
        go_enter Try.func68, Try.ntmps68
        go_wp2
        go_ret2
        exact ⟨rfl, rfl⟩
      · have hv : asNumV l = (asNum l, 0) := by
          rw [asNumV, if_neg h8, if_neg]
          rw [List.head?_eq_getElem?, List.getElem?_eq_getElem (by omega)]
          simpa using hz
        rw [hv]
        have hz' : (((l[0]'(by omega)).toNat : Int) == 0) = false := by
          rw [beq_eq_false_iff_ne]
          intro h
          exact hz (UInt8.toNat_inj.1 (by simpa using h))
        clear hv hz
        have Hc := Lib.hid hc
        clear hc
        go_enter Try.func68, Try.ntmps68
        go_wp2
        go_loop [4, 21] (fun n i => ∃ k : Nat, k ≤ l.length ∧ i = .int .i64 (k : Int) ∧ n = .int .u64 (asNum (l.take k) : Int)) (fun _ i => l.length - (intOf i).toNat)
        case atStart => exact ⟨0, by omega, rfl, rfl⟩
        case round =>
          obtain ⟨k, hk, rfl, rfl⟩ := hrel
          have ha := asNum_lt (l.take k)
          by_cases hlt : k < l.length
          · have hck := Hc.out k hlt
            have h56 : asNum (l.take k) < 72057594037927936 := by
              have e1 : (l.take k).length ≤ 7 := by rw [List.length_take]; omega
              have e2 : 256 ^ (l.take k).length ≤ 256 ^ 7 := Nat.pow_le_pow_right (by decide) e1
              have e3 : (256 : Nat) ^ 7 = 72057594037927936 := by decide
              omega
            have hj := Lib.hid (u64_join (asNum (l.take k)) l[k].toNat h56 l[k].toNat_lt)
            have hbb := l[k].toNat_lt
            clear ha
            go_wp2
            go_round
            case rel =>
              refine ⟨k + 1, by omega, by go_num, ?_⟩
              rw [hj.out, take_succ l k hlt, asNum_snoc]
            case measure => simp [intOf]; omega
          · go_wp2
            go_ret2
            exact ⟨by rw [List.take_of_length_le (by omega)]; rfl, rfl⟩
end Go.Proofs.Ytkojoahamoffcaa
