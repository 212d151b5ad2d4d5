/-
  wardshipref01.AsNum: the number of a text's bytes.
-/
import Derived.Test.YtpfhhkdmgkkidaaAsNum
import Derived.Test.YtpfhhkdmgkkidaaRefNum
namespace Go.Proofs.Ytpfhhkdmgkkidaa
open Go.RowKit

theorem mk_get (l : List UInt8) (k : Nat) (h : k < (⟨l.toArray⟩ : ByteArray).size) (h' : k < l.length) : (⟨l.toArray⟩ : ByteArray)[k]'h = l[k]'h' := rfl

theorem asNumV_of (l : List UInt8) (h8 : ¬8 < l.length) : asNumV l = if numB (asNum l) = l then (asNum l, 0) else (0, 7) := by
  have hi := numB_asNum_iff l (by omega)
  unfold asNumV
  rw [if_neg h8]
  by_cases h : l.head? = some 0
  · rw [if_pos h, if_neg (fun e => hi.1 e h)]
  · rw [if_neg h, if_pos (hi.2 h)]

set_option maxHeartbeats 400000 in
theorem refasnum_any (l : List UInt8) (w : World) (hl : l.length ≤ maxLen) :
    Calls Try.prog 25 #[str l] w fun e w' => e = .returned (.tuple #[.int .u64 ((asNumV l).1 : Int), .int .i64 ((asNumV l).2 : Int)]) ∧ Below w.heap.size w w' := by
  unfold maxLen at hl
  by_cases h8 : 8 < l.length
  · have hv : asNumV l = (0, 4) := if_pos h8
    rw [hv]
    go_enter Try.func25, Try.ntmps25
    go_wp2
    go_ret2
    exact ⟨rfl, Below.refl _ _⟩
  · go_enter Try.func25, Try.ntmps25
    go_wp2
    go_loop [4, 5] (fun n i => ∃ k : Nat, k ≤ l.length ∧ i = .int .i64 (k : Int) ∧ n = .int .u64 (asNum (l.take k) : Int)) (fun _ i => l.length - (intOf i).toNat)
    case atStart => exact ⟨0, by omega, rfl, rfl⟩
    case round =>
      obtain ⟨k, hk, rfl, rfl⟩ := hrel
      have ha := asNum_lt (l.take k)
      by_cases hlt : k < l.length
      · have h56 : asNum (l.take k) < 72057594037927936 := by
          have e1 : (l.take k).length ≤ 7 := by rw [List.length_take]; omega
          have e2 : 256 ^ (l.take k).length ≤ 256 ^ 7 := Nat.pow_le_pow_right (by decide) e1
          have e3 : (256 : Nat) ^ 7 = 72057594037927936 := by decide
          omega
        have hbb := l[k].toNat_lt
        clear ha
        go_wp2
        go_round
        case rel =>
          refine ⟨k + 1, by omega, by go_num, ?_⟩
          have e1 : IntKind.u64.wrap (l[k].toNat : Int) = (l[k].toNat : Int) := IntWalk.u64_in _ (by omega)
          rw [take_succ l k hlt, asNum_snoc, mk_get l k _ hlt, e1, IntWalk.u64_in _ (by omega)]
          go_num
        case measure => simp [intOf]; omega
      · have h64 := asNum_lt64 l (by omega)
        obtain rfl : k = l.length := by omega
        rw [List.take_length]
        go_wp2_with (go_at_call 20; refine (refnum _ _ (by omega)).mono ?_; rintro e w' ⟨rfl, hw⟩)
        · have hne : numB (asNum l) ≠ l := by simpa using (by assumption : (!numB (asNum l) == l) = true)
          go_ret2
          rw [asNumV_of l h8, if_neg hne]
          exact ⟨rfl, hw⟩
        · have he : numB (asNum l) = l := by simpa using (by assumption : (!numB (asNum l) == l) = false)
          go_ret2
          rw [asNumV_of l h8, if_pos he]
          exact ⟨rfl, hw⟩
end Go.Proofs.Ytpfhhkdmgkkidaa
