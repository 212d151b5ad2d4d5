/-
  The walk of SumTwice.
-/
import Derived.Test.YthlkcdlnjlncfaaQuiet
import Derived.Test.YthlkcdlnjlncfaaLives02
import Derived.Test.YthlkcdlnjlncfaaOpen
import Derived.Test.YthlkcdlnjlncfaaSumKit
import Derived.BigQuiet
namespace Go.Proofs.Ythlkcdlnjlncfaa
open Go.RowKit
set_option maxRecDepth 100000

set_option maxHeartbeats 1000000 in
theorem sumtwice_walk (v : Value) (b : List UInt8) (w : World) (hv : IsB w (fun _ => True) v b) :
    Calls Try.prog 9 #[v] w fun e w' => e = .returned (.bool true) ∧ Below w.heap.size w w' := by
  have Hv := Lib.hid hv
  obtain ⟨A, c, rfl, hc, hm, hr⟩ := hv
  clear hr hm
  by_cases hlong : 2000 < b.length
  · go_enter Try.func9, Try.ntmps9
    go_wp2_with fail
    refine (lives_any _).mono ?_
    rintro e w1 ⟨rfl, hb1⟩
    go_wp2_with fail
    refine (lives_any _).mono ?_
    rintro e w2 ⟨rfl, hb2⟩
    go_wp2_with fail
    go_ret
    exact ⟨rfl, hb1.trans (hb2.mono hb1.size)⟩
  · have hl1 : (b ++ sumB b).length = b.length + 4 := by rw [List.length_append, sumB_length]
    have Hl1 := Lib.hid hl1
    clear hl1
    go_enter Try.func9, Try.ntmps9
    go_wp2_with fail
    refine (lives_any _).mono ?_
    rintro e w1 ⟨rfl, hb1⟩
    go_wp2_with fail
    refine (seal_any _ _ b _ (Hv.out.grow hb1) (by omega)).mono ?_
    rintro e w2 ⟨x2, rfl, hx2, hb2⟩
    go_wp2_with fail
    refine (seal_any _ _ (b ++ sumB b) _ hx2.isB (by have := Hl1.out; omega)).mono ?_
    rintro e w3 ⟨x3, rfl, hx3, hb3⟩
    go_wp2_with fail
    refine (open_sealed _ _ (b ++ sumB b) _ hx3.isB (by have := Hl1.out; omega)).mono ?_
    rintro e w4 ⟨x4, rfl, hx4, hb4⟩
    go_wp2_with fail
    refine (open_sealed _ _ b _ hx4.isB (by omega)).mono ?_
    rintro e w5 ⟨x5, rfl, hx5, hb5⟩
    have hb15 := (((hb1.trans (hb2.mono hb1.size)).trans (hb3.mono (Nat.le_trans hb1.size hb2.size))).trans (hb4.mono (Nat.le_trans hb1.size (Nat.le_trans hb2.size hb3.size)))).trans (hb5.mono (Nat.le_trans hb1.size (Nat.le_trans hb2.size (Nat.le_trans hb3.size hb4.size))))
    have hcv0 := conv_str (Hv.out.grow hb15)
    have hcv5 := conv_str hx5.isB
    have hnil := sum_any (fun _ => True) (.slice none 0 0) [] w5 ⟨none, 0, rfl, Nat.le_refl _, Nat.zero_le _, Rd.nil⟩
    clear hx2 hx3 hx4 hx5
    rw [adler_nil] at hnil
    go_wp2_with (go_at_call 11; refine hnil.mono ?_; rintro e w6 ⟨rfl, rfl⟩)
    go_ret
    exact ⟨by simp, hb15⟩
end Go.Proofs.Ythlkcdlnjlncfaa
