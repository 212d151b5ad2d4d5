/-
  wardshiplaw02.lives: the checksum of abc.
-/
import Derived.Test.YthlkcdlnjlncfaaSum
import Derived.Lib.SlBytesConst
namespace Go.Proofs.Ythlkcdlnjlncfaa
open Go.RowKit
set_option maxRecDepth 100000

theorem lives_any (w : World) : Calls Try.prog 10 #[] w fun e w' => e = .returned (.bool true) ∧ Below w.heap.size w w' := by
  have hv : IsB (w.alloc (.cells #[.int .u8 97, .int .u8 98, .int .u8 99] 5 (3, 4))) (fun _ => True) (.slice (some ⟨w.heap.size, 0, none⟩) 3 3) [97, 98, 99] :=
    ⟨_, 3, rfl, Nat.le_refl _, by unfold maxLen; decide, rd_of_row (cs := #[.int .u8 97, .int .u8 98, .int .u8 99]) (row_new w _) (fun _ => True) trivial⟩
  have kc := fun (w : World) (C : Array Value) (n c : Nat) => Lib.run_convert_bytes_const (P := Try.prog) w 22 5 C n c Try.underlying22 Try.underlying5
  have ha : adler [97, 98, 99] = 38600999 := by decide
  have Hv := Lib.hid hv
  have Ha := Lib.hid ha
  clear hv ha
  go_enter Try.func10, Try.ntmps10
  go_wp2_with (go_at_call 11; refine (sum_any _ _ _ _ Hv.out).mono ?_; rintro e w1 ⟨rfl, rfl⟩; rw [Ha.out])
  go_ret
  exact ⟨rfl, (Below.refl _ _).alloc (Nat.le_refl _) _⟩
end Go.Proofs.Ythlkcdlnjlncfaa
