/-
  The walk of SumSums.
-/
import Derived.Test.YthlkcdlnjlncfaaQuiet
import Derived.Test.YthlkcdlnjlncfaaLives02
import Derived.Test.YthlkcdlnjlncfaaRefSum
import Derived.BigQuiet
namespace Go.Proofs.Ythlkcdlnjlncfaa
open Go.RowKit
set_option maxRecDepth 100000

theorem sumsums_walk (v : Value) (b : List UInt8) (w : World) (hv : IsB w (fun _ => True) v b) :
    Calls Try.prog 3 #[v] w fun e w' => e = .returned (.bool true) ∧ Below w.heap.size w w' := by
  have Hv := Lib.hid hv
  obtain ⟨A, c, rfl, hc, hm, hr⟩ := hv
  clear hr hm
  by_cases hlong : 3000 < b.length
  · go_enter Try.func3, Try.ntmps3
    go_wp2_with fail
    refine (lives_any _).mono ?_
    rintro e w1 ⟨rfl, hb1⟩
    go_wp2_with fail
    refine (lives_any _).mono ?_
    rintro e w2 ⟨rfl, hb2⟩
    go_wp2_with fail
    go_ret
    exact ⟨rfl, hb1.trans (hb2.mono hb1.size)⟩
  · go_enter Try.func3, Try.ntmps3
    go_wp2_with fail
    refine (lives_any _).mono ?_
    rintro e w1 ⟨rfl, hb1⟩
    go_wp2_with fail
    have hv1 := Hv.out.grow hb1
    have hcv : ∀ n, (convert 22 9 (.slice A b.length c)).run Try.prog (w1.drewN n) = .ok (str b) (w1.drewN n) := fun n => by
      obtain ⟨A', c', h, _, _, hr⟩ := hv1
      cases h
      exact run_bytes_str _ _ _ Try.underlying22 Try.underlying5 Try.underlying9 (hr.drewN n)
    go_quiet (first | (go_at_call 11; refine quiet_same (sum_any _ _ b _ (hv1.drewN _))) | (go_at_call 12; refine quiet_same (refsum_any b _ (by omega))))
    go_wp2
    go_ret
    exact ⟨by simp, below_drewN hb1 _⟩
end Go.Proofs.Ythlkcdlnjlncfaa
