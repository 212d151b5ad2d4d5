/-
  The document's Same at equal lists of versions; Fine; fits.
-/
import Derived.Test.YtcpjgohclncbkaaDoorVeThose
import Derived.Test.YtcpjgohclncbkaaDoorVeFind
import Derived.Test.YtcpjgohclncbkaaDoorVecAll
namespace Go.Proofs.YtcpjgohclncbkaaDoor
open Go.RowKit
set_option maxRecDepth 100000

theorem vec_in_self (A : Nat → Nat) (w : World) : (Op.equalIn 9999 27 (.agg (av A)) (.agg (av A))).run Tryd.prog w = .ok true w := by
  have hi : ∃ i, Tryd.prog.info? 23 = some i := by
    have : (Tryd.prog.info? 23).isSome = true := by kernel_rfl
    exact Option.isSome_iff_exists.1 this
  obtain ⟨i, hi⟩ := hi
  have hp : ∀ (V : Nat → Nat) (k : Nat), k < 8 → (part 23 (av V) (k * 1)).run Tryd.prog w = .ok (.int .u32 (V k : Int)) w := fun V k hk => by
    rcases lt8 hk with rfl | rfl | rfl | rfl | rfl | rfl | rfl | rfl <;> kernel_rfl
  rw [show (9999 : Nat) = 9998 + 1 from rfl, run_equalIn_array w 9998 (av A) (av A) Tryd.underlying27 hi, show Tryd.prog.cellsOf 23 = 1 by kernel_rfl]
  have key : ∀ (is : List Nat), (∀ k ∈ is, k < 8) → (Op.eqItems 9998 23 1 (av A) (av A) is).run Tryd.prog w = .ok true w := by
    intro is
    induction is with
    | nil => intro _; rfl
    | cons k is ih =>
      intro h
      have hk := h k (by simp)
      have h2 := ih fun j hj => h j (by simp [hj])
      simp only [Op.eqItems, Sem.run_bind, hp A k hk, Result.andThen_ok, run_equalIn_int w 9997 23 .u32 .u32 (A k : Int) (A k : Int) Tryd.underlying23]
      simp [h2]
  exact key _ (fun k hk => by simpa using hk)
end Go.Proofs.YtcpjgohclncbkaaDoor
