/-
  Version vectors as values: eight numbers in an array. Reads, whole loads, equality.
  Vectors in boxes of their own; results by a cell.
-/
import Derived.Test.YtcpjgohclncbkaaDoorVecMath
import Derived.Test.YtcpjgohclncbkaaDoorWordsB
import Derived.Test.YtcpjgohclncbkaaDoorProg
import Derived.Test.YtcpjgohclncbkaaDoorPlainKit
import Derived.ChangeKeysEq
import Derived.Laws.Tables
import Derived.Laws.Rows
import Derived.Lib.Hide
import Derived.WalkSpells
import Derived.Test.YtcpjgohclncbkaaDoorRegions
import Derived.BigRegion
namespace Go.Proofs.YtcpjgohclncbkaaDoor
open Go.RowKit
set_option maxRecDepth 100000

def av (V : Nat → Nat) : Array Value := #[.int .u32 (V 0 : Int), .int .u32 (V 1 : Int), .int .u32 (V 2 : Int), .int .u32 (V 3 : Int), .int .u32 (V 4 : Int), .int .u32 (V 5 : Int), .int .u32 (V 6 : Int), .int .u32 (V 7 : Int)]
def vv (V : Nat → Nat) : Value := .agg (av V)
theorem lt8 {k : Nat} (h : k < 8) : k = 0 ∨ k = 1 ∨ k = 2 ∨ k = 3 ∨ k = 4 ∨ k = 5 ∨ k = 6 ∨ k = 7 := by omega
theorem av_get (V : Nat → Nat) {k : Nat} (h : k < 8) : (av V)[k]? = some (.int .u32 (V k : Int)) := by
  rcases lt8 h with rfl | rfl | rfl | rfl | rfl | rfl | rfl | rfl <;> rfl
theorem eql_run (A B : Nat → Nat) (w : World) : (binOp .eql 27 (vv A) (vv B)).run Tryd.prog w = .ok (.bool (eqV A B)) w := by
  have hi : ∃ i, Tryd.prog.info? 23 = some i := by
    have : (Tryd.prog.info? 23).isSome = true := by kernel_rfl
    exact Option.isSome_iff_exists.1 this
  obtain ⟨i, hi⟩ := hi
  have hp : ∀ (V : Nat → Nat) (k : Nat), k < 8 → (part 23 (av V) (k * 1)).run Tryd.prog w = .ok (.int .u32 (V k : Int)) w := fun V k hk => by
    rcases lt8 hk with rfl | rfl | rfl | rfl | rfl | rfl | rfl | rfl <;> kernel_rfl
  unfold vv
  rw [run_eql_struct, run_equalIn_array w 9999 (av A) (av B) Tryd.underlying27 hi, show Tryd.prog.cellsOf 23 = 1 by kernel_rfl]
  have key : ∀ (is : List Nat), (∀ k ∈ is, k < 8) → (Op.eqItems 9999 23 1 (av A) (av B) is).run Tryd.prog w = .ok (is.all fun k => decide (A k = B k)) w := by
    intro is
    induction is with
    | nil => intro _; rfl
    | cons k is ih =>
      intro h
      have hk := h k (by simp)
      have h2 := ih fun j hj => h j (by simp [hj])
      simp only [Op.eqItems, Sem.run_bind, hp A k hk, hp B k hk, Result.andThen_ok, run_equalIn_int w 9998 23 .u32 .u32 (A k : Int) (B k : Int) Tryd.underlying23]
      by_cases e : A k = B k
      · rw [show ((A k : Int) == (B k : Int)) = true by rw [e]; simp]
        simp [h2, e]
      · rw [show ((A k : Int) == (B k : Int)) = false by rw [beq_eq_false_iff_ne]; omega]
        simp [e]
  rw [key _ (fun k hk => by simpa using hk)]
  rfl
theorem vec_info : (Tryd.prog.info? 27).map (·.size) = some 8 := by kernel_rfl
theorem Blk.setRow_ {w : World} {g : Nat} {t : TypeId} {old : Array Value} (h : Blk w g t old) (cs : Array Value) : Blk (w.setRow g cs) g t cs := setRow_heap w g old cs t (0, 0) h
theorem Blk.setRowFar {w : World} {g k : Nat} {t : TypeId} {old : Array Value} (h : Blk w k t old) (hk : k ≠ g) (cs : Array Value) : Blk (w.setRow g cs) k t old := (setRow_other w g k cs hk).trans h
theorem below_setRow {B : Nat} {a w : World} (h : Below B a w) {g : Nat} (hg : B ≤ g) (cs : Array Value) : Below B a (w.setRow g cs) :=
  ⟨h.os, h.tape, h.output, by rw [setRow_size]; exact h.size, fun k hk => (setRow_other w g k cs (by omega)).trans (h.block k hk)⟩
theorem zero_av : av zeroV = #[.int .u32 0, .int .u32 0, .int .u32 0, .int .u32 0, .int .u32 0, .int .u32 0, .int .u32 0, .int .u32 0] := rfl
end Go.Proofs.YtcpjgohclncbkaaDoor

namespace Go.Proofs.YtcpjgohclncbkaaDoor
open Go.RowKit
set_option maxRecDepth 100000

theorem Blk.reads {W : World} {g : Nat} {V : Nat → Nat} (h : Blk W g 27 (av V)) : ∀ (y : Ext W) (i : Nat), i < 8 → y.now.cell? ⟨g, i, none⟩ = some (.int .u32 (V i : Int)) := fun y i hi => by rw [(h.grow y.out).cell, av_get V hi]

end Go.Proofs.YtcpjgohclncbkaaDoor
