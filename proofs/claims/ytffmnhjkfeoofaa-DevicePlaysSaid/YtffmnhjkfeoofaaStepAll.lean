/-
  wardshiplaw03.step: whatever is done.
-/
import Derived.Test.YtffmnhjkfeoofaaStep0L
import Derived.Test.YtffmnhjkfeoofaaStep1
import Derived.Test.YtffmnhjkfeoofaaStep2
import Derived.Test.YtffmnhjkfeoofaaStep3
import Derived.Test.YtffmnhjkfeoofaaStep4
import Derived.Test.YtffmnhjkfeoofaaStep5
namespace Go.Proofs.Ytffmnhjkfeoofaa
open Go.RowKit
set_option maxRecDepth 100000

/-- The device behind something that is done. -/
def stepD (D : Dev) (o : OpM) : Dev :=
  if (IntKind.u64.wrap o.kind).tmod 6 = 0 then (D.put o.at_ (if o.long then fullB o.c o.s ++ [0] else fullB o.c o.s)).1
  else if (IntKind.u64.wrap o.kind).tmod 6 = 1 then D.barrier.1
  else if (IntKind.u64.wrap o.kind).tmod 6 = 2 then D
  else if (IntKind.u64.wrap o.kind).tmod 6 = 3 then D.cut o.choice
  else if (IntKind.u64.wrap o.kind).tmod 6 = 4 then { D with off := false }
  else D.plan o.at_ o.choice
theorem stepD_few {D : Dev} {m : Nat} (h : D.Few m) (o : OpM) : (stepD D o).Few (m + 1) := by
  unfold stepD
  split
  · exact put_few h _ _
  split
  · exact barrier_few h
  split
  · exact h.mono (by omega)
  split
  · exact (cut_few h _).mono (by omega)
  split
  · exact (on_few h).mono (by omega)
  · exact (plan_few h _ _).mono (by omega)
theorem stepD_length (D : Dev) (o : OpM) : (stepD D o).sure.length = D.sure.length := by
  unfold stepD
  split
  · exact put_length _ _ _
  split
  · exact barrier_length _
  split
  · rfl
  split
  · exact cut_length _ _
  split
  · rfl
  · rfl
theorem kind_six (k : Int) : (IntKind.u64.wrap k).tmod 6 = 0 ∨ (IntKind.u64.wrap k).tmod 6 = 1 ∨ (IntKind.u64.wrap k).tmod 6 = 2 ∨ (IntKind.u64.wrap k).tmod 6 = 3 ∨ (IntKind.u64.wrap k).tmod 6 = 4 ∨ (IntKind.u64.wrap k).tmod 6 = 5 := by
  have h0 : 0 ≤ IntKind.u64.wrap k := by simp only [IntKind.wrap_u64]; exact Int.emod_nonneg _ (by decide)
  have h1 : 0 ≤ IntKind.u64.wrap k % 6 := Int.emod_nonneg _ (by omega)
  have h2 : IntKind.u64.wrap k % 6 < 6 := Int.emod_lt_of_pos _ (by omega)
  rw [Int.tmod_eq_emod_of_nonneg h0]
  omega

theorem step_any (base : Nat) (G : Nat → Prop) (g : Nat) (D : Dev) (v : Value) (o : OpM) (Ak : Option Addr) (nk : Nat) (ok : Nat → Prop) (w : World) (hd : DevAt w base G g D) (hv : IsDev w (fun q => ¬ G q ∧ ok q) v D) (hk : IsL (kInt .i64) w (fun q => ¬ G q ∧ ok q) (.slice Ak o.choice.kept.length nk) o.choice.kept) (hfew : D.loose.length ≤ 1000000 ∧ D.changes ≤ 1000000) (hat : -9223372036854775808 ≤ o.at_ ∧ o.at_ ≤ 9223372036854775807) (hkl : o.choice.kept.length ≤ 70) : Calls Try.prog 14 #[.pointer (some ⟨g, 0, none⟩), v, .agg #[.int .i64 o.kind, .int .i64 o.at_, .int .u8 (o.c.toNat : Int), str o.s, .bool o.long, .slice Ak o.choice.kept.length nk, .int .i64 o.choice.torn, .int .i64 o.choice.half]] w fun e w' => ∃ v', e = .returned (.tuple #[v', .bool true]) ∧ ∃ G', DevAt w' base G' g (stepD D o) ∧ IsDev w' (fun q => ¬ G' q ∧ (q < w.heap.size → ok q)) v' (stepD D o) ∧ Fr G G' w w' := by
  unfold stepD
  rcases kind_six o.kind with h | h | h | h | h | h
  · rw [if_pos h]
    cases hl : o.long with
    | true => exact step_write_long base G g D v o Ak nk ok w hd hv hk hfew h
    | false => exact step_write_exact base G g D v o Ak nk ok w hd hv hk hfew h
  · rw [if_neg (by omega), if_pos h]
    exact step_barrier base G g D v o Ak nk ok w hd hv hk hfew h
  · rw [if_neg (by omega), if_neg (by omega), if_pos h]
    exact step_read base G g D v o Ak nk ok w hd hv hk hfew h
  · rw [if_neg (by omega), if_neg (by omega), if_neg (by omega), if_pos h]
    exact step_cut base G g D v o Ak nk ok w hd hv hk hfew h
  · rw [if_neg (by omega), if_neg (by omega), if_neg (by omega), if_neg (by omega), if_pos h]
    exact step_on base G g D v o Ak nk ok w hd hv hk hfew h
  · rw [if_neg (by omega), if_neg (by omega), if_neg (by omega), if_neg (by omega), if_neg (by omega)]
    exact step_plan base G g D v o Ak nk ok w hd hv hk hfew hat hkl h
end Go.Proofs.Ytffmnhjkfeoofaa
