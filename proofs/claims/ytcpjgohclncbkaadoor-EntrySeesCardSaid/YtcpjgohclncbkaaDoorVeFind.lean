/-
  version.find, over slices.BinarySearchFunc.
-/
import Derived.Test.YtcpjgohclncbkaaDoorVeOne
import Derived.Test.YtcpjgohclncbkaaDoorRegions
import Derived.Shelf.Abstract
import Derived.Deep.QuietTactic
namespace Go.Proofs.YtcpjgohclncbkaaDoor
open Go.RowKit
set_option maxRecDepth 100000

theorem quiet_mid {P : Program} {C : World → Prop} {K : Act → Prop} {a : Act} {o : Oper} (ty : TypeId) (x : Operand) (ho : o.op = .load ty x) (b off : Nat) (hx : a.eval x = .pointer (some ⟨b, off, none⟩)) (cs : Array Value) (d : TypeDesc) (hC : ∀ w, C w → w.rangeAt b off cs.toList)
    (hu : P.underlying ty = some d) (hd : d.isRow = true) (hi : (P.info? ty).map (·.size) = some cs.toList.length) (hk : K (a.put o.dst (.agg cs))) : o.quiet P a C K :=
  ⟨_, fun w hw => by
    unfold Oper.quietAt execOp
    simp only [ho, hx, Instr.loadAt, Instr.sureAddr, Sem.run_bind, Sem.run_pure, Result.andThen_ok, run_loadVar_mid w b off ty cs.toList d (hC w hw) hu hd hi]
    exact ⟨rfl, by simp⟩, hk⟩

theorem lessV_trans {a : Int} {b : Nat} {c : Int} {d : Nat} {e : Int} {f : Nat} (h : lessV a b c d = true) (h' : lessV c d e f = true) : lessV a b e f = true := by
  unfold lessV at *
  simp only [decide_eq_true_iff] at *
  omega
theorem lessV_same (a : Int) (b : Nat) (c : Int) (d : Nat) : sameI a b c d = (!lessV a b c d && !lessV c d a b) := by
  unfold lessV sameI
  by_cases h : a = c ∧ b = d
  · obtain ⟨rfl, rfl⟩ := h
    simp
  · rw [decide_eq_false h]
    rw [eq_comm, Bool.and_eq_false_iff]
    simp only [Bool.not_eq_false', decide_eq_true_iff]
    omega
theorem takeWhile_pos {α : Type} (p : α → Bool) : ∀ (l : List α) (i : Nat), i ≤ l.length → (∀ t (h : t < l.length), t < i → p l[t] = true) → (∀ h : i < l.length, p l[i] = false) → (l.takeWhile p).length = i
  | [], i, hi, _, _ => by simp at hi; simp [hi]
  | a :: r, 0, _, _, h2 => by
    have := h2 (by simp)
    simp only [List.getElem_cons_zero] at this
    rw [List.takeWhile_cons, this]
    rfl
  | a :: r, i + 1, hi, h1, h2 => by
    have ha : p a = true := h1 0 (by simp) (Nat.succ_pos _)
    rw [List.takeWhile_cons, if_pos ha, List.length_cons, takeWhile_pos p r i (by simpa using hi) (fun t h ht => h1 (t + 1) (by simpa using h) (by omega)) (fun h => h2 (by simpa using h))]
end Go.Proofs.YtcpjgohclncbkaaDoor
