/-
  The laws' few.
-/
import Derived.Test.YtkhhihkcgpfmfaaBytes
import Derived.Lib.Hide
namespace Go.Proofs.Ytkhhihkcgpfmfaa
open Go.RowKit
set_option maxRecDepth 100000

/-- What few counts. -/
def fewSum (L : List (List UInt8)) : Nat := (L.map fun f => min f.length 3000 + 1).sum
/-- What few answers. -/
def fewV (L : List (List UInt8)) : Bool := decide (fewSum L ≤ 3000)
theorem fewSum_take_succ (L : List (List UInt8)) (k : Nat) (h : k < L.length) : fewSum (L.take (k + 1)) = fewSum (L.take k) + (min L[k].length 3000 + 1) := by
  unfold fewSum
  rw [List.take_succ_eq_append_getElem h, List.map_append, List.sum_append]
  simp
theorem fewSum_take_le (L : List (List UInt8)) (k : Nat) : fewSum (L.take k) ≤ fewSum L := by
  unfold fewSum
  conv => rhs; rw [← List.take_append_drop k L, List.map_append, List.sum_append]
  omega
/-- Where they are few, they are so many at most, and each is so long at most. -/
theorem fewV_le (L : List (List UInt8)) (h : fewV L = true) : (L.map List.length).sum + L.length ≤ 3000 ∧ ∀ f ∈ L, f.length < 3000 := by
  have h' : fewSum L ≤ 3000 := of_decide_eq_true h
  clear h
  have key : ∀ (M : List (List UInt8)) (n : Nat), n ≤ 3000 → fewSum M ≤ n → (M.map List.length).sum + M.length ≤ n ∧ ∀ f ∈ M, f.length < 3000 := by
    intro M
    induction M with
    | nil => intro n _ _; simp
    | cons f M ih =>
      intro n hn hM
      have e : fewSum (f :: M) = (min f.length 3000 + 1) + fewSum M := by simp [fewSum]
      rw [e] at hM
      have hf : f.length < 3000 := by omega
      obtain ⟨h1, h2⟩ := ih (n - (f.length + 1)) (by omega) (by omega)
      refine ⟨?_, ?_⟩
      · simp only [List.map_cons, List.sum_cons, List.length_cons]; omega
      · intro g hg
        rcases List.mem_cons.1 hg with rfl | hg
        · exact hf
        · exact h2 g hg
  exact key L 3000 (Nat.le_refl _) h'

def FewPost (L : List (List UInt8)) (w : World) (e : Ending) (w' : World) : Prop := e = .returned (.bool (fewV L)) ∧ Below w.heap.size w w'

theorem few_any (ok : Nat → Prop) (v0 : Value) (L : List (List UInt8)) (w : World) (hL : IsBB w ok v0 L) :
    Calls Try.prog 14 #[v0] w (FewPost L w) := by
  obtain ⟨A, c, rfl, hc, hm, hel⟩ := hL.elem
  unfold maxLen at hm
  have Hel := Lib.hid hel
  have Hm : L.length ≤ 9223372036854775807 := by omega
  clear hel hm
  go_enter Try.func14, Try.ntmps14
  go_wp2
  go_loopw [3, 8] (fun v i wr => ∃ k : Nat, k ≤ L.length ∧ i = .int .i64 (k : Int) ∧ fewSum (L.take k) ≤ 3000 ∧ v = .int .i64 (3000 - (fewSum (L.take k) : Int)) ∧ Below w.heap.size w wr) (fun _ i _ => L.length - (intOf i).toNat)
  case atStart => exact ⟨0, by omega, rfl, by simp [fewSum], by simp [fewSum], Below.refl _ _⟩
  case round =>
    obtain ⟨k, hk, rfl, hs, rfl, hbel⟩ := hrel
    by_cases hlt : k < L.length
    · obtain ⟨b, off, rfl, _, had, hel⟩ := Hel.out (by intro e; subst e; simp at hlt)
      obtain ⟨Ai, ci, hcell, hci, hcm, hrd⟩ := hel k hlt
      have hcell' : wr.cell? ⟨b, off + k, none⟩ = some (.slice Ai L[k].length ci) := (hbel.cell (p := ⟨b, off + k, none⟩) had).trans hcell
      clear hel
      have hcm' : L[k].length ≤ 9223372036854775807 := by unfold maxLen at hcm; omega
      clear hcell hcm
      have hsucc := fewSum_take_succ L k hlt
      have hle := fewSum_take_le L (k + 1)
      generalize fewSum (L.take k) = s at *
      generalize hq : L[k].length = q at *
      generalize hs' : fewSum (L.take (k + 1)) = s' at *
      by_cases hq3 : q ≤ 3000
      · have hmin : min (q : Int) 3000 = (q : Int) := by omega
        go_wp2
        · rename_i hneg
          go_ret
          exact ⟨by rw [show fewV L = false from decide_eq_false (by omega)]; rfl, hbel⟩
        · rename_i hneg
          go_roundw
          case rel => exact ⟨k + 1, by omega, by go_num, by rw [hs']; omega, by rw [hs', show (3000 : Int) - s - (q + 1) = 3000 - (s' : Int) by omega], hbel⟩
          case measure => simp [intOf]; omega
      · have hmin : min (q : Int) 3000 = 3000 := by omega
        go_wp2
        go_ret
        exact ⟨by rw [show fewV L = false from decide_eq_false (by omega)]; rfl, hbel⟩
    · obtain rfl : k = L.length := by omega
      rw [List.take_length] at hs
      go_wp2
      go_ret
      exact ⟨by unfold fewV; rw [decide_eq_true hs]; rfl, hbel⟩
end Go.Proofs.Ytkhhihkcgpfmfaa
