/-
  The document's Join, Begins and Within; the laws' short and same.
-/
import Derived.Test.YtgebodibamgipaaDoorPaRefSplit
import Derived.Test.YtgebodibamgipaaDoorRegions
namespace Go.Proofs.YtgebodibamgipaaDoor
open Go.RowKit
set_option maxRecDepth 100000

/-- Texts joined as the document has it. -/
def joinR (L : List (List UInt8)) : List UInt8 := (L.map (47 :: ·)).flatten
theorem joinR_take {L : List (List UInt8)} {k : Nat} (h : k < L.length) : joinR (L.take (k + 1)) = joinR (L.take k) ++ 47 :: L[k] := by
  unfold joinR
  rw [List.take_succ_eq_append_getElem h, List.map_append, List.flatten_append]
  simp
theorem joinR_le {L : List (List UInt8)} (h : ∀ p, p ∈ L → p.length ≤ 1000) : (joinR L).length ≤ 1001 * L.length := by
  unfold joinR
  induction L with
  | nil => simp
  | cons a r ih =>
    have h1 := ih fun p hp => h p (by simp [hp])
    have h2 := h a (by simp)
    simp only [List.map_cons, List.flatten_cons, List.length_append, List.length_cons] at h1 ⊢
    omega
theorem joinR_path {L : List (List UInt8)} (h : L ≠ []) : joinR L = pathT L := by
  cases L with
  | nil => exact absurd rfl h
  | cons a r =>
    unfold pathT
    rw [Lib.join_cons]
    rfl
def refJ (L : List (List UInt8)) : List UInt8 := if L = [] then [47] else pathT L
theorem refJ_nil {L : List (List UInt8)} (h : L = []) : refJ L = [47] := if_pos h
theorem refJ_more {L : List (List UInt8)} (h : L ≠ []) : refJ L = pathT L := if_neg h
theorem cells_at {wr w : World} (hbel : Below w.heap.size w wr) {ok : Nat → Prop} {A : Option Addr} {L : List (List UInt8)} (hL : Rd w ok A (L.map str)) (hn : L ≠ []) : ∃ b off, A = some ⟨b, off, none⟩ ∧ ∀ k (hk : k < L.length), wr.cell? ⟨b, off + k, none⟩ = some (.string ⟨L[k].toArray⟩) := by
  obtain ⟨b, off, rfl, _, had, hel⟩ := hL.at' (by intro e; exact hn (List.map_eq_nil_iff.1 e))
  refine ⟨b, off, rfl, fun k hk => ?_⟩
  have := hel k (by simpa using hk)
  rw [List.getElem_map] at this
  exact (hbel.cell (p := ⟨b, off + k, none⟩) had).trans this

set_option maxHeartbeats 1000000 in
theorem refjoin_any (ok : Nat → Prop) (A : Option Addr) (c : Nat) (L : List (List UInt8)) (hn : L.length ≤ 1000) (hp : ∀ p, p ∈ L → p.length ≤ 1000) (w : World) (hL : Rd w ok A (L.map str)) :
    Calls Tryd.prog 13 #[.slice A L.length c] w fun e w' => e = .returned (.string ⟨(refJ L).toArray⟩) ∧ w = w' := by
  have hjl : ∀ k, (joinR (L.take k)).length ≤ 1001 * L.length := fun k => by
    have := joinR_le (L := L.take k) fun p h => hp p (List.mem_of_mem_take h)
    rw [List.length_take] at this
    have h2 : 1001 * min k L.length ≤ 1001 * L.length := Nat.mul_le_mul_left _ (by omega)
    omega
  have hpk : ∀ k (h : k < L.length), L[k].length ≤ 1000 := fun k h => hp _ (List.getElem_mem h)
  have Hjl := Lib.hid hjl
  have Hpk := Lib.hid hpk
  have HL := Lib.hid hL
  clear hjl hpk hL hp
  go_enter Tryd.func13, Tryd.ntmps13
  go_wp2_with fail
  go_loop [3, 4] (fun v i => ∃ k : Nat, k ≤ L.length ∧ i = .int .i64 (k : Int) ∧ v = .string ⟨(joinR (L.take k)).toArray⟩) (fun _ i => L.length - (intOf i).toNat)
  case atStart => exact ⟨0, by omega, rfl, rfl⟩
  case round =>
    obtain ⟨k, hk, rfl, rfl⟩ := hrel
    by_cases hlt : k < L.length
    · obtain ⟨b, off, rfl, hc⟩ := cells_at (Below.refl _ _) HL.out (by intro e; subst e; simp at hlt)
      have hck := hc k hlt
      have hj := joinR_take hlt
      have h1 := Hjl.out k
      have h2 := Hpk.out k hlt
      generalize L[k] = X at hck hj h2
      generalize joinR (L.take k) = J at hj h1
      obtain ⟨J2, hJ2⟩ : ∃ J2, J2 = joinR (L.take (k + 1)) := ⟨_, rfl⟩
      rw [← hJ2] at hj
      have HJ2 := Lib.hid hJ2
      have add1 : ∀ u : World, (Op.stringOp .add ⟨#[47]⟩ ⟨X.toArray⟩).run Tryd.prog u = .ok (str (47 :: X)) u := fun u => run_str_add u [47] X (by simp; omega)
      have add2 : ∀ u : World, (Op.stringOp .add ⟨J.toArray⟩ ⟨(47 :: X).toArray⟩).run Tryd.prog u = .ok (str J2) u := fun u => by rw [hj]; exact run_str_add u J (47 :: X) (by simp; omega)
      unfold str at add1 add2
      clear hc hj h1 h2 hJ2
      go_wp2_with fail
      go_round
      case rel => exact ⟨k + 1, by omega, by go_num, by rw [HJ2.out]⟩
      case measure => simp [intOf]; omega
    · obtain rfl : k = L.length := by omega
      rw [List.take_length]
      by_cases h0 : L = []
      · have hj : joinR L = [] := by rw [h0]; rfl
        rw [hj]
        have H0 := Lib.hid h0
        clear h0 hj
        go_wp2_with fail
        go_ret
        exact ⟨by rw [refJ_nil H0.out]; rfl, rfl⟩
      · have hj := joinR_path h0
        obtain ⟨J, hJ⟩ : ∃ J, J = Lib.join L [47] := ⟨_, rfl⟩
        have hp2 : pathT L = 47 :: J := by rw [hJ]; rfl
        rw [hj, hp2]
        have hne : (47 :: J).isEmpty = false := rfl
        have H0 := Lib.hid h0
        have Hp := Lib.hid hp2
        clear h0 hj hJ hp2
        go_wp2_with fail
        go_ret
        exact ⟨by rw [refJ_more H0.out, Hp.out]; rfl, rfl⟩

theorem within_some {s t : List UInt8} {X Y : List (List UInt8)} (h1 : splitV s = some X) (h2 : splitV t = some Y) : withinV s t = Y.isPrefixOf X := by unfold withinV; rw [h1, h2]
theorem within_left {s t : List UInt8} (h : splitV s = none) : withinV s t = false := by unfold withinV; rw [h]
theorem within_right {s t : List UInt8} (h : splitV t = none) : withinV s t = false := by
  unfold withinV
  rw [h]
  cases splitV s <;> rfl
theorem split_few {s : List UInt8} {X : List (List UInt8)} (h : splitV s = some X) : X.length ≤ 1000 := by have := (split_path h).2.1; omega
/-! ### The laws' own -/
def shortB (L : List (List UInt8)) : Bool := decide (L.length ≤ 40) && L.all fun s => decide (s.length ≤ 200)
def SamePost (X Y : List (List UInt8)) (w : World) (e : Ending) (w' : World) : Prop := e = .returned (.bool (X == Y)) ∧ Below w.heap.size w w'

end Go.Proofs.YtgebodibamgipaaDoor
