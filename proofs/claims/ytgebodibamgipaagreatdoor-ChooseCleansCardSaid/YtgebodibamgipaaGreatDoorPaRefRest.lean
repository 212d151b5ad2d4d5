/-
  The document's Join, Begins and Within; the laws' short and same.
-/
import Derived.Test.YtgebodibamgipaaGreatDoorPaRefSplit
import Derived.Test.YtgebodibamgipaaGreatDoorRegions
namespace Go.Proofs.YtgebodibamgipaaGreatDoor
open Go.RowKit
set_option maxRecDepth 100000

/-- Texts joined as the document has it. -/
def joinR (L : List (List UInt8)) : List UInt8 := (L.map (47 :: ·)).flatten
theorem joinR_take {L : List (List UInt8)} {k : Nat} (h : k < L.length) : joinR (L.take (k + 1)) = joinR (L.take k) ++ 47 :: L[k] := by
  unfold joinR
  rw [List.take_succ_eq_append_getElem h, List.map_append, List.flatten_append]
  simp
theorem joinR_le {L : List (List UInt8)} (h : ∀ p, p ∈ L → p.length ≤ 1000) : (joinR L).length ≤ 1001 * L.length := by
  unfold joinR
  induction L with
  | nil => simp
  | cons a r ih =>
    have h1 := ih fun p hp => h p (by simp [hp])
    have h2 := h a (by simp)
    simp only [List.map_cons, List.flatten_cons, List.length_append, List.length_cons] at h1 ⊢
    omega
theorem joinR_path {L : List (List UInt8)} (h : L ≠ []) : joinR L = pathT L := by
  cases L with
  | nil => exact absurd rfl h
  | cons a r =>
    unfold pathT
    rw [Lib.join_cons]
    rfl
def refJ (L : List (List UInt8)) : List UInt8 := if L = [] then [47] else pathT L
theorem refJ_nil {L : List (List UInt8)} (h : L = []) : refJ L = [47] := if_pos h
theorem refJ_more {L : List (List UInt8)} (h : L ≠ []) : refJ L = pathT L := if_neg h
theorem cells_at {wr w : World} (hbel : Below w.heap.size w wr) {ok : Nat → Prop} {A : Option Addr} {L : List (List UInt8)} (hL : Rd w ok A (L.map str)) (hn : L ≠ []) : ∃ b off, A = some ⟨b, off, none⟩ ∧ ∀ k (hk : k < L.length), wr.cell? ⟨b, off + k, none⟩ = some (.string ⟨L[k].toArray⟩) := by
  obtain ⟨b, off, rfl, _, had, hel⟩ := hL.at' (by intro e; exact hn (List.map_eq_nil_iff.1 e))
  refine ⟨b, off, rfl, fun k hk => ?_⟩
  have := hel k (by simpa using hk)
  rw [List.getElem_map] at this
  exact (hbel.cell (p := ⟨b, off + k, none⟩) had).trans this

set_option maxHeartbeats 1000000 in
theorem refbegins_any (ok ok' : Nat → Prop) (A B : Option Addr) (c d : Nat) (X Y : List (List UInt8)) (hx : X.length ≤ 1000) (w : World) (hX : Rd w ok A (X.map str)) (hY : Rd w ok' B (Y.map str)) :
    Calls Tryz.prog 41 #[.slice A X.length c, .slice B Y.length d] w fun e w' => e = .returned (.bool (Y.isPrefixOf X)) ∧ Below w.heap.size w w' := by
  by_cases hlen : X.length < Y.length
  · have hres : Y.isPrefixOf X = false := by
      cases h : Y.isPrefixOf X with
      | false => rfl
      | true => have := (List.isPrefixOf_iff_prefix.1 h).length_le; omega
    rw [hres]
    go_enter Tryz.func41, Tryz.ntmps41
    go_wp2
    go_ret
    exact ⟨rfl, Below.refl _ _⟩
  · have hge : ¬ (X.length : Int) < (Y.length : Int) := by omega
    obtain ⟨R, hR⟩ : ∃ R, R = Y.isPrefixOf X := ⟨_, rfl⟩
    have hyes : X.take Y.length = Y → R = true := fun h => by rw [hR, List.isPrefixOf_iff_prefix, List.prefix_iff_eq_take]; exact h.symm
    have hno : X.take Y.length ≠ Y → R = false := fun h => by
      cases hr : R with
      | false => rfl
      | true => rw [hR, List.isPrefixOf_iff_prefix, List.prefix_iff_eq_take] at hr; exact absurd hr.symm h
    rw [← hR]
    have Hyes := Lib.hid hyes
    have Hno := Lib.hid hno
    have HX := Lib.hid hX
    have HY := Lib.hid hY
    clear hR hyes hno hX hY
    go_enter Tryz.func41, Tryz.ntmps41
    go_wp2_with fail
    go_loopw [5] (fun i wr => ∃ k : Nat, k ≤ Y.length ∧ i = .int .i64 (k : Int) ∧ X.take k = Y.take k ∧ Below w.heap.size w wr) (fun i _ => Y.length - (intOf i).toNat)
    case atStart => exact ⟨0, by omega, rfl, by simp, Below.refl _ _⟩
    case round =>
      obtain ⟨k, hk, rfl, htk, hbel⟩ := hrel
      have Htk := Lib.hid htk
      clear htk
      by_cases hlt : k < Y.length
      · have hlx : k < X.length := by omega
        obtain ⟨b, off, rfl, hc1⟩ := cells_at hbel HX.out (by intro e; subst e; simp at hlx)
        obtain ⟨b', off', rfl, hc2⟩ := cells_at hbel HY.out (by intro e; subst e; simp at hlt)
        have c1 := hc1 k hlx
        have c2 := hc2 k hlt
        clear hc1 hc2
        have hidx : (k : Int) < (X.length : Int) := by omega
        have hidx' : (k : Int) < (Y.length : Int) := by omega
        have hyes2 : X[k] = Y[k] → X.take (k + 1) = Y.take (k + 1) := fun h => by rw [List.take_succ_eq_append_getElem hlx, List.take_succ_eq_append_getElem hlt, Htk.out, h]
        have hno2 : X[k] ≠ Y[k] → X.take Y.length ≠ Y := fun h e => h (by
          have e1 : (X.take Y.length)[k]? = Y[k]? := by rw [e]
          rw [List.getElem?_take, if_pos hlt, List.getElem?_eq_getElem hlx, List.getElem?_eq_getElem hlt] at e1
          exact Option.some.inj e1)
        generalize X[k] = x at c1 hyes2 hno2
        generalize Y[k] = y at c2 hyes2 hno2
        have Hyes2 := Lib.hid hyes2
        have Hno2 := Lib.hid hno2
        clear hyes2 hno2
        go_wp2_with fail
        go_quiet (fail)
        go_wp2
        · rename_i hb
          have hr := Hno.out (Hno2.out (by simpa using hb))
          subst hr
          go_ret
          exact ⟨rfl, below_drewN hbel _⟩
        · rename_i hb
          have heq := Hyes2.out (by simpa using hb)
          have Heq := Lib.hid heq
          clear heq
          go_roundw
          case rel => exact ⟨k + 1, by omega, by go_num, Heq.out, below_drewN hbel _⟩
          case measure => simp [intOf]; omega
      · obtain rfl : k = Y.length := by omega
        have hr := Hyes.out (by rw [Htk.out, List.take_length])
        subst hr
        go_wp2
        go_ret
        exact ⟨rfl, hbel⟩

theorem within_some {s t : List UInt8} {X Y : List (List UInt8)} (h1 : splitV s = some X) (h2 : splitV t = some Y) : withinV s t = Y.isPrefixOf X := by unfold withinV; rw [h1, h2]
theorem within_left {s t : List UInt8} (h : splitV s = none) : withinV s t = false := by unfold withinV; rw [h]
theorem within_right {s t : List UInt8} (h : splitV t = none) : withinV s t = false := by
  unfold withinV
  rw [h]
  cases splitV s <;> rfl
theorem split_few {s : List UInt8} {X : List (List UInt8)} (h : splitV s = some X) : X.length ≤ 1000 := by have := (split_path h).2.1; omega
theorem refwithin_any (s t : List UInt8) (w : World) : Calls Tryz.prog 31 #[.string ⟨s.toArray⟩, .string ⟨t.toArray⟩] w fun e w' => e = .returned (.bool (withinV s t)) ∧ Below w.heap.size w w' := by
  obtain ⟨B, hB⟩ : ∃ B, B = withinV s t := ⟨_, rfl⟩
  rw [← hB]
  have HB := Lib.hid hB
  clear hB
  go_enter Tryz.func31, Tryz.ntmps31
  go_wp2_with fail
  refine (refsplit_any s w).mono ?_
  rintro e w1 ⟨hb1, hcase⟩
  rcases hcase with ⟨X, A, c, hX, hXc, hcm, rfl, hrX⟩ | ⟨hX, rfl⟩
  · have HX := Lib.hid hX
    have HrX := Lib.hid hrX
    clear hX hrX
    go_wp2_with fail
    refine (refsplit_any t w1).mono ?_
    rintro e w2 ⟨hb2, hcase⟩
    have hb02 := below_call hb1 hb2
    rcases hcase with ⟨Y, A', c', hY, hYc, hcm', rfl, hrY⟩ | ⟨hY, rfl⟩
    · have hcall := refbegins_any (fun _ => True) (fun _ => True) A A' c c' X Y (split_few HX.out) w2 (HrX.out.grow hb2) hrY
      rw [← within_some HX.out hY, ← HB.out] at hcall
      have Hcall := Lib.hid hcall
      clear hcall hY hrY
      go_wp2_with fail
      refine Hcall.out.mono ?_
      rintro e w3 ⟨rfl, hb3⟩
      go_wp2_with fail
      go_ret
      exact ⟨rfl, below_call hb02 hb3⟩
    · have hb : B = false := by rw [HB.out]; exact within_right hY
      subst hb
      clear hY
      go_wp2_with fail
      go_ret
      exact ⟨rfl, hb02⟩
  · have hb : B = false := by rw [HB.out]; exact within_left hX
    subst hb
    clear hX
    go_wp2_with fail
    refine (refsplit_any t w1).mono ?_
    rintro e w2 ⟨hb2, hcase⟩
    have hb02 := below_call hb1 hb2
    rcases hcase with ⟨Y, A', c', hY, hYc, hcm', rfl, hrY⟩ | ⟨hY, rfl⟩
    all_goals clear hY
    all_goals go_wp2_with fail
    all_goals go_ret
    all_goals exact ⟨rfl, hb02⟩

/-! ### The laws' own -/
def shortB (L : List (List UInt8)) : Bool := decide (L.length ≤ 40) && L.all fun s => decide (s.length ≤ 200)
def SamePost (X Y : List (List UInt8)) (w : World) (e : Ending) (w' : World) : Prop := e = .returned (.bool (X == Y)) ∧ Below w.heap.size w w'

end Go.Proofs.YtgebodibamgipaaGreatDoor
