/-
  slices.Chunk in pairs of fields: by footprints.
  A region that draws its order, inside a round of a range over a function: one invariant over what has been done, a plain step for each operation.
-/
import Derived.Test.YtdmbmkjiffhbcaaGreatKMaps
import Derived.Test.YtdmbmkjiffhbcaaGreatJUnPrep
import Derived.Test.YtdmbmkjiffhbcaaGreatWordsB
import Derived.Lib.Hide
import Derived.Test.YtdmbmkjiffhbcaaGreatRegions
import Derived.RangeFuncNested
import Derived.OwnWalkIn
namespace Go.Proofs.YtdmbmkjiffhbcaaGreat
open Go.RowKit Go.Shelf
set_option maxRecDepth 100000
attribute [local go_sem] Oper.semAt_some

/-- The pair of fields at a place. -/
def pairE (A0 : Option Addr) (i : Nat) : Array Value := #[.slice (A0.map fun x => x.add (2 * i)) 2 2]
set_option maxHeartbeats 1000000 in
theorem pairs_iter (n : Nat) (A0 : Option Addr) (K c0 B1 B2 : Nat) (hKc : 2 * K ≤ c0) (hK : 2 * K ≤ 1099511627776) (w : World) (hb1 : w.cell? ⟨B1, 0, none⟩ = some (.slice A0 (2 * K) c0)) (hb2 : w.cell? ⟨B2, 0, none⟩ = some (.int .i64 2)) :
    Iter2 n Tryz.prog 69 #[.pointer (some ⟨B1, 0, none⟩), .pointer (some ⟨B2, 0, none⟩)] (fun i : Fin K => pairE A0 i.val) (fun k => k = B1 ∨ k = B2) K (fun xs => xs = List.finRange K) (fun _ => True) w := by
  intro L J Jx M W hbel hM hY h0
  have hl1 : B1 < w.heap.size := World.block_lt_of_cell? w _ hb1
  have hl2 : B2 < w.heap.size := World.block_lt_of_cell? w _ hb2
  have hbx1 : W.cell? ⟨B1, 0, none⟩ = some (.slice A0 (2 * K) c0) := (hbel.cell (p := ⟨B1, 0, none⟩) hl1).trans hb1
  have hbx2 : W.cell? ⟨B2, 0, none⟩ = some (.int .i64 2) := (hbel.cell (p := ⟨B2, 0, none⟩) hl2).trans hb2
  have hsw := hbel.size
  refine callsIn_of_wp Tryz.func69 rfl trivial ?_ rfl
  simp only [Tryz.ntmps69, List.size_toArray, List.length_cons, List.length_nil, Nat.reduceAdd, Nat.reduceSub, Array.replicate_succ, Array.replicate_zero, List.push_toArray, List.append_toArray, List.nil_append, List.cons_append]
  gi_wp2
  gi_loopw [4] (fun y wr => ∃ (k : Nat) (M : Nat → Prop) (W0 : World), k ≤ K ∧ y = .int .i64 ((2 * k : Nat) : Int) ∧ wr.cell? ⟨B1, 0, none⟩ = some (.slice A0 (2 * K) c0) ∧ wr.cell? ⟨B2, 0, none⟩ = some (.int .i64 2) ∧
      J M ((List.finRange K).take k) W0 ∧ w.heap.size ≤ W0.heap.size ∧ Hold (fun j => j < w.heap.size ∨ M j) W0 wr ∧ (∀ j, M j → w.heap.size ≤ j ∧ j < W0.heap.size))
    (fun y _ => match y with | .int _ i => (2 * K - i).toNat | _ => 0)
  case atStart =>
    exact ⟨0, M, W, by omega, rfl, hbx1, hbx2, h0, hsw, Hold.refl _ _, hM⟩
  case round =>
    obtain ⟨k, M1, W0, hk, rfl, hc1, hc2, hJ, hsz, hh, hM1⟩ := hrel
    by_cases hend : K ≤ k
    · obtain rfl : k = K := by omega
      have hlss : decide (((2 * k : Nat) : Int) < ((2 * k : Nat) : Int)) = false := by simp
      gi_wp2
      go_end0
      rw [List.take_of_length_le (by simp)] at hJ
      exact ⟨⟨_, rfl⟩, .inl ⟨M1, _, W0, rfl, hJ, hsz, hh⟩⟩
    · have hlss : decide (((2 * k : Nat) : Int) < ((2 * K : Nat) : Int)) = true := by simp; omega
      have hhd : Hold (fun j => j < w.heap.size ∨ M1 j) W0 wr.drew := hh.trans (Below.hold ((Below.refl _ _).drew) _)
      have HY := Lib.hid hY
      have Hj := Lib.hid hJ
      have Hh := Lib.hid hhd
      have HM1 := Lib.hid hM1
      clear hY h0 hJ hh hhd hbel hM hM1 hb1 hb2 hbx1 hbx2
      gi_wp2
      gi_region
      have hm : (min 2 ((2 * K - 2 * k : Nat) : Int) : Int) = 2 := by omega
      simp only [hm]
      have hc1d : wr.drew.cell? ⟨B1, 0, none⟩ = some (.slice A0 (2 * K) c0) := hc1
      have hc2d : wr.drew.cell? ⟨B2, 0, none⟩ = some (.int .i64 2) := hc2
      have hts : (List.finRange K).take (k + 1) = (List.finRange K).take k ++ [⟨k, by omega⟩] := by
        rw [List.take_succ_eq_append_getElem (by simp; omega)]
        simp
      have Hts := Lib.hid hts
      clear hts
      obtain ⟨fn, tmps, assign, body, hy', hR⟩ := HY.out M1 ((List.finRange K).take k) ⟨k, by omega⟩ W0 wr.drew Hj.out hsz Hh.out (by rw [List.length_take, List.length_finRange]; omega)
      replace hy' : (Instr.yield L #[.slice (Option.map (fun x => x.add (2 * k)) A0) 2 2]).run Tryz.prog wr.drew = .ok (.round L fn tmps assign body) wr.drew := hy'
      have hi1 : 2 * k + 2 ≤ c0 := by omega
      have hi2 : 2 * k + 2 ≤ 1099511627776 := by omega
      have hi3 : 2 * k + 2 - 2 * k = 2 := by omega
      clear hm
      gi_wp2
      refine ⟨Bool.noConfusion, hR.mono ?_⟩
      rintro e3 w3 (⟨rfl, M', hJ3, hsub, hk3⟩ | ⟨rfl, M', hJx3, hsub, hk3⟩)
      · have hnm : ∀ j, j < w.heap.size → ¬ M1 j := fun j hj h => by have := (HM1.out j h).1; omega
        have hs0 := Hh.out.size
        have hd1 : w3.cell? ⟨B1, 0, none⟩ = some (.slice A0 (2 * K) c0) := (World.cell?_of_block (w := wr.drew) (hk3.block B1 (by omega) ⟨hnm _ hl1, .inr (.inl rfl)⟩)).trans hc1
        have hd2 : w3.cell? ⟨B2, 0, none⟩ = some (.int .i64 2) := (World.cell?_of_block (w := wr.drew) (hk3.block B2 (by omega) ⟨hnm _ hl2, .inr (.inr rfl)⟩)).trans hc2
        have hs3 := hk3.size
        gi_wp2
        go_roundw
        case rel =>
          refine ⟨k + 1, M', w3, by omega, ?_, hd1, hd2, by rw [Hts.out]; exact hJ3, by omega, Hold.refl _ _, fun j h => ?_⟩
          · congr 1
          · obtain ⟨h1, h2⟩ := hsub j h
            rcases h1 with h1 | h1
            · exact ⟨(HM1.out j h1).1, h2⟩
            · exact ⟨by omega, h2⟩
        case measure => dsimp only; omega
      · gi_wp2
        refine bodyPost_ret (results_none rfl _ _ _) rfl ?_
        have hs0 := Hh.out.size
        exact ⟨⟨_, rfl⟩, .inr ⟨M', _, w3, trivial, hJx3, by omega, Hold.refl _ _⟩⟩
theorem pairs_any (v : Value) (A0 : Option Addr) (n c : Nat) (hv : v = .slice A0 n c) (w : World) :
    Calls Tryz.prog 44 #[v, .int .i64 2] w fun e w' => e = .returned (.func (.func 69) #[] #[.pointer (some ⟨w.heap.size, 0, none⟩), .pointer (some ⟨w.heap.size + 1, 0, none⟩)]) ∧
      w'.cell? ⟨w.heap.size, 0, none⟩ = some v ∧ w'.cell? ⟨w.heap.size + 1, 0, none⟩ = some (.int .i64 2) ∧ w'.heap.size = w.heap.size + 1 + 1 ∧ Below w.heap.size w w' := by
  subst hv
  go_enter Tryz.func44, Tryz.ntmps44
  go_wp2
  go_ret
  have hb : Below w.heap.size w ((w.alloc (.cells #[.slice A0 n c] 51)).alloc (.cells #[.int .i64 2] 3)) := ((Below.refl w.heap.size w).alloc (Nat.le_refl _) _).alloc (by simp) _
  refine ⟨rfl, by go_simp, by go_simp, by simp, hb⟩
end Go.Proofs.YtdmbmkjiffhbcaaGreat

namespace Go.Proofs.YtdmbmkjiffhbcaaGreat
open Go.RowKit

theorem opIn_of_plain {l n : Nat} {P : Program} {o : Oper} {a : Act} {w : World} {next : Act → World → Prop} {Q : Exit → Act → World → Prop} (hd : ∀ c, o.op ≠ .defer c) (h : o.wp P a w next Q) : o.wpIn (Fence.wide.inRound l) n P a w next Q := by
  refine ⟨fun f _ => trivial, ?_⟩
  rw [Oper.semAt_plain (Fence.wide.inRound l) _ _ hd]
  unfold Oper.wp at h
  generalize (execOp a.eval o).run P w = r at h ⊢
  cases r with
  | ok x w' =>
    cases x with
    | value v => exact h
    | skip => exact h
    | defer d => exact h
    | enter f args =>
      refine ⟨fun h => (by cases h), CallsIn.inRound l ((callsIn_wide (n := n - 1)).2 (Calls.mono h ?_))⟩
      intro e w'' he
      cases e <;> exact he
    | row row args =>
      refine ⟨fun h => (by cases h), fun c cs _ => ?_⟩
      obtain ⟨v, w'', hr, hs⟩ := h c cs
      exact ⟨v, w'', hr, stepsIn_wide.2 hs⟩
    | _ => exact h.elim
  | halt x w' => cases x <;> exact h
theorem wpAnyIn_inv {L n : Nat} {P : Program} {l : Array Oper} {Q : Exit → Act → World → Prop} (I : (Nat → Bool) → Act → World → Prop) (ho : inOrder l = true)
    (hnd : ∀ (i : Nat) (o : Oper), l[i]? = some o → ∀ c, o.op ≠ .defer c)
    (hstep : ∀ (i : Nat) (o : Oper), l[i]? = some o → ∀ (d : Nat → Bool) (a : Act) (w : World), d i = false → (∀ e ∈ o.after, Region.binds .any e = true → d e.on = true) → I d a w → ∀ K : Act → World → Prop, (∀ a w, I (also d i) a w → K a w) → if Region.wanted o (yielded l a.tmps) = true then Oper.wp P o a w K Q else K (a.put o.dst undef) w)
    (hend : ∀ (d : Nat → Bool) a w, (∀ j, j < l.size → d j = true) → I d a w → Q .normal a w) :
    ∀ (fuel : Nat) (listed : Array Bool) (a : Act) (w : World), listed.size = l.size → listed.toList.count true + fuel = l.size → I (doneOf listed) a w → wpAnyIn (Fence.wide.inRound L) n P .any l Q fuel listed a w := by
  intro fuel
  induction fuel with
  | zero =>
    intro listed a w hs hc hI
    have hall : ∀ b ∈ listed.toList, true = b := List.count_eq_length.1 (by rw [Array.length_toList]; omega)
    have hdone : ∀ j, j < l.size → doneOf listed j = true := fun j hj => by
      have hj' : j < listed.size := by omega
      unfold doneOf
      have : true = listed[j] := hall _ (by rw [← Array.getElem_toList]; exact List.getElem_mem _)
      simp [hj', ← this]
    refine ⟨?_, hend _ _ _ hdone hI⟩
    cases hr : Region.ready .any l listed with
    | nil => rfl
    | cons j r =>
      have hm : j ∈ Region.ready .any l listed := by rw [hr]; simp
      obtain ⟨h1, o, h2, _⟩ := mem_ready.1 hm
      have hj := (Array.getElem?_eq_some_iff.1 h2).1
      have h3 := hdone j hj
      unfold doneOf at h3
      have hj' : j < listed.size := by omega
      simp [hj'] at h1 h3
      rw [h1] at h3
      cases h3
  | succ fuel ih =>
    intro listed a w hs hc hI
    refine ⟨fun hr => hend _ _ _ (all_of_ready hs ho hr) hI, fun i hi => ?_⟩
    obtain ⟨h1, o, h2, h3⟩ := mem_ready.1 hi
    have hil : i < l.size := (Array.getElem?_eq_some_iff.1 h2).1
    have his : i < listed.size := by omega
    have hf : listed[i] = false := by simpa [his] using h1
    have hK : ∀ a' w', I (also (doneOf listed) i) a' w' → wpAnyIn (Fence.wide.inRound L) n P .any l Q fuel (listed.setIfInBounds i true) a' w' := fun a' w' hI' => by
      refine ih _ a' w' (by rw [Array.size_setIfInBounds]; exact hs) ?_ (by rw [doneOf_set his]; exact hI')
      have : (listed.setIfInBounds i true).toList.count true = listed.toList.count true + 1 := by
        rw [Array.toList_setIfInBounds, List.count_set (by simpa using his)]
        simp [hf]
      omega
    have hs1 := hstep i o h2 (doneOf listed) a w (by unfold doneOf; simp [his, hf]) h3 hI _ hK
    unfold wpOpIn
    rw [h2]
    dsimp only
    split
    · rename_i hw
      rw [if_pos hw] at hs1
      exact opIn_of_plain (hnd i o h2) hs1
    · rename_i hw
      rw [if_neg hw] at hs1
      exact ⟨fun _ _ => trivial, hs1⟩
theorem wpIn_region_inv {L n : Nat} {P : Program} {id : Nat} {Q : Exit → Act → World → Prop} {a : Act} {w : World} {l : Array Oper} (I : (Nat → Bool) → Act → World → Prop) (hm : P.follows .mixedOrders = true) (ho : inOrder l = true)
    (hnd : (l.all fun o => match o.op with | .defer _ => false | _ => true) = true)
    (h0 : I (fun _ => false) a w.drew)
    (hstep : ∀ (i : Nat) (o : Oper), l[i]? = some o → ∀ (d : Nat → Bool) (a : Act) (w : World), d i = false → (∀ e ∈ o.after, Region.binds .any e = true → d e.on = true) → I d a w → ∀ K : Act → World → Prop, (∀ a w, I (also d i) a w → K a w) → if Region.wanted o (yielded l a.tmps) = true then Oper.wp P o a w K Q else K (a.put o.dst undef) w)
    (hend : ∀ (d : Nat → Bool) a w, (∀ j, j < l.size → d j = true) → I d a w → Q .normal a w) : (Code.region id l true).wpIn (Fence.wide.inRound L) n P Q a w := by
  refine wpIn_region_any hm (wpAnyIn_inv I ho ?_ hstep hend l.size _ a _ (by simp) ?_ ?_)
  · intro i o hi c hc
    obtain ⟨hlt, he⟩ := Array.getElem?_eq_some_iff.1 hi
    have := Array.all_eq_true.1 hnd i hlt
    rw [he, hc] at this
    cases this
  · simp [List.count_replicate]
  · have : doneOf (Array.replicate l.size false) = fun _ => false := by
      funext j
      unfold doneOf
      rw [Array.getD_eq_getD_getElem?, Array.getElem?_replicate]
      split <;> rfl
    rw [this]
    exact h0
end Go.Proofs.YtdmbmkjiffhbcaaGreat
