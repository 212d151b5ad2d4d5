/-
  A plain region, with guards: what each slot's value is like is said of each world that comes; what is left out leaves nothing.
-/
import Derived.Test.YtgebodibamgipaaGreatDoorVeGood
namespace Go.Proofs.YtgebodibamgipaaGreatDoor
open Go.RowKit
set_option maxRecDepth 100000

theorem not_wanted {l : Array Oper} {o : Oper} {a : Act} {j t : Nat} {b : Bool} (hg : o.guard = some (j, b)) (hj : (l[j]?).bind (·.dst) = some t) (h : a.tmps[t]?.getD undef = undef ∨ a.tmps[t]?.getD undef = .bool (!b)) : Region.wanted o (yielded l a.tmps) = false := by
  unfold Region.wanted
  rw [hg]
  show (yielded l a.tmps j == some b) = false
  unfold yielded
  rw [hj]
  cases e : a.tmps[t]? with
  | none => simp [e]
  | some v =>
    rw [e] at h
    simp only [Option.getD_some] at h
    rcases h with h | h
    · subst h; simp [e, undef]
    · subst h; cases b <;> simp [e]
theorem step_left {P : Program} {l : Array Oper} {Q : Exit → Act → World → Prop} {o : Oper} {a : Act} {w : World} {K : Act → World → Prop} (hw : Region.wanted o (yielded l a.tmps) = false) (h : K (a.put o.dst undef) w) :
    if Region.wanted o (yielded l a.tmps) = true then Oper.wp P o a w K Q else K (a.put o.dst undef) w := by
  rw [if_neg (by rw [hw]; simp)]
  exact h
theorem wp_plain_goodg {P : Program} {id : Nat} {Q : Exit → Act → World → Prop} {a0 : Act} {w0 : World} {l : List Oper} (G : Nat → Value → World → Prop) (N : Nat) (hg : goodRegionG l.toArray = true)
    (hN : (List.range l.toArray.size).all (fun i => decide (slotAt l.toArray i < N)) = true) (hs : a0.tmps.size = N)
    (hmono : ∀ s v x x', G s v x → Below w0.heap.size w0 x → Below x.heap.size x x' → G s v x')
    (hstep : ∀ (i : Nat) (o : Oper), l.toArray[i]? = some o → ∀ (a : Act) (x : World), Below w0.heap.size w0 x → (∀ s, (∀ j, j < l.toArray.size → slotAt l.toArray j ≠ s) → a.tmps[s]?.getD undef = a0.tmps[s]?.getD undef) →
      (∀ j, j < i → G (slotAt l.toArray j) (a.tmps[slotAt l.toArray j]?.getD undef) x) →
      ∀ K : Act → World → Prop, (∀ v x', G (slotAt l.toArray i) v x' → Below x.heap.size x x' → K (a.put o.dst v) x') → if Region.wanted o (yielded l.toArray a.tmps) = true then Oper.wp P o a x K Q else K (a.put o.dst undef) x)
    (hend : ∀ (a : Act) (x : World), Below w0.heap.size w0 x → (∀ s, (∀ j, j < l.toArray.size → slotAt l.toArray j ≠ s) → a.tmps[s]?.getD undef = a0.tmps[s]?.getD undef) → (∀ j, j < l.toArray.size → G (slotAt l.toArray j) (a.tmps[slotAt l.toArray j]?.getD undef) x) → a.tmps.size = N → a.defers = a0.defers → Q .normal a x) :
    (Code.region id l.toArray false).wp P Q a0 w0 := by
  refine wp_region_lit ?_
  have main : ∀ (rest : List Oper) (k : Nat), k + rest.length = l.length → (∀ j, rest[j]? = l[k + j]?) → ∀ (a : Act) (x : World), Below w0.heap.size w0 x → (∀ s, (∀ j, j < l.toArray.size → slotAt l.toArray j ≠ s) → a.tmps[s]?.getD undef = a0.tmps[s]?.getD undef) → (∀ j, j < k → G (slotAt l.toArray j) (a.tmps[slotAt l.toArray j]?.getD undef) x) → a.tmps.size = N → a.defers = a0.defers → wpList P l.toArray Q rest a x := by
    intro rest
    induction rest with
    | nil =>
      intro k hk _ a x hb hsame hG hsz hde
      have hkl : k = l.length := by simpa using hk
      subst hkl
      exact wpList_nil (hend a x hb hsame (fun j hj => hG j (by simpa using hj)) hsz hde)
    | cons o rest ih =>
      intro k hk hl a x hb hsame hG hsz hde
      have hi : l.toArray[k]? = some o := by have := hl 0; simpa using this.symm
      have hil : k < l.toArray.size := (Array.getElem?_eq_some_iff.1 hi).1
      refine wpList_step fun K hK => hstep k o hi a x hb hsame hG K fun v x' hv hb' => hK _ _ ?_
      obtain ⟨g2, _⟩ := goodg_at hg hi
      have hslot : slotAt l.toArray k < a.tmps.size := by
        rw [hsz]
        have := List.all_eq_true.1 hN k (List.mem_range.2 hil)
        simpa using this
      rw [g2]
      refine ih (k + 1) (by simp at hk; omega) (fun j => by have := hl (j + 1); simpa [Nat.add_assoc, Nat.add_comm 1 j] using this) _ _ (hb.trans (hb'.mono hb.size)) (fun s hs' => ?_) (fun j hj => ?_) ?_ hde
      · exact (at_put (a := a) (v := v) (fun e => hs' k hil e.symm)).trans (hsame s hs')
      · by_cases e : j = k
        · subst e
          have e2 := at_put_self (a := a) (v := v) hslot
          unfold Act.at_ at e2
          rw [e2]
          exact hv
        · have e2 := at_put (a := a) (v := v) (goodg_ne hg hil (by omega) e)
          unfold Act.at_ at e2
          rw [e2]
          exact hmono _ _ _ _ (hG j (by omega)) hb hb'
      · show (a.tmps.setIfInBounds _ _).size = N
        rw [Array.size_setIfInBounds]
        exact hsz
  exact main l 0 (by simp) (fun j => by simp) a0 w0 (Below.refl _ _) (fun _ _ => rfl) (fun j hj => by omega) hs rfl
/-- A segment of a plain region: operations k to m. -/
theorem wpList_seg {P : Program} {Q : Exit → Act → World → Prop} {a0 : Act} {w0 : World} {l : List Oper} (k m : Nat) (G : Nat → Value → World → Prop) (N : Nat) (hkm : k ≤ m) (hml : m ≤ l.length) (hg : goodRegionG l.toArray = true)
    (hN : (List.range l.toArray.size).all (fun i => decide (slotAt l.toArray i < N)) = true) (hs : a0.tmps.size = N)
    (hmono : ∀ s v x x', G s v x → Below w0.heap.size w0 x → Below x.heap.size x x' → G s v x')
    (h0 : ∀ j, j < k → G (slotAt l.toArray j) (a0.tmps[slotAt l.toArray j]?.getD undef) w0)
    (hstep : ∀ (i : Nat) (o : Oper), k ≤ i → i < m → l.toArray[i]? = some o → ∀ (a : Act) (x : World), Below w0.heap.size w0 x → (∀ s, (∀ j, j < l.toArray.size → slotAt l.toArray j ≠ s) → a.tmps[s]?.getD undef = a0.tmps[s]?.getD undef) →
      (∀ j, j < i → G (slotAt l.toArray j) (a.tmps[slotAt l.toArray j]?.getD undef) x) →
      ∀ K : Act → World → Prop, (∀ v x', G (slotAt l.toArray i) v x' → Below x.heap.size x x' → K (a.put o.dst v) x') → if Region.wanted o (yielded l.toArray a.tmps) = true then Oper.wp P o a x K Q else K (a.put o.dst undef) x)
    (hend : ∀ (a : Act) (x : World), Below w0.heap.size w0 x → (∀ s, (∀ j, j < l.toArray.size → slotAt l.toArray j ≠ s) → a.tmps[s]?.getD undef = a0.tmps[s]?.getD undef) → (∀ j, j < m → G (slotAt l.toArray j) (a.tmps[slotAt l.toArray j]?.getD undef) x) → a.tmps.size = N → a.defers = a0.defers → wpList P l.toArray Q (l.drop m) a x) :
    wpList P l.toArray Q (l.drop k) a0 w0 := by
  have main : ∀ (d : Nat) (i : Nat), i + d = m → k ≤ i → ∀ (a : Act) (x : World), Below w0.heap.size w0 x → (∀ s, (∀ j, j < l.toArray.size → slotAt l.toArray j ≠ s) → a.tmps[s]?.getD undef = a0.tmps[s]?.getD undef) → (∀ j, j < i → G (slotAt l.toArray j) (a.tmps[slotAt l.toArray j]?.getD undef) x) → a.tmps.size = N → a.defers = a0.defers → wpList P l.toArray Q (l.drop i) a x := by
    intro d
    induction d with
    | zero =>
      intro i hi hk a x hb hsame hG hsz hde
      obtain rfl : i = m := by omega
      exact hend a x hb hsame hG hsz hde
    | succ d ih =>
      intro i hi hk a x hb hsame hG hsz hde
      have hil0 : i < l.length := by omega
      rw [List.drop_eq_getElem_cons hil0]
      have hio : l.toArray[i]? = some l[i] := by simp [hil0]
      have hil : i < l.toArray.size := by simpa using hil0
      refine wpList_step fun K hK => hstep i _ hk (by omega) hio a x hb hsame hG K fun v x' hv hb' => hK _ _ ?_
      obtain ⟨g2, _⟩ := goodg_at hg hio
      have hslot : slotAt l.toArray i < a.tmps.size := by
        rw [hsz]
        have := List.all_eq_true.1 hN i (List.mem_range.2 hil)
        simpa using this
      rw [g2]
      refine ih (i + 1) (by omega) (by omega) _ _ (hb.trans (hb'.mono hb.size)) (fun s hs' => ?_) (fun j hj => ?_) ?_ hde
      · exact (at_put (a := a) (v := v) (fun e => hs' i hil e.symm)).trans (hsame s hs')
      · by_cases e : j = i
        · subst e
          have e2 := at_put_self (a := a) (v := v) hslot
          unfold Act.at_ at e2
          rw [e2]
          exact hv
        · have e2 := at_put (a := a) (v := v) (goodg_ne hg hil (by omega) e)
          unfold Act.at_ at e2
          rw [e2]
          exact hmono _ _ _ _ (hG j (by omega)) hb hb'
      · show (a.tmps.setIfInBounds _ _).size = N
        rw [Array.size_setIfInBounds]
        exact hsz
  exact main (m - k) k (by omega) (Nat.le_refl _) a0 w0 (Below.refl _ _) (fun _ _ => rfl) h0 hs rfl
theorem wp_region_seg {P : Program} {id : Nat} {Q : Exit → Act → World → Prop} {a : Act} {w : World} {l : List Oper} (h : wpList P l.toArray Q (l.drop 0) a w) : (Code.region id l.toArray false).wp P Q a w := wp_region_lit h
theorem seg_end {P : Program} {Q : Exit → Act → World → Prop} {a : Act} {w : World} {l : List Oper} {m : Nat} (hm : l.length = m) (h : Q .normal a w) : wpList P l.toArray Q (l.drop m) a w := by
  rw [List.drop_of_length_le (by omega)]
  exact h
/-- A frame, slot by slot. -/
theorem act_frame {a : Act} {N : Nat} (hs : a.tmps.size = N) (hd : a.defers = []) : ∃ F : Nat → Value, (∀ i, a.tmps[i]?.getD undef = F i) ∧ a = ⟨((List.range N).map F).toArray, []⟩ := by
  refine ⟨fun i => a.tmps[i]?.getD undef, fun _ => rfl, ?_⟩
  obtain ⟨A, de⟩ := a
  cases hd
  congr 1
  apply Array.ext
  · simpa using hs
  · intro i h1 h2
    simp [Array.getElem?_eq_getElem h1]
end Go.Proofs.YtgebodibamgipaaGreatDoor
