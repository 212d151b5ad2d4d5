/-
  Versions with one more, in the place of some: mathematics; slices.Insert at any place.
-/
import Derived.Test.YtcpjgohclncbkaaDoorVeInsert
import Derived.Test.YtcpjgohclncbkaaDoorVeFind
namespace Go.Proofs.YtcpjgohclncbkaaDoor
open Go.RowKit
set_option maxRecDepth 100000

/-- By, once a version with that number has come in the place of these. -/
def byV (bs : List (Int × Nat)) (x : Ver) (r : Int) (s : Nat) : Nat → Nat := bs.foldl (fun V p => if sameI p.1 p.2 x.rep x.seq = true then withV V r s else V) x.by_
def addedV (L : List Ver) (bs : List (Int × Nat)) (r : Int) (s : Nat) : List Ver := L.map fun x => { x with by_ := byV bs x r s }
def addV (L : List Ver) (bs : List (Int × Nat)) (X : Ver) : List Ver × Int :=
  if (bs.all fun p => thereV L p.1 p.2) = false then ([], 2) else if thereV L X.rep X.seq = true then ([], 11) else (insV (addedV L bs X.rep X.seq) (posV L X.rep X.seq) X, 0)
theorem addedV_nil (L : List Ver) (r : Int) (s : Nat) : addedV L [] r s = L := by unfold addedV byV; simp
theorem addedV_length (L : List Ver) (bs : List (Int × Nat)) (r : Int) (s : Nat) : (addedV L bs r s).length = L.length := by unfold addedV; simp
theorem addedV_get (L : List Ver) (bs : List (Int × Nat)) (r : Int) (s : Nat) (j : Nat) (h : j < (addedV L bs r s).length) (h' : j < L.length) : (addedV L bs r s)[j] = { L[j] with by_ := byV bs L[j] r s } := by simp [addedV]
theorem byV_snoc (bs : List (Int × Nat)) (p : Int × Nat) (x : Ver) (r : Int) (s : Nat) : byV (bs ++ [p]) x r s = if sameI p.1 p.2 x.rep x.seq = true then withV (byV bs x r s) r s else byV bs x r s := by unfold byV; rw [List.foldl_append]; rfl
theorem okV_by {bs : List (Int × Nat)} {x : Ver} (hx : okV x.by_) (r : Int) {s : Nat} (hs : s < 4294967296) : okV (byV bs x r s) := by
  unfold byV
  generalize x.by_ = V at hx
  have : ∀ (V : Nat → Nat), okV V → okV (bs.foldl (fun V p => if sameI p.1 p.2 x.rep x.seq = true then withV V r s else V) V) := by
    induction bs with
    | nil => intro V h; exact h
    | cons p bs ih =>
      intro V h
      rw [List.foldl_cons]
      refine ih _ ?_
      split
      · exact okV_with h r hs
      · exact h
  exact this V hx
theorem addedV_ok {L : List Ver} (h : ∀ x ∈ L, VerOk x) (bs : List (Int × Nat)) (r : Int) {s : Nat} (hs : s < 4294967296) : ∀ x ∈ addedV L bs r s, VerOk x := by
  intro y hy
  unfold addedV at hy
  obtain ⟨x, hx, rfl⟩ := List.mem_map.1 hy
  have := h x hx
  exact ⟨this.rep, this.seq, this.data, okV_by this.by_ r hs⟩
theorem sameI_eq {a : Int} {b : Nat} {c : Int} {d : Nat} : sameI a b c d = true ↔ a = c ∧ b = d := by unfold sameI; exact decide_eq_true_iff
/-- One number more: only the version with that number is another. -/
theorem addedV_step {L : List Ver} (hs : SortedV L) (bs : List (Int × Nat)) (p : Int × Nat) (r : Int) (s : Nat) {k : Nat} (hk : k < L.length) (hp : p.1 = L[k].rep ∧ p.2 = L[k].seq) :
    addedV L (bs ++ [p]) r s = (addedV L bs r s).set k { L[k] with by_ := withV (byV bs L[k] r s) r s } := by
  apply List.ext_getElem
  · rw [List.length_set, addedV_length, addedV_length]
  intro j h1 h2
  rw [addedV_length] at h1
  rw [List.getElem_set, addedV_get _ _ _ _ _ _ h1, addedV_get _ _ _ _ _ _ h1, byV_snoc]
  by_cases e : k = j
  · subst e
    rw [if_pos rfl, if_pos (sameI_eq.2 hp)]
  · rw [if_neg e, if_neg]
    intro h
    rw [sameI_eq, hp.1, hp.2] at h
    rcases Nat.lt_or_ge k j with hlt | hge
    · have := hs k j hk h1 hlt
      rw [h.1, h.2] at this
      unfold lessV at this
      simp at this
    · have := hs j k h1 hk (by omega)
      rw [h.1, h.2] at this
      unfold lessV at this
      simp at this
/-- Where a number that is there lies. -/
theorem there_pos {L : List Ver} (hs : SortedV L) {r : Int} {s : Nat} (h : thereV L r s = true) : ∃ hk : posV L r s < L.length, r = L[posV L r s].rep ∧ s = L[posV L r s].seq := by
  unfold thereV at h
  rw [List.any_eq_true] at h
  obtain ⟨x, hx, hsame⟩ := h
  obtain ⟨t, ht, rfl⟩ := List.getElem_of_mem hx
  rw [sameI_eq] at hsame
  have hp : posV L r s = t := by
    refine takeWhile_pos _ L t (by omega) (fun j hj hlt => ?_) (fun _ => ?_)
    · have := hs j t hj ht hlt
      rw [hsame.1, hsame.2] at this
      exact this
    · show lessV L[t].rep L[t].seq r s = false
      rw [hsame.1, hsame.2]
      unfold lessV
      simp
  refine ⟨by rw [hp]; exact ht, ?_⟩
  have e : L[posV L r s]'(by rw [hp]; exact ht) = L[t] := by congr 1
  rw [e]
  exact ⟨hsame.1.symm, hsame.2.symm⟩

theorem insV_end (L : List Ver) (X : Ver) : insV L L.length X = L ++ [X] := by unfold insV; rw [List.take_length, List.drop_length]
end Go.Proofs.YtcpjgohclncbkaaDoor
