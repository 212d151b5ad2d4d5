/-
  The device of layer 3 in plain words: what is sure, what is loose, and what each call makes of it.
-/
namespace Go.Proofs.YtdmbmkjiffhbcaaGreat

/-- A choice: what a cut leaves. -/
structure Choice where
  kept : List Int
  torn : Int
  half : Int
/-- A device: its sectors as they surely are, its loose writes, the changes ahead of a planned cut (below 0: none), the choice of that cut, the changes so far, whether it is off. -/
structure Dev where
  sure : List (List UInt8)
  loose : List (Nat × List UInt8)
  left : Int
  choice : Choice
  changes : Nat
  off : Bool
def noChoice : Choice := ⟨[], 0, 0⟩
/-- What each sector and each loose write is like. -/
structure Dev.Wf (D : Dev) : Prop where
  sure : ∀ s ∈ D.sure, s.length = 256
  loose : ∀ x ∈ D.loose, x.1 < D.sure.length ∧ x.2.length = 256
  left : -1 ≤ D.left

/-- A new device. -/
def newD (n : Nat) : Dev := ⟨List.replicate n (List.replicate 256 0), [], -1, noChoice, 0, false⟩
/-- The last of the writes to a sector, or what it was. -/
def lastW (i : Nat) (s : List UInt8) : List (Nat × List UInt8) → List UInt8
  | [] => s
  | x :: r => lastW i (if x.1 = i then x.2 else s) r
/-- A sector as it was written last. -/
def Dev.now (D : Dev) (i : Nat) : List UInt8 := lastW i (D.sure.getD i []) D.loose
/-- Why a sector can't be had; 0: it can. -/
def Dev.why (D : Dev) (i : Int) : Int := if D.off then 6 else if i < 0 ∨ (D.sure.length : Int) ≤ i then 2 else 0
/-- How many bytes of the loose write with that number stay. -/
def Choice.stay (c : Choice) (k : Nat) : Nat := if (k : Int) ∈ c.kept then 256 else if c.torn = (k : Int) then (max 0 (min c.half 256)).toNat else 0
/-- The sectors behind a cut: the writes from number k on. -/
def cutS (c : Choice) (s : List (List UInt8)) (k : Nat) : List (Nat × List UInt8) → List (List UInt8)
  | [] => s
  | x :: r => cutS c (s.set x.1 (x.2.take (c.stay k) ++ (s.getD x.1 []).drop (c.stay k))) (k + 1) r
def Dev.cut (D : Dev) (c : Choice) : Dev := if D.off then D else ⟨cutS c D.sure 0 D.loose, [], -1, noChoice, D.changes, true⟩
/-- A change counts: the device behind it, and whether the cut came. -/
def Dev.change (D : Dev) : Dev × Int :=
  if D.left = 0 then ({ D with changes := D.changes + 1 }.cut D.choice, 6) else ({ D with changes := D.changes + 1, left := if 0 < D.left then D.left - 1 else D.left }, 0)
def Dev.put (D : Dev) (i : Int) (s : List UInt8) : Dev × Int :=
  if D.why i ≠ 0 then (D, D.why i) else if s.length ≠ 256 then (D, 1) else { D with loose := D.loose ++ [(i.toNat, s)] }.change
/-- The sectors as they were written last. -/
def applyW (s : List (List UInt8)) : List (Nat × List UInt8) → List (List UInt8)
  | [] => s
  | x :: r => applyW (s.set x.1 x.2) r
def Dev.barrier (D : Dev) : Dev × Int :=
  if D.off then (D, 6) else if D.change.2 ≠ 0 then D.change else ({ D.change.1 with sure := applyW D.change.1.sure D.change.1.loose, loose := [] }, 0)
def Dev.plan (D : Dev) (after : Int) (c : Choice) : Dev := { D with left := max after (-1), choice := c }

/-! ### Lists of writes -/
theorem lastW_append (i : Nat) (s : List UInt8) (l m : List (Nat × List UInt8)) : lastW i s (l ++ m) = lastW i (lastW i s l) m := by
  induction l generalizing s with
  | nil => rfl
  | cons x r ih => exact ih _
theorem lastW_snoc (i : Nat) (s : List UInt8) (l : List (Nat × List UInt8)) (x : Nat × List UInt8) : lastW i s (l ++ [x]) = if x.1 = i then x.2 else lastW i s l := lastW_append i s l [x]
theorem applyW_append (s : List (List UInt8)) (l m : List (Nat × List UInt8)) : applyW s (l ++ m) = applyW (applyW s l) m := by
  induction l generalizing s with
  | nil => rfl
  | cons x r ih => exact ih _
theorem applyW_length (s : List (List UInt8)) (l : List (Nat × List UInt8)) : (applyW s l).length = s.length := by
  induction l generalizing s with
  | nil => rfl
  | cons x r ih => exact (ih _).trans (List.length_set ..)
theorem applyW_at (s : List (List UInt8)) (l : List (Nat × List UInt8)) (i : Nat) (h : i < s.length) : (applyW s l).getD i [] = lastW i (s.getD i []) l := by
  induction l generalizing s with
  | nil => rfl
  | cons x r ih =>
    show (applyW (s.set x.1 x.2) r).getD i [] = _
    rw [ih _ (by rw [List.length_set]; exact h)]
    show lastW i _ r = lastW i _ r
    congr 1
    rw [List.getD_eq_getElem?_getD, List.getD_eq_getElem?_getD, List.getElem?_set]
    by_cases e : x.1 = i
    · simp [e, h]
    · simp [e]
theorem cutS_append (c : Choice) (s : List (List UInt8)) (k : Nat) (l m : List (Nat × List UInt8)) : cutS c s k (l ++ m) = cutS c (cutS c s k l) (k + l.length) m := by
  induction l generalizing s k with
  | nil => rfl
  | cons x r ih =>
    show cutS c _ (k + 1) (r ++ m) = cutS c (cutS c _ (k + 1) r) _ m
    rw [ih]
    congr 1
    rw [List.length_cons]
    omega
theorem cutS_length (c : Choice) (s : List (List UInt8)) (k : Nat) (l : List (Nat × List UInt8)) : (cutS c s k l).length = s.length := by
  induction l generalizing s k with
  | nil => rfl
  | cons x r ih => exact (ih _ _).trans (List.length_set ..)
theorem stay_le (c : Choice) (k : Nat) : c.stay k ≤ 256 := by
  unfold Choice.stay
  split
  · exact Nat.le_refl _
  · split <;> omega
theorem set_all {α : Type} {p : α → Prop} (l : List α) (i : Nat) (x : α) (hl : ∀ y ∈ l, p y) (hx : p x) : ∀ y ∈ l.set i x, p y := fun y hy => by
  rcases List.mem_or_eq_of_mem_set hy with h | h
  · exact hl y h
  · rw [h]; exact hx
theorem cutS_wf (c : Choice) (s : List (List UInt8)) (k : Nat) (l : List (Nat × List UInt8)) (hs : ∀ x ∈ s, x.length = 256) (hl : ∀ x ∈ l, x.1 < s.length ∧ x.2.length = 256) : ∀ x ∈ cutS c s k l, x.length = 256 := by
  induction l generalizing s k with
  | nil => exact hs
  | cons x r ih =>
    obtain ⟨h1, h2⟩ := hl x (by simp)
    have h3 := stay_le c k
    have h4 : (s.getD x.1 []).length = 256 := by
      rw [List.getD_eq_getElem?_getD, List.getElem?_eq_getElem h1]
      exact hs _ (List.getElem_mem h1)
    refine ih _ _ (set_all _ _ _ hs ?_) (fun y hy => by rw [List.length_set]; exact hl y (by simp [hy]))
    rw [List.length_append, List.length_take, List.length_drop]
    omega
theorem lastW_wf (i : Nat) (s : List UInt8) (l : List (Nat × List UInt8)) (hs : s.length = 256) (hl : ∀ x ∈ l, x.2.length = 256) : (lastW i s l).length = 256 := by
  induction l generalizing s with
  | nil => exact hs
  | cons x r ih =>
    refine ih _ ?_ (fun y hy => hl y (by simp [hy]))
    split
    · exact hl x (by simp)
    · exact hs
theorem applyW_wf (s : List (List UInt8)) (l : List (Nat × List UInt8)) (hs : ∀ x ∈ s, x.length = 256) (hl : ∀ x ∈ l, x.2.length = 256) : ∀ x ∈ applyW s l, x.length = 256 := by
  induction l generalizing s with
  | nil => exact hs
  | cons x r ih => exact ih _ (set_all _ _ _ hs (hl x (by simp))) (fun y hy => hl y (by simp [hy]))

theorem cutS_take (c : Choice) (s : List (List UInt8)) (l : List (Nat × List UInt8)) (m : Nat) (h : m < l.length) :
    cutS c s 0 (l.take (m + 1)) = (cutS c s 0 (l.take m)).set l[m].1 (l[m].2.take (c.stay m) ++ ((cutS c s 0 (l.take m)).getD l[m].1 []).drop (c.stay m)) := by
  rw [List.take_succ_eq_append_getElem h, cutS_append, List.length_take, Nat.min_eq_left (by omega), Nat.zero_add]
  rfl
theorem applyW_take (s : List (List UInt8)) (l : List (Nat × List UInt8)) (m : Nat) (h : m < l.length) : applyW s (l.take (m + 1)) = (applyW s (l.take m)).set l[m].1 l[m].2 := by
  rw [List.take_succ_eq_append_getElem h, applyW_append]
  rfl

/-- The sectors of S laid into a list, at the places of these writes. -/
def copyS (S : List (List UInt8)) (l : List (List UInt8)) : List (Nat × List UInt8) → List (List UInt8)
  | [] => l
  | x :: r => copyS S (l.set x.1 (S.getD x.1 [])) r
theorem copyS_append (S l : List (List UInt8)) (M N : List (Nat × List UInt8)) : copyS S l (M ++ N) = copyS S (copyS S l M) N := by
  induction M generalizing l with
  | nil => rfl
  | cons x r ih => exact ih _
theorem copyS_length (S l : List (List UInt8)) (M : List (Nat × List UInt8)) : (copyS S l M).length = l.length := by
  induction M generalizing l with
  | nil => rfl
  | cons x r ih => exact (ih _).trans (List.length_set ..)
theorem copyS_take (S l : List (List UInt8)) (M : List (Nat × List UInt8)) (m : Nat) (h : m < M.length) : copyS S l (M.take (m + 1)) = (copyS S l (M.take m)).set M[m].1 (S.getD M[m].1 []) := by
  rw [List.take_succ_eq_append_getElem h, copyS_append]
  rfl
theorem copyS_at (S l : List (List UInt8)) (M : List (Nat × List UInt8)) (i : Nat) (h : i < l.length) (hS : ¬ (∃ x ∈ M, x.1 = i) → l.getD i [] = S.getD i []) : (copyS S l M).getD i [] = S.getD i [] := by
  induction M generalizing l with
  | nil => exact hS (by simp)
  | cons x r ih =>
    refine ih _ (by rw [List.length_set]; exact h) (fun hn => ?_)
    by_cases e : x.1 = i
    · rw [e, List.getD_eq_getElem?_getD, List.getElem?_set, if_pos rfl, if_pos h]; rfl
    · rw [List.getD_eq_getElem?_getD, List.getElem?_set, if_neg e, ← List.getD_eq_getElem?_getD]
      refine hS (fun ⟨y, hy, hyi⟩ => ?_)
      rcases List.mem_cons.1 hy with rfl | hy
      · exact e hyi
      · exact hn ⟨y, hy, hyi⟩
theorem applyW_untouched (s : List (List UInt8)) (l : List (Nat × List UInt8)) (i : Nat) (h : ¬ ∃ x ∈ l, x.1 = i) : (applyW s l).getD i [] = s.getD i [] := by
  induction l generalizing s with
  | nil => rfl
  | cons x r ih =>
    show (applyW (s.set x.1 x.2) r).getD i [] = _
    rw [ih _ (fun ⟨y, hy, e⟩ => h ⟨y, by simp [hy], e⟩), List.getD_eq_getElem?_getD, List.getElem?_set, if_neg (fun e => h ⟨x, by simp, e⟩), ← List.getD_eq_getElem?_getD]
theorem cutS_untouched (c : Choice) (s : List (List UInt8)) (k : Nat) (l : List (Nat × List UInt8)) (i : Nat) (h : ¬ ∃ x ∈ l, x.1 = i) : (cutS c s k l).getD i [] = s.getD i [] := by
  induction l generalizing s k with
  | nil => rfl
  | cons x r ih =>
    show (cutS c (s.set x.1 _) (k + 1) r).getD i [] = _
    rw [ih _ _ (fun ⟨y, hy, e⟩ => h ⟨y, by simp [hy], e⟩), List.getD_eq_getElem?_getD, List.getElem?_set, if_neg (fun e => h ⟨x, by simp, e⟩), ← List.getD_eq_getElem?_getD]
theorem list_ext_getD (l m : List (List UInt8)) (hl : l.length = m.length) (h : ∀ i, i < l.length → l.getD i [] = m.getD i []) : l = m := by
  apply List.ext_getElem hl
  intro i h1 h2
  have := h i h1
  rwa [List.getD_eq_getElem?_getD, List.getD_eq_getElem?_getD, List.getElem?_eq_getElem h1, List.getElem?_eq_getElem h2] at this
theorem copyS_all (c : Choice) (s : List (List UInt8)) (L : List (Nat × List UInt8)) : copyS (cutS c s 0 L) (applyW s L) L = cutS c s 0 L := by
  apply list_ext_getD
  · rw [copyS_length, applyW_length, cutS_length]
  · intro i hi
    rw [copyS_length] at hi
    exact copyS_at _ _ _ i hi (fun h => by rw [applyW_untouched _ _ _ h, cutS_untouched _ _ _ _ _ h])
theorem copyS_wf (S l : List (List UInt8)) (M : List (Nat × List UInt8)) (hS : ∀ x ∈ S, x.length = 256) (hl : ∀ x ∈ l, x.length = 256) (hM : ∀ x ∈ M, x.1 < S.length) : ∀ x ∈ copyS S l M, x.length = 256 := by
  induction M generalizing l with
  | nil => exact hl
  | cons y r ih =>
    refine ih _ (set_all _ _ _ hl ?_) (fun z hz => hM z (by simp [hz]))
    have := hM y (by simp)
    rw [List.getD_eq_getElem?_getD, List.getElem?_eq_getElem this]
    exact hS _ (List.getElem_mem this)

/-! ### What stays as it must be -/
theorem newD_wf (n : Nat) : (newD n).Wf := ⟨fun s hs => by rw [List.eq_of_mem_replicate hs]; exact List.length_replicate, fun _ hx => (by cases hx), by show (-1 : Int) ≤ -1; omega⟩
theorem now_length {D : Dev} (h : D.Wf) (i : Nat) (hi : i < D.sure.length) : (D.now i).length = 256 := by
  refine lastW_wf _ _ _ ?_ (fun x hx => (h.loose x hx).2)
  rw [List.getD_eq_getElem?_getD, List.getElem?_eq_getElem hi]
  exact h.sure _ (List.getElem_mem hi)
theorem cut_wf {D : Dev} (h : D.Wf) (c : Choice) : (D.cut c).Wf := by
  unfold Dev.cut
  split
  · exact h
  · exact ⟨cutS_wf c _ 0 _ h.sure h.loose, fun _ hx => (by cases hx), by show (-1 : Int) ≤ -1; omega⟩
theorem cut_length (D : Dev) (c : Choice) : (D.cut c).sure.length = D.sure.length := by
  unfold Dev.cut
  split
  · rfl
  · exact cutS_length c _ 0 _
theorem change_wf {D : Dev} (h : D.Wf) : D.change.1.Wf := by
  unfold Dev.change
  split
  · exact cut_wf (D := { D with changes := D.changes + 1 }) ⟨h.sure, h.loose, h.left⟩ _
  · refine ⟨h.sure, h.loose, ?_⟩
    have := h.left
    show (-1 : Int) ≤ if 0 < D.left then D.left - 1 else D.left
    split <;> omega
theorem change_length (D : Dev) : D.change.1.sure.length = D.sure.length := by
  unfold Dev.change
  split
  · exact cut_length _ _
  · rfl
theorem put_wf {D : Dev} (h : D.Wf) (i : Int) (s : List UInt8) : (D.put i s).1.Wf := by
  unfold Dev.put
  split
  · exact h
  · rename_i hw
    split
    · exact h
    · rename_i hl
      refine change_wf (D := { D with loose := D.loose ++ [(i.toNat, s)] }) ⟨h.sure, fun x hx => ?_, h.left⟩
      rcases List.mem_append.1 hx with hx | hx
      · exact h.loose x hx
      · simp at hx
        subst hx
        have : D.why i = 0 := by simpa using hw
        unfold Dev.why at this
        split at this
        · cases this
        · split at this
          · cases this
          · exact ⟨by show i.toNat < D.sure.length; omega, by simpa using hl⟩
theorem put_length (D : Dev) (i : Int) (s : List UInt8) : (D.put i s).1.sure.length = D.sure.length := by
  unfold Dev.put
  split
  · rfl
  · split
    · rfl
    · exact change_length _
theorem barrier_wf {D : Dev} (h : D.Wf) : D.barrier.1.Wf := by
  unfold Dev.barrier
  split
  · exact h
  · split
    · exact change_wf h
    · have hc := change_wf h
      exact ⟨applyW_wf _ _ hc.sure (fun x hx => (hc.loose x hx).2), fun _ hx => (by cases hx), hc.left⟩
theorem barrier_length (D : Dev) : D.barrier.1.sure.length = D.sure.length := by
  unfold Dev.barrier
  split
  · rfl
  · split
    · exact change_length D
    · exact (applyW_length _ _).trans (change_length D)
theorem plan_wf {D : Dev} (h : D.Wf) (a : Int) (c : Choice) : (D.plan a c).Wf := ⟨h.sure, h.loose, by show (-1 : Int) ≤ max a (-1); omega⟩
theorem on_wf {D : Dev} (h : D.Wf) : ({ D with off := false } : Dev).Wf := ⟨h.sure, h.loose, h.left⟩

/-! ### How much there is -/
/-- At most so many loose writes and changes. -/
def Dev.Few (D : Dev) (m : Nat) : Prop := D.loose.length ≤ m ∧ D.changes ≤ m
theorem Dev.Few.mono {D : Dev} {m m' : Nat} (h : D.Few m) (hm : m ≤ m') : D.Few m' := ⟨Nat.le_trans h.1 hm, Nat.le_trans h.2 hm⟩
theorem newD_few (n m : Nat) : (newD n).Few m := ⟨Nat.zero_le _, Nat.zero_le _⟩
theorem cut_few {D : Dev} {m : Nat} (h : D.Few m) (c : Choice) : (D.cut c).Few m := by
  unfold Dev.cut
  split
  · exact h
  · exact ⟨Nat.zero_le _, h.2⟩
theorem change_few {D : Dev} {m : Nat} (h1 : D.loose.length ≤ m) (h2 : D.changes + 1 ≤ m) : D.change.1.Few m := by
  unfold Dev.change
  split
  · exact cut_few (D := { D with changes := D.changes + 1 }) ⟨h1, h2⟩ _
  · exact ⟨h1, h2⟩
theorem put_few {D : Dev} {m : Nat} (h : D.Few m) (i : Int) (s : List UInt8) : (D.put i s).1.Few (m + 1) := by
  unfold Dev.put
  split
  · exact h.mono (by omega)
  · split
    · exact h.mono (by omega)
    · exact change_few (D := { D with loose := D.loose ++ [(i.toNat, s)] }) (by show (D.loose ++ _).length ≤ _; rw [List.length_append]; have := h.1; simpa using this) (by have := h.2; show D.changes + 1 ≤ _; omega)
theorem barrier_few {D : Dev} {m : Nat} (h : D.Few m) : D.barrier.1.Few (m + 1) := by
  unfold Dev.barrier
  have hc := change_few (D := D) (m := m + 1) (by have := h.1; omega) (by have := h.2; omega)
  split
  · exact h.mono (by omega)
  · split
    · exact hc
    · exact ⟨Nat.zero_le _, hc.2⟩
theorem plan_few {D : Dev} {m : Nat} (h : D.Few m) (a : Int) (c : Choice) : (D.plan a c).Few m := h
theorem on_few {D : Dev} {m : Nat} (h : D.Few m) : ({ D with off := false } : Dev).Few m := h
end Go.Proofs.YtdmbmkjiffhbcaaGreat
