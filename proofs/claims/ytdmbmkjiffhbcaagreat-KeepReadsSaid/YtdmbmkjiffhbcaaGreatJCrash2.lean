/-
  Sectors of which a write was torn: what is read of them; tallies that are torn.
  What a device holds behind store, wherever the power was cut.
  A journal and what its device holds.
-/
import Derived.Test.YtdmbmkjiffhbcaaGreatJUnPrep
import Derived.Test.YtdmbmkjiffhbcaaGreatDevTail
namespace Go.Proofs.YtdmbmkjiffhbcaaGreat

theorem torn_take (x y : List UInt8) (m k : Nat) (hx : x.length = 256) (hm : m ≤ 256) (h : x.take k = y.take k) : (x.take m ++ y.drop m).take k = y.take k := by
  by_cases hk : k ≤ m
  · rw [List.take_append_of_le_length (by rw [List.length_take]; omega), List.take_take, Nat.min_eq_left hk, h]
  · have h2 : x.take m = y.take m := by
      have := congrArg (List.take m) h
      rwa [List.take_take, List.take_take, Nat.min_eq_left (by omega)] at this
    rw [h2, List.take_append_drop]

/-- How many bytes of a sector count: of the tallies all, of a side's sectors those in use. -/
def keepN (st u i : Nat) : Nat := if i < 2 then 256 else if st ≤ i then u - 256 * (i - st) else 0
/-- All that counts is the same. -/
def SameUse (st u : Nat) (S S' : List (List UInt8)) : Prop := S'.length = S.length ∧ ∀ i, (S'.getD i []).take (keepN st u i) = (S.getD i []).take (keepN st u i)
theorem SameUse.refl (st u : Nat) (S : List (List UInt8)) : SameUse st u S S := ⟨rfl, fun _ => rfl⟩
theorem SameUse.trans {st u : Nat} {S S1 S2 : List (List UInt8)} (h : SameUse st u S S1) (h' : SameUse st u S1 S2) : SameUse st u S S2 := ⟨h'.1.trans h.1, fun i => (h'.2 i).trans (h.2 i)⟩
theorem getD_set (S : List (List UInt8)) (i k : Nat) (x : List UInt8) (hk : k < S.length) : (S.set k x).getD i [] = if k = i then x else S.getD i [] := by
  rw [List.getD_eq_getElem?_getD, List.getElem?_set, List.getD_eq_getElem?_getD]
  by_cases h : k = i
  · rw [if_pos h, if_pos h, if_pos hk]; rfl
  · rw [if_neg h, if_neg h]
/-- Writes that leave alone what counts. -/
def Harm (st u : Nat) (S : List (List UInt8)) (W : List (Nat × List UInt8)) : Prop := ∀ x ∈ W, x.1 < S.length ∧ x.2.length = 256 ∧ x.2.take (keepN st u x.1) = (S.getD x.1 []).take (keepN st u x.1)
theorem Harm.same {st u : Nat} {S S' : List (List UInt8)} {W : List (Nat × List UInt8)} (h : Harm st u S W) (hs : SameUse st u S S') : Harm st u S' W := fun x hx => by
  obtain ⟨h1, h2, h3⟩ := h x hx
  exact ⟨by rw [hs.1]; exact h1, h2, by rw [hs.2, h3]⟩
theorem cutS_same (st u : Nat) (c : Choice) (W : List (Nat × List UInt8)) : ∀ (S : List (List UInt8)) (k : Nat), Harm st u S W → SameUse st u S (cutS c S k W) := by
  induction W with
  | nil => exact fun S k _ => SameUse.refl _ _ _
  | cons x W ih =>
    intro S k h
    obtain ⟨h1, h2, h3⟩ := h x (by simp)
    have hs : SameUse st u S (S.set x.1 (x.2.take (c.stay k) ++ (S.getD x.1 []).drop (c.stay k))) := ⟨List.length_set .., fun i => by
      rw [getD_set _ _ _ _ h1]
      split
      · rename_i e
        subst e
        exact torn_take _ _ _ _ h2 (stay_le c k) h3
      · rfl⟩
    exact hs.trans (ih _ (k + 1) (Harm.same (fun y hy => h y (by simp [hy])) hs))
theorem applyW_same (st u : Nat) (W : List (Nat × List UInt8)) : ∀ (S : List (List UInt8)), Harm st u S W → SameUse st u S (applyW S W) := by
  induction W with
  | nil => exact fun S _ => SameUse.refl _ _ _
  | cons x W ih =>
    intro S h
    obtain ⟨h1, h2, h3⟩ := h x (by simp)
    have hs : SameUse st u S (S.set x.1 x.2) := ⟨List.length_set .., fun i => by
      rw [getD_set _ _ _ _ h1]
      split
      · rename_i e
        subst e
        exact h3
      · rfl⟩
    exact hs.trans (ih _ (Harm.same (fun y hy => h y (by simp [hy])) hs))

theorem now_plain (D : Dev) (h : D.loose = []) (i : Nat) : D.now i = D.sure.getD i [] := by unfold Dev.now; rw [h]; rfl
/-- What is in use is the same where all that counts is. -/
theorem use_same (D D' : Dev) (s u : Nat) (hs : s ≤ 1) (hu : u ≤ sideN D * 256) (hw : D.Wf) (hw' : D'.Wf) (hl : D.loose = []) (hl' : D'.loose = []) (h : D'.sure.length = D.sure.length ∧ ∀ i, 2 ≤ i → (D'.sure.getD i []).take (keepN (2 + s * sideN D) u i) = (D.sure.getD i []).take (keepN (2 + s * sideN D) u i)) :
    useB D' s u 0 = useB D s u 0 := by
  have hn : sideN D' = sideN D := sideN_same h.1
  have hm : s * sideN D + sideN D ≤ D.sure.length - 2 := by
    have : s * sideN D ≤ 1 * sideN D := Nat.mul_le_mul_right _ hs
    unfold sideN at *
    omega
  unfold useB
  rw [hn, Nat.zero_mul, Nat.sub_zero, Nat.add_zero]
  have hsec : ∀ j, j < secs u → 2 + s * sideN D + j < D.sure.length := by
    intro j hj
    have : secs u ≤ sideN D := by unfold secs; omega
    have h0 : 0 < sideN D := by omega
    unfold sideN at *
    omega
  obtain ⟨T, hT⟩ : ∃ T, T = 2 + s * sideN D := ⟨_, rfl⟩
  rw [← hT] at h hsec ⊢
  have key : ∀ k, k ≤ secs u → (areaD D' T k).length = k * 256 ∧ (areaD D T k).length = k * 256 ∧ (areaD D' T k).take u = (areaD D T k).take u := by
    intro k
    induction k with
    | zero => exact fun _ => ⟨rfl, rfl, rfl⟩
    | succ k ih =>
      intro hk
      obtain ⟨h1, h2, h3⟩ := ih (by omega)
      have hlt := hsec k (by omega)
      have l1 := now_length hw (T + k) hlt
      have l2 := now_length hw' (T + k) (by rw [h.1]; exact hlt)
      refine ⟨?_, ?_, ?_⟩
      · show (areaD D' T k ++ D'.now (T + k)).length = _
        rw [List.length_append, h1, l2]
        omega
      · show (areaD D T k ++ D.now (T + k)).length = _
        rw [List.length_append, h2, l1]
        omega
      · show (areaD D' T k ++ D'.now (T + k)).take u = (areaD D T k ++ D.now (T + k)).take u
        rw [List.take_append, List.take_append, h3, h1, h2]
        have := h.2 (T + k) (by omega)
        unfold keepN at this
        rw [if_neg (by omega), if_pos (by omega), Nat.add_sub_cancel_left, Nat.mul_comm 256 k] at this
        rw [now_plain D' hl', now_plain D hl, this]
  exact (key _ (Nat.le_refl _)).2.2

/-! ### Tallies -/
def mid8 (y : List UInt8) : Nat := unbe ((y.drop 8).take 8)
def last8 (y : List UInt8) : Nat := unbe ((y.drop 56).take 8)
theorem tally64_parts (n s u : Nat) : (tally64 n s u).take 8 = markB ∧ ((tally64 n s u).drop 8).take 8 = be8 n ∧ ((tally64 n s u).drop 16).take 8 = be8 s ∧ ((tally64 n s u).drop 24).take 8 = be8 u ∧ ((tally64 n s u).drop 56).take 8 = be8 n := by
  have h1 := be8_length n
  have h2 := be8_length s
  have h3 := be8_length u
  have h4 : markB.length = 8 := rfl
  have e : tally64 n s u = markB ++ (be8 n ++ (be8 s ++ (be8 u ++ (markB ++ (be8 s ++ (be8 u ++ be8 n)))))) := by simp [tally64, List.append_assoc]
  rw [e]
  refine ⟨List.take_left' h4, ?_, ?_, ?_, ?_⟩
  · rw [List.drop_left' h4, List.take_left' h1]
  · rw [show (16 : Nat) = 8 + 8 from rfl, ← List.drop_drop, List.drop_left' h4, List.drop_left' h1, List.take_left' h2]
  · rw [show (24 : Nat) = 8 + (8 + 8) from rfl, ← List.drop_drop, ← List.drop_drop, List.drop_left' h4, List.drop_left' h1, List.drop_left' h2, List.take_left' h3]
  · rw [show (56 : Nat) = 8 + (8 + (8 + (8 + (8 + (8 + 8))))) from rfl, ← List.drop_drop, ← List.drop_drop, ← List.drop_drop, ← List.drop_drop, ← List.drop_drop, ← List.drop_drop, List.drop_left' h4, List.drop_left' h1, List.drop_left' h2, List.drop_left' h3, List.drop_left' h4, List.drop_left' h2, List.drop_left' h3]
    exact List.take_of_length_le (by omega)
theorem sub_take {b c : List UInt8} (k : Nat) (h : b.take 64 = c.take 64) (i : Nat) (hi : i + k ≤ 64) : (b.drop i).take k = (c.drop i).take k := by
  have := congrArg (fun l => (l.drop i).take k) h
  simp only [List.drop_take, List.take_take] at this
  rwa [Nat.min_eq_left (by omega)] at this
/-- A tally that is valid. -/
theorem asTally_of {b : List UInt8} {size n s u : Nat} (h : b.take 64 = tally64 n s u) (h1 : 1 ≤ n) (h2 : n ≤ 4611686018427387904) (h3 : s ≤ 1) (h4 : u ≤ size) (h5 : size < 18446744073709551616) : asTally b size = (n, s, u) := by
  have hc : b.take 64 = (tally64 n s u).take 64 := by rw [h, List.take_of_length_le (by rw [tally64_length]; omega)]
  obtain ⟨_, p1, p2, p3, _⟩ := tally64_parts n s u
  have q1 : unbe ((b.drop 8).take 8) = n := by rw [sub_take 8 hc 8 (by omega), p1, unbe_be8 n (by omega)]
  have q2 : unbe ((b.drop 16).take 8) = s := by rw [sub_take 8 hc 16 (by omega), p2, unbe_be8 s (by omega)]
  have q3 : unbe ((b.drop 24).take 8) = u := by rw [sub_take 8 hc 24 (by omega), p3, unbe_be8 u (by omega)]
  unfold asTally
  rw [q1, q2, q3, if_neg (by omega), if_pos h]
/-- The number of a tally stands in it twice. -/
theorem asTally_twice (b : List UInt8) (size : Nat) : (asTally b size).1 = 0 ∨ ((asTally b size).1 = mid8 b ∧ (asTally b size).1 = last8 b ∧ b.take 64 = tally64 (asTally b size).1 (asTally b size).2.1 (asTally b size).2.2) := by
  unfold asTally
  split
  · exact .inl rfl
  · split
    · rename_i h1 h2
      refine .inr ⟨rfl, ?_, h2⟩
      have hc : b.take 64 = (tally64 (unbe ((b.drop 8).take 8)) (unbe ((b.drop 16).take 8)) (unbe ((b.drop 24).take 8))).take 64 := by
        rw [List.take_of_length_le (l := tally64 _ _ _) (by rw [tally64_length]; omega)]
        exact h2
      obtain ⟨_, _, _, _, p5⟩ := tally64_parts (unbe ((b.drop 8).take 8)) (unbe ((b.drop 16).take 8)) (unbe ((b.drop 24).take 8))
      unfold last8
      rw [sub_take 8 hc 56 (by omega), p5, unbe_be8 _ (by omega)]
    · exact .inl rfl
/-- A sector that holds a lesser tally, or a torn one of the next number. -/
def Oth (y : List UInt8) (n : Nat) : Prop := y.length = 256 ∧ (last8 y < n ∨ (mid8 y = n + 1 ∧ last8 y ≠ n + 1))
theorem Oth.less {y : List UInt8} {n : Nat} (h : Oth y n) (h1 : 1 ≤ n) (size : Nat) : (asTally y size).1 < n := by
  rcases asTally_twice y size with h0 | ⟨a, b, _⟩
  · omega
  · rcases h.2 with h | ⟨h, h'⟩ <;> omega
theorem sub_torn (x y : List UInt8) (m i : Nat) (hx : x.length = 256) (hm : m ≤ 256) :
    (i + 8 ≤ m → ((x.take m ++ y.drop m).drop i).take 8 = (x.drop i).take 8) ∧ (m ≤ i → y.length = 256 → ((x.take m ++ y.drop m).drop i).take 8 = (y.drop i).take 8) := by
  refine ⟨fun h => ?_, fun h hy => ?_⟩
  · rw [List.drop_append_of_le_length (by rw [List.length_take]; omega), List.take_append_of_le_length (by rw [List.length_drop, List.length_take]; omega), List.drop_take, List.take_take, Nat.min_eq_left (by omega)]
  · rw [List.drop_append, List.drop_of_length_le (by rw [List.length_take]; omega), List.nil_append, List.length_take, List.drop_drop]
    congr 2
    omega
theorem be8_mix (x y : List UInt8) (m i : Nat) (hx : x.length = 256) (hy : y.length = 256) (hm : m ≤ 256) (h : (x.drop i).take 8 = (y.drop i).take 8) : ((x.take m ++ y.drop m).drop i).take 8 = (x.drop i).take 8 := by
  by_cases h1 : i + 8 ≤ m
  · exact (sub_torn x y m i hx hm).1 h1
  · by_cases h2 : m ≤ i
    · rw [(sub_torn x y m i hx hm).2 h2 hy, h]
    · rw [List.drop_append_of_le_length (by rw [List.length_take]; omega), List.drop_take]
      have e : y.drop m = (y.drop i).drop (m - i) := by rw [List.drop_drop]; congr 1; omega
      have e2 : (x.drop i).take (m - i) = (y.drop i).take (m - i) := by
        have := congrArg (List.take (m - i)) h
        rwa [List.take_take, List.take_take, Nat.min_eq_left (by omega)] at this
      rw [e, e2, List.take_append_drop, h]
theorem tallyB_take (n s u : Nat) : (tallyB n s u).take 64 = tally64 n s u := by unfold tallyB; rw [List.take_left' (tally64_length n s u)]
theorem tallyB_parts (n s u : Nat) (h : n < 18446744073709551616) : mid8 (tallyB n s u) = n ∧ last8 (tallyB n s u) = n := by
  have hc : (tallyB n s u).take 64 = (tally64 n s u).take 64 := by rw [tallyB_take, List.take_of_length_le (by rw [tally64_length]; omega)]
  obtain ⟨_, p1, _, _, p5⟩ := tally64_parts n s u
  unfold mid8 last8
  rw [sub_take 8 hc 8 (by omega), p1, sub_take 8 hc 56 (by omega), p5]
  exact ⟨unbe_be8 n h, unbe_be8 n h⟩
theorem unbe_inj (k : Nat) : ∀ a b : List UInt8, a.length = k → b.length = k → unbe a = unbe b → a = b := by
  induction k with
  | zero => intro a b ha hb _; rw [List.eq_nil_of_length_eq_zero ha, List.eq_nil_of_length_eq_zero hb]
  | succ k ih =>
    intro a b ha hb h
    have na : a ≠ [] := by intro e; rw [e] at ha; simp at ha
    have nb : b ≠ [] := by intro e; rw [e] at hb; simp at hb
    rw [← List.dropLast_concat_getLast na, ← List.dropLast_concat_getLast nb] at h ⊢
    rw [unbe_snoc, unbe_snoc] at h
    have h1 := (a.getLast na).toNat_lt
    have h2 := (b.getLast nb).toNat_lt
    have h3 : (a.getLast na).toNat = (b.getLast nb).toNat := by omega
    rw [ih a.dropLast b.dropLast (by rw [List.length_dropLast]; omega) (by rw [List.length_dropLast]; omega) (by omega), UInt8.toNat_inj.1 h3]
/-- A tally is torn: it is there whole, or it counts for nothing. -/
theorem torn_tally (y : List UInt8) (n s u m : Nat) (hn : n + 1 ≤ 4611686018427387904) (hm : m ≤ 256) (h : Oth y n) :
    ((tallyB (n + 1) s u).take m ++ y.drop m).take 64 = tally64 (n + 1) s u ∨ Oth ((tallyB (n + 1) s u).take m ++ y.drop m) n := by
  have hx := tallyB_length (n + 1) s u
  obtain ⟨p1, p2⟩ := tallyB_parts (n + 1) s u (by omega)
  obtain ⟨hy, h⟩ := h
  have hl : ((tallyB (n + 1) s u).take m ++ y.drop m).length = 256 := by rw [List.length_append, List.length_take, List.length_drop]; omega
  obtain ⟨a1, a2⟩ := sub_torn (tallyB (n + 1) s u) y m 56 hx hm
  obtain ⟨b1, b2⟩ := sub_torn (tallyB (n + 1) s u) y m 8 hx hm
  by_cases h56 : m ≤ 56
  · refine .inr ⟨hl, ?_⟩
    have hlast : last8 ((tallyB (n + 1) s u).take m ++ y.drop m) = last8 y := by unfold last8; rw [a2 h56 hy]
    rw [hlast]
    rcases h with h | ⟨h, h'⟩
    · exact .inl h
    · refine .inr ⟨?_, h'⟩
      have e : ((tallyB (n + 1) s u).drop 8).take 8 = (y.drop 8).take 8 := unbe_inj 8 _ _ (by rw [List.length_take, List.length_drop]; omega) (by rw [List.length_take, List.length_drop]; omega) (by unfold mid8 at p1 h; rw [p1, h])
      have := be8_mix (tallyB (n + 1) s u) y m 8 hx hy hm e
      unfold mid8 at p1 ⊢
      rw [this, p1]
  · by_cases hlast : last8 ((tallyB (n + 1) s u).take m ++ y.drop m) = n + 1
    · left
      have e1 : ((tallyB (n + 1) s u).take m ++ y.drop m).take 56 = (tallyB (n + 1) s u).take 56 := by
        rw [List.take_append_of_le_length (by rw [List.length_take]; omega), List.take_take, Nat.min_eq_left (by omega)]
      have e2 : (((tallyB (n + 1) s u).take m ++ y.drop m).drop 56).take 8 = ((tallyB (n + 1) s u).drop 56).take 8 := unbe_inj 8 _ _ (by rw [List.length_take, List.length_drop]; omega) (by rw [List.length_take, List.length_drop]; omega) (by unfold last8 at p2 hlast; rw [p2, hlast])
      rw [← tallyB_take (n + 1) s u, show (64 : Nat) = 56 + 8 from rfl, List.take_add, List.take_add, e1, e2]
    · refine .inr ⟨hl, .inr ⟨?_, hlast⟩⟩
      unfold mid8 at p1 ⊢
      rw [b1 (by omega), p1]
end Go.Proofs.YtdmbmkjiffhbcaaGreat

namespace Go.Proofs.YtdmbmkjiffhbcaaGreat

theorem put_cases (D : Dev) (i : Nat) (x : List UInt8) (hoff : D.off = false) (hi : i < D.sure.length) (hx : x.length = 256) :
    ((D.put (i : Int) x).2 = 0 ∧ (D.put (i : Int) x).1.off = false ∧ (D.put (i : Int) x).1.sure = D.sure ∧ (D.put (i : Int) x).1.loose = D.loose ++ [(i, x)] ∧ (D.left = -1 → (D.put (i : Int) x).1.left = -1)) ∨
    (D.left = 0 ∧ (D.put (i : Int) x).2 = 6 ∧ (D.put (i : Int) x).1.off = true ∧ (D.put (i : Int) x).1.sure = cutS D.choice D.sure 0 (D.loose ++ [(i, x)]) ∧ (D.put (i : Int) x).1.loose = []) := by
  have hy : D.why (i : Int) = 0 := by unfold Dev.why; rw [if_neg (by rw [hoff]; decide), if_neg (by omega)]
  have hp : D.put (i : Int) x = { D with loose := D.loose ++ [(i, x)] }.change := by
    unfold Dev.put
    rw [if_neg (by rw [hy]; decide), if_neg (by omega)]
    rfl
  rw [hp]
  unfold Dev.change
  by_cases hl : D.left = 0
  · right
    rw [if_pos hl]
    unfold Dev.cut
    dsimp only
    rw [if_neg (by rw [hoff]; decide)]
    exact ⟨hl, rfl, rfl, rfl, rfl⟩
  · left
    rw [if_neg hl]
    refine ⟨rfl, hoff, rfl, rfl, fun h => ?_⟩
    dsimp only
    rw [h]
    rfl
theorem barrier_cases (D : Dev) (hoff : D.off = false) :
    (D.barrier.2 = 0 ∧ D.barrier.1.off = false ∧ D.barrier.1.sure = applyW D.sure D.loose ∧ D.barrier.1.loose = [] ∧ (D.left = -1 → D.barrier.1.left = -1)) ∨
    (D.left = 0 ∧ D.barrier.2 = 6 ∧ D.barrier.1.off = true ∧ D.barrier.1.sure = cutS D.choice D.sure 0 D.loose ∧ D.barrier.1.loose = []) := by
  unfold Dev.barrier
  rw [if_neg (by rw [hoff]; decide)]
  unfold Dev.change
  by_cases hl : D.left = 0
  · right
    rw [if_pos hl]
    unfold Dev.cut
    dsimp only
    rw [if_pos (by decide), if_neg (by rw [hoff]; decide)]
    exact ⟨hl, rfl, rfl, rfl, rfl⟩
  · left
    rw [if_neg hl]
    dsimp only
    rw [if_neg (by decide)]
    refine ⟨rfl, hoff, rfl, rfl, fun h => ?_⟩
    dsimp only
    rw [h]
    rfl

/-- The writes of so many pieces. -/
def WL (st : Nat) (l : List UInt8) (k : Nat) : List (Nat × List UInt8) := (List.range k).map fun i => (st + i, wholeB (pieceB l i))
theorem WL_succ (st : Nat) (l : List UInt8) (k : Nat) : WL st l (k + 1) = WL st l k ++ [(st + k, wholeB (pieceB l k))] := by unfold WL; rw [List.range_succ, List.map_append]; rfl
theorem lastW_WL (st : Nat) (l : List UInt8) (s : List UInt8) (i k : Nat) : lastW (st + i) s (WL st l k) = if i < k then wholeB (pieceB l i) else s := by
  induction k with
  | zero => rfl
  | succ k ih =>
    rw [WL_succ, lastW_snoc, ih]
    dsimp only
    by_cases h : k = i
    · subst h; rw [if_pos rfl, if_pos (by omega)]
    · rw [if_neg (by omega)]
      by_cases h2 : i < k
      · rw [if_pos h2, if_pos (by omega)]
      · rw [if_neg h2, if_neg (by omega)]
theorem lastW_none (i : Nat) (s : List UInt8) (W : List (Nat × List UInt8)) (h : ∀ x ∈ W, x.1 ≠ i) : lastW i s W = s := by
  induction W generalizing s with
  | nil => rfl
  | cons x W ih =>
    show lastW i (if x.1 = i then x.2 else s) W = s
    rw [if_neg (h x (by simp)), ih _ fun y hy => h y (by simp [hy])]
theorem WL_mem {st : Nat} {l : List UInt8} {k : Nat} {x : Nat × List UInt8} (h : x ∈ WL st l k) : ∃ i, i < k ∧ x = (st + i, wholeB (pieceB l i)) := by
  unfold WL at h
  obtain ⟨i, hi, rfl⟩ := List.mem_map.1 h
  exact ⟨i, List.mem_range.1 hi, rfl⟩
theorem sect_cases (D : Dev) (hoff : D.off = false) (hl : D.loose = []) (st : Nat) (l : List UInt8) (k : Nat) (hk : st + k ≤ D.sure.length) :
    ((wrR D st l k).2 = 0 ∧ (wrR D st l k).1.off = false ∧ (wrR D st l k).1.sure = D.sure ∧ (wrR D st l k).1.loose = WL st l k ∧ (D.left = -1 → (wrR D st l k).1.left = -1)) ∨
    (D.left ≠ -1 ∧ (wrR D st l k).2 = 6 ∧ (wrR D st l k).1.off = true ∧ (wrR D st l k).1.loose = [] ∧ ∃ c j, j ≤ k ∧ (wrR D st l k).1.sure = cutS c D.sure 0 (WL st l j)) := by
  induction k with
  | zero => exact .inl ⟨rfl, hoff, rfl, hl, fun h => h⟩
  | succ k ih =>
    rcases ih (by omega) with ⟨h1, h2, h3, h4, h5⟩ | ⟨h0, h1, h2, h3, c, j, hj, h4⟩
    · rw [wrR_next D st l k h1]
      rcases put_cases (wrR D st l k).1 (st + k) (wholeB (pieceB l k)) h2 (by rw [h3]; omega) (wholeB_length _) with ⟨p1, p2, p3, p4, p5⟩ | ⟨p0, p1, p2, p3, p4⟩
      · exact .inl ⟨p1, p2, p3.trans h3, by rw [p4, h4, WL_succ], fun h => p5 (h5 h)⟩
      · refine .inr ⟨fun h => ?_, p1, p2, p4, (wrR D st l k).1.choice, k + 1, Nat.le_refl _, by rw [p3, h3, h4, WL_succ]⟩
        have := h5 h
        omega
    · have e : wrR D st l (k + 1) = wrR D st l k := wrR_stop D st l k (k + 1) (by rw [h1]; decide) (by omega)
      rw [e]
      exact .inr ⟨h0, h1, h2, h3, c, j, by omega, h4⟩

/-- What a device with nothing loose holds. -/
structure Cont (D : Dev) (n s u : Nat) (B : List UInt8) : Prop where
  wf : D.Wf
  loose : D.loose = []
  big : 6 ≤ D.sure.length
  small : D.sure.length ≤ 4096
  num : 1 ≤ n
  tal : asTally (D.now (n % 2)) (sideN D * 256) = (n, s, u)
  oth : Oth (D.now ((n + 1) % 2)) n
  use_ : useB D s u 0 = B
theorem Cont.ok {D : Dev} {n s u : Nat} {B : List UInt8} (h : Cont D n s u B) : n ≤ 4611686018427387904 ∧ s ≤ 1 ∧ u ≤ sideN D * 256 := by
  have := asTally_ok (D.now (n % 2)) (sideN D * 256)
  rw [h.tal] at this
  exact this
theorem Cont.cur {D : Dev} {n s u : Nat} {B : List UInt8} (h : Cont D n s u B) : curT D = (n, s, u) := by
  have h1 := h.num
  have ho := h.oth.less h1 (sideN D * 256)
  have ht := h.tal
  have e : curT D = if (if 0 < (asTally (D.now 0) (sideN D * 256)).1 then asTally (D.now 0) (sideN D * 256) else (0, 0, 0)).1 < (asTally (D.now 1) (sideN D * 256)).1 then asTally (D.now 1) (sideN D * 256) else (if 0 < (asTally (D.now 0) (sideN D * 256)).1 then asTally (D.now 0) (sideN D * 256) else (0, 0, 0)) := rfl
  rw [e]
  by_cases hm : n % 2 = 0
  · rw [hm] at ht
    rw [show (n + 1) % 2 = 1 by omega] at ho
    have hp : 0 < ((n, s, u) : Nat × Nat × Nat).1 := h1
    rw [ht, if_pos hp, if_neg (by dsimp only; omega)]
  · rw [show n % 2 = 1 by omega] at ht
    rw [show (n + 1) % 2 = 0 by omega] at ho
    rw [ht, if_pos]
    split
    · exact ho
    · dsimp only; omega
/-- It holds the same where all that counts is the same. -/
theorem Cont.same {D D' : Dev} {n s u : Nat} {B : List UInt8} (h : Cont D n s u B) (hw : D'.Wf) (hl : D'.loose = []) (hs : SameUse (2 + s * sideN D) u D.sure D'.sure) : Cont D' n s u B := by
  obtain ⟨_, o2, o3⟩ := h.ok
  have hn : sideN D' = sideN D := sideN_same hs.1
  have hbig := h.big
  have hnow : ∀ i, i < 2 → D'.now i = D.now i := fun i hi => by
    rw [now_plain D' hl, now_plain D h.loose]
    have := hs.2 i
    unfold keepN at this
    rw [if_pos hi] at this
    have l1 := now_length hw i (by rw [hs.1]; omega)
    have l2 := now_length h.wf i (by omega)
    rw [now_plain D' hl] at l1
    rw [now_plain D h.loose] at l2
    rwa [List.take_of_length_le (by omega), List.take_of_length_le (by omega)] at this
  exact ⟨hw, hl, by rw [hs.1]; exact h.big, by rw [hs.1]; exact h.small, h.num, by rw [hn, hnow _ (by omega)]; exact h.tal, by rw [hnow _ (by omega)]; exact h.oth, by rw [use_same D D' s u o2 o3 h.wf hw h.loose hl ⟨hs.1, fun i _ => hs.2 i⟩]; exact h.use_⟩

/-! ### The bytes that are laid -/
theorem areaD_add (D : Dev) (T f k : Nat) : areaD D T (f + k) = areaD D T f ++ areaD D (T + f) k := by
  induction k with
  | zero => rw [Nat.add_zero]; show _ = _ ++ []; rw [List.append_nil]
  | succ k ih =>
    show areaD D T (f + k) ++ D.now (T + (f + k)) = areaD D T f ++ (areaD D (T + f) k ++ D.now (T + f + k))
    rw [ih, List.append_assoc, Nat.add_assoc]
theorem areaD_congr (E D : Dev) (T k : Nat) (h : ∀ j, j < k → E.now (T + j) = D.now (T + j)) : areaD E T k = areaD D T k := by
  induction k with
  | zero => rfl
  | succ k ih =>
    show areaD E T k ++ E.now (T + k) = areaD D T k ++ D.now (T + k)
    rw [ih fun j hj => h j (by omega), h k (by omega)]
theorem use_split {D : Dev} (hw : D.Wf) (s u : Nat) (hu : 2 + s * sideN D + u / 256 ≤ D.sure.length) : useB D s u 0 = areaD D (2 + s * sideN D) (u / 256) ++ useB D s u (u / 256) := by
  have e : secs u = u / 256 + secs (u - u / 256 * 256) := by unfold secs; omega
  unfold useB
  rw [Nat.zero_mul, Nat.sub_zero, Nat.add_zero, e, areaD_add, List.take_append, areaD_length hw _ _ hu, List.take_of_length_le (by rw [areaD_length hw _ _ hu]; omega)]
/-- Pieces, one behind the other, the last one filled up. -/
def padB (l : List UInt8) (k : Nat) : List UInt8 := l.take (256 * k) ++ List.replicate (256 * k - l.length) 0
theorem padB_succ (l : List UInt8) (k : Nat) (h : 256 * k ≤ l.length) : padB l (k + 1) = padB l k ++ wholeB (pieceB l k) := by
  unfold padB wholeB pieceB
  rw [show 256 * k - l.length = 0 by omega, List.replicate_zero, List.append_nil, show 256 * (k + 1) = 256 * k + 256 by omega, List.take_add, List.take_take, Nat.min_self, List.append_assoc, List.length_take, List.length_drop]
  congr 3
  omega
theorem padB_take (l : List UInt8) (k : Nat) (h : l.length ≤ 256 * k) : (padB l k).take l.length = l := by
  unfold padB
  rw [List.take_of_length_le h, List.take_left' rfl]

theorem side_bound (D : Dev) (s : Nat) (hs : s ≤ 1) (h6 : 6 ≤ D.sure.length) : 2 + s * sideN D + sideN D ≤ D.sure.length := by
  have : s * sideN D ≤ 1 * sideN D := Nat.mul_le_mul_right _ hs
  unfold sideN at *
  omega
theorem useB_one {D : Dev} (hw : D.Wf) (s u : Nat) (hu : 2 + s * sideN D + u / 256 < D.sure.length) : useB D s u (u / 256) = (D.now (2 + s * sideN D + u / 256)).take (u - u / 256 * 256) ∧ (useB D s u (u / 256)).length = u - u / 256 * 256 := by
  have hl := now_length hw _ hu
  unfold useB
  by_cases hr : u - u / 256 * 256 = 0
  · rw [hr, List.take_zero, List.take_zero]
    exact ⟨rfl, rfl⟩
  · have e : secs (u - u / 256 * 256) = 1 := by unfold secs; omega
    rw [e]
    show (([] : List UInt8) ++ D.now (2 + s * sideN D + u / 256 + 0)).take _ = _ ∧ ((([] : List UInt8) ++ D.now (2 + s * sideN D + u / 256 + 0)).take _).length = _
    rw [List.nil_append, Nat.add_zero]
    exact ⟨rfl, by rw [List.length_take, hl]; omega⟩
theorem whole_take (l : List UInt8) (r : Nat) (h : r ≤ l.length) (h2 : r ≤ 256) : (wholeB (pieceB l 0)).take r = l.take r := by
  unfold wholeB pieceB
  rw [Nat.mul_zero, List.drop_zero, List.take_take, Nat.min_self, List.take_append_of_le_length (by rw [List.length_take]; omega), List.take_take, Nat.min_eq_left h2]
theorem harm_WL {D : Dev} {n s0 u0 : Nat} {B0 : List UInt8} (hc : Cont D n s0 u0 B0) (s u : Nat) (b : List UInt8) (hside : (s = s0 ∧ u = u0) ∨ (s = 1 - s0 ∧ u = 0)) (hfit : u + b.length ≤ sideN D * 256) (k : Nat) (hk : k ≤ secs (u - u / 256 * 256 + b.length)) :
    Harm (2 + s0 * sideN D) u0 D.sure (WL (2 + s * sideN D + u / 256) (laidB D s u b) k) := by
  intro x hx
  obtain ⟨i, hi, rfl⟩ := WL_mem hx
  obtain ⟨_, o2, o3⟩ := hc.ok
  have hs : s ≤ 1 := by omega
  have hb := side_bound D s hs hc.big
  have hfi : u / 256 + i < sideN D := by unfold secs at hk; omega
  refine ⟨by dsimp only; omega, wholeB_length _, ?_⟩
  dsimp only
  rcases hside with ⟨rfl, rfl⟩ | ⟨h1, rfl⟩
  · have hkp : keepN (2 + s * sideN D) u (2 + s * sideN D + u / 256 + i) = u - 256 * (u / 256 + i) := by
      unfold keepN
      rw [if_neg (by omega), if_pos (by omega)]
      congr 2
      omega
    rw [hkp]
    by_cases h0 : i = 0
    · subst h0
      obtain ⟨q1, q2⟩ := useB_one hc.wf s u (by omega)
      have hl : u - 256 * (u / 256 + 0) ≤ (laidB D s u b).length := by unfold laidB; rw [List.length_append, q2]; omega
      rw [whole_take _ _ hl (by omega), Nat.add_zero, Nat.add_zero, Nat.mul_comm 256 (u / 256)]
      have e : (laidB D s u b).take (u - u / 256 * 256) = useB D s u (u / 256) := by unfold laidB; rw [List.take_left' q2]
      rw [e, q1, now_plain D hc.loose]
    · rw [show u - 256 * (u / 256 + i) = 0 by omega, List.take_zero, List.take_zero]
  · have hkp : keepN (2 + s0 * sideN D) u0 (2 + s * sideN D + 0 / 256 + i) = 0 := by
      unfold keepN
      rw [if_neg (by omega)]
      have h2 : s0 = 0 ∨ s0 = 1 := by omega
      rcases h2 with rfl | rfl
      · subst h1
        rw [if_pos (by omega)]
        omega
      · subst h1
        rw [if_neg (by omega)]
    rw [hkp, List.take_zero, List.take_zero]

/-- All sectors are written, and made sure. -/
theorem laid_use {D E : Dev} {n s0 u0 : Nat} {B0 : List UInt8} (hc : Cont D n s0 u0 B0) (s u : Nat) (b : List UInt8) (hs : s ≤ 1) (hfit : u + b.length ≤ sideN D * 256) (hl : E.loose = [])
    (hE : E.sure = applyW D.sure (WL (2 + s * sideN D + u / 256) (laidB D s u b) (secs (u - u / 256 * 256 + b.length)))) : useB E s (u + b.length) 0 = useB D s u 0 ++ b := by
  have hb := side_bound D s hs hc.big
  have hlen : E.sure.length = D.sure.length := by rw [hE, applyW_length]
  have hn : sideN E = sideN D := sideN_same hlen
  have h0 : 0 < sideN D := by have := hc.big; unfold sideN; omega
  by_cases hempty : u + b.length = 0
  · have e1 : u = 0 := by omega
    have e2 : b = [] := List.eq_nil_of_length_eq_zero (by omega)
    subst e1 e2
    unfold useB
    simp
  have hu : 2 + s * sideN D + u / 256 ≤ D.sure.length := by omega
  obtain ⟨l, hll⟩ : ∃ l, l = laidB D s u b := ⟨_, rfl⟩
  obtain ⟨T, hT⟩ : ∃ T, T = 2 + s * sideN D := ⟨_, rfl⟩
  have hql : l.length = u - u / 256 * 256 + b.length := by
    rw [hll]
    unfold laidB
    rw [List.length_append]
    by_cases hr : u - u / 256 * 256 = 0
    · rw [hr]
      unfold useB
      rw [hr, List.take_zero, List.length_nil]
    · rw [(useB_one hc.wf s u (by omega)).2]
  rw [← hll, ← hT, ← hql] at hE
  have hnow : ∀ i, i < D.sure.length → E.now i = lastW i (D.sure.getD i []) (WL (T + u / 256) l (secs l.length)) := fun i hi => by
    rw [now_plain E hl, hE, applyW_at _ _ _ hi]
  have hK : u / 256 + secs l.length ≤ sideN D := by rw [hql]; unfold secs; omega
  have h1 : areaD E T (u / 256) = areaD D T (u / 256) := by
    refine areaD_congr E D T _ fun j hj => ?_
    rw [hnow _ (by omega), now_plain D hc.loose]
    refine lastW_none _ _ _ fun x hx => ?_
    obtain ⟨i, _, rfl⟩ := WL_mem hx
    dsimp only
    omega
  have h2 : ∀ k, k ≤ secs l.length → areaD E (T + u / 256) k = padB l k := by
    intro k
    induction k with
    | zero => intro _; unfold padB; simp [areaD]
    | succ k ih =>
      intro hk
      show areaD E (T + u / 256) k ++ E.now (T + u / 256 + k) = _
      rw [ih (by omega), hnow _ (by omega), lastW_WL, if_pos (by omega), padB_succ l k (by unfold secs at hk; omega)]
  have e : secs (u + b.length) = u / 256 + secs l.length := by rw [hql]; unfold secs; omega
  have e2 : useB E s (u + b.length) 0 = (areaD E T (secs (u + b.length))).take (u + b.length) := by
    unfold useB
    rw [hn, Nat.zero_mul, Nat.sub_zero, Nat.add_zero, ← hT]
  have hal : (areaD D T (u / 256)).length = u / 256 * 256 := areaD_length hc.wf _ _ (by omega)
  rw [e2, e, areaD_add, h1, h2 _ (Nat.le_refl _), List.take_append, hal, List.take_of_length_le (by rw [hal]; omega), show u + b.length - u / 256 * 256 = l.length by omega, padB_take l _ (by unfold secs; omega), use_split hc.wf s u hu, ← hT, hll]
  unfold laidB
  rw [List.append_assoc]

/-- A tally is told: behind it the new one counts, or the power was cut and the elder one counts, or the new one. -/
theorem tell_cases {E : Dev} {n s0 u0 : Nat} {B0 : List UInt8} (hc : Cont E n s0 u0 B0) (hoff : E.off = false) (hn : n + 1 ≤ 4611686018427387904) (s u : Nat) (hs : s ≤ 1) (hu : u ≤ sideN E * 256) :
    ((tellD E (n + 1) s u).2 = 0 ∧ (tellD E (n + 1) s u).1.off = false ∧ Cont (tellD E (n + 1) s u).1 (n + 1) s u (useB E s u 0) ∧ (E.left = -1 → (tellD E (n + 1) s u).1.left = -1)) ∨
    (E.left ≠ -1 ∧ (tellD E (n + 1) s u).2 = 6 ∧ (tellD E (n + 1) s u).1.off = true ∧ (Cont (tellD E (n + 1) s u).1 n s0 u0 B0 ∨ Cont (tellD E (n + 1) s u).1 (n + 1) s u (useB E s u 0))) := by
  have hbig := hc.big
  have hsmall := hc.small
  have hsn : sideN E ≤ 2047 := sideN_le E hsmall
  obtain ⟨idx, hidx⟩ : ∃ idx, idx = (n + 1) % 2 := ⟨_, rfl⟩
  have hi2 : idx < 2 := by omega
  obtain ⟨x, hx⟩ : ∃ x, x = tallyB (n + 1) s u := ⟨_, rfl⟩
  have hxl : x.length = 256 := by rw [hx]; exact tallyB_length _ _ _
  obtain ⟨y, hy⟩ : ∃ y, y = E.sure.getD idx [] := ⟨_, rfl⟩
  have hyo : Oth y n := by
    have := hc.oth
    rwa [now_plain E hc.loose, ← hidx, ← hy] at this
  have hyl := hyo.1
  -- whatever comes to that sector
  have hset : ∀ (F : Dev) (z : List UInt8), F.Wf → F.loose = [] → F.sure = E.sure.set idx z → z.length = 256 → (z.take 64 = tally64 (n + 1) s u → Cont F (n + 1) s u (useB E s u 0)) ∧ (Oth z n → Cont F n s0 u0 B0) := by
    intro F z hw hl hsu hz
    have hlen : F.sure.length = E.sure.length := by rw [hsu, List.length_set]
    have hnn : sideN F = sideN E := sideN_same hlen
    have hnow : ∀ i, F.now i = if idx = i then z else E.now i := fun i => by
      rw [now_plain F hl, now_plain E hc.loose, hsu, getD_set _ _ _ _ (by omega)]
    have huse : ∀ s' u' : Nat, s' ≤ 1 → u' ≤ sideN E * 256 → useB F s' u' 0 = useB E s' u' 0 := fun s' u' h1 h2 =>
      use_same E F s' u' h1 h2 hc.wf hw hc.loose hl ⟨hlen, fun i hi => by rw [hsu, getD_set _ _ _ _ (by omega), if_neg (by omega)]⟩
    obtain ⟨o1, o2, o3⟩ := hc.ok
    constructor
    · intro h64
      refine ⟨hw, hl, by omega, by omega, by omega, ?_, ?_, huse s u hs hu⟩
      · rw [hnn, hnow, if_pos hidx]
        exact asTally_of h64 (by omega) hn hs hu (by omega)
      · rw [hnow, if_neg (by omega), show (n + 1 + 1) % 2 = n % 2 by omega]
        refine ⟨now_length hc.wf _ (by omega), .inl ?_⟩
        have h1 := hc.num
        rcases asTally_twice (E.now (n % 2)) (sideN E * 256) with h | ⟨_, h, _⟩
        · rw [hc.tal] at h
          dsimp only at h
          omega
        · rw [hc.tal] at h
          dsimp only at h
          omega
    · intro ho
      refine ⟨hw, hl, by omega, by omega, hc.num, ?_, ?_, (huse s0 u0 o2 o3).trans hc.use_⟩
      · rw [hnn, hnow, if_neg (by omega)]
        exact hc.tal
      · rw [hnow, if_pos hidx]
        exact ho
  have hcut : ∀ (F : Dev) (c : Choice), F.Wf → F.loose = [] → F.sure = cutS c E.sure 0 [(idx, x)] → Cont F n s0 u0 B0 ∨ Cont F (n + 1) s u (useB E s u 0) := by
    intro F c hw hl hsu
    have e : cutS c E.sure 0 [(idx, x)] = E.sure.set idx (x.take (c.stay 0) ++ y.drop (c.stay 0)) := by rw [hy]; rfl
    have hm := stay_le c 0
    have ht := torn_tally y n s u (c.stay 0) hn hm hyo
    rw [← hx] at ht
    have hz : (x.take (c.stay 0) ++ y.drop (c.stay 0)).length = 256 := by rw [List.length_append, List.length_take, List.length_drop]; omega
    obtain ⟨g1, g2⟩ := hset F _ hw hl (hsu.trans e) hz
    rcases ht with h | h
    · exact .inr (g1 h)
    · exact .inl (g2 h)
  have hwf := hc.wf
  unfold tellD
  rw [← hidx, ← hx]
  have hp := put_wf hwf (idx : Int) x
  rcases put_cases E idx x hoff (by omega) hxl with ⟨p1, p2, p3, p4, p5⟩ | ⟨p0, p1, p2, p3, p4⟩
  · rw [hc.loose, List.nil_append] at p4
    rw [p1, if_neg (by decide)]
    have hb := barrier_wf hp
    rcases barrier_cases (E.put (idx : Int) x).1 p2 with ⟨b1, b2, b3, b4, b5⟩ | ⟨b0, b1, b2, b3, b4⟩
    · rw [p3, p4] at b3
      have h64 : x.take 64 = tally64 (n + 1) s u := by rw [hx]; exact tallyB_take _ _ _
      exact .inl ⟨b1, b2, (hset _ x hb b4 b3 hxl).1 h64, fun h => b5 (p5 h)⟩
    · rw [p3, p4] at b3
      exact .inr ⟨fun h => by have := p5 h; omega, b1, b2, hcut _ _ hb b4 b3⟩
  · rw [hc.loose, List.nil_append] at p3
    rw [p1, if_pos (by decide)]
    exact .inr ⟨by omega, p1, p2, hcut _ _ hp p4 p3⟩

/-- store: done, or the power was cut and the elder records count, or the new ones. -/
theorem store_cases {D : Dev} {n s0 u0 : Nat} {B0 : List UInt8} (hc : Cont D n s0 u0 B0) (hoff : D.off = false) (hn : n + 1 ≤ 4611686018427387904) (s u : Nat) (b : List UInt8) (hside : (s = s0 ∧ u = u0) ∨ (s = 1 - s0 ∧ u = 0)) (hfit : u + b.length ≤ sideN D * 256) :
    ((storeD D s u b (n + 1) s (u + b.length)).2 = 0 ∧ (storeD D s u b (n + 1) s (u + b.length)).1.off = false ∧ Cont (storeD D s u b (n + 1) s (u + b.length)).1 (n + 1) s (u + b.length) (useB D s u 0 ++ b) ∧ (D.left = -1 → (storeD D s u b (n + 1) s (u + b.length)).1.left = -1)) ∨
    (D.left ≠ -1 ∧ (storeD D s u b (n + 1) s (u + b.length)).2 = 6 ∧ (storeD D s u b (n + 1) s (u + b.length)).1.off = true ∧ (Cont (storeD D s u b (n + 1) s (u + b.length)).1 n s0 u0 B0 ∨ Cont (storeD D s u b (n + 1) s (u + b.length)).1 (n + 1) s (u + b.length) (useB D s u 0 ++ b))) := by
  obtain ⟨o1, o2, o3⟩ := hc.ok
  have hs : s ≤ 1 := by omega
  have hb := side_bound D s hs hc.big
  have h0 : 0 < sideN D := by have := hc.big; unfold sideN; omega
  have hK : 2 + s * sideN D + u / 256 + secs (u - u / 256 * 256 + b.length) ≤ D.sure.length := by unfold secs; omega
  have hsw : (sectD D s u b).1.Wf := wrR_wf hc.wf _ _ _
  unfold storeD
  rcases sect_cases D hoff hc.loose _ (laidB D s u b) _ hK with ⟨h1, h2, h3, h4, h5⟩ | ⟨h0', h1, h2, h3, c, j, hj, h4⟩
  · change (sectD D s u b).2 = 0 at h1
    change (sectD D s u b).1.off = false at h2
    change (sectD D s u b).1.sure = D.sure at h3
    change (sectD D s u b).1.loose = _ at h4
    change D.left = -1 → (sectD D s u b).1.left = -1 at h5
    rw [h1, if_neg (by decide)]
    have hharm := harm_WL hc s u b hside hfit _ (Nat.le_refl _)
    have hbw := barrier_wf hsw
    rcases barrier_cases (sectD D s u b).1 h2 with ⟨b1, b2, b3, b4, b5⟩ | ⟨b0, b1, b2, b3, b4⟩
    · rw [b1, if_neg (by decide)]
      rw [h3, h4] at b3
      have hE : Cont (sectD D s u b).1.barrier.1 n s0 u0 B0 := hc.same hbw b4 (by rw [b3]; exact applyW_same _ _ _ _ hharm)
      have hsame : sideN (sectD D s u b).1.barrier.1 = sideN D := sideN_same (by rw [b3, applyW_length])
      have huse := laid_use hc s u b hs hfit b4 b3
      rcases tell_cases hE b2 hn s (u + b.length) hs (by rw [hsame]; exact hfit) with ⟨t1, t2, t3, t4⟩ | ⟨t0, t1, t2, t3⟩
      · rw [huse] at t3
        exact .inl ⟨t1, t2, t3, fun h => t4 (b5 (h5 h))⟩
      · rw [huse] at t3
        exact .inr ⟨fun h => t0 (b5 (h5 h)), t1, t2, t3⟩
    · rw [b1, if_pos (by decide)]
      rw [h3, h4] at b3
      refine .inr ⟨fun h => by have := h5 h; omega, b1, b2, .inl (hc.same hbw b4 (by rw [b3]; exact cutS_same _ _ _ _ _ _ hharm))⟩
  · change (sectD D s u b).2 = 6 at h1
    change (sectD D s u b).1.off = true at h2
    change (sectD D s u b).1.loose = [] at h3
    change (sectD D s u b).1.sure = _ at h4
    rw [h1, if_pos (by decide)]
    exact .inr ⟨h0', h1, h2, .inl (hc.same hsw h3 (by rw [h4]; exact cutS_same _ _ _ _ _ _ (harm_WL hc s u b hside hfit j hj)))⟩
end Go.Proofs.YtdmbmkjiffhbcaaGreat

namespace Go.Proofs.YtdmbmkjiffhbcaaGreat

structure JInv (D : Dev) (J : JM) (L : List (List UInt8)) : Prop where
  cont : Cont D J.number J.side J.used (recsB L)
  off : D.off = false
  used : J.used = (recsB L).length
  count : J.count = L.length
  brk : J.broken = false
  long : fewLong L
theorem JInv.fit {D : Dev} {J : JM} {L : List (List UInt8)} (h : JInv D J L) : JFit J D := by
  obtain ⟨o1, o2, o3⟩ := h.cont.ok
  have h1 := recsB_count L
  have h2 := h.used
  have h3 := h.count
  have h4 := sideN_le D h.cont.small
  exact ⟨o1, o2, o3, by omega, h.cont.big⟩
theorem fewLong_append {L M : List (List UInt8)} (h : fewLong L) (h' : fewLong M) : fewLong (L ++ M) := fun r hr => by
  rcases List.mem_append.1 hr with hr | hr
  · exact h r hr
  · exact h' r hr
theorem useB_zero (D : Dev) (s : Nat) : useB D s 0 0 = [] := by unfold useB; simp

/-- put: refused, done, or the power was cut. -/
theorem put_inv {D : Dev} {J : JM} {L : List (List UInt8)} (h : JInv D J L) (hn : J.number + 1 ≤ 4611686018427387904) (s u cnt : Nat) (L0 M : List (List UInt8)) (hM : fewLong M)
    (hmode : (s = J.side ∧ u = J.used ∧ cnt = J.count ∧ L0 = L) ∨ (s = 1 - J.side ∧ u = 0 ∧ cnt = 0 ∧ L0 = [])) :
    (sideN D * 256 - u < (recsB M).length ∧ putJ J D J.number s u cnt M = ((J, D), 5)) ∨
    ((recsB M).length ≤ sideN D * 256 - u ∧ (putJ J D J.number s u cnt M).2 = 0 ∧ JInv (putJ J D J.number s u cnt M).1.2 (putJ J D J.number s u cnt M).1.1 (L0 ++ M) ∧ (putJ J D J.number s u cnt M).1.1 = ⟨J.number + 1, s, u + (recsB M).length, cnt + M.length, false⟩ ∧ (D.left = -1 → (putJ J D J.number s u cnt M).1.2.left = -1)) ∨
    ((recsB M).length ≤ sideN D * 256 - u ∧ D.left ≠ -1 ∧ (putJ J D J.number s u cnt M).2 = 6 ∧ (putJ J D J.number s u cnt M).1.1.broken = true ∧ (putJ J D J.number s u cnt M).1.2.off = true ∧
      ∃ n' s' u' B', Cont (putJ J D J.number s u cnt M).1.2 n' s' u' B' ∧ (B' = recsB L ∨ B' = recsB (L0 ++ M))) := by
  have hfit := h.fit
  have hu : u ≤ sideN D * 256 := by have := hfit.used; omega
  unfold putJ
  rw [if_neg (by omega)]
  by_cases hroom : sideN D * 256 - u < (recsB M).length
  · rw [if_pos hroom]
    exact .inl ⟨hroom, rfl⟩
  · rw [if_neg hroom]
    right
    have huse : useB D s u 0 = recsB L0 := by
      rcases hmode with ⟨rfl, rfl, _, rfl⟩ | ⟨_, rfl, _, rfl⟩
      · exact h.cont.use_
      · exact useB_zero D s
    have hside : (s = J.side ∧ u = J.used) ∨ (s = 1 - J.side ∧ u = 0) := by
      rcases hmode with ⟨a, b, _⟩ | ⟨a, b, _⟩
      · exact .inl ⟨a, b⟩
      · exact .inr ⟨a, b⟩
    have hcnt : cnt = L0.length := by
      rcases hmode with ⟨_, _, rfl, rfl⟩ | ⟨_, _, rfl, rfl⟩
      · exact h.count
      · rfl
    have hul : u = (recsB L0).length := by
      rcases hmode with ⟨_, rfl, _, rfl⟩ | ⟨_, rfl, _, rfl⟩
      · exact h.used
      · rfl
    have hl0 : fewLong L0 := by
      rcases hmode with ⟨_, _, _, rfl⟩ | ⟨_, _, _, rfl⟩
      · exact h.long
      · exact fun r hr => by simp at hr
    have happ : recsB L0 ++ recsB M = recsB (L0 ++ M) := (recsB_append L0 M).symm
    rcases store_cases h.cont h.off hn s u (recsB M) hside (by omega) with ⟨t1, t2, t3, t4⟩ | ⟨t0, t1, t2, t3⟩
    · left
      rw [huse, happ] at t3
      rw [t1, if_neg (by decide)]
      refine ⟨by omega, rfl, ⟨t3, t2, ?_, ?_, h.brk, fewLong_append hl0 hM⟩, by rw [h.brk], t4⟩
      · dsimp only
        rw [← happ, List.length_append]
        omega
      · dsimp only
        rw [List.length_append, hcnt]
    · right
      rw [huse, happ] at t3
      rw [t1, if_pos (by decide)]
      refine ⟨by omega, t0, rfl, rfl, t2, ?_⟩
      rcases t3 with t3 | t3
      · exact ⟨_, _, _, _, t3, .inl rfl⟩
      · exact ⟨_, _, _, _, t3, .inr rfl⟩

theorem useB_full {D : Dev} (hw : D.Wf) (s u : Nat) (hs : s ≤ 1) (hu : u ≤ sideN D * 256) (h6 : 6 ≤ D.sure.length) : (useB D s u 0).length = u := by
  have hb := side_bound D s hs h6
  unfold useB
  rw [Nat.zero_mul, Nat.sub_zero, Nat.add_zero, List.length_take, areaD_length hw _ _ (by unfold secs; omega)]
  unfold secs
  omega
/-- A device is opened that holds records. -/
theorem open_cont {D : Dev} {n s u : Nat} {L : List (List UInt8)} (h : Cont D n s u (recsB L)) (hoff : D.off = false) (hl : fewLong L) :
    openM D = ((D, 0), (⟨n, s, u, L.length, false⟩, L)) ∧ JInv D ⟨n, s, u, L.length, false⟩ L := by
  obtain ⟨o1, o2, o3⟩ := h.ok
  have hbig := h.big
  have hnum := h.num
  have hr : recsOf (useB D s u 0) = (L, 0) := by rw [h.use_]; exact recsOf_recsB L hl
  have hul : u = (recsB L).length := by rw [← h.use_, useB_full h.wf s u o2 o3 h.big]
  refine ⟨?_, ⟨h, hoff, hul, rfl, rfl, hl⟩⟩
  unfold openM
  rw [if_neg (by omega), if_neg (by rw [hoff]; decide), h.cur, if_neg (by dsimp only; omega)]
  dsimp only
  rw [hr, if_neg (by simp)]
/-- A device that is new is opened. -/
theorem open_new (m : Nat) (h6 : 6 ≤ m) (hm : m ≤ 4096) : ∃ D, openM (newD m) = ((D, 0), (⟨1, 0, 0, 0, false⟩, [])) ∧ JInv D ⟨1, 0, 0, 0, false⟩ [] ∧ D.left = -1 ∧ D.sure.length = m ∧ D.changes = 2 ∧ D.loose = [] := by
  have hlen : (newD m).sure.length = m := List.length_replicate
  have hnow : ∀ i, i < m → (newD m).now i = List.replicate 256 0 := fun i hi => by
    rw [now_plain (newD m) rfl]
    show (List.replicate m (List.replicate 256 (0 : UInt8))).getD i [] = _
    rw [List.getD_eq_getElem?_getD, List.getElem?_replicate, if_pos hi]
    rfl
  have hz : ∀ size, asTally (List.replicate 256 0) size = (0, 0, 0) := fun size => by
    unfold asTally
    rw [if_pos (.inl (by decide))]
  have hcur : curT (newD m) = (0, 0, 0) := by
    have e : ∀ k, k ≤ 2 → curK (newD m) k = (0, 0, 0) := by
      intro k
      induction k with
      | zero => exact fun _ => rfl
      | succ k ih =>
        intro hk
        show (if (curK (newD m) k).1 < (asTally ((newD m).now k) (sideN (newD m) * 256)).1 then asTally ((newD m).now k) (sideN (newD m) * 256) else curK (newD m) k) = _
        rw [hnow k (by omega), hz, ih (by omega), if_neg (by decide)]
    exact e 2 (Nat.le_refl _)
  have hp := plain_put (plain_new m) 1 (tallyB 1 0 0) (by omega) (tallyB_length _ _ _)
  have hp1 : PlainDev m { newD m with loose := (newD m).loose ++ [(1, tallyB 1 0 0)], changes := (newD m).changes + 1 } := ⟨rfl, rfl, hlen⟩
  have hb := plain_barrier hp1
  obtain ⟨F, hF⟩ : ∃ F : Dev, F = { newD m with sure := applyW (newD m).sure ((newD m).loose ++ [(1, tallyB 1 0 0)]), loose := [], changes := (newD m).changes + 1 + 1 } := ⟨_, rfl⟩
  have htell : tellD (newD m) 1 0 0 = (F, 0) := by
    unfold tellD
    have e : (newD m).put ((1 % 2 : Nat) : Int) (tallyB 1 0 0) = _ := hp
    rw [e, if_neg (by simp), hF]
    exact hb
  have hsure : F.sure = (newD m).sure.set 1 (tallyB 1 0 0) := by rw [hF]; rfl
  have hFl : F.sure.length = m := by rw [hsure, List.length_set, hlen]
  have hFw : F.Wf := by
    have h1 := put_wf (newD_wf m) 1 (tallyB 1 0 0)
    rw [show ((1 : Int)) = ((1 : Nat) : Int) from rfl, hp] at h1
    have h2 := barrier_wf h1
    rw [hb, ← hF] at h2
    exact h2
  have hFnow : ∀ i, i < m → F.now i = if 1 = i then tallyB 1 0 0 else List.replicate 256 0 := fun i hi => by
    rw [now_plain F (by rw [hF]), hsure, getD_set _ _ _ _ (by rw [hlen]; omega)]
    split
    · rfl
    · rw [← hnow i hi, now_plain (newD m) rfl]
  refine ⟨F, ?_, ⟨⟨hFw, by rw [hF], by omega, by omega, Nat.le_refl _, ?_, ?_, useB_zero F 0⟩, by rw [hF]; rfl, rfl, rfl, rfl, fun r hr => by simp at hr⟩, by rw [hF]; rfl, hFl, by rw [hF]; rfl, by rw [hF]⟩
  · unfold openM
    rw [if_neg (by omega), if_neg (show ¬ (newD m).off = true from (by decide : ¬ (false = true))), hcur, if_pos rfl, htell, if_neg (by simp)]
  · rw [hFnow _ (by dsimp only; omega), if_pos (show 1 = 1 % 2 from rfl)]
    exact asTally_of (tallyB_take _ _ _) (Nat.le_refl _) (by decide) (by decide) (Nat.zero_le _) (by have := sideN_le F (by omega); omega)
  · rw [hFnow _ (by dsimp only; omega), if_neg (by decide)]
    exact ⟨List.length_replicate, .inl (by decide)⟩
end Go.Proofs.YtdmbmkjiffhbcaaGreat
