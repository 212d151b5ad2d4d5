/-
  What store makes of a device: whole sectors, one behind the other, then all is made sure, then the tally.
  What the journal's calls make: put, Add, Replace, Open.
  append onto a slice whose capacity is its length; a device's footprint held to what it is made of.
  slices.Chunk of bytes: its iterator.
-/
import Derived.Test.YtiaabgmmmekpnaaJRead
import Derived.Test.YtiaabgmmmekpnaaJUnpack2
import Derived.Test.YtiaabgmmmekpnaaOwnBB
import Derived.Test.YtiaabgmmmekpnaaDevTail
import Derived.Deep.Upon
import Derived.Test.YtiaabgmmmekpnaaFields
import Derived.Test.YtiaabgmmmekpnaaJBase
namespace Go.Proofs.Ytiaabgmmmekpnaa

/-- The piece with that number. -/
def pieceB (l : List UInt8) (k : Nat) : List UInt8 := (l.drop (256 * k)).take 256
/-- The device behind so many writes, and the first error. -/
def wrR (D : Dev) (st : Nat) (l : List UInt8) : Nat → Dev × Int
  | 0 => (D, 0)
  | k + 1 => if (wrR D st l k).2 ≠ 0 then wrR D st l k else (wrR D st l k).1.put ((st + k : Nat) : Int) (wholeB (pieceB l k))
theorem wrR_stop (D : Dev) (st : Nat) (l : List UInt8) (k m : Nat) (h : (wrR D st l k).2 ≠ 0) (hm : k ≤ m) : wrR D st l m = wrR D st l k := by
  induction m with
  | zero => obtain rfl : k = 0 := by omega
            rfl
  | succ m ih =>
    by_cases e : k = m + 1
    · rw [e]
    · have h2 := ih (by omega)
      show (if (wrR D st l m).2 ≠ 0 then wrR D st l m else _) = _
      rw [h2, if_pos h]
theorem wrR_next (D : Dev) (st : Nat) (l : List UInt8) (k : Nat) (h : (wrR D st l k).2 = 0) : wrR D st l (k + 1) = (wrR D st l k).1.put ((st + k : Nat) : Int) (wholeB (pieceB l k)) := by
  show (if (wrR D st l k).2 ≠ 0 then wrR D st l k else _) = _
  rw [h, if_neg (by decide)]
theorem wrR_few {D : Dev} {m : Nat} (h : D.Few m) (st : Nat) (l : List UInt8) (k : Nat) : (wrR D st l k).1.Few (m + k) := by
  induction k with
  | zero => exact h
  | succ k ih =>
    show (if (wrR D st l k).2 ≠ 0 then wrR D st l k else _).1.Few _
    split
    · exact ih.mono (by omega)
    · exact put_few ih _ _
theorem wrR_length (D : Dev) (st : Nat) (l : List UInt8) (k : Nat) : (wrR D st l k).1.sure.length = D.sure.length := by
  induction k with
  | zero => rfl
  | succ k ih =>
    show (if (wrR D st l k).2 ≠ 0 then wrR D st l k else _).1.sure.length = _
    split
    · exact ih
    · exact (put_length _ _ _).trans ih
theorem wrR_wf {D : Dev} (h : D.Wf) (st : Nat) (l : List UInt8) (k : Nat) : (wrR D st l k).1.Wf := by
  induction k with
  | zero => exact h
  | succ k ih =>
    show (if (wrR D st l k).2 ≠ 0 then wrR D st l k else _).1.Wf
    split
    · exact ih
    · exact put_wf ih _ _
/-- All that is laid behind what is in use. -/
def laidB (D : Dev) (s u : Nat) (b : List UInt8) : List UInt8 := useB D s u (u / 256) ++ b
/-- The sectors are written. -/
def sectD (D : Dev) (s u : Nat) (b : List UInt8) : Dev × Int := wrR D (2 + s * sideN D + u / 256) (laidB D s u b) (secs (u - u / 256 * 256 + b.length))
/-- store. -/
def storeD (D : Dev) (s u : Nat) (b : List UInt8) (n' s' u' : Nat) : Dev × Int :=
  if (sectD D s u b).2 ≠ 0 then sectD D s u b else if (sectD D s u b).1.barrier.2 ≠ 0 then (sectD D s u b).1.barrier else tellD (sectD D s u b).1.barrier.1 n' s' u'
theorem put_off (D : Dev) (h : D.off = true) (i : Int) (x : List UInt8) : D.put i x = (D, 6) := by
  have hy : D.why i = 6 := by unfold Dev.why; rw [if_pos h]
  unfold Dev.put
  rw [if_pos (by rw [hy]; decide), hy]
theorem barrier_off (D : Dev) (h : D.off = true) : D.barrier = (D, 6) := by unfold Dev.barrier; rw [if_pos h]
theorem wrR_off (D : Dev) (h : D.off = true) (st : Nat) (l : List UInt8) (k : Nat) : wrR D st l k = (D, if k = 0 then 0 else 6) := by
  induction k with
  | zero => rfl
  | succ k ih =>
    by_cases hk : k = 0
    · subst hk
      rw [wrR_next D st l 0 rfl]
      exact put_off D h _ _
    · rw [wrR_stop D st l k (k + 1) (by rw [ih, if_neg hk]; simp) (by omega), ih, if_neg hk, if_neg (by omega)]
theorem storeD_off (D : Dev) (h : D.off = true) (s u : Nat) (b : List UInt8) (n' s' u' : Nat) : storeD D s u b n' s' u' = (D, 6) := by
  unfold storeD sectD
  rw [wrR_off D h]
  by_cases hk : secs (u - u / 256 * 256 + b.length) = 0
  · rw [if_pos hk, if_neg (by simp)]
    show (if D.barrier.2 ≠ 0 then D.barrier else _) = _
    rw [barrier_off D h, if_pos (by simp)]
  · rw [if_neg hk, if_pos (by simp)]
theorem tellD_few {D : Dev} {m : Nat} (h : D.Few m) (n s u : Nat) : (tellD D n s u).1.Few (m + 2) := by
  have hp := put_few h ((n % 2 : Nat) : Int) (tallyB n s u)
  unfold tellD
  split
  · exact hp.mono (by omega)
  · exact barrier_few hp
theorem tellD_length (D : Dev) (n s u : Nat) : (tellD D n s u).1.sure.length = D.sure.length := by
  unfold tellD
  split
  · exact put_length _ _ _
  · exact (barrier_length _).trans (put_length _ _ _)
theorem storeD_few {D : Dev} {m : Nat} (h : D.Few m) (s u : Nat) (b : List UInt8) (n' s' u' : Nat) : (storeD D s u b n' s' u').1.Few (m + secs (u - u / 256 * 256 + b.length) + 3) := by
  have h1 : (sectD D s u b).1.Few _ := wrR_few h _ _ _
  unfold storeD
  split
  · exact h1.mono (by omega)
  · split
    · exact (barrier_few h1).mono (by omega)
    · exact (tellD_few (barrier_few h1) _ _ _).mono (by omega)
theorem storeD_length (D : Dev) (s u : Nat) (b : List UInt8) (n' s' u' : Nat) : (storeD D s u b n' s' u').1.sure.length = D.sure.length := by
  have h1 : (sectD D s u b).1.sure.length = _ := wrR_length D _ _ _
  unfold storeD
  split
  · exact h1
  · split
    · exact (barrier_length _).trans h1
    · exact (tellD_length _ _ _ _).trans ((barrier_length _).trans h1)
end Go.Proofs.Ytiaabgmmmekpnaa

namespace Go.Proofs.Ytiaabgmmmekpnaa

/-- Records are put behind the bytes that a tally counts. -/
def putJ (J : JM) (D : Dev) (n s u cnt : Nat) (L : List (List UInt8)) : (JM × Dev) × Int :=
  if n = 4611686018427387904 then ((J, D), 5)
  else if sideN D * 256 - u < (recsB L).length then ((J, D), 5)
  else if (storeD D s u (recsB L) (n + 1) s (u + (recsB L).length)).2 ≠ 0 then (({ J with broken := true }, (storeD D s u (recsB L) (n + 1) s (u + (recsB L).length)).1), (storeD D s u (recsB L) (n + 1) s (u + (recsB L).length)).2)
  else ((⟨n + 1, s, u + (recsB L).length, cnt + L.length, J.broken⟩, (storeD D s u (recsB L) (n + 1) s (u + (recsB L).length)).1), 0)
def fewLong (L : List (List UInt8)) : Prop := ∀ r ∈ L, r.length ≤ 65531
instance (L : List (List UInt8)) : Decidable (fewLong L) := inferInstanceAs (Decidable (∀ r ∈ L, r.length ≤ 65531))
def addJ (J : JM) (D : Dev) (L : List (List UInt8)) : (JM × Dev) × Int :=
  if J.broken then ((J, D), 3) else if ¬ fewLong L then ((J, D), 4) else if L = [] then ((J, D), 0) else putJ J D J.number J.side J.used J.count L
def repJ (J : JM) (D : Dev) (L : List (List UInt8)) : (JM × Dev) × Int :=
  if J.broken then ((J, D), 3) else if ¬ fewLong L then ((J, D), 4) else putJ J D J.number (1 - J.side) 0 0 L
def noJ : JM × List (List UInt8) := (⟨0, 0, 0, 0, true⟩, [])
/-- A device is opened: the device behind it and the error; the journal and its records. -/
def openM (D : Dev) : (Dev × Int) × (JM × List (List UInt8)) :=
  if D.sure.length < 6 then ((D, 1), noJ)
  else if D.off then ((D, 6), noJ)
  else if (curT D).1 = 0 then (if (tellD D 1 0 0).2 ≠ 0 then (tellD D 1 0 0, noJ) else (((tellD D 1 0 0).1, 0), (⟨1, 0, 0, 0, false⟩, [])))
  else if (recsOf (useB D (curT D).2.1 (curT D).2.2 0)).2 ≠ 0 then ((D, (recsOf (useB D (curT D).2.1 (curT D).2.2 0)).2), noJ)
  else ((D, 0), (⟨(curT D).1, (curT D).2.1, (curT D).2.2, (recsOf (useB D (curT D).2.1 (curT D).2.2 0)).1.length, false⟩, (recsOf (useB D (curT D).2.1 (curT D).2.2 0)).1))

theorem recsB_count (L : List (List UInt8)) : 5 * L.length ≤ (recsB L).length := by
  induction L with
  | nil => exact Nat.zero_le _
  | cons r L ih =>
    have h1 := (recB_length r).1
    have h2 : (recsB (r :: L)).length = (recB r).length + (recsB L).length := by
      show (recB r ++ recsB L).length = _
      rw [List.length_append]
    rw [h2, List.length_cons]
    omega
theorem asTally_ok (b : List UInt8) (size : Nat) : (asTally b size).1 ≤ 4611686018427387904 ∧ (asTally b size).2.1 ≤ 1 ∧ (asTally b size).2.2 ≤ size := by
  unfold asTally
  split
  · exact ⟨Nat.zero_le _, Nat.zero_le _, Nat.zero_le _⟩
  · rename_i h
    split
    · refine ⟨?_, ?_, ?_⟩ <;> dsimp only <;> omega
    · exact ⟨Nat.zero_le _, Nat.zero_le _, Nat.zero_le _⟩
theorem curK_ok (D : Dev) (k : Nat) : (curK D k).1 ≤ 4611686018427387904 ∧ (curK D k).2.1 ≤ 1 ∧ (curK D k).2.2 ≤ sideN D * 256 := by
  induction k with
  | zero => exact ⟨Nat.zero_le _, Nat.zero_le _, Nat.zero_le _⟩
  | succ k ih =>
    show (if (curK D k).1 < (asTally (D.now k) (sideN D * 256)).1 then asTally (D.now k) (sideN D * 256) else curK D k).1 ≤ _ ∧ (if (curK D k).1 < (asTally (D.now k) (sideN D * 256)).1 then asTally (D.now k) (sideN D * 256) else curK D k).2.1 ≤ _ ∧ (if (curK D k).1 < (asTally (D.now k) (sideN D * 256)).1 then asTally (D.now k) (sideN D * 256) else curK D k).2.2 ≤ _
    split
    · exact asTally_ok _ _
    · exact ih
/-- What a journal's numbers keep to. -/
structure JFit (J : JM) (D : Dev) : Prop where
  num : J.number ≤ 4611686018427387904
  side : J.side ≤ 1
  used : J.used ≤ sideN D * 256
  count : J.count ≤ 1099511627776
  big : 6 ≤ D.sure.length
theorem sideN_same {D D' : Dev} (h : D'.sure.length = D.sure.length) : sideN D' = sideN D := by unfold sideN; rw [h]
theorem putJ_length (J : JM) (D : Dev) (n s u cnt : Nat) (L : List (List UInt8)) : (putJ J D n s u cnt L).1.2.sure.length = D.sure.length := by
  unfold putJ
  split
  · rfl
  · split
    · rfl
    · split
      · exact storeD_length _ _ _ _ _ _ _
      · exact storeD_length _ _ _ _ _ _ _
theorem addJ_length (J : JM) (D : Dev) (L : List (List UInt8)) : (addJ J D L).1.2.sure.length = D.sure.length := by
  unfold addJ
  split
  · rfl
  · split
    · rfl
    · split
      · rfl
      · exact putJ_length _ _ _ _ _ _ _
theorem repJ_length (J : JM) (D : Dev) (L : List (List UInt8)) : (repJ J D L).1.2.sure.length = D.sure.length := by
  unfold repJ
  split
  · rfl
  · split
    · rfl
    · exact putJ_length _ _ _ _ _ _ _
theorem openM_length (D : Dev) : (openM D).1.1.sure.length = D.sure.length := by
  unfold openM
  split
  · rfl
  · split
    · rfl
    · split
      · split
        · exact tellD_length _ _ _ _
        · exact tellD_length _ _ _ _
      · split
        · rfl
        · rfl
end Go.Proofs.Ytiaabgmmmekpnaa

namespace Go.Proofs.Ytiaabgmmmekpnaa
open Go.RowKit
set_option maxRecDepth 100000

/-- append onto a slice that is full: its cells, and the new ones behind them; what was there stays. -/
theorem run_app_full {P : Program} (w : World) {t ty e : TypeId} {bytes : Nat} (het : ElemT P t e bytes) {ok ok2 : Nat → Prop} {A B : Option Addr} {c m k : Nat} {olds news : List Value} (hm : olds.length = m) (hk : news.length = k)
    (ho : Rd w ok A olds) (hn : Rd w ok2 B news) (h1 : ∀ u ∈ news, u.oneCell' = true) (h63 : m + k ≤ 140737488355328) (hbytes : (m + k) * bytes ≤ 140737488355328) :
    ∃ A' c' w', (Builtin.append_ #[t, t] ty #[.slice A m m, .slice B k c]).run P w = .ok (.slice A' (m + k) c') w' ∧ m + k ≤ c' ∧ c' ≤ maxLen ∧ Below w.heap.size w w' ∧ Rd w' (fun q => ok q ∨ w.heap.size ≤ q) A' (olds ++ news) := by
  obtain ⟨ht, i, z, hi, hz, hz1, hz2, hz3⟩ := het
  have hmx : m + k ≤ maxLen := by unfold maxLen; omega
  by_cases h0 : news = []
  · subst h0
    have hk0 : k = 0 := by simpa using hk.symm
    subst hk0
    have hs : Src P i.size t (.slice B 0 c) 0 [] w := by
      cases B with
      | none => exact Src.ofNil w ht c
      | some ad => exact Src.ofSlice w ht ad 0 c [] (by simp) (by simp) (by simp)
    refine ⟨A, m, w, run_append_nothing w t t ty e i ht hi A m m (Nat.le_refl _) _ hs, Nat.le_refl _, by omega, Below.refl _ _, ?_⟩
    rw [List.append_nil]
    exact ho.weaken fun _ h => .inl h
  · obtain ⟨ad, rfl, _, hc⟩ := hn h0
    have hk0 : 0 < k := by
      rw [← hk]
      exact List.length_pos_iff.2 h0
    have hs : Src P i.size t (.slice (some ad) k c) k news w := Src.ofSlice w ht ad k c news (by rw [hz1, Nat.mul_one]; exact hk) hc h1
    have hold : (Builtin.firstCells i.size m (.slice A m m)).run P w.drew = .ok olds.toArray w.drew := by
      by_cases h2 : olds = []
      · subst h2
        have hm0 : m = 0 := by simpa using hm.symm
        subst hm0
        cases A with
        | none => exact run_firstCells_none w.drew i.size 0 0 0
        | some a => exact run_firstCells_some w.drew i.size 0 a 0 0 [] (by simp) (by simp)
      · obtain ⟨a, rfl, _, hc2⟩ := ho h2
        exact run_firstCells_some w.drew i.size m a m m olds (by rw [hz1, Nat.mul_one]; exact hm) (by simpa using hc2)
    have hrun := run_append_grow_src (P := P) w t t ty e i z ht hi hz A m m olds hold _ k news hs (by omega) (by omega) (growslice_fits (by omega) (by rw [hz2]; exact hbytes))
    refine ⟨_, _, _, hrun, grownCap_ge w (m + k) m e, grownCap_le_maxLen w (m + k) m e hmx, ((Below.refl w.heap.size w).drew).alloc (Nat.le_refl _) _, ?_⟩
    have hr := (rd_of_row (row_new w.drew (.cells ((olds ++ news).toArray ++ Builtin.zeroCells z.cells (grownCap w (m + k) m e - (m + k))) e)) (fun q => ok q ∨ w.heap.size ≤ q) (.inr (Nat.le_refl _))).take (k := (olds ++ news).length)
    rw [show ((olds ++ news).toArray ++ Builtin.zeroCells z.cells (grownCap w (m + k) m e - (m + k))).toList = (olds ++ news) ++ (Builtin.zeroCells z.cells (grownCap w (m + k) m e - (m + k))).toList by simp, List.take_left' rfl] at hr
    exact hr
theorem wpListIn_app_full {F : Fence} {n : Nat} {P : Program} (w : World) {t e : TypeId} {bytes : Nat} (het : ElemT P t e bytes) {ops : Array Oper} {rest : List Oper} {o : Oper} {a : Act} {Q : Exit → Act → World → Prop} (hgd : o.guard = none) (s x : Operand)
    (hop : o.op = .call { callee := .builtin .append, args := #[s, x], argTypes := #[t, t] })
    {ok ok2 : Nat → Prop} {A B : Option Addr} {c m k : Nat} {olds news : List Value} (hs : a.eval s = .slice A m m) (hx : a.eval x = .slice B k c) (hm : olds.length = m) (hk : news.length = k)
    (ho : Rd w ok A olds) (hn : Rd w ok2 B news) (h1 : ∀ u ∈ news, u.oneCell' = true) (h63 : m + k ≤ 140737488355328) (hbytes : (m + k) * bytes ≤ 140737488355328)
    (h : ∀ A' c' w', m + k ≤ c' → c' ≤ maxLen → Below w.heap.size w w' → Rd w' (fun q => ok q ∨ w.heap.size ≤ q) A' (olds ++ news) → wpListIn F n P ops Q rest (a.put o.dst (.slice A' (m + k) c')) w') :
    wpListIn F n P ops Q (o :: rest) a w := by
  obtain ⟨A', c', w', hrun, h2, h3, h4, h5⟩ := run_app_full (P := P) w (ty := o.type) (c := c) het hm hk ho hn h1 h63 hbytes
  refine wpListIn_plain hgd fun K hK' => ?_
  unfold Oper.wpIn
  refine ⟨?_, ?_⟩
  · simp [Oper.about, hop, resolve, Target.leads, Sem.run_pure]
  · rw [Oper.semAt_plain F _ _ (by rw [hop]; intro c hc'; cases hc')]
    simp only [execOp, hop, resolve, invoke, builtin, Sem.run_bind, Sem.run_pure, Result.andThen_ok, List.map_toArray, List.map_cons, List.map_nil, hs, hx, hrun]
    exact hK' _ _ (h A' c' w' h2 h3 h4 h5)

theorem OwnK.cells_at {w : World} {base : Nat} {e : TypeId} {k n : Nat} {v : Value} {xs : List Value} (h : OwnK w base e k v n xs) : ∀ j, v.ownBlock = some j → ∃ c t fz, w.heap[j]? = some (.cells c t fz) := fun j hj => by
  unfold OwnK World.ownsRow at h
  rcases h.2 with ⟨rfl, _⟩ | ⟨g', cap, cur, rfl, _, hh, _⟩
  · simp [Value.ownBlock] at hj
  · simp [Value.ownBlock] at hj
    subst hj
    exact ⟨_, _, _, hh⟩
/-- Of a device's footprint all blocks may be taken to be of cells. -/
theorem DevAt.tight {w : World} {base : Nat} {F : Nat → Prop} {g : Nat} {D : Dev} (h : DevAt w base F g D) :
    ∃ F2 : Nat → Prop, (∀ k, F2 k → F k) ∧ DevAt w base F2 g D ∧ ∀ k, F2 k → ∃ c t fz, w.heap[k]? = some (.cells c t fz) := by
  obtain ⟨gs, gl, vl, vp, n, hin, hn⟩ := h
  refine ⟨fun k => F k ∧ ∃ c t fz, w.heap[k]? = some (.cells c t fz), fun _ h => h.1, ⟨gs, gl, vl, vp, n, ⟨hin.blk, hin.sure, hin.last, hin.ne, hin.loose, ?_, ⟨hin.fg, _, _, _, hin.blk⟩, ⟨hin.fs, _, _, _, hin.sure⟩, ⟨hin.fl, _, _, _, hin.last⟩, fun k hk => ⟨hin.fv k hk, hin.loose.cells_at k hk⟩, fun k hk => hin.low k hk.1, hin.len, hin.wf⟩, hn⟩, fun _ h => h.2⟩
  rcases hin.plan with h | ⟨h0, h1, gp, vk, e, hf, hb, hfk, hblk, hown⟩
  · exact .inl h
  · refine .inr ⟨h0, h1, gp, vk, e, ⟨hf, _, _, _, hblk⟩, hb, fun k hk => ⟨hfk k hk, ?_⟩, hblk, hown⟩
    obtain ⟨xs, ho, _⟩ := hown
    exact ho.cells_at k hk
theorem Fr.other {F F' : Nat → Prop} {w w' w2 : World} {row : Option Nat} (h : Fr F F' w w') (hg : w'.grownBy w2 row) (hr : ∀ k, row = some k → w.heap.size ≤ k) : Fr F F' w w2 :=
  ⟨hg.os.trans h.os, hg.tape.trans h.tape, hg.output.trans h.output, Nat.le_trans h.size hg.size, fun k hk hF => ⟨(h.block k hk hF).1, (hg.block k (Nat.lt_of_lt_of_le hk h.size) fun e => by have := hr k e.symm; omega).trans (h.block k hk hF).2⟩⟩
theorem DevAt.other {w w' : World} {base : Nat} {F : Nat → Prop} {g : Nat} {D : Dev} {row : Option Nat} (h : DevAt w base F g D) (hc : ∀ k, F k → ∃ c t fz, w.heap[k]? = some (.cells c t fz)) (hg : w.grownBy w' row) (hr : ∀ r, row = some r → ∃ o : Obj, w.heap[r]? = some o ∧ o.isCells = false) :
    DevAt w' base F g D ∧ ∀ k, F k → ∃ c t fz, w'.heap[k]? = some (.cells c t fz) := by
  have hk : ∀ k, F k → w'.heap[k]? = w.heap[k]? := fun k hF => hg.block k (h.low k hF).2 fun e => by
    obtain ⟨o, ho, hoc⟩ := hr k e.symm
    obtain ⟨c, t, fz, hx⟩ := hc k hF
    rw [hx] at ho
    cases ho
    cases hoc
  refine ⟨h.keep hk hg.size, fun k hF => ?_⟩
  obtain ⟨c, t, fz, hx⟩ := hc k hF
  exact ⟨c, t, fz, (hk k hF).trans hx⟩
end Go.Proofs.Ytiaabgmmmekpnaa

namespace Go.Proofs.Ytiaabgmmmekpnaa
open Go.RowKit Go.Shelf
set_option maxRecDepth 100000
attribute [local go_sem] Oper.semAt_some

/-- What is known of a piece as it is yielded. -/
def chunkX (ok : Nat → Prop) (l : List UInt8) (pre : List Value) (x : Value) (_ W : World) : Prop :=
  256 * pre.length < l.length ∧ IsB W ok x ((l.drop (256 * pre.length)).take 256)
theorem chunkX_own {B : Nat} (ok : Nat → Prop) (hok : ∀ k, ok k → k < B) (l : List UInt8) (pre : List Value) (x : Value) (W0 : World) : OwnFrom B (fun (_ : Unit) W => chunkX ok l pre x W0 W) := fun _ _ _ _ ⟨h1, h2⟩ hg hr =>
  ⟨h1, h2.frame fun k hk hlt => hg.block k hlt fun e => by have := (hr k e.symm).1; have := hok k hk; omega⟩
set_option maxHeartbeats 1000000 in
theorem chunk_iter (n : Nat) (ok keep : Nat → Prop) (hok : ∀ k, ok k → keep k) (l : List UInt8) (B1 B2 : Nat) (hB1 : keep B1) (hB2 : keep B2) (v0 : Value) (w : World) (hb1 : w.cell? ⟨B1, 0, none⟩ = some v0) (hb2 : w.cell? ⟨B2, 0, none⟩ = some (.int .i64 256)) (hv0 : IsB w ok v0 l) (hlen : l.length ≤ 1099511627776) :
    Iter n Try.prog 90 #[.pointer (some ⟨B1, 0, none⟩), .pointer (some ⟨B2, 0, none⟩)] (fun x : Value => #[x]) keep (chunkX ok l) (fun xs => l.length ≤ 256 * xs.length) (fun _ => True) w := by
  intro L J Jx W hk hsz hY h0
  have hbx1 : W.cell? ⟨B1, 0, none⟩ = some v0 := (World.cell?_of_block (w := w) (hk B1 hB1)).trans hb1
  have hbx2 : W.cell? ⟨B2, 0, none⟩ = some (.int .i64 256) := (World.cell?_of_block (w := w) (hk B2 hB2)).trans hb2
  have hv1 := hv0.frame (w' := W) fun k hk' _ => hk k (hok k hk')
  obtain ⟨A0, c0, rfl, hlc0, hcm0, hr0⟩ := hv1
  refine callsIn_of_wp Try.func90 rfl trivial ?_ rfl
  simp only [Try.ntmps90, List.size_toArray, List.length_cons, List.length_nil, Nat.reduceAdd, Nat.reduceSub, Array.replicate_succ, Array.replicate_zero, List.push_toArray, List.append_toArray, List.nil_append, List.cons_append]
  gi_wp2
  gi_loopw [4] (fun y wr => ∃ (pre : List Value) (W0 : World), y = .int .i64 ((256 * pre.length : Nat) : Int) ∧ Rd wr ok A0 (l.map u8) ∧ wr.cell? ⟨B1, 0, none⟩ = some (.slice A0 l.length c0) ∧ wr.cell? ⟨B2, 0, none⟩ = some (.int .i64 256) ∧
      J pre W0 ∧ Below W0.heap.size W0 wr ∧ 256 * pre.length < l.length + 256)
    (fun y _ => match y with | .int _ i => (l.length + 256 - i).toNat | _ => 0)
  case atStart =>
    exact ⟨[], W, rfl, hr0, hbx1, hbx2, h0, Below.refl _ _, by simp⟩
  case round =>
    obtain ⟨pre, W0, rfl, hr, hc1, hc2, hJ, hbel, hlt⟩ := hrel
    by_cases hend : l.length ≤ 256 * pre.length
    · have hlss : decide (((256 * pre.length : Nat) : Int) < (l.length : Int)) = false := by simp; omega
      gi_wp2
      go_end0
      exact ⟨⟨_, rfl⟩, .inl ⟨pre, W0, hend, hJ, hbel⟩⟩
    · have hlss : decide (((256 * pre.length : Nat) : Int) < (l.length : Int)) = true := by simp; omega
      have HY := Lib.hid hY
      have Hr := Lib.hid hr
      have Hj := Lib.hid hJ
      have Hb := Lib.hid (hbel.drew)
      clear hY hr hr0 hk h0 hJ hbel
      gi_wp2
      gi_region
      have hm : (min 256 ((l.length - 256 * pre.length : Nat) : Int) : Int) = ((min 256 (l.length - 256 * pre.length) : Nat) : Int) := by omega
      simp only [hm]
      obtain ⟨m, hmm⟩ : ∃ m, m = min 256 (l.length - 256 * pre.length) := ⟨_, rfl⟩
      simp only [← hmm]
      have hc1d : wr.drew.cell? ⟨B1, 0, none⟩ = some (.slice A0 l.length c0) := hc1
      have hX : chunkX ok l pre (.slice (Option.map (fun x => x.add (256 * pre.length)) A0) m m) W0 wr.drew := by
        refine ⟨by omega, A0.map (fun x => x.add (256 * pre.length)), m, ?_, ?_, ?_, ?_⟩
        · rw [List.length_take, List.length_drop, ← hmm]
        · rw [List.length_take, List.length_drop, ← hmm]; exact Nat.le_refl _
        · unfold maxLen; omega
        · have h1 := Hr.out.drop (k := 256 * pre.length) (cap := c0) (by rw [List.length_map]; exact hlc0)
          rw [if_neg (by omega)] at h1
          rw [List.map_take, List.map_drop]
          exact h1.take
      obtain ⟨fn, tmps, assign, body, hy', hR⟩ := HY.out pre _ W0 wr.drew Hj.out Hb.out hX
      replace hy' : (Instr.yield L #[.slice (Option.map (fun x => x.add (256 * pre.length)) A0) m m]).run Try.prog wr.drew = .ok (.round L fn tmps assign body) wr.drew := hy'
      have hi1 : 256 * pre.length + m ≤ c0 := by omega
      have Hmm := Lib.hid hmm
      have hm0 : 0 < m := by omega
      have hm1 : m ≤ 256 := by omega
      have hi2 : 256 * pre.length + m ≤ 1099511627776 := by omega
      have hi3 : 256 * pre.length + m - 256 * pre.length = m := by omega
      clear hX hmm hm
      gi_wp2
      refine ⟨Bool.noConfusion, hR.mono ?_⟩
      rintro e3 w3 (⟨rfl, hJ3, hs3, hk3⟩ | ⟨rfl, hJ3⟩)
      · have hr3 := Hr.out.frame (w' := w3) fun k hk' _ => hk3 k (hok k hk')
        have hd1 : w3.cell? ⟨B1, 0, none⟩ = some (.slice A0 l.length c0) := (World.cell?_of_block (w := wr.drew) (hk3 B1 hB1)).trans hc1
        have hd2 : w3.cell? ⟨B2, 0, none⟩ = some (.int .i64 256) := (World.cell?_of_block (w := wr.drew) (hk3 B2 hB2)).trans hc2
        gi_wp2
        go_roundw
        case rel =>
          refine ⟨_, w3, ?_, hr3, hd1, hd2, hJ3, Below.refl _ _, ?_⟩
          · rw [List.length_append, List.length_singleton]; congr 1
          · rw [List.length_append, List.length_singleton]; omega
        case measure => dsimp only; omega
      · gi_wp2
        refine bodyPost_ret (results_none rfl _ _ _) rfl ?_
        exact ⟨⟨_, rfl⟩, .inr ⟨_, w3, trivial, hJ3, Below.refl _ _⟩⟩
/-- Chunk in pieces of 256 bytes: two boxes, and nothing else. -/
theorem chunk_any (ok : Nat → Prop) (v : Value) (l : List UInt8) (w : World) (hv : IsB w ok v l) :
    Calls Try.prog 81 #[v, .int .i64 256] w fun e w' => e = .returned (.func (.func 90) #[] #[.pointer (some ⟨w.heap.size, 0, none⟩), .pointer (some ⟨w.heap.size + 1, 0, none⟩)]) ∧
      w'.cell? ⟨w.heap.size, 0, none⟩ = some v ∧ w'.cell? ⟨w.heap.size + 1, 0, none⟩ = some (.int .i64 256) ∧ w'.heap.size = w.heap.size + 1 + 1 ∧ IsB w' ok v l ∧ Below w.heap.size w w' := by
  go_enter Try.func81, Try.ntmps81
  obtain ⟨A, c, rfl, hc, hm, hr⟩ := hv
  go_wp2
  go_ret
  have hb : Below w.heap.size w ((w.alloc (.cells #[.slice A l.length c] 48)).alloc (.cells #[.int .i64 256] 3)) := ((Below.refl w.heap.size w).alloc (Nat.le_refl _) _).alloc (by simp) _
  refine ⟨rfl, by go_simp, by go_simp, by simp, ⟨A, c, rfl, hc, hm, hr.grow hb⟩, hb⟩
end Go.Proofs.Ytiaabgmmmekpnaa
