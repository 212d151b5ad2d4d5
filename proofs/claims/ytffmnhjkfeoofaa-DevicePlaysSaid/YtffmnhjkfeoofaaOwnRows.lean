/-
  Rows that the call owns, of elements of any number of cells: append onto them, stores into them, what they read as.
-/
import Derived.Test.YtffmnhjkfeoofaaKinds
namespace Go.Proofs.Ytffmnhjkfeoofaa
open Go.RowKit

/-- Slice type t has elements of type e, of so many cells and bytes. -/
def ElemK (P : Program) (t e : TypeId) (k bytes : Nat) : Prop :=
  P.underlying t = some (.slice e) ∧ 0 < k ∧ ∃ i z, P.info? e = some i ∧ i.zero = some z ∧ i.size = k ∧ i.bytes = bytes ∧ z.cells.size = k
theorem ElemK.mk_ {P : Program} {t e : TypeId} {z : Value} {k bytes : Nat} (ht : P.underlying t = some (.slice e)) (h : (P.info? e).map (fun i => (i.zero, i.size, i.bytes)) = some (some z, k, bytes)) (hz : z.cells.size = k) (h0 : 0 < k) : ElemK P t e k bytes := by
  obtain ⟨i0, hi, hz0, hz1, hz2⟩ := info_parts h
  exact ⟨ht, h0, i0, z, hi, hz0, hz1, hz2, hz⟩

/-- The value owns the row of these cells, so many an element. -/
def OwnK (w : World) (base : Nat) (e : TypeId) (k : Nat) (v : Value) (n : Nat) (xs : List Value) : Prop := w.ownsRow base e k v n xs
section
variable {w w' : World} {base : Nat} {e : TypeId} {k n : Nat} {v : Value} {xs : List Value}
theorem OwnK.nil (w : World) (base : Nat) (e : TypeId) (k : Nat) : OwnK w base e k (.slice none 0 0) 0 [] := World.ownsRow_nil _ _ _ _
theorem OwnK.alloc (h : OwnK w base e k v n xs) (o : Obj) : OwnK (w.alloc o) base e k v n xs := World.ownsRow.alloc h o
theorem OwnK.drew (h : OwnK w base e k v n xs) : OwnK w.drew base e k v n xs := h
theorem OwnK.lt (h : OwnK w base e k v n xs) : ∀ g, v.ownBlock = some g → base ≤ g ∧ g < w.heap.size := World.ownsRow.lt h
theorem OwnK.keep (h : OwnK w base e k v n xs) (hk : ∀ g, v.ownBlock = some g → w'.heap[g]? = w.heap[g]?) : OwnK w' base e k v n xs := by
  unfold OwnK World.ownsRow at *
  refine ⟨h.1, ?_⟩
  rcases h.2 with h | ⟨g, cap, cur, rfl, h1, h2, h3⟩
  · exact .inl h
  · exact .inr ⟨g, cap, cur, rfl, h1, (hk g rfl).trans h2, h3⟩
theorem OwnK.grow (h : OwnK w base e k v n xs) (hb : Below w.heap.size w w') : OwnK w' base e k v n xs := h.keep fun g hg => hb.block g (h.lt g hg).2
theorem OwnK.mono {base' : Nat} (h : OwnK w base e k v n xs) (hb : base' ≤ base) : OwnK w base' e k v n xs := by
  unfold OwnK World.ownsRow at *
  refine ⟨h.1, ?_⟩
  rcases h.2 with h | ⟨g, cap, cur, rfl, h1, h2⟩
  · exact .inl h
  · exact .inr ⟨g, cap, cur, rfl, by omega, h2⟩
theorem OwnK.empty (w : World) (e : TypeId) (k : Nat) : OwnK (w.alloc (.cells #[] e)) w.heap.size e k (.slice (some ⟨w.heap.size, 0, none⟩) 0 0) 0 [] :=
  ⟨by simp, .inr ⟨w.heap.size, 0, #[], rfl, Nat.le_refl _, Blk.new _ _ _, by simp, by unfold maxLen; omega, by simp, by simp⟩⟩
/-- What it reads as: in its own block, at its head. -/
theorem OwnK.form (h : OwnK w base e k v n xs) : ∃ A c, v = .slice A n c ∧ n ≤ c ∧ c ≤ maxLen ∧ Rd w (fun g => v.ownBlock = some g) A xs := by
  unfold OwnK World.ownsRow at h
  rcases h.2 with ⟨rfl, h0⟩ | ⟨g, cap, cur, rfl, h1, h2, h3, h4, h5, h6⟩
  · subst h0
    have : xs = [] := List.eq_nil_of_length_eq_zero (by rw [h.1, Nat.zero_mul])
    subst this
    exact ⟨none, 0, rfl, Nat.le_refl _, Nat.zero_le _, Rd.nil⟩
  · refine ⟨_, cap, rfl, h3, h4, ?_⟩
    have hb : Blk w g e cur := h2
    have := (hb.rd (fun x => (Value.slice (some ⟨g, 0, none⟩) n cap).ownBlock = some x) rfl).take (k := n * k)
    rwa [h6] at this
/-- Where something is owned, the block and its cells. -/
theorem OwnK.addr (h : OwnK w base e k v n xs) (hn : 0 < n) :
    ∃ g cap cur, v = .slice (some ⟨g, 0, none⟩) n cap ∧ base ≤ g ∧ Blk w g e cur ∧ n ≤ cap ∧ cap ≤ maxLen ∧ ∀ (j : Nat) (hj : j < xs.length), cur[j]? = some xs[j] := by
  unfold OwnK World.ownsRow at h
  rcases h.2 with ⟨h0, h1⟩ | ⟨g, cap, cur, hv, h1, h2, h3, h4, h5, h6⟩
  · omega
  · refine ⟨g, cap, cur, hv, h1, h2, h3, h4, fun j hj => ?_⟩
    have hlen := h.1
    have : (cur.toList.take (n * k))[j]? = xs[j]? := by rw [h6]
    rw [List.getElem?_take, if_pos (by omega), List.getElem?_eq_getElem hj] at this
    simpa using this
/-- A store into an own row. -/
theorem OwnK.set_ {g c : Nat} (h : OwnK w base e k (.slice (some ⟨g, 0, none⟩) n c) n xs) (i : Nat) (u : Value) : OwnK (w.setCell ⟨g, i, none⟩ u) base e k (.slice (some ⟨g, 0, none⟩) n c) n (xs.set i u) := by
  unfold OwnK World.ownsRow at *
  rcases h.2 with ⟨h0, _⟩ | ⟨g', cap, cur, hv, h1, h2, h3, h4, h5, h6⟩
  · cases h0
  · cases hv
    refine ⟨by rw [List.length_set]; exact h.1, .inr ⟨g, c, cur.setIfInBounds i u, rfl, h1, Blk.set_ h2 i u, h3, h4, by simpa using h5, ?_⟩⟩
    rw [Array.toList_setIfInBounds, List.take_set, h6]
theorem OwnK.below_of {B : Nat} (h : OwnK w base e k v n xs) (hg : w.grownBy w' v.ownBlock) (hB : B ≤ w.heap.size) (hb : B ≤ base) : Below B w w' :=
  below_of_grown hg hB fun g hg' => Nat.le_trans hb (h.lt g hg').1
end

section
variable {P : Program} (w : World)
theorem run_appK {t ty e : TypeId} {k bytes : Nat} (het : ElemK P t e k bytes) {base n : Nat} {v : Value} {xs : List Value} (hown : OwnK w base e k v n xs)
    {ok : Nat → Prop} {A : Option Addr} {m c : Nat} {news : List Value} (hm : news.length = m * k) (hr : Rd w ok A news) (h1 : ∀ u ∈ news, u.oneCell' = true)
    (hbytes : (n + m) * bytes ≤ 140737488355328) (h63 : n + m ≤ 140737488355328) (hbase : base ≤ w.heap.size) :
    ∃ v' w', (Builtin.append_ #[t, t] ty #[v, .slice A m c]).run P w = .ok v' w' ∧ OwnK w' base e k v' (n + m) (xs ++ news) ∧ w.grownBy w' v.ownBlock ∧ (v'.ownBlock = v.ownBlock ∨ v'.ownBlock = some w.heap.size) := by
  obtain ⟨ht, h0, i, z, hi, hz, hz1, hz2, hz3⟩ := het
  have key : ∀ ad, (∀ j u, news[j]? = some u → w.cell? (ad.add j) = some u) → ∃ v' w', (Builtin.append_ #[t, t] ty #[v, .slice (some ad) m c]).run P w = .ok v' w' ∧ OwnK w' base e k v' (n + m) (xs ++ news) ∧ w.grownBy w' v.ownBlock ∧ (v'.ownBlock = v.ownBlock ∨ v'.ownBlock = some w.heap.size) := fun ad hc => by
    obtain ⟨v', w', hrun, h2, h3, _, h5⟩ := run_append_own_at (P := P) w base t ty e i z k bytes ht hi hz hz1 hz2 hz3 h0 v n xs hown ad m c news hm hc h1 (by simp only [maxLen]; omega) hbytes hbase
    exact ⟨v', w', hrun, h2, h3, h5⟩
  by_cases hn : news = []
  · subst hn
    have hm0 : m = 0 := by
      rcases Nat.eq_zero_or_pos m with h | h
      · exact h
      · have := Nat.mul_pos h h0; simp at hm; omega
    subst hm0
    cases A with
    | none => exact ⟨v, w, append_nothing w ht hi hown, by simpa using hown, World.grownBy.refl _ _, .inl rfl⟩
    | some ad => exact key ad (fun j u hu => by simp at hu)
  · obtain ⟨ad, rfl, _, hc⟩ := hr hn
    exact key ad hc

theorem wpList_appK {t e : TypeId} {k bytes : Nat} (het : ElemK P t e k bytes) {ops : Array Oper} {rest : List Oper} {o : Oper} {a : Act} {Q : Exit → Act → World → Prop} (hgd : o.guard = none) (s x : Operand)
    (ho : o.op = .call { callee := .builtin .append, args := #[s, x], argTypes := #[t, t] })
    (base n : Nat) (v : Value) (xs : List Value) (hs : a.eval s = v) (hown : OwnK w base e k v n xs)
    (ok : Nat → Prop) (A : Option Addr) (m c : Nat) (news : List Value) (hm : news.length = m * k) (hx : a.eval x = .slice A m c) (hr : Rd w ok A news) (h1 : ∀ u ∈ news, u.oneCell' = true)
    (hbytes : (n + m) * bytes ≤ 140737488355328) (h63 : n + m ≤ 140737488355328) (hbase : base ≤ w.heap.size)
    (h : ∀ v' w', OwnK w' base e k v' (n + m) (xs ++ news) → w.grownBy w' v.ownBlock → (v'.ownBlock = v.ownBlock ∨ v'.ownBlock = some w.heap.size) → wpList P ops Q rest (a.put o.dst v') w') :
    wpList P ops Q (o :: rest) a w := by
  obtain ⟨v', w', hrun, h2, h3, h4⟩ := run_appK (P := P) w (ty := o.type) het hown (c := c) hm hr h1 hbytes h63 hbase
  refine wpList_plain hgd fun K hK => ?_
  unfold Oper.wp execOp
  simp only [ho, resolve, invoke, builtin, Sem.run_bind, Sem.run_pure, Result.andThen_ok, List.map_toArray, List.map_cons, List.map_nil, hs, hx, hrun]
  exact hK _ _ (h v' w' h2 h3 h4)

/-- append of elements written out, which lie in a new block. -/
theorem wpList_appK_new {t e : TypeId} {k bytes : Nat} (het : ElemK P t e k bytes) {ops : Array Oper} {rest : List Oper} {o : Oper} {a : Act} {Q : Exit → Act → World → Prop} (hgd : o.guard = none) (s x : Operand)
    (ho : o.op = .call { callee := .builtin .append, args := #[s, x], argTypes := #[t, t] })
    (base n : Nat) (v : Value) (xs : List Value) (hs : a.eval s = v) (hown : OwnK w base e k v n xs)
    (us : List Value) (m : Nat) (hm : us.length = m * k) (te : TypeId) (hx : a.eval x = .slice (some ⟨w.heap.size, 0, none⟩) m m) (h1 : ∀ u ∈ us, u.oneCell' = true)
    (hbytes : (n + m) * bytes ≤ 140737488355328) (h63 : n + m ≤ 140737488355328) (hbase : base ≤ w.heap.size)
    (h : ∀ v' w', OwnK w' base e k v' (n + m) (xs ++ us) → w.grownBy w' v.ownBlock → (v'.ownBlock = v.ownBlock ∨ v'.ownBlock = some (w.heap.size + 1)) → wpList P ops Q rest (a.put o.dst v') w') :
    wpList P ops Q (o :: rest) a (w.alloc (.cells us.toArray te)) := by
  refine wpList_appK _ het hgd s x ho base n v xs hs (hown.alloc _) (fun _ => True) (some ⟨w.heap.size, 0, none⟩) m m us hm hx ?_ h1 hbytes h63 (by simp; omega) ?_
  · exact (Blk.new w te us.toArray).rd _ trivial
  · intro v' w' h2 h3 h4
    refine h v' w' h2 ((World.grownBy_alloc w _ _).trans h3) ?_
    rcases h4 with h4 | h4
    · exact .inl h4
    · simp at h4
      exact .inr h4
end

/-! ### Lists of what leads nowhere -/
section
variable {α : Type} {K : Kind α} {w w' : World} {base : Nat} {e : TypeId} {v : Value} {L : List α}
/-- The value owns a row that reads as this list, of a kind that leads nowhere. -/
def OwnL (K : Kind α) (w : World) (base : Nat) (e : TypeId) (v : Value) (L : List α) : Prop := ∃ xs, OwnK w base e K.size v L.length xs ∧ kMany K w (fun _ => False) xs L
theorem OwnL.isL (h : OwnL K w base e v L) : IsL K w (fun g => v.ownBlock = some g) v L := by
  obtain ⟨xs, ho, hm⟩ := h
  obtain ⟨A, c, hv, h1, h2, h3⟩ := ho.form
  exact ⟨A, c, xs, hv, h1, h2, h3, hm.weaken fun _ h => h.elim⟩
theorem OwnL.grow (hK : K.Flat) (h : OwnL K w base e v L) (hb : Below w.heap.size w w') : OwnL K w' base e v L := by
  obtain ⟨xs, ho, hm⟩ := h
  exact ⟨xs, ho.grow hb, hm.flat hK⟩
theorem OwnL.lt (h : OwnL K w base e v L) : ∀ g, v.ownBlock = some g → base ≤ g ∧ g < w.heap.size := by
  obtain ⟨xs, ho, _⟩ := h
  exact ho.lt
theorem OwnL.mono {base' : Nat} (h : OwnL K w base e v L) (hb : base' ≤ base) : OwnL K w base' e v L := by
  obtain ⟨xs, ho, hm⟩ := h
  exact ⟨xs, ho.mono hb, hm⟩
theorem kStr_cells {w : World} {ok : Nat → Prop} {ds : List Value} {L : List (List UInt8)} (h : kMany kStr w ok ds L) : ds = L.map str ∧ ∀ l ∈ L, l.length ≤ maxLen := by
  obtain ⟨css, rfl, hl, hr⟩ := h
  induction css generalizing L with
  | nil =>
    obtain rfl : L = [] := List.eq_nil_of_length_eq_zero (by simpa using hl.symm)
    simp
  | cons c css ih =>
    cases L with
    | nil => simp at hl
    | cons a L =>
      have h0 := hr 0 (by simp) (by simp)
      simp only [List.getElem_cons_zero] at h0
      obtain ⟨e1, e2⟩ := h0
      obtain ⟨h1, h2⟩ := ih (by simpa using hl) (fun i hi hi' => hr (i + 1) (by simpa using hi) (by simpa using hi'))
      rw [List.flatten_cons, e1, h1]
      exact ⟨rfl, fun l hl => by rcases List.mem_cons.1 hl with rfl | hl; exact e2; exact h2 l hl⟩
theorem kStr_many {w : World} {ok : Nat → Prop} {L : List (List UInt8)} (h : ∀ l ∈ L, l.length ≤ maxLen) : kMany kStr w ok (L.map str) L := by
  induction L with
  | nil => exact kMany.nil
  | cons a L ih => exact kMany.cons (c := [str a]) ⟨rfl, h a (by simp)⟩ (ih fun l hl => h l (by simp [hl]))
theorem str_oneCell (L : List (List UInt8)) : ∀ u ∈ L.map str, u.oneCell' = true := by
  intro u hu
  obtain ⟨b, _, rfl⟩ := List.mem_map.1 hu
  rfl
end
theorem int_at {w : World} {ok : Nat → Prop} {v : Value} {L : List Int} (h : IsL (kInt .i64) w ok v L) :
    ∃ A c, v = .slice A L.length c ∧ L.length ≤ c ∧ c ≤ maxLen ∧ (L ≠ [] → ∃ b off, A = some ⟨b, off, none⟩ ∧ ok b ∧ b < w.heap.size ∧ ∀ (i : Nat) (hi : i < L.length), w.cell? ⟨b, off + i, none⟩ = some (.int .i64 L[i]) ∧ -9223372036854775808 ≤ L[i] ∧ L[i] ≤ 9223372036854775807) := by
  obtain ⟨A, c, hv, h1, h2, h3⟩ := h.elem (by decide)
  refine ⟨A, c, hv, h1, h2, fun hn => ?_⟩
  obtain ⟨b, off, hA, ho, hlt, hc⟩ := h3 hn
  refine ⟨b, off, hA, ho, hlt, fun i hi => ?_⟩
  obtain ⟨cs, ⟨rfl, hw⟩, hcs⟩ := hc i hi
  have := hcs 0 (by simp)
  have hw' : -9223372036854775808 ≤ L[i] ∧ L[i] ≤ 9223372036854775807 := by simpa [Lit.wf, IntKind.min, IntKind.max, IntKind.signed, IntKind.bits] using hw
  refine ⟨?_, hw'⟩
  simpa [kInt] using this
theorem str_at {w : World} {ok : Nat → Prop} {v : Value} {L : List (List UInt8)} (h : IsL kStr w ok v L) :
    ∃ A c, v = .slice A L.length c ∧ L.length ≤ c ∧ c ≤ maxLen ∧ (L ≠ [] → ∃ b off, A = some ⟨b, off, none⟩ ∧ ok b ∧ b < w.heap.size ∧ ∀ (i : Nat) (hi : i < L.length), w.cell? ⟨b, off + i, none⟩ = some (str L[i]) ∧ L[i].length ≤ maxLen) := by
  obtain ⟨A, c, hv, h1, h2, h3⟩ := h.elem (by decide)
  refine ⟨A, c, hv, h1, h2, fun hn => ?_⟩
  obtain ⟨b, off, hA, ho, hlt, hc⟩ := h3 hn
  refine ⟨b, off, hA, ho, hlt, fun i hi => ?_⟩
  obtain ⟨cs, ⟨rfl, hw⟩, hcs⟩ := hc i hi
  have := hcs 0 (by simp)
  exact ⟨by simpa [kStr] using this, hw⟩
end Go.Proofs.Ytffmnhjkfeoofaa
