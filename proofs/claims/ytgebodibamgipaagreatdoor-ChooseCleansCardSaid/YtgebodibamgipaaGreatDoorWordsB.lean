/-
  Memory in a few words of our own: what a slice's address reads as (Rd), a block known whole (Blk), a row that the call owns (Own1), and append onto such a row.
  Bytes and texts: what a slice of bytes reads as, and its conversion to a text.
-/
import Derived.Below
import Derived.Laws.OwnMore
import Derived.Deep.Draws
import Derived.Laws.Rows
import Derived.Maps.AppendAt
import Derived.OwnWalk
import Derived.WalkKit
import Derived.Laws.BytesString
import Derived.Laws.Concat
import Derived.Test.YtgebodibamgipaaGreatDoorChecked
namespace Go.Proofs.YtgebodibamgipaaGreatDoor
open Go.RowKit

theorem add_block (a : Addr) (n : Nat) : (a.add n).block = a.block := by
  unfold Addr.add
  split <;> rfl
theorem add_add' (a : Addr) (i j : Nat) : (a.add i).add j = a.add (i + j) := by
  unfold Addr.add
  by_cases hi : i = 0
  · subst hi; simp
  · by_cases hj : j = 0
    · subst hj; simp
    · simp [hi, hj, Nat.add_assoc]
theorem add_zero' (a : Addr) : a.add 0 = a := by unfold Addr.add; simp

theorem bcell {W w1 : World} (hb : Below W.heap.size W w1) : (∀ b o, b < W.heap.size → w1.cell? ⟨b, o, none⟩ = W.cell? ⟨b, o, none⟩) ∧ (∀ b o, b < W.heap.size → w1.frozen? ⟨b, o, none⟩ = W.frozen? ⟨b, o, none⟩) :=
  ⟨fun b o h => hb.cell (p := ⟨b, o, none⟩) h, fun b o h => hb.frozen (p := ⟨b, o, none⟩) h⟩

/-! ### Reading -/
/-- The cells xs lie at A, in a block that 'ok' lets. -/
def Rd (w : World) (ok : Nat → Prop) (A : Option Addr) (xs : List Value) : Prop :=
  xs ≠ [] → ∃ ad, A = some ad ∧ ok ad.block ∧ ∀ j u, xs[j]? = some u → w.cell? (ad.add j) = some u

section
variable {w w' : World} {ok ok' : Nat → Prop} {A : Option Addr} {xs : List Value}
theorem Rd.nil : Rd w ok A [] := fun h => absurd rfl h
theorem Rd.weaken (h : Rd w ok A xs) (hk : ∀ k, ok k → ok' k) : Rd w ok' A xs := fun hn => by
  obtain ⟨ad, e, ho, hc⟩ := h hn
  exact ⟨ad, e, hk _ ho, hc⟩
theorem Rd.lt (h : Rd w ok A xs) (hn : xs ≠ []) : ∃ ad, A = some ad ∧ ok ad.block ∧ ad.block < w.heap.size := by
  obtain ⟨ad, e, ho, hc⟩ := h hn
  cases xs with
  | nil => exact absurd rfl hn
  | cons x r =>
    have := hc 0 x rfl
    have hb := World.block_lt_of_cell? w _ this
    rw [add_block] at hb
    exact ⟨ad, e, ho, hb⟩
theorem Rd.frame (h : Rd w ok A xs) (hk : ∀ k, ok k → k < w.heap.size → w'.heap[k]? = w.heap[k]?) : Rd w' ok A xs := fun hn => by
  obtain ⟨ad, e, ho, hlt⟩ := h.lt hn
  obtain ⟨ad', e', _, hc⟩ := h hn
  subst e
  cases e'
  exact ⟨ad, rfl, ho, fun j u hu => (World.cell?_of_block (w := w) (by rw [add_block]; exact hk _ ho hlt)).trans (hc j u hu)⟩
theorem Rd.grow (h : Rd w ok A xs) (hb : Below w.heap.size w w') : Rd w' ok A xs := h.frame fun k _ hk => hb.block k hk
theorem Rd.grown {row : Option Nat} (h : Rd w ok A xs) (hg : w.grownBy w' row) (hr : ∀ g, row = some g → ¬ ok g) : Rd w' ok A xs :=
  h.frame fun k ho hk => hg.block k hk fun e => hr k e.symm ho
theorem Rd.below {B : Nat} (h : Rd w ok A xs) (hb : Below B w w') (hB : ∀ k, ok k → k < B) : Rd w' ok A xs := h.frame fun k ho _ => hb.block k (hB k ho)
theorem Rd.drewN (h : Rd w ok A xs) (n : Nat) : Rd (w.drewN n) ok A xs := h
theorem Rd.at_ {k : Nat} (h : Rd w ok A xs) (hk : k < xs.length) : ∃ ad, A = some ad ∧ ok ad.block ∧ ad.block < w.heap.size ∧ w.cell? (ad.add k) = some xs[k] := by
  have hn : xs ≠ [] := by intro e; subst e; simp at hk
  obtain ⟨ad, e, ho, hlt⟩ := h.lt hn
  obtain ⟨ad', e', _, hc⟩ := h hn
  subst e
  cases e'
  exact ⟨ad, rfl, ho, hlt, hc k _ (List.getElem?_eq_getElem hk)⟩
/-- The same with the address written out. -/
theorem Rd.at' (h : Rd w ok A xs) (hn : xs ≠ []) : ∃ b off, A = some ⟨b, off, none⟩ ∧ ok b ∧ b < w.heap.size ∧ ∀ (k : Nat) (hk : k < xs.length), w.cell? ⟨b, off + k, none⟩ = some xs[k] := by
  obtain ⟨⟨b, off, spot⟩, e, ho, hlt⟩ := h.lt hn
  obtain ⟨ad', e', _, hc⟩ := h hn
  subst e
  cases e'
  have hs : spot = none := by
    cases xs with
    | nil => exact absurd rfl hn
    | cons x r =>
      have := hc 0 x rfl
      rw [add_zero'] at this
      cases spot with
      | none => rfl
      | some s => unfold World.cell? at this; split at this <;> simp at this
  subst hs
  refine ⟨b, off, rfl, ho, hlt, fun k hk => ?_⟩
  have := hc k _ (List.getElem?_eq_getElem hk)
  unfold Addr.add at this
  split at this
  · rename_i h0; subst h0; exact this
  · exact this
theorem Rd.of_cells {b off : Nat} (ho : ok b) (hc : ∀ (k : Nat) (hk : k < xs.length), w.cell? ⟨b, off + k, none⟩ = some xs[k]) : Rd w ok (some ⟨b, off, none⟩) xs := fun _ => ⟨_, rfl, ho, fun j u hu => by
  obtain ⟨hj, rfl⟩ := List.getElem?_eq_some_iff.1 hu
  rw [← hc j hj]
  unfold Addr.add
  split
  · rename_i h0; subst h0; rfl
  · rfl⟩
theorem Rd.drop' {b off k : Nat} (h : Rd w ok (some ⟨b, off, none⟩) xs) : Rd w ok (some ⟨b, off + k, none⟩) (xs.drop k) := fun hn => by
  have hne : xs ≠ [] := by intro e; subst e; simp at hn
  obtain ⟨b', off', e, ho, _, hc⟩ := h.at' hne
  cases e
  exact Rd.of_cells ho (fun j hj => by
    have := hc (k + j) (by rw [List.length_drop] at hj; omega)
    rw [Nat.add_assoc, this, List.getElem_drop]) hn
theorem Rd.drop {k cap : Nat} (h : Rd w ok A xs) (hc : xs.length ≤ cap) : Rd w ok (if cap = k then A else A.map (·.add k)) (xs.drop k) := fun hn => by
  have hk : k < xs.length := by
    rcases Nat.lt_or_ge k xs.length with h | h
    · exact h
    · exact absurd (List.drop_eq_nil_of_le h) hn
  obtain ⟨ad, rfl, ho, hcell⟩ := h (by intro e; subst e; simp at hk)
  rw [if_neg (by omega)]
  refine ⟨ad.add k, rfl, by rw [add_block]; exact ho, fun j u hu => ?_⟩
  rw [add_add']
  exact hcell _ u (by rw [← hu, List.getElem?_drop])
theorem Rd.take {k : Nat} (h : Rd w ok A xs) : Rd w ok A (xs.take k) := fun hn => by
  obtain ⟨ad, e, ho, hcell⟩ := h (by intro e; subst e; simp at hn)
  refine ⟨ad, e, ho, fun j u hu => hcell j u ?_⟩
  rw [List.getElem?_take] at hu
  split at hu
  · exact hu
  · cases hu
end

/-! ### A block known whole -/
/-- Block g is a row of just these cells, none of them frozen. -/
def Blk (w : World) (g : Nat) (t : TypeId) (cs : Array Value) : Prop := w.heap[g]? = some (.cells cs t (0, 0))
section
variable {w w' : World} {g : Nat} {t : TypeId} {cs : Array Value}
theorem Blk.lt (h : Blk w g t cs) : g < w.heap.size := (Array.getElem?_eq_some_iff.1 h).1
theorem Blk.cell (h : Blk w g t cs) (i : Nat) : w.cell? ⟨g, i, none⟩ = cs[i]? := by
  unfold Blk at h
  simp [World.cell?, h]
theorem Blk.frozen (h : Blk w g t cs) (i : Nat) : w.frozen? ⟨g, i, none⟩ = false := by
  unfold Blk at h
  simp [World.frozen?, h]
theorem Blk.new (w : World) (t : TypeId) (cs : Array Value) : Blk (w.alloc (.cells cs t)) w.heap.size t cs := by
  show (w.heap.push _)[w.heap.size]? = _
  simp
theorem Blk.keep (h : Blk w g t cs) (hk : w'.heap[g]? = w.heap[g]?) : Blk w' g t cs := hk.trans h
theorem Blk.drew (h : Blk w g t cs) : Blk w.drew g t cs := h
theorem Blk.alloc (h : Blk w g t cs) (o : Obj) : Blk (w.alloc o) g t cs := h.keep (Below.heap_alloc w o g h.lt)
theorem Blk.grow (h : Blk w g t cs) (hb : Below w.heap.size w w') : Blk w' g t cs := h.keep (hb.block g h.lt)
theorem Blk.below {B : Nat} (h : Blk w g t cs) (hb : Below B w w') (hg : g < B) : Blk w' g t cs := h.keep (hb.block g hg)
theorem Blk.grown {row : Option Nat} (h : Blk w g t cs) (hg : w.grownBy w' row) (hne : row ≠ some g) : Blk w' g t cs := h.keep (hg.block g h.lt (Ne.symm hne))
theorem Blk.set_ (h : Blk w g t cs) (i : Nat) (u : Value) : Blk (w.setCell ⟨g, i, none⟩ u) g t (cs.setIfInBounds i u) := by
  unfold Blk at h ⊢
  simp [World.setCell, Array.getElem?_modify, h]
theorem Blk.far (h : Blk w g t cs) {p : Addr} (hp : g ≠ p.block) (u : Value) : Blk (w.setCell p u) g t cs := h.keep (Below.heap_setCell w p u g hp)
theorem Blk.ne_ {g' : Nat} {t' : TypeId} {cs' : Array Value} (h : Blk w g t cs) (h' : Blk w g' t' cs') (hne : t ≠ t') : g ≠ g' := by
  rintro rfl
  unfold Blk at h h'
  rw [h] at h'
  injection h' with h'
  injection h' with _ ht
  exact hne ht
theorem Blk.rd (h : Blk w g t cs) (ok : Nat → Prop) (ho : ok g) : Rd w ok (some ⟨g, 0, none⟩) cs.toList := fun _ => ⟨_, rfl, ho, fun j u hu => by
  have e : (⟨g, 0, none⟩ : Addr).add j = ⟨g, j, none⟩ := by
    unfold Addr.add
    split
    · rename_i h; rw [h]
    · simp
  rw [e, h.cell]
  simpa using hu⟩
end

/-- A row of whatever marks reads as its cells. -/
theorem rd_of_row {w : World} {g : Nat} {cs : Array Value} {t : TypeId} {fz : Nat × Nat} (h : w.heap[g]? = some (.cells cs t fz)) (ok : Nat → Prop) (ho : ok g) : Rd w ok (some ⟨g, 0, none⟩) cs.toList :=
  Rd.of_cells ho fun k hk => by
    rw [Nat.zero_add]
    have hk' : k < cs.size := by simpa using hk
    simp [World.cell?, h, hk']
theorem row_alloc {w : World} {g : Nat} {x : Option Obj} (h : w.heap[g]? = x) (hg : g < w.heap.size) (o : Obj) : (w.alloc o).heap[g]? = x := (Below.heap_alloc w o g hg).trans h
theorem row_new (w : World) (o : Obj) : (w.alloc o).heap[w.heap.size]? = some o := by
  show (w.heap.push o)[w.heap.size]? = _
  simp

/-! ### Rows that the call owns -/
/-- Slice type t has elements of type e, of one cell and so many bytes. -/
def ElemT (P : Program) (t e : TypeId) (bytes : Nat) : Prop :=
  P.underlying t = some (.slice e) ∧ ∃ i z, P.info? e = some i ∧ i.zero = some z ∧ i.size = 1 ∧ i.bytes = bytes ∧ z.cells.size = 1

theorem ElemT.mk_ {P : Program} {t e : TypeId} {z : Value} {bytes : Nat} (ht : P.underlying t = some (.slice e)) (h : (P.info? e).map (fun i => (i.zero, i.size, i.bytes)) = some (some z, 1, bytes)) (hz : z.cells.size = 1) : ElemT P t e bytes := by
  obtain ⟨i0, hi, hz0, hz1, hz2⟩ := info_parts h
  exact ⟨ht, i0, z, hi, hz0, hz1, hz2, hz⟩

/-- The value owns the row of these cells, one an element. -/
def Own1 (w : World) (base : Nat) (e : TypeId) (v : Value) (xs : List Value) : Prop := w.ownsRow base e 1 v xs.length xs

section
variable {w w' : World} {base : Nat} {e : TypeId} {v : Value} {xs : List Value}
theorem Own1.nil (w : World) (base : Nat) (e : TypeId) : Own1 w base e (.slice none 0 0) [] := World.ownsRow_nil _ _ _ _
theorem Own1.alloc (h : Own1 w base e v xs) (o : Obj) : Own1 (w.alloc o) base e v xs := World.ownsRow.alloc h o
theorem Own1.drew (h : Own1 w base e v xs) : Own1 w.drew base e v xs := h
theorem Own1.kept {row : Option Nat} (h : Own1 w base e v xs) (hg : w.grownBy w' row) (hne : v.ownBlock = none ∨ v.ownBlock ≠ row) : Own1 w' base e v xs := World.ownsRow.kept h hg hne
theorem Own1.lt (h : Own1 w base e v xs) : ∀ k, v.ownBlock = some k → base ≤ k ∧ k < w.heap.size := World.ownsRow.lt h
theorem Own1.keep (h : Own1 w base e v xs) (hk : ∀ k, v.ownBlock = some k → w'.heap[k]? = w.heap[k]?) : Own1 w' base e v xs := by
  unfold Own1 World.ownsRow at *
  refine ⟨h.1, ?_⟩
  rcases h.2 with h | ⟨g, cap, cur, rfl, h1, h2, h3⟩
  · exact .inl h
  · exact .inr ⟨g, cap, cur, rfl, h1, (hk g rfl).trans h2, h3⟩
theorem Own1.grow (h : Own1 w base e v xs) (hb : Below w.heap.size w w') : Own1 w' base e v xs := h.keep fun k hk => hb.block k (h.lt k hk).2
theorem Own1.mono {base' : Nat} (h : Own1 w base e v xs) (hb : base' ≤ base) : Own1 w base' e v xs := by
  unfold Own1 World.ownsRow at *
  refine ⟨h.1, ?_⟩
  rcases h.2 with h | ⟨g, cap, cur, rfl, h1, h2⟩
  · exact .inl h
  · exact .inr ⟨g, cap, cur, rfl, by omega, h2⟩
/-- What it reads as: in its own block, at its head. -/
theorem Own1.form (h : Own1 w base e v xs) : ∃ A c, v = .slice A xs.length c ∧ xs.length ≤ c ∧ c ≤ maxLen ∧ Rd w (fun k => v.ownBlock = some k) A xs := by
  unfold Own1 World.ownsRow at h
  rcases h.2 with ⟨rfl, h0⟩ | ⟨g, cap, cur, rfl, h1, h2, h3, h4, h5, h6⟩
  · have : xs = [] := List.eq_nil_of_length_eq_zero h0
    subst this
    exact ⟨none, 0, rfl, Nat.le_refl _, Nat.zero_le _, Rd.nil⟩
  · refine ⟨_, cap, rfl, h3, h4, ?_⟩
    have hb : Blk w g e cur := h2
    have := (hb.rd (fun k => (Value.slice (some ⟨g, 0, none⟩) xs.length cap).ownBlock = some k) rfl).take (k := xs.length)
    rw [Nat.mul_one] at h6
    rwa [h6] at this
/-- Where something is owned, the block is known. -/
theorem Own1.cons_form {x : Value} {r : List Value} (h : Own1 w base e v (x :: r)) : ∃ g cap cur, v = .slice (some ⟨g, 0, none⟩) (r.length + 1) cap ∧ base ≤ g ∧ Blk w g e cur ∧ r.length + 1 ≤ cap ∧ cur.size = cap ∧ cur.toList.take (r.length + 1) = x :: r := by
  unfold Own1 World.ownsRow at h
  rcases h.2 with ⟨rfl, h0⟩ | ⟨g, cap, cur, rfl, h1, h2, h3, h4, h5, h6⟩
  · simp at h0
  · exact ⟨g, cap, cur, rfl, h1, h2, h3, by omega, by simpa using h6⟩
end

section
variable {P : Program} (w : World)
theorem append_nothing {t ty e : TypeId} {i : TypeInfo} (ht : P.underlying t = some (.slice e)) (hi : P.info? e = some i) {base size n c : Nat} {v : Value} {xs : List Value} (hown : w.ownsRow base e size v n xs) :
    (Builtin.append_ #[t, t] ty #[v, .slice none 0 c]).run P w = .ok v w := by
  rcases hown.2 with ⟨rfl, rfl⟩ | ⟨g, cap, cur, rfl, _, _, hnc, _⟩
  · simp [Builtin.append_, run_underlying ht, sizeOf, typeInfo, hi, Builtin.lenOf, Builtin.firstCells]
  · simp [Builtin.append_, run_underlying ht, sizeOf, typeInfo, hi, Builtin.lenOf, Builtin.firstCells, hnc, storeCells]

/-- append onto a row of the call's own, from whatever slice reads as 'news'. -/
theorem run_app1 {t ty e : TypeId} {bytes : Nat} (het : ElemT P t e bytes) {base : Nat} {v : Value} {xs : List Value} (hown : Own1 w base e v xs)
    {ok : Nat → Prop} {A : Option Addr} {c : Nat} {news : List Value} (hr : Rd w ok A news) (h1 : ∀ u ∈ news, u.oneCell' = true)
    (hbytes : (xs.length + news.length) * bytes ≤ 140737488355328) (h63 : xs.length + news.length ≤ 140737488355328) (hbase : base ≤ w.heap.size) :
    ∃ v' w', (Builtin.append_ #[t, t] ty #[v, .slice A news.length c]).run P w = .ok v' w' ∧ Own1 w' base e v' (xs ++ news) ∧ w.grownBy w' v.ownBlock ∧ (v'.ownBlock = v.ownBlock ∨ v'.ownBlock = some w.heap.size) := by
  obtain ⟨ht, i, z, hi, hz, hz1, hz2, hz3⟩ := het
  have key : ∀ ad, (∀ j u, news[j]? = some u → w.cell? (ad.add j) = some u) → ∃ v' w', (Builtin.append_ #[t, t] ty #[v, .slice (some ad) news.length c]).run P w = .ok v' w' ∧ Own1 w' base e v' (xs ++ news) ∧ w.grownBy w' v.ownBlock ∧ (v'.ownBlock = v.ownBlock ∨ v'.ownBlock = some w.heap.size) := fun ad hc => by
    obtain ⟨v', w', hrun, h2, h3, _, h5⟩ := run_append_own_at (P := P) w base t ty e i z 1 bytes ht hi hz hz1 hz2 hz3 (by decide) v xs.length xs hown ad news.length c news (by rw [Nat.mul_one]) hc h1 (by simp only [maxLen]; omega) hbytes hbase
    refine ⟨v', w', hrun, ?_, h3, h5⟩
    unfold Own1
    rw [List.length_append]
    exact h2
  by_cases hn : news = []
  · subst hn
    cases A with
    | none => exact ⟨v, w, append_nothing w ht hi hown, by simpa using hown, World.grownBy.refl _ _, .inl rfl⟩
    | some ad => exact key ad (fun j u hu => by simp at hu)
  · obtain ⟨ad, rfl, _, hc⟩ := hr hn
    exact key ad hc

theorem wpList_app1 {t e : TypeId} {bytes : Nat} (het : ElemT P t e bytes) {ops : Array Oper} {rest : List Oper} {o : Oper} {a : Act} {Q : Exit → Act → World → Prop} (hgd : o.guard = none) (s x : Operand)
    (ho : o.op = .call { callee := .builtin .append, args := #[s, x], argTypes := #[t, t] })
    (base : Nat) (v : Value) (xs : List Value) (hs : a.eval s = v) (hown : Own1 w base e v xs)
    (ok : Nat → Prop) (A : Option Addr) (m c : Nat) (news : List Value) (hm : news.length = m) (hx : a.eval x = .slice A m c) (hr : Rd w ok A news) (h1 : ∀ u ∈ news, u.oneCell' = true)
    (hbytes : (xs.length + m) * bytes ≤ 140737488355328) (h63 : xs.length + m ≤ 140737488355328) (hbase : base ≤ w.heap.size)
    (h : ∀ v' w', Own1 w' base e v' (xs ++ news) → w.grownBy w' v.ownBlock → (v'.ownBlock = v.ownBlock ∨ v'.ownBlock = some w.heap.size) → wpList P ops Q rest (a.put o.dst v') w') :
    wpList P ops Q (o :: rest) a w := by
  subst hm
  obtain ⟨v', w', hrun, h2, h3, h4⟩ := run_app1 (P := P) w (ty := o.type) het hown (c := c) hr h1 hbytes h63 hbase
  refine wpList_plain hgd fun K hK => ?_
  unfold Oper.wp execOp
  simp only [ho, resolve, invoke, builtin, Sem.run_bind, Sem.run_pure, Result.andThen_ok, List.map_toArray, List.map_cons, List.map_nil, hs, hx, hrun]
  exact hK _ _ (h v' w' h2 h3 h4)

/-- append of elements written out, which lie in a new block. -/
theorem wpList_app1_new {t e : TypeId} {bytes : Nat} (het : ElemT P t e bytes) {ops : Array Oper} {rest : List Oper} {o : Oper} {a : Act} {Q : Exit → Act → World → Prop} (hgd : o.guard = none) (s x : Operand)
    (ho : o.op = .call { callee := .builtin .append, args := #[s, x], argTypes := #[t, t] })
    (base : Nat) (v : Value) (xs : List Value) (hs : a.eval s = v) (hown : Own1 w base e v xs)
    (us : List Value) (m : Nat) (hm : us.length = m) (te : TypeId) (hx : a.eval x = .slice (some ⟨w.heap.size, 0, none⟩) m m) (h1 : ∀ u ∈ us, u.oneCell' = true)
    (hbytes : (xs.length + m) * bytes ≤ 140737488355328) (h63 : xs.length + m ≤ 140737488355328) (hbase : base ≤ w.heap.size)
    (h : ∀ v' w', Own1 w' base e v' (xs ++ us) → w.grownBy w' v.ownBlock → (v'.ownBlock = v.ownBlock ∨ v'.ownBlock = some (w.heap.size + 1)) → wpList P ops Q rest (a.put o.dst v') w') :
    wpList P ops Q (o :: rest) a (w.alloc (.cells us.toArray te)) := by
  refine wpList_app1 _ het hgd s x ho base v xs hs (hown.alloc _) (fun _ => True) (some ⟨w.heap.size, 0, none⟩) m m us hm hx ?_ h1 hbytes h63 (by simp; omega) ?_
  · exact (Blk.new w te us.toArray).rd _ trivial
  · intro v' w' h2 h3 h4
    refine h v' w' h2 ((World.grownBy_alloc w _ _).trans h3) ?_
    rcases h4 with h4 | h4
    · exact .inl h4
    · simp at h4
      exact .inr h4
/-- append of one element. -/
theorem wpList_app1_one {t e : TypeId} {bytes : Nat} (het : ElemT P t e bytes) {ops : Array Oper} {rest : List Oper} {o : Oper} {a : Act} {Q : Exit → Act → World → Prop} (hgd : o.guard = none) (s x : Operand)
    (ho : o.op = .call { callee := .builtin .append, args := #[s, x], argTypes := #[t, t] })
    (base : Nat) (v : Value) (xs : List Value) (hs : a.eval s = v) (hown : Own1 w base e v xs)
    (u : Value) (te : TypeId) (hx : a.eval x = .slice (some ⟨w.heap.size, 0, none⟩) 1 1) (h1 : u.oneCell' = true)
    (hbytes : (xs.length + 1) * bytes ≤ 140737488355328) (h63 : xs.length + 1 ≤ 140737488355328) (hbase : base ≤ w.heap.size)
    (h : ∀ v' w', Own1 w' base e v' (xs ++ [u]) → w.grownBy w' v.ownBlock → (v'.ownBlock = v.ownBlock ∨ v'.ownBlock = some (w.heap.size + 1)) → wpList P ops Q rest (a.put o.dst v') w') :
    wpList P ops Q (o :: rest) a (w.alloc (.cells #[u] te)) :=
  wpList_app1_new w het hgd s x ho base v xs hs hown [u] 1 rfl te hx (fun y hy => by simp at hy; subst hy; exact h1) hbytes h63 hbase h
end

/-- What has only grown lies below as it lay. -/
theorem below_of_grown {B : Nat} {w w' : World} {row : Option Nat} (hg : w.grownBy w' row) (hB : B ≤ w.heap.size) (hr : ∀ k, row = some k → B ≤ k) : Below B w w' := (Below.refl _ _).grown hg hB hr
theorem Own1.below_of {B : Nat} {w w' : World} {base : Nat} {e : TypeId} {v : Value} {xs : List Value} (h : Own1 w base e v xs) (hg : w.grownBy w' v.ownBlock) (hB : B ≤ w.heap.size) (hb : B ≤ base) : Below B w w' :=
  below_of_grown hg hB fun k hk => Nat.le_trans hb (h.lt k hk).1
theorem grown_of_below {w w' : World} (h : Below w.heap.size w w') (row : Option Nat) : w.grownBy w' row := ⟨h.os, h.tape, h.output, h.size, fun k hk _ => h.block k hk⟩
end Go.Proofs.YtgebodibamgipaaGreatDoor

namespace Go.Proofs.YtgebodibamgipaaGreatDoor
open Go.RowKit

/-- A byte as a value. -/
def u8 (b : UInt8) : Value := .int .u8 (b.toNat : Int)
/-- A text as a value. -/
abbrev str (l : List UInt8) : Value := .string ⟨l.toArray⟩

theorem u8_ofNat (n : Nat) : u8 (UInt8.ofNat (n % 256)) = .int .u8 ((n : Int) % 256) := by
  unfold u8
  congr 1
  simp

theorem foldl_push (l : List UInt8) (acc : List UInt8) :
    (l.map (fun b => (b.toNat : Int))).foldl (fun (r : ByteArray) n => r.push (UInt8.ofNat n.toNat)) ⟨acc.toArray⟩ = ⟨(acc ++ l).toArray⟩ := by
  induction l generalizing acc with
  | nil => simp
  | cons b l ih =>
    simp only [List.map_cons, List.foldl_cons, Int.toNat_natCast, UInt8.ofNat_toNat]
    have e : (⟨acc.toArray⟩ : ByteArray).push b = ⟨(acc ++ [b]).toArray⟩ := by
      apply ByteArray.ext
      show acc.toArray.push b = _
      simp
    rw [e, ih]
    simp

theorem u8_eq (l : List UInt8) : l.map u8 = (l.map (fun b => (b.toNat : Int))).map (Value.int .u8) := by
  simp [u8, Function.comp_def]

theorem u8_oneCell (l : List UInt8) : ∀ u ∈ l.map u8, u.oneCell' = true := by
  intro u hu
  obtain ⟨b, _, rfl⟩ := List.mem_map.1 hu
  rfl

theorem run_bytes_str {P : Program} {w : World} (src dst e : TypeId) (hs : P.underlying src = some (.slice e)) (he : P.underlying e = some (.int .u8)) (hd : P.underlying dst = some .string)
    {ok : Nat → Prop} {A : Option Addr} {c : Nat} {l : List UInt8} (h : Rd w ok A (l.map u8)) :
    (convert src dst (.slice A l.length c)).run P w = .ok (str l) w := by
  rw [run_convert_bytes_string w src dst e A l.length c hs he hd]
  have key : ∀ ad, (∀ j u, (l.map u8)[j]? = some u → w.cell? (ad.add j) = some u) → (Conv.bytesToString (.slice (some ad) l.length c)).run P w = .ok (str l) w := fun ad hc => by
    have hload := run_loadCells_list (P := P) w ad (l.map u8) hc
    rw [List.length_map, u8_eq] at hload
    rw [run_bytesToString w ad l.length c _ hload]
    have := foldl_push l []
    simp only [List.nil_append] at this
    exact congrArg (fun s => Result.ok (Value.string s) w) this
  by_cases hn : l = []
  · subst hn
    cases A with
    | none => rfl
    | some a => exact key a (fun j u hu => by simp at hu)
  · obtain ⟨ad, rfl, _, hc⟩ := h (by simpa using hn)
    exact key ad hc

/-- The law for the walk. -/
theorem wpList_bytes_str {P : Program} {w : World} {ops : Array Oper} {rest : List Oper} {a : Act} {Q : Exit → Act → World → Prop} {dst : Option Tmp} {x : Operand} {src dt ty : TypeId} {pos : String} {after : Array Edge}
    (e : TypeId) (hs : P.underlying src = some (.slice e)) (he : P.underlying e = some (.int .u8)) (hd : P.underlying dt = some .string)
    (ok : Nat → Prop) (A : Option Addr) (c : Nat) (l : List UInt8) (hx : a.eval x = .slice A l.length c) (h : Rd w ok A (l.map u8))
    (hK : wpList P ops Q rest (a.put dst (str l)) w) : wpList P ops Q (⟨dst, .convert src dt x, ty, pos, after, none⟩ :: rest) a w := by
  refine wpList_plain rfl fun K hK' => ?_
  unfold Oper.wp execOp
  simp only [hx, Sem.run_bind, run_bytes_str src dt e hs he hd h, Result.andThen_ok, Sem.run_pure]
  exact hK' _ _ hK

/-- The bytes of a slice that reads as bytes. -/
theorem Rd.byte {w : World} {ok : Nat → Prop} {A : Option Addr} {l : List UInt8} (h : Rd w ok A (l.map u8)) (h0 : 0 < l.length) :
    ∃ b off, A = some ⟨b, off, none⟩ ∧ ok b ∧ b < w.heap.size ∧ ∀ (k : Nat) (hk : k < l.length), w.cell? ⟨b, off + k, none⟩ = some (.int .u8 (l[k].toNat : Int)) := by
  obtain ⟨b, off, e, ho, hlt, hc⟩ := h.at' (by intro e; have := congrArg List.length e; simp at this; subst this; simp at h0)
  refine ⟨b, off, e, ho, hlt, fun k hk => ?_⟩
  rw [hc k (by simpa using hk)]
  simp [u8]

theorem str_append (a b : List UInt8) : (⟨a.toArray⟩ : ByteArray) ++ ⟨b.toArray⟩ = ⟨(a ++ b).toArray⟩ := by
  rw [ByteArray.mk_append_mk]

theorem run_str_add {P : Program} (w : World) (a b : List UInt8) (h : a.length + b.length ≤ 9223372036854775807) : (Op.stringOp .add ⟨a.toArray⟩ ⟨b.toArray⟩).run P w = .ok (str (a ++ b)) w := by
  rw [run_string_add_sum w _ _ (by simpa [ByteArray.size] using h), str_append]

/-- The value is a slice that reads as these bytes, in a block that 'ok' lets. -/
def IsB (w : World) (ok : Nat → Prop) (v : Value) (l : List UInt8) : Prop := ∃ A c, v = .slice A l.length c ∧ l.length ≤ c ∧ c ≤ maxLen ∧ Rd w ok A (l.map u8)
section
variable {w w' : World} {ok ok' : Nat → Prop} {v : Value} {l : List UInt8}
theorem IsB.frame (h : IsB w ok v l) (hk : ∀ k, ok k → k < w.heap.size → w'.heap[k]? = w.heap[k]?) : IsB w' ok v l := by
  obtain ⟨A, c, e, h1, h2, h3⟩ := h
  exact ⟨A, c, e, h1, h2, h3.frame hk⟩
theorem IsB.grow (h : IsB w ok v l) (hb : Below w.heap.size w w') : IsB w' ok v l := h.frame fun k _ hk => hb.block k hk
theorem IsB.weaken (h : IsB w ok v l) (hk : ∀ k, ok k → ok' k) : IsB w ok' v l := by
  obtain ⟨A, c, e, h1, h2, h3⟩ := h
  exact ⟨A, c, e, h1, h2, h3.weaken hk⟩
theorem Own1.isB {base : Nat} {e : TypeId} (h : Own1 w base e v (l.map u8)) : IsB w (fun k => v.ownBlock = some k) v l := by
  obtain ⟨A, c, e, h1, h2, h3⟩ := h.form
  rw [List.length_map] at e h1
  exact ⟨A, c, e, h1, h2, h3⟩
end
/-- The value is a slice of slices that read as these lists of bytes. -/
def IsBB (w : World) (ok : Nat → Prop) (v : Value) (L : List (List UInt8)) : Prop :=
  ∃ A c vs, v = .slice A L.length c ∧ vs.length = L.length ∧ L.length ≤ c ∧ c ≤ maxLen ∧ Rd w ok A vs ∧ ∀ (i : Nat) (h : i < L.length) (h' : i < vs.length), IsB w ok vs[i] L[i]
section
variable {w w' : World} {ok ok' : Nat → Prop} {v : Value} {L : List (List UInt8)}
theorem IsBB.frame (h : IsBB w ok v L) (hk : ∀ k, ok k → k < w.heap.size → w'.heap[k]? = w.heap[k]?) : IsBB w' ok v L := by
  obtain ⟨A, c, vs, e, h0, h1, h2, h3, h4⟩ := h
  exact ⟨A, c, vs, e, h0, h1, h2, h3.frame hk, fun i hi hi' => (h4 i hi hi').frame hk⟩
theorem IsBB.grow (h : IsBB w ok v L) (hb : Below w.heap.size w w') : IsBB w' ok v L := h.frame fun k _ hk => hb.block k hk
theorem IsBB.weaken (h : IsBB w ok v L) (hk : ∀ k, ok k → ok' k) : IsBB w ok' v L := by
  obtain ⟨A, c, vs, e, h0, h1, h2, h3, h4⟩ := h
  exact ⟨A, c, vs, e, h0, h1, h2, h3.weaken hk, fun i hi hi' => (h4 i hi hi').weaken hk⟩
/-- An element of such a slice: its cell, and what it reads as. -/
theorem IsBB.elem (h : IsBB w ok v L) :
    ∃ A c, v = .slice A L.length c ∧ L.length ≤ c ∧ c ≤ maxLen ∧ (L ≠ [] → ∃ b off, A = some ⟨b, off, none⟩ ∧ ok b ∧ b < w.heap.size ∧
      ∀ (i : Nat) (h : i < L.length), ∃ Ai ci, w.cell? ⟨b, off + i, none⟩ = some (.slice Ai L[i].length ci) ∧ L[i].length ≤ ci ∧ ci ≤ maxLen ∧ Rd w ok Ai (L[i].map u8)) := by
  obtain ⟨A, c, vs, e, h0, h1, h2, h3, h4⟩ := h
  refine ⟨A, c, e, h1, h2, fun hn => ?_⟩
  obtain ⟨b, off, ha, hb, hlt, hc⟩ := h3.at' (by intro e; subst e; simp at h0; exact hn (List.eq_nil_of_length_eq_zero h0.symm))
  refine ⟨b, off, ha, hb, hlt, fun i hi => ?_⟩
  have hci := hc i (by omega)
  obtain ⟨Ai, ci, e1, g1, g2, g3⟩ := h4 i hi (by omega)
  rw [e1] at hci
  exact ⟨Ai, ci, hci, g1, g2, g3⟩
end

theorem elemB : ElemT Tryz.prog 52 5 1 := ElemT.mk_ (z := .int .u8 0) Tryz.underlying52 (by kernel_rfl) rfl

theorem info_byte : (Tryz.prog.info? 5).map (fun i => (i.zero, i.size, i.bytes)) = some (some (.int .u8 0), 1, 1) := by kernel_rfl
end Go.Proofs.YtgebodibamgipaaGreatDoor
