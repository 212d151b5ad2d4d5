/-
  Kinds: what a stretch of cells reads as, for values of any nested type (numbers, texts, structs, arrays, slices of these); and arguments opened to them.
  Rows that the call owns, of elements of any number of cells: append onto them, stores into them, what they read as.
-/
import Derived.Test.YtgebodibamgipaaGreatDoorWordsB
import Derived.Deep.Slices
import Derived.ChangeArms
import Derived.OpenShut
namespace Go.Proofs.YtgebodibamgipaaGreatDoor
open Go.RowKit

/-- What cells read as: so many of them, and a relation, which holds as long as the blocks that 'ok' lets stay. -/
structure Kind (α : Type) where
  size : Nat
  R : World → (Nat → Prop) → List Value → α → Prop
  len : ∀ {w ok cs a}, R w ok cs a → cs.length = size
  move : ∀ {w w' ok ok' cs a}, R w ok cs a → (∀ k, ok k → k < w.heap.size → ok' k ∧ w'.heap[k]? = w.heap[k]?) → R w' ok' cs a
/-- A kind that leads nowhere: its cells alone say what it is. -/
def Kind.Flat {α : Type} (K : Kind α) : Prop := ∀ {w w' : World} {ok ok' : Nat → Prop} {cs : List Value} {a : α}, K.R w ok cs a → K.R w' ok' cs a

theorem Rd.move {w w' : World} {ok ok' : Nat → Prop} {A : Option Addr} {xs : List Value} (h : Rd w ok A xs) (hk : ∀ k, ok k → k < w.heap.size → ok' k ∧ w'.heap[k]? = w.heap[k]?) : Rd w' ok' A xs := fun hn => by
  obtain ⟨ad, e, ho, hlt⟩ := h.lt hn
  obtain ⟨ad', e', h', hc⟩ := h.frame (w' := w') (fun k ho hlt => (hk k ho hlt).2) hn
  subst e
  cases e'
  exact ⟨ad, rfl, (hk _ ho hlt).1, hc⟩
section
variable {α β : Type}
theorem Kind.frame (K : Kind α) {w w' : World} {ok : Nat → Prop} {cs : List Value} {a : α} (h : K.R w ok cs a) (hk : ∀ k, ok k → k < w.heap.size → w'.heap[k]? = w.heap[k]?) : K.R w' ok cs a := K.move h fun k ho hl => ⟨ho, hk k ho hl⟩
theorem Kind.weaken (K : Kind α) {w : World} {ok ok' : Nat → Prop} {cs : List Value} {a : α} (h : K.R w ok cs a) (hk : ∀ k, ok k → ok' k) : K.R w ok' cs a := K.move h fun k ho _ => ⟨hk k ho, rfl⟩
theorem Kind.grow (K : Kind α) {w w' : World} {ok : Nat → Prop} {cs : List Value} {a : α} (h : K.R w ok cs a) (hb : Below w.heap.size w w') : K.R w' ok cs a := K.frame h fun k _ hk => hb.block k hk
theorem Kind.below (K : Kind α) {B : Nat} {w w' : World} {ok : Nat → Prop} {cs : List Value} {a : α} (h : K.R w ok cs a) (hb : Below B w w') (hB : ∀ k, ok k → k < B) : K.R w' ok cs a := K.frame h fun k ho _ => hb.block k (hB k ho)
theorem Kind.any (K : Kind α) {w : World} {ok : Nat → Prop} {cs : List Value} {a : α} (h : K.R w ok cs a) : K.R w (fun _ => True) cs a := K.weaken h fun _ _ => trivial

def kInt (q : IntKind) : Kind Int where
  size := 1
  R _ _ cs n := cs = [.int q n] ∧ (Lit.int q n).wf = true
  len h := by rw [h.1]; rfl
  move h _ := h
def kBool : Kind Bool where
  size := 1
  R _ _ cs b := cs = [.bool b]
  len h := by rw [h]; rfl
  move h _ := h
def kStr : Kind (List UInt8) where
  size := 1
  R _ _ cs l := cs = [str l] ∧ l.length ≤ maxLen
  len h := by rw [h.1]; rfl
  move h _ := h
def kU8 : Kind UInt8 where
  size := 1
  R _ _ cs b := cs = [u8 b]
  len h := by rw [h]; rfl
  move h _ := h
def kPair (K : Kind α) (L : Kind β) : Kind (α × β) where
  size := K.size + L.size
  R w ok cs p := ∃ c d, cs = c ++ d ∧ K.R w ok c p.1 ∧ L.R w ok d p.2
  len := fun ⟨c, d, e, h1, h2⟩ => by rw [e, List.length_append, K.len h1, L.len h2]
  move := fun ⟨c, d, e, h1, h2⟩ hk => ⟨c, d, e, K.move h1 hk, L.move h2 hk⟩
/-- The same cells, read as something that has those parts. -/
def Kind.of (K : Kind α) (f : β → α) : Kind β where
  size := K.size
  R w ok cs b := K.R w ok cs (f b)
  len h := K.len h
  move h hk := K.move h hk
/-- Elements one behind the other. -/
def kMany (K : Kind α) (w : World) (ok : Nat → Prop) (cs : List Value) (L : List α) : Prop :=
  ∃ css : List (List Value), cs = css.flatten ∧ css.length = L.length ∧ ∀ (i : Nat) (h : i < css.length) (h' : i < L.length), K.R w ok css[i] L[i]
theorem kMany.move {K : Kind α} {w w' : World} {ok ok' : Nat → Prop} {cs : List Value} {L : List α} (h : kMany K w ok cs L) (hk : ∀ k, ok k → k < w.heap.size → ok' k ∧ w'.heap[k]? = w.heap[k]?) : kMany K w' ok' cs L := by
  obtain ⟨css, e, hl, hr⟩ := h
  exact ⟨css, e, hl, fun i h h' => K.move (hr i h h') hk⟩
theorem kMany.frame {K : Kind α} {w w' : World} {ok : Nat → Prop} {cs : List Value} {L : List α} (h : kMany K w ok cs L) (hk : ∀ k, ok k → k < w.heap.size → w'.heap[k]? = w.heap[k]?) : kMany K w' ok cs L := by
  obtain ⟨css, e, hl, hr⟩ := h
  exact ⟨css, e, hl, fun i h h' => K.frame (hr i h h') hk⟩
theorem kMany.weaken {K : Kind α} {w : World} {ok ok' : Nat → Prop} {cs : List Value} {L : List α} (h : kMany K w ok cs L) (hk : ∀ k, ok k → ok' k) : kMany K w ok' cs L := by
  obtain ⟨css, e, hl, hr⟩ := h
  exact ⟨css, e, hl, fun i h h' => K.weaken (hr i h h') hk⟩
theorem kMany.flat {K : Kind α} (hK : K.Flat) {w w' : World} {ok ok' : Nat → Prop} {cs : List Value} {L : List α} (h : kMany K w ok cs L) : kMany K w' ok' cs L := by
  obtain ⟨css, e, hl, hr⟩ := h
  exact ⟨css, e, hl, fun i h h' => hK (hr i h h')⟩
theorem kMany.nil {K : Kind α} {w : World} {ok : Nat → Prop} : kMany K w ok [] [] := ⟨[], rfl, rfl, fun i h => absurd h (Nat.not_lt_zero i)⟩
theorem kMany.cons {K : Kind α} {w : World} {ok : Nat → Prop} {c cs : List Value} {a : α} {L : List α} (h : K.R w ok c a) (hs : kMany K w ok cs L) : kMany K w ok (c ++ cs) (a :: L) := by
  obtain ⟨css, e, hl, hr⟩ := hs
  refine ⟨c :: css, by rw [e]; rfl, by simp [hl], fun i hi hi' => ?_⟩
  cases i with
  | zero => exact h
  | succ i => exact hr i (by simpa using hi) (by simpa using hi')
theorem kMany.one {K : Kind α} {w : World} {ok : Nat → Prop} {c : List Value} {a : α} (h : K.R w ok c a) : kMany K w ok c [a] := by
  have := kMany.cons h (kMany.nil (K := K) (w := w) (ok := ok))
  simpa using this
theorem kMany.append {K : Kind α} {w : World} {ok : Nat → Prop} {cs ds : List Value} {L M : List α} (h : kMany K w ok cs L) (h' : kMany K w ok ds M) : kMany K w ok (cs ++ ds) (L ++ M) := by
  obtain ⟨css, rfl, hl, hr⟩ := h
  obtain ⟨dss, rfl, hl', hr'⟩ := h'
  refine ⟨css ++ dss, by rw [List.flatten_append], by simp [hl, hl'], fun i hi hi' => ?_⟩
  by_cases h : i < css.length
  · rw [List.getElem_append_left h, List.getElem_append_left (by omega)]
    exact hr i h (by omega)
  · rw [List.getElem_append_right (by omega), List.getElem_append_right (by omega)]
    have := hr' (i - css.length) (by rw [List.length_append] at hi; omega) (by rw [List.length_append] at hi'; omega)
    simpa [hl] using this
theorem kMany.length {K : Kind α} {w : World} {ok : Nat → Prop} {cs : List Value} {L : List α} (h : kMany K w ok cs L) : cs.length = L.length * K.size := by
  obtain ⟨css, rfl, hl, hr⟩ := h
  induction css generalizing L with
  | nil => simp at hl; simp [← hl]
  | cons c css ih =>
    cases L with
    | nil => simp at hl
    | cons a L =>
      have h0 := K.len (hr 0 (by simp) (by simp))
      have h1 := ih (by simpa using hl) (fun i hi hi' => hr (i + 1) (by simpa using hi) (by simpa using hi'))
      simp only [List.getElem_cons_zero] at h0
      rw [List.flatten_cons, List.length_append, h0, h1, List.length_cons, Nat.add_mul]
      omega
/-- The cells of one element. -/
theorem kMany.at_ {K : Kind α} {w : World} {ok : Nat → Prop} {cs : List Value} {L : List α} (h : kMany K w ok cs L) (i : Nat) (hi : i < L.length) :
    ∃ c : List Value, K.R w ok c L[i] ∧ ∀ (j : Nat) (hj : j < c.length), cs[i * K.size + j]? = some c[j] := by
  obtain ⟨css, rfl, hl, hr⟩ := h
  refine ⟨css[i]'(by omega), hr i (by omega) hi, ?_⟩
  induction css generalizing L i with
  | nil => simp at hl; omega
  | cons c css ih =>
    cases L with
    | nil => simp at hl
    | cons a L =>
      have h0 := K.len (hr 0 (by simp) (by simp))
      simp only [List.getElem_cons_zero] at h0
      rw [List.flatten_cons]
      cases i with
      | zero =>
        intro j hj
        simp only [List.getElem_cons_zero] at hj ⊢
        rw [Nat.zero_mul, Nat.zero_add, List.getElem?_append_left hj, List.getElem?_eq_getElem hj]
      | succ i =>
        intro j hj
        simp only [List.getElem_cons_succ] at hj ⊢
        have := ih i (by simpa using hi) (by simpa using hl) (fun i hi hi' => hr (i + 1) (by simpa using hi) (by simpa using hi')) j hj
        rw [List.getElem?_append_right (by rw [h0, Nat.add_mul]; omega), h0, show (i + 1) * K.size + j - K.size = i * K.size + j by rw [Nat.add_mul]; omega]
        exact this

/-- Arrays. -/
def kArr (K : Kind α) (n : Nat) : Kind (List α) where
  size := n * K.size
  R w ok cs L := L.length = n ∧ kMany K w ok cs L
  len h := by rw [h.2.length, h.1]
  move h hk := ⟨h.1, h.2.move hk⟩
/-- Slices. -/
def kSlice (K : Kind α) : Kind (List α) where
  size := 1
  R w ok cs L := ∃ A c ds, cs = [.slice A L.length c] ∧ L.length ≤ c ∧ c ≤ maxLen ∧ Rd w ok A ds ∧ kMany K w ok ds L
  len := fun ⟨A, c, ds, e, _⟩ => by rw [e]; rfl
  move := fun ⟨A, c, ds, e, h1, h2, h3, h4⟩ hk => ⟨A, c, ds, e, h1, h2, h3.move hk, h4.move hk⟩
/-- A slice value that reads as a list. -/
def IsL (K : Kind α) (w : World) (ok : Nat → Prop) (v : Value) (L : List α) : Prop := ∃ A c ds, v = .slice A L.length c ∧ L.length ≤ c ∧ c ≤ maxLen ∧ Rd w ok A ds ∧ kMany K w ok ds L
theorem kSlice_iff {K : Kind α} {w : World} {ok : Nat → Prop} {v : Value} {L : List α} : (kSlice K).R w ok [v] L ↔ IsL K w ok v L := by
  constructor
  · rintro ⟨A, c, ds, e, h⟩
    exact ⟨A, c, ds, by simpa using e, h⟩
  · rintro ⟨A, c, ds, e, h⟩
    exact ⟨A, c, ds, by rw [e], h⟩
theorem IsL.move {K : Kind α} {w w' : World} {ok ok' : Nat → Prop} {v : Value} {L : List α} (h : IsL K w ok v L) (hk : ∀ k, ok k → k < w.heap.size → ok' k ∧ w'.heap[k]? = w.heap[k]?) : IsL K w' ok' v L :=
  kSlice_iff.1 ((kSlice K).move (kSlice_iff.2 h) hk)
theorem IsL.frame {K : Kind α} {w w' : World} {ok : Nat → Prop} {v : Value} {L : List α} (h : IsL K w ok v L) (hk : ∀ k, ok k → k < w.heap.size → w'.heap[k]? = w.heap[k]?) : IsL K w' ok v L :=
  kSlice_iff.1 ((kSlice K).frame (kSlice_iff.2 h) hk)
theorem IsL.grow {K : Kind α} {w w' : World} {ok : Nat → Prop} {v : Value} {L : List α} (h : IsL K w ok v L) (hb : Below w.heap.size w w') : IsL K w' ok v L := h.frame fun k _ hk => hb.block k hk
theorem IsL.weaken {K : Kind α} {w : World} {ok ok' : Nat → Prop} {v : Value} {L : List α} (h : IsL K w ok v L) (hk : ∀ k, ok k → ok' k) : IsL K w ok' v L :=
  kSlice_iff.1 ((kSlice K).weaken (kSlice_iff.2 h) hk)
theorem IsL.nil {K : Kind α} {w : World} {ok : Nat → Prop} : IsL K w ok (.slice none 0 0) [] := ⟨none, 0, [], rfl, Nat.le_refl _, Nat.zero_le _, Rd.nil, kMany.nil⟩
/-- An element of such a slice: where its cells lie, and what they read as. -/
theorem IsL.elem {K : Kind α} {w : World} {ok : Nat → Prop} {v : Value} {L : List α} (h : IsL K w ok v L) (hs : 0 < K.size) :
    ∃ A c, v = .slice A L.length c ∧ L.length ≤ c ∧ c ≤ maxLen ∧ (L ≠ [] → ∃ b off, A = some ⟨b, off, none⟩ ∧ ok b ∧ b < w.heap.size ∧
      ∀ (i : Nat) (hi : i < L.length), ∃ cs, K.R w ok cs L[i] ∧ ∀ (j : Nat) (hj : j < cs.length), w.cell? ⟨b, off + (i * K.size + j), none⟩ = some cs[j]) := by
  obtain ⟨A, c, ds, e, h1, h2, h3, h4⟩ := h
  refine ⟨A, c, e, h1, h2, fun hn => ?_⟩
  have hl := h4.length
  have hne : ds ≠ [] := by
    intro e
    subst e
    have : 0 < L.length * K.size := Nat.mul_pos (List.length_pos_iff.2 hn) hs
    simp at hl
    omega
  obtain ⟨b, off, hA, ho, hlt, hc⟩ := h3.at' hne
  refine ⟨b, off, hA, ho, hlt, fun i hi => ?_⟩
  obtain ⟨cs, hr, hcs⟩ := h4.at_ i hi
  refine ⟨cs, hr, fun j hj => ?_⟩
  obtain ⟨hk, e⟩ := List.getElem?_eq_some_iff.1 (hcs j hj)
  rw [hc _ hk, e]

theorem kInt_flat (q : IntKind) : (kInt q).Flat := fun h => h
theorem kBool_flat : kBool.Flat := fun h => h
theorem kStr_flat : kStr.Flat := fun h => h
theorem kU8_flat : kU8.Flat := fun h => h
theorem kPair_flat {K : Kind α} {L : Kind β} (hK : K.Flat) (hL : L.Flat) : (kPair K L).Flat := fun ⟨c, d, e, h1, h2⟩ => ⟨c, d, e, hK h1, hL h2⟩
theorem kArr_flat {K : Kind α} (hK : K.Flat) (n : Nat) : (kArr K n).Flat := fun ⟨h1, h2⟩ => ⟨h1, h2.flat hK⟩
theorem of_flat {K : Kind α} (hK : K.Flat) (f : β → α) : (K.of f).Flat := fun h => hK h

/-! ### Opening arguments -/
/-- Whatever can be read as data at that type reads as something of the kind. -/
def Opens (P : Program) (t : TypeId) (K : Kind α) : Prop :=
  ∀ {H : Type} {enc : TypeId × Value → H} {w : World} {base : Nat} {sp : Nat → Bool} {held : Bool} {fuel : Nat} {cs : List Value} {x : DataW H × List MemPlace}, DataW.trod enc P w base sp held fuel t cs = some x → ∃ a, K.R w (fun _ => True) cs a
variable {P : Program} {t e : TypeId}
theorem Opens.int {q : IntKind} (ht : P.underlying t = some (.int q)) : Opens P t (kInt q) := fun h => by
  obtain ⟨n, e, _, hw⟩ := DataW.trod_int ht h
  exact ⟨n, e, hw⟩
theorem Opens.bool (ht : P.underlying t = some .bool) : Opens P t kBool := fun h => by
  obtain ⟨b, e, _⟩ := DataW.trod_bool ht h
  exact ⟨b, e⟩
theorem Opens.str (ht : P.underlying t = some .string) : Opens P t kStr := fun h => by
  obtain ⟨s, e, _, hs⟩ := DataW.trod_string ht h
  exact ⟨s.data.toList, e, hs⟩
theorem Opens.u8 (ht : P.underlying t = some (.int .u8)) : Opens P t kU8 := fun h => by
  obtain ⟨n, e, _, hw⟩ := DataW.trod_int ht h
  simp [Lit.wf, IntKind.min, IntKind.max, IntKind.signed, IntKind.bits] at hw
  refine ⟨UInt8.ofNat n.toNat, ?_⟩
  show _ = _
  rw [e]
  unfold Proofs.YtgebodibamgipaaGreatDoor.u8
  rw [UInt8.toNat_ofNat']
  congr 2
  omega
theorem Opens.of {K : Kind α} (h : Opens P t K) (f : β → α) (g : α → β) (hfg : ∀ a, f (g a) = a) : Opens P t (K.of f) := fun ht => by
  obtain ⟨a, ha⟩ := h ht
  exact ⟨g a, by show K.R _ _ _ (f (g a)); rw [hfg]; exact ha⟩
/-- Lists of elements that are there one by one. -/
theorem choose_many {K : Kind α} {w : World} {ok : Nat → Prop} (n : Nat) (C : Nat → List Value) (h : ∀ i, i < n → ∃ a, K.R w ok (C i) a) : ∃ L : List α, L.length = n ∧ kMany K w ok ((List.range n).map C).flatten L := by
  induction n with
  | zero => exact ⟨[], rfl, kMany.nil⟩
  | succ n ih =>
    obtain ⟨L, hl, hL⟩ := ih (fun i hi => h i (by omega))
    obtain ⟨a, ha⟩ := h n (by omega)
    refine ⟨L ++ [a], by simp [hl], ?_⟩
    rw [List.range_succ, List.map_append, List.flatten_append]
    exact hL.append (by simpa using kMany.one ha)
theorem flatten_at (n s : Nat) (C : Nat → List Value) (hC : ∀ i, i < n → (C i).length = s) (j : Nat) (u : Value) (h : ((List.range n).map C).flatten[j]? = some u) : ∃ i k, i < n ∧ k < s ∧ j = i * s + k ∧ (C i)[k]? = some u := by
  induction n with
  | zero => simp at h
  | succ n ih =>
    have hl : ((List.range n).map C).flatten.length = n * s := by
      clear ih h
      induction n with
      | zero => simp
      | succ n ih => rw [List.range_succ, List.map_append, List.flatten_append, List.length_append, ih (fun i hi => hC i (by omega))]; simp [hC n (by omega), Nat.add_mul]
    rw [List.range_succ, List.map_append, List.flatten_append] at h
    by_cases hj : j < n * s
    · rw [List.getElem?_append_left (by omega)] at h
      obtain ⟨i, k, hi, hk, e, hu⟩ := ih (fun i hi => hC i (by omega)) h
      exact ⟨i, k, by omega, hk, e, hu⟩
    · rw [List.getElem?_append_right (by omega), hl] at h
      simp only [List.map_cons, List.map_nil, List.flatten_cons, List.flatten_nil, List.append_nil] at h
      have hk := (List.getElem?_eq_some_iff.1 h).1
      rw [hC n (by omega)] at hk
      exact ⟨n, j - n * s, by omega, hk, by omega, h⟩
theorem Opens.slice {K : Kind α} (ht : P.underlying t = some (.slice e)) (he : Opens P e K) (hc : P.cellsOf e = K.size) : Opens P t (kSlice K) := fun h => by
  rcases Go.Deep.open_slice ht h with ⟨hcs, _⟩ | ⟨a, len, cap, m, n, D, Pl, hcs, _, hl, hm, hmm, _, hi⟩
  · exact ⟨[], none, 0, [], hcs, Nat.le_refl _, Nat.zero_le _, Rd.nil, kMany.nil⟩
  · have hlm : len ≤ m := by rw [hmm]; split <;> omega
    have hx : ∀ i, ∃ cs' : List Value, i < len → cs'.length = K.size ∧ (∀ j, j < K.size → _) ∧ ∃ b, K.R _ (fun _ => True) cs' b := fun i => by
      by_cases hil : i < len
      · obtain ⟨cs', hc', ht'⟩ := hi i (by omega)
        obtain ⟨_, hcl, hat⟩ := World.cells?_some hc'
        rw [hc] at hcl hat
        exact ⟨cs', fun _ => ⟨hcl, hat, he ht'⟩⟩
      · exact ⟨[], fun h => absurd h hil⟩
    obtain ⟨C, hC⟩ := Classical.axiomOfChoice hx
    obtain ⟨L, hL, hmany⟩ := choose_many (K := K) len C (fun i hi => (hC i hi).2.2)
    refine ⟨L, some a, cap, _, by rw [hL]; exact hcs, by rw [hL]; exact hl, hm, ?_, hmany⟩
    intro _
    refine ⟨a, rfl, trivial, fun j u hu => ?_⟩
    obtain ⟨i, k, hi', hk, e', hu'⟩ := flatten_at len K.size C (fun i hi => (hC i hi).1) j u hu
    have h1 := (hC i hi').2.1 k hk
    rw [hu', add_add'] at h1
    rw [e', ← hc]
    rw [← hc] at h1
    exact h1
/-- The fields of a struct from a cell on. -/
def OpenFs (P : Program) (fs : List Field) (off : Nat) (K : Kind α) : Prop :=
  ∀ {H : Type} {enc : TypeId × Value → H} {w : World} {base : Nat} {sp : Nat → Bool} {held : Bool} {n : Nat} {cs : List Value},
    (∀ (i : Nat) (f : Field), fs[i]? = some f → ∃ y, DataW.trod enc P w base sp held n f.type ((cs.drop f.offset).take (P.cellsOf f.type)) = some y) → off + K.size = cs.length → ∃ a, K.R w (fun _ => True) (cs.drop off) a
theorem OpenFs.one {f : Field} {off : Nat} {K : Kind α} (ho : f.offset = off) (hc : P.cellsOf f.type = K.size) (hK : Opens P f.type K) : OpenFs P [f] off K := fun h hl => by
  obtain ⟨y, hy⟩ := h 0 f rfl
  rw [ho, hc, List.take_of_length_le (by rw [List.length_drop]; omega)] at hy
  exact hK hy
theorem OpenFs.cons {f : Field} {fs : List Field} {off : Nat} {K : Kind α} {L : Kind β} (ho : f.offset = off) (hc : P.cellsOf f.type = K.size) (hK : Opens P f.type K) (hL : OpenFs P fs (off + K.size) L) : OpenFs P (f :: fs) off (kPair K L) := fun {_ _ _ _ _ _ _ cs} h hl => by
  obtain ⟨y, hy⟩ := h 0 f rfl
  rw [ho, hc] at hy
  obtain ⟨a, ha⟩ := hK hy
  have hl' : off + (K.size + L.size) = cs.length := hl
  obtain ⟨b, hb⟩ := hL (fun i g hg => h (i + 1) g hg) (by omega)
  refine ⟨(a, b), _, _, ?_, ha, hb⟩
  rw [← List.drop_drop, List.take_append_drop]
theorem Opens.struct {fs : Array Field} {K : Kind α} (ht : P.underlying t = some (.struct fs)) (hc : P.cellsOf t = K.size) (hf : OpenFs P fs.toList 0 K) : Opens P t K := fun h => by
  obtain ⟨xs, n, _, _, hlen, hxl, hg⟩ := DataW.trod_struct ht h
  have := hf (n := n) (fun i f hi => by
    have hi' : fs[i]? = some f := by simpa using hi
    have hlt : i < xs.length := by rw [hxl]; exact (Array.getElem?_eq_some_iff.1 hi').1
    exact ⟨xs[i], by rw [hg i f hi', List.getElem?_eq_getElem hlt]⟩) (by rw [Nat.zero_add, ← hc, hlen])
  simpa using this
theorem Opens.array {n : Nat} {K : Kind α} (ht : P.underlying t = some (.array n e)) (hc : P.cellsOf e = K.size) (hn : P.cellsOf t = n * K.size) (he : Opens P e K) : Opens P t (kArr K n) := fun {_ _ _ _ _ _ _ cs _} h => by
  obtain ⟨xs, m, _, _, hlen, hxl, hg⟩ := DataW.trod_array ht h
  obtain ⟨L, hL, hmany⟩ := choose_many (K := K) (ok := fun _ => True) n (fun i => (cs.drop (i * K.size)).take K.size) (fun i hi => by
    have h1 := hg i hi
    rw [hc, List.getElem?_eq_getElem (by omega)] at h1
    exact he h1)
  refine ⟨L, hL, ?_⟩
  have : ((List.range n).map fun i => (cs.drop (i * K.size)).take K.size).flatten = cs := by
    rw [hn] at hlen
    clear hg hmany hxl
    have key : ∀ k, ((List.range k).map fun i => (cs.drop (i * K.size)).take K.size).flatten = cs.take (k * K.size) := by
      intro k
      induction k with
      | zero => simp
      | succ k ih => rw [List.range_succ, List.map_append, List.flatten_append, ih, Nat.add_mul, Nat.one_mul, List.take_add]; simp
    rw [key, ← hlen, List.take_length]
  rwa [this] at hmany
end
end Go.Proofs.YtgebodibamgipaaGreatDoor

namespace Go.Proofs.YtgebodibamgipaaGreatDoor
open Go.RowKit

/-- Slice type t has elements of type e, of so many cells and bytes. -/
def ElemK (P : Program) (t e : TypeId) (k bytes : Nat) : Prop :=
  P.underlying t = some (.slice e) ∧ 0 < k ∧ ∃ i z, P.info? e = some i ∧ i.zero = some z ∧ i.size = k ∧ i.bytes = bytes ∧ z.cells.size = k
theorem ElemK.mk_ {P : Program} {t e : TypeId} {z : Value} {k bytes : Nat} (ht : P.underlying t = some (.slice e)) (h : (P.info? e).map (fun i => (i.zero, i.size, i.bytes)) = some (some z, k, bytes)) (hz : z.cells.size = k) (h0 : 0 < k) : ElemK P t e k bytes := by
  obtain ⟨i0, hi, hz0, hz1, hz2⟩ := info_parts h
  exact ⟨ht, h0, i0, z, hi, hz0, hz1, hz2, hz⟩

/-- The value owns the row of these cells, so many an element. -/
def OwnK (w : World) (base : Nat) (e : TypeId) (k : Nat) (v : Value) (n : Nat) (xs : List Value) : Prop := w.ownsRow base e k v n xs
section
variable {w w' : World} {base : Nat} {e : TypeId} {k n : Nat} {v : Value} {xs : List Value}
theorem OwnK.nil (w : World) (base : Nat) (e : TypeId) (k : Nat) : OwnK w base e k (.slice none 0 0) 0 [] := World.ownsRow_nil _ _ _ _
theorem OwnK.alloc (h : OwnK w base e k v n xs) (o : Obj) : OwnK (w.alloc o) base e k v n xs := World.ownsRow.alloc h o
theorem OwnK.drew (h : OwnK w base e k v n xs) : OwnK w.drew base e k v n xs := h
theorem OwnK.lt (h : OwnK w base e k v n xs) : ∀ g, v.ownBlock = some g → base ≤ g ∧ g < w.heap.size := World.ownsRow.lt h
theorem OwnK.keep (h : OwnK w base e k v n xs) (hk : ∀ g, v.ownBlock = some g → w'.heap[g]? = w.heap[g]?) : OwnK w' base e k v n xs := by
  unfold OwnK World.ownsRow at *
  refine ⟨h.1, ?_⟩
  rcases h.2 with h | ⟨g, cap, cur, rfl, h1, h2, h3⟩
  · exact .inl h
  · exact .inr ⟨g, cap, cur, rfl, h1, (hk g rfl).trans h2, h3⟩
theorem OwnK.grow (h : OwnK w base e k v n xs) (hb : Below w.heap.size w w') : OwnK w' base e k v n xs := h.keep fun g hg => hb.block g (h.lt g hg).2
theorem OwnK.mono {base' : Nat} (h : OwnK w base e k v n xs) (hb : base' ≤ base) : OwnK w base' e k v n xs := by
  unfold OwnK World.ownsRow at *
  refine ⟨h.1, ?_⟩
  rcases h.2 with h | ⟨g, cap, cur, rfl, h1, h2⟩
  · exact .inl h
  · exact .inr ⟨g, cap, cur, rfl, by omega, h2⟩
theorem OwnK.empty (w : World) (e : TypeId) (k : Nat) : OwnK (w.alloc (.cells #[] e)) w.heap.size e k (.slice (some ⟨w.heap.size, 0, none⟩) 0 0) 0 [] :=
  ⟨by simp, .inr ⟨w.heap.size, 0, #[], rfl, Nat.le_refl _, Blk.new _ _ _, by simp, by unfold maxLen; omega, by simp, by simp⟩⟩
/-- What it reads as: in its own block, at its head. -/
theorem OwnK.form (h : OwnK w base e k v n xs) : ∃ A c, v = .slice A n c ∧ n ≤ c ∧ c ≤ maxLen ∧ Rd w (fun g => v.ownBlock = some g) A xs := by
  unfold OwnK World.ownsRow at h
  rcases h.2 with ⟨rfl, h0⟩ | ⟨g, cap, cur, rfl, h1, h2, h3, h4, h5, h6⟩
  · subst h0
    have : xs = [] := List.eq_nil_of_length_eq_zero (by rw [h.1, Nat.zero_mul])
    subst this
    exact ⟨none, 0, rfl, Nat.le_refl _, Nat.zero_le _, Rd.nil⟩
  · refine ⟨_, cap, rfl, h3, h4, ?_⟩
    have hb : Blk w g e cur := h2
    have := (hb.rd (fun x => (Value.slice (some ⟨g, 0, none⟩) n cap).ownBlock = some x) rfl).take (k := n * k)
    rwa [h6] at this
/-- Where something is owned, the block and its cells. -/
theorem OwnK.addr (h : OwnK w base e k v n xs) (hn : 0 < n) :
    ∃ g cap cur, v = .slice (some ⟨g, 0, none⟩) n cap ∧ base ≤ g ∧ Blk w g e cur ∧ n ≤ cap ∧ cap ≤ maxLen ∧ ∀ (j : Nat) (hj : j < xs.length), cur[j]? = some xs[j] := by
  unfold OwnK World.ownsRow at h
  rcases h.2 with ⟨h0, h1⟩ | ⟨g, cap, cur, hv, h1, h2, h3, h4, h5, h6⟩
  · omega
  · refine ⟨g, cap, cur, hv, h1, h2, h3, h4, fun j hj => ?_⟩
    have hlen := h.1
    have : (cur.toList.take (n * k))[j]? = xs[j]? := by rw [h6]
    rw [List.getElem?_take, if_pos (by omega), List.getElem?_eq_getElem hj] at this
    simpa using this
/-- A store into an own row. -/
theorem OwnK.set_ {g c : Nat} (h : OwnK w base e k (.slice (some ⟨g, 0, none⟩) n c) n xs) (i : Nat) (u : Value) : OwnK (w.setCell ⟨g, i, none⟩ u) base e k (.slice (some ⟨g, 0, none⟩) n c) n (xs.set i u) := by
  unfold OwnK World.ownsRow at *
  rcases h.2 with ⟨h0, _⟩ | ⟨g', cap, cur, hv, h1, h2, h3, h4, h5, h6⟩
  · cases h0
  · cases hv
    refine ⟨by rw [List.length_set]; exact h.1, .inr ⟨g, c, cur.setIfInBounds i u, rfl, h1, Blk.set_ h2 i u, h3, h4, by simpa using h5, ?_⟩⟩
    rw [Array.toList_setIfInBounds, List.take_set, h6]
theorem OwnK.below_of {B : Nat} (h : OwnK w base e k v n xs) (hg : w.grownBy w' v.ownBlock) (hB : B ≤ w.heap.size) (hb : B ≤ base) : Below B w w' :=
  below_of_grown hg hB fun g hg' => Nat.le_trans hb (h.lt g hg').1
end

section
variable {P : Program} (w : World)
theorem run_appK {t ty e : TypeId} {k bytes : Nat} (het : ElemK P t e k bytes) {base n : Nat} {v : Value} {xs : List Value} (hown : OwnK w base e k v n xs)
    {ok : Nat → Prop} {A : Option Addr} {m c : Nat} {news : List Value} (hm : news.length = m * k) (hr : Rd w ok A news) (h1 : ∀ u ∈ news, u.oneCell' = true)
    (hbytes : (n + m) * bytes ≤ 140737488355328) (h63 : n + m ≤ 140737488355328) (hbase : base ≤ w.heap.size) :
    ∃ v' w', (Builtin.append_ #[t, t] ty #[v, .slice A m c]).run P w = .ok v' w' ∧ OwnK w' base e k v' (n + m) (xs ++ news) ∧ w.grownBy w' v.ownBlock ∧ (v'.ownBlock = v.ownBlock ∨ v'.ownBlock = some w.heap.size) := by
  obtain ⟨ht, h0, i, z, hi, hz, hz1, hz2, hz3⟩ := het
  have key : ∀ ad, (∀ j u, news[j]? = some u → w.cell? (ad.add j) = some u) → ∃ v' w', (Builtin.append_ #[t, t] ty #[v, .slice (some ad) m c]).run P w = .ok v' w' ∧ OwnK w' base e k v' (n + m) (xs ++ news) ∧ w.grownBy w' v.ownBlock ∧ (v'.ownBlock = v.ownBlock ∨ v'.ownBlock = some w.heap.size) := fun ad hc => by
    obtain ⟨v', w', hrun, h2, h3, _, h5⟩ := run_append_own_at (P := P) w base t ty e i z k bytes ht hi hz hz1 hz2 hz3 h0 v n xs hown ad m c news hm hc h1 (by simp only [maxLen]; omega) hbytes hbase
    exact ⟨v', w', hrun, h2, h3, h5⟩
  by_cases hn : news = []
  · subst hn
    have hm0 : m = 0 := by
      rcases Nat.eq_zero_or_pos m with h | h
      · exact h
      · have := Nat.mul_pos h h0; simp at hm; omega
    subst hm0
    cases A with
    | none => exact ⟨v, w, append_nothing w ht hi hown, by simpa using hown, World.grownBy.refl _ _, .inl rfl⟩
    | some ad => exact key ad (fun j u hu => by simp at hu)
  · obtain ⟨ad, rfl, _, hc⟩ := hr hn
    exact key ad hc

theorem wpList_appK {t e : TypeId} {k bytes : Nat} (het : ElemK P t e k bytes) {ops : Array Oper} {rest : List Oper} {o : Oper} {a : Act} {Q : Exit → Act → World → Prop} (hgd : o.guard = none) (s x : Operand)
    (ho : o.op = .call { callee := .builtin .append, args := #[s, x], argTypes := #[t, t] })
    (base n : Nat) (v : Value) (xs : List Value) (hs : a.eval s = v) (hown : OwnK w base e k v n xs)
    (ok : Nat → Prop) (A : Option Addr) (m c : Nat) (news : List Value) (hm : news.length = m * k) (hx : a.eval x = .slice A m c) (hr : Rd w ok A news) (h1 : ∀ u ∈ news, u.oneCell' = true)
    (hbytes : (n + m) * bytes ≤ 140737488355328) (h63 : n + m ≤ 140737488355328) (hbase : base ≤ w.heap.size)
    (h : ∀ v' w', OwnK w' base e k v' (n + m) (xs ++ news) → w.grownBy w' v.ownBlock → (v'.ownBlock = v.ownBlock ∨ v'.ownBlock = some w.heap.size) → wpList P ops Q rest (a.put o.dst v') w') :
    wpList P ops Q (o :: rest) a w := by
  obtain ⟨v', w', hrun, h2, h3, h4⟩ := run_appK (P := P) w (ty := o.type) het hown (c := c) hm hr h1 hbytes h63 hbase
  refine wpList_plain hgd fun K hK => ?_
  unfold Oper.wp execOp
  simp only [ho, resolve, invoke, builtin, Sem.run_bind, Sem.run_pure, Result.andThen_ok, List.map_toArray, List.map_cons, List.map_nil, hs, hx, hrun]
  exact hK _ _ (h v' w' h2 h3 h4)

/-- append of elements written out, which lie in a new block. -/
theorem wpList_appK_new {t e : TypeId} {k bytes : Nat} (het : ElemK P t e k bytes) {ops : Array Oper} {rest : List Oper} {o : Oper} {a : Act} {Q : Exit → Act → World → Prop} (hgd : o.guard = none) (s x : Operand)
    (ho : o.op = .call { callee := .builtin .append, args := #[s, x], argTypes := #[t, t] })
    (base n : Nat) (v : Value) (xs : List Value) (hs : a.eval s = v) (hown : OwnK w base e k v n xs)
    (us : List Value) (m : Nat) (hm : us.length = m * k) (te : TypeId) (hx : a.eval x = .slice (some ⟨w.heap.size, 0, none⟩) m m) (h1 : ∀ u ∈ us, u.oneCell' = true)
    (hbytes : (n + m) * bytes ≤ 140737488355328) (h63 : n + m ≤ 140737488355328) (hbase : base ≤ w.heap.size)
    (h : ∀ v' w', OwnK w' base e k v' (n + m) (xs ++ us) → w.grownBy w' v.ownBlock → (v'.ownBlock = v.ownBlock ∨ v'.ownBlock = some (w.heap.size + 1)) → wpList P ops Q rest (a.put o.dst v') w') :
    wpList P ops Q (o :: rest) a (w.alloc (.cells us.toArray te)) := by
  refine wpList_appK _ het hgd s x ho base n v xs hs (hown.alloc _) (fun _ => True) (some ⟨w.heap.size, 0, none⟩) m m us hm hx ?_ h1 hbytes h63 (by simp; omega) ?_
  · exact (Blk.new w te us.toArray).rd _ trivial
  · intro v' w' h2 h3 h4
    refine h v' w' h2 ((World.grownBy_alloc w _ _).trans h3) ?_
    rcases h4 with h4 | h4
    · exact .inl h4
    · simp at h4
      exact .inr h4
end

/-! ### Lists of what leads nowhere -/
section
variable {α : Type} {K : Kind α} {w w' : World} {base : Nat} {e : TypeId} {v : Value} {L : List α}
/-- The value owns a row that reads as this list, of a kind that leads nowhere. -/
def OwnL (K : Kind α) (w : World) (base : Nat) (e : TypeId) (v : Value) (L : List α) : Prop := ∃ xs, OwnK w base e K.size v L.length xs ∧ kMany K w (fun _ => False) xs L
theorem OwnL.isL (h : OwnL K w base e v L) : IsL K w (fun g => v.ownBlock = some g) v L := by
  obtain ⟨xs, ho, hm⟩ := h
  obtain ⟨A, c, hv, h1, h2, h3⟩ := ho.form
  exact ⟨A, c, xs, hv, h1, h2, h3, hm.weaken fun _ h => h.elim⟩
theorem OwnL.grow (hK : K.Flat) (h : OwnL K w base e v L) (hb : Below w.heap.size w w') : OwnL K w' base e v L := by
  obtain ⟨xs, ho, hm⟩ := h
  exact ⟨xs, ho.grow hb, hm.flat hK⟩
theorem OwnL.lt (h : OwnL K w base e v L) : ∀ g, v.ownBlock = some g → base ≤ g ∧ g < w.heap.size := by
  obtain ⟨xs, ho, _⟩ := h
  exact ho.lt
theorem OwnL.mono {base' : Nat} (h : OwnL K w base e v L) (hb : base' ≤ base) : OwnL K w base' e v L := by
  obtain ⟨xs, ho, hm⟩ := h
  exact ⟨xs, ho.mono hb, hm⟩
theorem kStr_cells {w : World} {ok : Nat → Prop} {ds : List Value} {L : List (List UInt8)} (h : kMany kStr w ok ds L) : ds = L.map str ∧ ∀ l ∈ L, l.length ≤ maxLen := by
  obtain ⟨css, rfl, hl, hr⟩ := h
  induction css generalizing L with
  | nil =>
    obtain rfl : L = [] := List.eq_nil_of_length_eq_zero (by simpa using hl.symm)
    simp
  | cons c css ih =>
    cases L with
    | nil => simp at hl
    | cons a L =>
      have h0 := hr 0 (by simp) (by simp)
      simp only [List.getElem_cons_zero] at h0
      obtain ⟨e1, e2⟩ := h0
      obtain ⟨h1, h2⟩ := ih (by simpa using hl) (fun i hi hi' => hr (i + 1) (by simpa using hi) (by simpa using hi'))
      rw [List.flatten_cons, e1, h1]
      exact ⟨rfl, fun l hl => by rcases List.mem_cons.1 hl with rfl | hl; exact e2; exact h2 l hl⟩
theorem kStr_many {w : World} {ok : Nat → Prop} {L : List (List UInt8)} (h : ∀ l ∈ L, l.length ≤ maxLen) : kMany kStr w ok (L.map str) L := by
  induction L with
  | nil => exact kMany.nil
  | cons a L ih => exact kMany.cons (c := [str a]) ⟨rfl, h a (by simp)⟩ (ih fun l hl => h l (by simp [hl]))
theorem str_oneCell (L : List (List UInt8)) : ∀ u ∈ L.map str, u.oneCell' = true := by
  intro u hu
  obtain ⟨b, _, rfl⟩ := List.mem_map.1 hu
  rfl
end
theorem int_at {w : World} {ok : Nat → Prop} {v : Value} {L : List Int} (h : IsL (kInt .i64) w ok v L) :
    ∃ A c, v = .slice A L.length c ∧ L.length ≤ c ∧ c ≤ maxLen ∧ (L ≠ [] → ∃ b off, A = some ⟨b, off, none⟩ ∧ ok b ∧ b < w.heap.size ∧ ∀ (i : Nat) (hi : i < L.length), w.cell? ⟨b, off + i, none⟩ = some (.int .i64 L[i]) ∧ -9223372036854775808 ≤ L[i] ∧ L[i] ≤ 9223372036854775807) := by
  obtain ⟨A, c, hv, h1, h2, h3⟩ := h.elem (by decide)
  refine ⟨A, c, hv, h1, h2, fun hn => ?_⟩
  obtain ⟨b, off, hA, ho, hlt, hc⟩ := h3 hn
  refine ⟨b, off, hA, ho, hlt, fun i hi => ?_⟩
  obtain ⟨cs, ⟨rfl, hw⟩, hcs⟩ := hc i hi
  have := hcs 0 (by simp)
  have hw' : -9223372036854775808 ≤ L[i] ∧ L[i] ≤ 9223372036854775807 := by simpa [Lit.wf, IntKind.min, IntKind.max, IntKind.signed, IntKind.bits] using hw
  refine ⟨?_, hw'⟩
  simpa [kInt] using this
theorem str_at {w : World} {ok : Nat → Prop} {v : Value} {L : List (List UInt8)} (h : IsL kStr w ok v L) :
    ∃ A c, v = .slice A L.length c ∧ L.length ≤ c ∧ c ≤ maxLen ∧ (L ≠ [] → ∃ b off, A = some ⟨b, off, none⟩ ∧ ok b ∧ b < w.heap.size ∧ ∀ (i : Nat) (hi : i < L.length), w.cell? ⟨b, off + i, none⟩ = some (str L[i]) ∧ L[i].length ≤ maxLen) := by
  obtain ⟨A, c, hv, h1, h2, h3⟩ := h.elem (by decide)
  refine ⟨A, c, hv, h1, h2, fun hn => ?_⟩
  obtain ⟨b, off, hA, ho, hlt, hc⟩ := h3 hn
  refine ⟨b, off, hA, ho, hlt, fun i hi => ?_⟩
  obtain ⟨cs, ⟨rfl, hw⟩, hcs⟩ := hc i hi
  have := hcs 0 (by simp)
  exact ⟨by simpa [kStr] using this, hw⟩
end Go.Proofs.YtgebodibamgipaaGreatDoor
