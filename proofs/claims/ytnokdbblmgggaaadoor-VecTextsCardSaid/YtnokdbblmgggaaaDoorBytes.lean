/-
  Bytes and texts: what a slice of bytes reads as, and its conversion to a text.
-/
import Derived.Test.YtnokdbblmgggaaaDoorWords
import Derived.Laws.BytesString
import Derived.Laws.Concat
import Derived.WalkKit
import Derived.Test.YtnokdbblmgggaaaDoorChecked
namespace Go.Proofs.YtnokdbblmgggaaaDoor
open Go.RowKit

/-- A byte as a value. -/
def u8 (b : UInt8) : Value := .int .u8 (b.toNat : Int)
/-- A text as a value. -/
abbrev str (l : List UInt8) : Value := .string ⟨l.toArray⟩

theorem u8_ofNat (n : Nat) : u8 (UInt8.ofNat (n % 256)) = .int .u8 ((n : Int) % 256) := by
  unfold u8
  congr 1
  simp

theorem foldl_push (l : List UInt8) (acc : List UInt8) :
    (l.map (fun b => (b.toNat : Int))).foldl (fun (r : ByteArray) n => r.push (UInt8.ofNat n.toNat)) ⟨acc.toArray⟩ = ⟨(acc ++ l).toArray⟩ := by
  induction l generalizing acc with
  | nil => simp
  | cons b l ih =>
    simp only [List.map_cons, List.foldl_cons, Int.toNat_natCast, UInt8.ofNat_toNat]
    have e : (⟨acc.toArray⟩ : ByteArray).push b = ⟨(acc ++ [b]).toArray⟩ := by
      apply ByteArray.ext
      show acc.toArray.push b = _
      simp
    rw [e, ih]
    simp

theorem u8_eq (l : List UInt8) : l.map u8 = (l.map (fun b => (b.toNat : Int))).map (Value.int .u8) := by
  simp [u8, Function.comp_def]

theorem u8_oneCell (l : List UInt8) : ∀ u ∈ l.map u8, u.oneCell' = true := by
  intro u hu
  obtain ⟨b, _, rfl⟩ := List.mem_map.1 hu
  rfl

theorem run_bytes_str {P : Program} {w : World} (src dst e : TypeId) (hs : P.underlying src = some (.slice e)) (he : P.underlying e = some (.int .u8)) (hd : P.underlying dst = some .string)
    {ok : Nat → Prop} {A : Option Addr} {c : Nat} {l : List UInt8} (h : Rd w ok A (l.map u8)) :
    (convert src dst (.slice A l.length c)).run P w = .ok (str l) w := by
  rw [run_convert_bytes_string w src dst e A l.length c hs he hd]
  have key : ∀ ad, (∀ j u, (l.map u8)[j]? = some u → w.cell? (ad.add j) = some u) → (Conv.bytesToString (.slice (some ad) l.length c)).run P w = .ok (str l) w := fun ad hc => by
    have hload := run_loadCells_list (P := P) w ad (l.map u8) hc
    rw [List.length_map, u8_eq] at hload
    rw [run_bytesToString w ad l.length c _ hload]
    have := foldl_push l []
    simp only [List.nil_append] at this
    exact congrArg (fun s => Result.ok (Value.string s) w) this
  by_cases hn : l = []
  · subst hn
    cases A with
    | none => rfl
    | some a => exact key a (fun j u hu => by simp at hu)
  · obtain ⟨ad, rfl, _, hc⟩ := h (by simpa using hn)
    exact key ad hc

/-- The law for the walk. -/
theorem wpList_bytes_str {P : Program} {w : World} {ops : Array Oper} {rest : List Oper} {a : Act} {Q : Exit → Act → World → Prop} {dst : Option Tmp} {x : Operand} {src dt ty : TypeId} {pos : String} {after : Array Edge}
    (e : TypeId) (hs : P.underlying src = some (.slice e)) (he : P.underlying e = some (.int .u8)) (hd : P.underlying dt = some .string)
    (ok : Nat → Prop) (A : Option Addr) (c : Nat) (l : List UInt8) (hx : a.eval x = .slice A l.length c) (h : Rd w ok A (l.map u8))
    (hK : wpList P ops Q rest (a.put dst (str l)) w) : wpList P ops Q (⟨dst, .convert src dt x, ty, pos, after, none⟩ :: rest) a w := by
  refine wpList_plain rfl fun K hK' => ?_
  unfold Oper.wp execOp
  simp only [hx, Sem.run_bind, run_bytes_str src dt e hs he hd h, Result.andThen_ok, Sem.run_pure]
  exact hK' _ _ hK

/-- The bytes of a slice that reads as bytes. -/
theorem Rd.byte {w : World} {ok : Nat → Prop} {A : Option Addr} {l : List UInt8} (h : Rd w ok A (l.map u8)) (h0 : 0 < l.length) :
    ∃ b off, A = some ⟨b, off, none⟩ ∧ ok b ∧ b < w.heap.size ∧ ∀ (k : Nat) (hk : k < l.length), w.cell? ⟨b, off + k, none⟩ = some (.int .u8 (l[k].toNat : Int)) := by
  obtain ⟨b, off, e, ho, hlt, hc⟩ := h.at' (by intro e; have := congrArg List.length e; simp at this; subst this; simp at h0)
  refine ⟨b, off, e, ho, hlt, fun k hk => ?_⟩
  rw [hc k (by simpa using hk)]
  simp [u8]

theorem str_append (a b : List UInt8) : (⟨a.toArray⟩ : ByteArray) ++ ⟨b.toArray⟩ = ⟨(a ++ b).toArray⟩ := by
  rw [ByteArray.mk_append_mk]

theorem run_str_add {P : Program} (w : World) (a b : List UInt8) (h : a.length + b.length ≤ 9223372036854775807) : (Op.stringOp .add ⟨a.toArray⟩ ⟨b.toArray⟩).run P w = .ok (str (a ++ b)) w := by
  rw [run_string_add_sum w _ _ (by simpa [ByteArray.size] using h), str_append]

/-- The value is a slice that reads as these bytes, in a block that 'ok' lets. -/
def IsB (w : World) (ok : Nat → Prop) (v : Value) (l : List UInt8) : Prop := ∃ A c, v = .slice A l.length c ∧ l.length ≤ c ∧ c ≤ maxLen ∧ Rd w ok A (l.map u8)
section
variable {w w' : World} {ok ok' : Nat → Prop} {v : Value} {l : List UInt8}
theorem IsB.frame (h : IsB w ok v l) (hk : ∀ k, ok k → k < w.heap.size → w'.heap[k]? = w.heap[k]?) : IsB w' ok v l := by
  obtain ⟨A, c, e, h1, h2, h3⟩ := h
  exact ⟨A, c, e, h1, h2, h3.frame hk⟩
theorem IsB.grow (h : IsB w ok v l) (hb : Below w.heap.size w w') : IsB w' ok v l := h.frame fun k _ hk => hb.block k hk
theorem IsB.weaken (h : IsB w ok v l) (hk : ∀ k, ok k → ok' k) : IsB w ok' v l := by
  obtain ⟨A, c, e, h1, h2, h3⟩ := h
  exact ⟨A, c, e, h1, h2, h3.weaken hk⟩
theorem Own1.isB {base : Nat} {e : TypeId} (h : Own1 w base e v (l.map u8)) : IsB w (fun k => v.ownBlock = some k) v l := by
  obtain ⟨A, c, e, h1, h2, h3⟩ := h.form
  rw [List.length_map] at e h1
  exact ⟨A, c, e, h1, h2, h3⟩
end
/-- The value is a slice of slices that read as these lists of bytes. -/
def IsBB (w : World) (ok : Nat → Prop) (v : Value) (L : List (List UInt8)) : Prop :=
  ∃ A c vs, v = .slice A L.length c ∧ vs.length = L.length ∧ L.length ≤ c ∧ c ≤ maxLen ∧ Rd w ok A vs ∧ ∀ (i : Nat) (h : i < L.length) (h' : i < vs.length), IsB w ok vs[i] L[i]
section
variable {w w' : World} {ok ok' : Nat → Prop} {v : Value} {L : List (List UInt8)}
theorem IsBB.frame (h : IsBB w ok v L) (hk : ∀ k, ok k → k < w.heap.size → w'.heap[k]? = w.heap[k]?) : IsBB w' ok v L := by
  obtain ⟨A, c, vs, e, h0, h1, h2, h3, h4⟩ := h
  exact ⟨A, c, vs, e, h0, h1, h2, h3.frame hk, fun i hi hi' => (h4 i hi hi').frame hk⟩
theorem IsBB.grow (h : IsBB w ok v L) (hb : Below w.heap.size w w') : IsBB w' ok v L := h.frame fun k _ hk => hb.block k hk
theorem IsBB.weaken (h : IsBB w ok v L) (hk : ∀ k, ok k → ok' k) : IsBB w ok' v L := by
  obtain ⟨A, c, vs, e, h0, h1, h2, h3, h4⟩ := h
  exact ⟨A, c, vs, e, h0, h1, h2, h3.weaken hk, fun i hi hi' => (h4 i hi hi').weaken hk⟩
/-- An element of such a slice: its cell, and what it reads as. -/
theorem IsBB.elem (h : IsBB w ok v L) :
    ∃ A c, v = .slice A L.length c ∧ L.length ≤ c ∧ c ≤ maxLen ∧ (L ≠ [] → ∃ b off, A = some ⟨b, off, none⟩ ∧ ok b ∧ b < w.heap.size ∧
      ∀ (i : Nat) (h : i < L.length), ∃ Ai ci, w.cell? ⟨b, off + i, none⟩ = some (.slice Ai L[i].length ci) ∧ L[i].length ≤ ci ∧ ci ≤ maxLen ∧ Rd w ok Ai (L[i].map u8)) := by
  obtain ⟨A, c, vs, e, h0, h1, h2, h3, h4⟩ := h
  refine ⟨A, c, e, h1, h2, fun hn => ?_⟩
  obtain ⟨b, off, ha, hb, hlt, hc⟩ := h3.at' (by intro e; subst e; simp at h0; exact hn (List.eq_nil_of_length_eq_zero h0.symm))
  refine ⟨b, off, ha, hb, hlt, fun i hi => ?_⟩
  have hci := hc i (by omega)
  obtain ⟨Ai, ci, e1, g1, g2, g3⟩ := h4 i hi (by omega)
  rw [e1] at hci
  exact ⟨Ai, ci, hci, g1, g2, g3⟩
end

theorem elemB : ElemT Tryd.prog 49 5 1 := ElemT.mk_ (z := .int .u8 0) Tryd.underlying49 (by kernel_rfl) rfl

theorem info_byte : (Tryd.prog.info? 5).map (fun i => (i.zero, i.size, i.bytes)) = some (some (.int .u8 0), 1, 1) := by kernel_rfl
end Go.Proofs.YtnokdbblmgggaaaDoor
