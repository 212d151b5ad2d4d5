/-
  The walk of TopVectors.
-/
import Derived.Test.YtpfhhkdmgkkidaaSpLaw5
import Derived.Test.YtpfhhkdmgkkidaaSpOpen
import Derived.Deep.MidRow
namespace Go.Proofs.Ytpfhhkdmgkkidaa
open Go.ChangeShapes Go.WideShapes Go.ChangeAt Go.RowKit
set_option maxRecDepth 100000

/-- A vector as cells. -/
def kVec : Kind (Nat → Nat) where
  size := 8
  R _ _ cs V := cs = (av V).toList ∧ okV V
  len h := by rw [h.1]; rfl
  move h _ := h
theorem opens_vec : Opens Try.prog 24 kVec := fun h => by
  obtain ⟨L, hl, hm⟩ := Opens.array (K := kInt .u32) Try.underlying24 (by kernel_rfl) (by kernel_rfl) (Opens.int Try.underlying22) h
  obtain ⟨V, hV, hok⟩ := cells8 hl hm
  exact ⟨V, hV, hok⟩
theorem open_vecs {H : Type} {enc : TypeId × Value → H} {w : World} {r : Reach} {b0 base : Nat} {sp : Nat → Bool} {held : Bool} {v : Value} {d : DataW H} {ps : List MemPlace}
    (hval : Value.okWide Try.prog w r b0 42 v) (hd : DataW.Trod enc Try.prog w base sp held 42 v d ps) : ∃ L, IsL kVec w (fun _ => True) v L := by
  obtain ⟨fuel, hf⟩ := hd
  obtain ⟨a, len, cap, rfl⟩ := okWide_slice Try.underlying42 hval
  obtain ⟨L, hL⟩ := Opens.slice Try.underlying42 opens_vec (by kernel_rfl) hf
  exact ⟨L, kSlice_iff.1 hL⟩
/-- An element: where its cells lie. -/
theorem vec_at {w : World} {v : Value} {L : List (Nat → Nat)} (h : IsL kVec w (fun _ => True) v L) :
    ∃ A c, v = .slice A L.length c ∧ L.length ≤ c ∧ c ≤ maxLen ∧ (∀ V ∈ L, okV V) ∧ (L ≠ [] → ∃ b off, A = some ⟨b, off, none⟩ ∧ b < w.heap.size ∧ ∀ (i : Nat) (hi : i < L.length), w.rangeAt b (off + i * 8) (av L[i]).toList) := by
  obtain ⟨A, c, rfl, h1, h2, h3⟩ := h.elem (by show 0 < 8; omega)
  refine ⟨A, c, rfl, h1, h2, fun V hV => ?_, fun hn => ?_⟩
  · obtain ⟨i, hi, rfl⟩ := List.getElem_of_mem hV
    obtain ⟨b, off, _, _, _, hc⟩ := h3 (by intro e; subst e; simp at hi)
    obtain ⟨cs, hr, _⟩ := hc i hi
    exact hr.2
  · obtain ⟨b, off, rfl, _, hlt, hc⟩ := h3 hn
    refine ⟨b, off, rfl, hlt, fun i hi j u hu => ?_⟩
    obtain ⟨cs, hr, hcs⟩ := hc i hi
    obtain ⟨rfl, _⟩ := hr
    obtain ⟨hj, rfl⟩ := List.getElem?_eq_some_iff.1 hu
    have := hcs j hj
    rw [Nat.add_assoc]
    exact this
theorem Rd.setRowFar {w : World} {ok : Nat → Prop} {A : Option Addr} {xs : List Value} (h : Rd w ok A xs) {g : Nat} (hg : ¬ ok g) (cs : Array Value) : Rd (w.setRow g cs) ok A xs :=
  h.frame fun k hk _ => setRow_other w g k cs (fun e => hg (e ▸ hk))

theorem Own1.far_ {w : World} {base : Nat} {e : TypeId} {v : Value} {l : List UInt8} (h : Own1 w base e v (l.map u8)) : ∃ A c, v = .slice A l.length c ∧ l.length ≤ c ∧ c ≤ maxLen ∧ Rd w (fun k => base ≤ k) A (l.map u8) := by
  obtain ⟨A, c, rfl, h1, h2, h3⟩ := h.isB
  exact ⟨A, c, rfl, h1, h2, h3.weaken fun k hk => (h.lt k hk).1⟩
theorem shrink_far (V B : Nat → Nat) (hV : okV V) (hB : okV B) (w : World) :
    Calls Try.prog 10 #[.agg #[.int .u32 (V 0 : Int), .int .u32 (V 1 : Int), .int .u32 (V 2 : Int), .int .u32 (V 3 : Int), .int .u32 (V 4 : Int), .int .u32 (V 5 : Int), .int .u32 (V 6 : Int), .int .u32 (V 7 : Int)], .agg #[.int .u32 (B 0 : Int), .int .u32 (B 1 : Int), .int .u32 (B 2 : Int), .int .u32 (B 3 : Int), .int .u32 (B 4 : Int), .int .u32 (B 5 : Int), .int .u32 (B 6 : Int), .int .u32 (B 7 : Int)]] w fun e w' => ∃ A c, e = .returned (.slice A (spanB V B).length c) ∧ (spanB V B).length ≤ c ∧ c ≤ maxLen ∧ Rd w' (fun k => w.heap.size ≤ k) A ((spanB V B).map u8) ∧ Below w.heap.size w w' :=
  (shrink_any V B hV hB w).mono fun e w' ⟨v, he, ho, hb⟩ => by
    obtain ⟨A, c, rfl, h1, h2, h3⟩ := ho.far_
    exact ⟨A, c, he, h1, h2, h3, hb⟩
theorem rebase_far (A B C : Nat → Nat) (hA : okV A) (hB : okV B) (hC : okV C) (ok : Nat → Prop) (Ad : Option Addr) (c : Nat) (w : World) (hlc : (spanB A B).length ≤ c) (hcm : c ≤ maxLen) (hr : Rd w ok Ad ((spanB A B).map u8)) :
    Calls Try.prog 14 #[.slice Ad (spanB A B).length c, .agg (av B), .agg (av C)] w fun e w' => ∃ A5 c5, e = .returned (.tuple #[.slice A5 (spanB A C).length c5, .int .i64 0]) ∧ (spanB A C).length ≤ c5 ∧ c5 ≤ maxLen ∧ Rd w' (fun k => w.heap.size ≤ k) A5 ((spanB A C).map u8) ∧ Below w.heap.size w w' := by
  obtain ⟨h1, h2⟩ := reb_span (C := C) hA hB
  refine (rebase_any ok Ad c (spanB A B) B C hB hC w hlc hcm hr).mono fun e w' ⟨v, he, ho, hb⟩ => ?_
  rw [h2] at ho
  rw [h1] at he
  obtain ⟨A', c', rfl, h3, h4, h5⟩ := ho.far_
  exact ⟨A', c', he, h3, h4, h5, hb⟩
theorem grow_at (A B : Nat → Nat) (hA : okV A) (hB : okV B) (ok : Nat → Prop) (Ad : Option Addr) (c : Nat) (w : World) (hlc : (spanB A B).length ≤ c) (hcm : c ≤ maxLen) (hr : Rd w ok Ad ((spanB A B).map u8)) :
    Calls Try.prog 11 #[.slice Ad (spanB A B).length c, .agg (av B)] w fun e w' => e = .returned (.tuple #[.agg (av A), .int .i64 0]) ∧ Below w.heap.size w w' := by
  obtain ⟨h1, h2⟩ := grow_span hA hB
  have := grow_any ok Ad c (spanB A B) B hB w hlc hcm hr
  unfold GrowPost vv at this
  rw [h1, av_congr h2] at this
  exact this
/-- The base behind k rounds. -/
def baseN (L : List (Nat → Nat)) : Nat → Nat → Nat
  | 0 => zeroV
  | k + 1 => L.getD k zeroV
theorem okV_base {L : List (Nat → Nat)} (h : ∀ V ∈ L, okV V) (k : Nat) : okV (baseN L k) := by
  cases k with
  | zero => exact okV_zero
  | succ k =>
    show okV (L.getD k zeroV)
    rw [List.getD_eq_getElem?_getD]
    cases hk : L[k]? with
    | none => exact okV_zero
    | some V => exact h V (List.mem_of_getElem? hk)
theorem baseN_succ {L : List (Nat → Nat)} {k : Nat} (hk : k < L.length) : baseN L (k + 1) = L[k] := by
  show L.getD k zeroV = _
  rw [List.getD_eq_getElem?_getD, List.getElem?_eq_getElem hk]
  rfl

set_option maxHeartbeats 4000000 in
theorem topvectors_walk (A B : Nat → Nat) (v0 : Value) (L : List (Nat → Nat)) (w : World) (hA : okV A) (hB : okV B) (hL : IsL kVec w (fun _ => True) v0 L) :
    Calls Try.prog 8 #[vv A, vv B, v0] w fun e w' => e = .returned (.bool true) ∧ Below w.heap.size w w' := by
  obtain ⟨A0, c0, rfl, hlc, hcm, hall, hel⟩ := vec_at hL
  have hm63 : L.length ≤ 9223372036854775807 := by unfold maxLen at hcm; omega
  obtain ⟨h1, h2, hbel⟩ := boxes2 A B w
  clear hL hcm
  by_cases hlong : 30 < L.length
  · clear hel hall
    unfold vv
    go_enter Try.func8, Try.ntmps8
    go_wp2
    go_ret
    exact ⟨rfl, hbel⟩
  · obtain ⟨hx1, hx2, hx3, hxb⟩ := boxes3 A B zeroV w
    have hs1 := fun w => shrink_far A zeroV hA okV_zero w
    have hs2 := fun w => shrink_far B zeroV hB okV_zero w
    have hz0 : ∀ k, ((zeroV k : Nat) : Int) = 0 := fun _ => rfl
    simp only [hz0] at hs1 hs2
    obtain ⟨X, hX⟩ : ∃ X, X = (((w.alloc (.cells (av A) 24)).alloc (.cells (av B) 24)).alloc (.cells (av zeroV) 24)) := ⟨_, rfl⟩
    rw [← hX] at hx1 hx2 hx3 hxb
    have HX := Lib.hid hX
    have XA := Lib.hid hx1
    have XB := Lib.hid hx2
    have XZ := Lib.hid hx3
    rw [zero_av] at XZ HX
    have Hs1 := Lib.hid hs1
    have Hs2 := Lib.hid hs2
    have xA0 := (XA.out.cell 0)
    have xA1 := (XA.out.cell 1)
    have xA2 := (XA.out.cell 2)
    have xA3 := (XA.out.cell 3)
    have xA4 := (XA.out.cell 4)
    have xA5 := (XA.out.cell 5)
    have xA6 := (XA.out.cell 6)
    have xA7 := (XA.out.cell 7)
    have xB0 := (XB.out.cell 0)
    have xB1 := (XB.out.cell 1)
    have xB2 := (XB.out.cell 2)
    have xB3 := (XB.out.cell 3)
    have xB4 := (XB.out.cell 4)
    have xB5 := (XB.out.cell 5)
    have xB6 := (XB.out.cell 6)
    have xB7 := (XB.out.cell 7)
    have xZ0 := (XZ.out.cell 0)
    have xZ1 := (XZ.out.cell 1)
    have xZ2 := (XZ.out.cell 2)
    have xZ3 := (XZ.out.cell 3)
    have xZ4 := (XZ.out.cell 4)
    have xZ5 := (XZ.out.cell 5)
    have xZ6 := (XZ.out.cell 6)
    have xZ7 := (XZ.out.cell 7)
    simp only [List.getElem?_toArray, List.getElem?_cons_zero, List.getElem?_cons_succ, av] at xA0 xA1 xA2 xA3 xA4 xA5 xA6 xA7 xB0 xB1 xB2 xB3 xB4 xB5 xB6 xB7 xZ0 xZ1 xZ2 xZ3 xZ4 xZ5 xZ6 xZ7
    have xA0d : X.drew.cell? ⟨w.heap.size, 0, none⟩ = some (.int .u32 (A 0 : Int)) := xA0
    have xA1d : X.drew.cell? ⟨w.heap.size, 1, none⟩ = some (.int .u32 (A 1 : Int)) := xA1
    have xA2d : X.drew.cell? ⟨w.heap.size, 2, none⟩ = some (.int .u32 (A 2 : Int)) := xA2
    have xA3d : X.drew.cell? ⟨w.heap.size, 3, none⟩ = some (.int .u32 (A 3 : Int)) := xA3
    have xA4d : X.drew.cell? ⟨w.heap.size, 4, none⟩ = some (.int .u32 (A 4 : Int)) := xA4
    have xA5d : X.drew.cell? ⟨w.heap.size, 5, none⟩ = some (.int .u32 (A 5 : Int)) := xA5
    have xA6d : X.drew.cell? ⟨w.heap.size, 6, none⟩ = some (.int .u32 (A 6 : Int)) := xA6
    have xA7d : X.drew.cell? ⟨w.heap.size, 7, none⟩ = some (.int .u32 (A 7 : Int)) := xA7
    have xB0d : X.drew.cell? ⟨w.heap.size + 1, 0, none⟩ = some (.int .u32 (B 0 : Int)) := xB0
    have xB1d : X.drew.cell? ⟨w.heap.size + 1, 1, none⟩ = some (.int .u32 (B 1 : Int)) := xB1
    have xB2d : X.drew.cell? ⟨w.heap.size + 1, 2, none⟩ = some (.int .u32 (B 2 : Int)) := xB2
    have xB3d : X.drew.cell? ⟨w.heap.size + 1, 3, none⟩ = some (.int .u32 (B 3 : Int)) := xB3
    have xB4d : X.drew.cell? ⟨w.heap.size + 1, 4, none⟩ = some (.int .u32 (B 4 : Int)) := xB4
    have xB5d : X.drew.cell? ⟨w.heap.size + 1, 5, none⟩ = some (.int .u32 (B 5 : Int)) := xB5
    have xB6d : X.drew.cell? ⟨w.heap.size + 1, 6, none⟩ = some (.int .u32 (B 6 : Int)) := xB6
    have xB7d : X.drew.cell? ⟨w.heap.size + 1, 7, none⟩ = some (.int .u32 (B 7 : Int)) := xB7
    have xZ0d : X.drew.cell? ⟨w.heap.size + 1 + 1, 0, none⟩ = some (.int .u32 0) := xZ0
    have xZ1d : X.drew.cell? ⟨w.heap.size + 1 + 1, 1, none⟩ = some (.int .u32 0) := xZ1
    have xZ2d : X.drew.cell? ⟨w.heap.size + 1 + 1, 2, none⟩ = some (.int .u32 0) := xZ2
    have xZ3d : X.drew.cell? ⟨w.heap.size + 1 + 1, 3, none⟩ = some (.int .u32 0) := xZ3
    have xZ4d : X.drew.cell? ⟨w.heap.size + 1 + 1, 4, none⟩ = some (.int .u32 0) := xZ4
    have xZ5d : X.drew.cell? ⟨w.heap.size + 1 + 1, 5, none⟩ = some (.int .u32 0) := xZ5
    have xZ6d : X.drew.cell? ⟨w.heap.size + 1 + 1, 6, none⟩ = some (.int .u32 0) := xZ6
    have xZ7d : X.drew.cell? ⟨w.heap.size + 1 + 1, 7, none⟩ = some (.int .u32 0) := xZ7
    have Hel := Lib.hid hel
    have Hall := Lib.hid hall
    clear hX hx1 hx2 hx3 hs1 hs2 hel hall h1 h2 hbel hz0
    unfold vv
    go_enter Try.func8, Try.ntmps8
    go_wp2_with fail
    rw [← HX.out]
    go_region_held3 (fun u => Below X.heap.size X u ∧ u.cell? ⟨w.heap.size, 0, none⟩ = some (.int .u32 (A 0 : Int)) ∧ u.cell? ⟨w.heap.size, 1, none⟩ = some (.int .u32 (A 1 : Int)) ∧ u.cell? ⟨w.heap.size, 2, none⟩ = some (.int .u32 (A 2 : Int)) ∧ u.cell? ⟨w.heap.size, 3, none⟩ = some (.int .u32 (A 3 : Int)) ∧ u.cell? ⟨w.heap.size, 4, none⟩ = some (.int .u32 (A 4 : Int)) ∧ u.cell? ⟨w.heap.size, 5, none⟩ = some (.int .u32 (A 5 : Int)) ∧ u.cell? ⟨w.heap.size, 6, none⟩ = some (.int .u32 (A 6 : Int)) ∧ u.cell? ⟨w.heap.size, 7, none⟩ = some (.int .u32 (A 7 : Int)) ∧ u.cell? ⟨w.heap.size + 1, 0, none⟩ = some (.int .u32 (B 0 : Int)) ∧ u.cell? ⟨w.heap.size + 1, 1, none⟩ = some (.int .u32 (B 1 : Int)) ∧ u.cell? ⟨w.heap.size + 1, 2, none⟩ = some (.int .u32 (B 2 : Int)) ∧ u.cell? ⟨w.heap.size + 1, 3, none⟩ = some (.int .u32 (B 3 : Int)) ∧ u.cell? ⟨w.heap.size + 1, 4, none⟩ = some (.int .u32 (B 4 : Int)) ∧ u.cell? ⟨w.heap.size + 1, 5, none⟩ = some (.int .u32 (B 5 : Int)) ∧ u.cell? ⟨w.heap.size + 1, 6, none⟩ = some (.int .u32 (B 6 : Int)) ∧ u.cell? ⟨w.heap.size + 1, 7, none⟩ = some (.int .u32 (B 7 : Int)) ∧ u.cell? ⟨w.heap.size + 1 + 1, 0, none⟩ = some (.int .u32 0) ∧ u.cell? ⟨w.heap.size + 1 + 1, 1, none⟩ = some (.int .u32 0) ∧ u.cell? ⟨w.heap.size + 1 + 1, 2, none⟩ = some (.int .u32 0) ∧ u.cell? ⟨w.heap.size + 1 + 1, 3, none⟩ = some (.int .u32 0) ∧ u.cell? ⟨w.heap.size + 1 + 1, 4, none⟩ = some (.int .u32 0) ∧ u.cell? ⟨w.heap.size + 1 + 1, 5, none⟩ = some (.int .u32 0) ∧ u.cell? ⟨w.heap.size + 1 + 1, 6, none⟩ = some (.int .u32 0) ∧ u.cell? ⟨w.heap.size + 1 + 1, 7, none⟩ = some (.int .u32 0))
      (first | (with_reducible exact ⟨(Below.refl _ _).drew, xA0d, xA1d, xA2d, xA3d, xA4d, xA5d, xA6d, xA7d, xB0d, xB1d, xB2d, xB3d, xB4d, xB5d, xB6d, xB7d, xZ0d, xZ1d, xZ2d, xZ3d, xZ4d, xZ5d, xZ6d, xZ7d⟩) | (with_reducible assumption) | (go_split_ands; with_reducible exact ⟨below_on (by assumption) hb4, cell_then hb4 (by assumption), cell_then hb4 (by assumption), cell_then hb4 (by assumption), cell_then hb4 (by assumption), cell_then hb4 (by assumption), cell_then hb4 (by assumption), cell_then hb4 (by assumption), cell_then hb4 (by assumption), cell_then hb4 (by assumption), cell_then hb4 (by assumption), cell_then hb4 (by assumption), cell_then hb4 (by assumption), cell_then hb4 (by assumption), cell_then hb4 (by assumption), cell_then hb4 (by assumption), cell_then hb4 (by assumption), cell_then hb4 (by assumption), cell_then hb4 (by assumption), cell_then hb4 (by assumption), cell_then hb4 (by assumption), cell_then hb4 (by assumption), cell_then hb4 (by assumption), cell_then hb4 (by assumption), cell_then hb4 (by assumption)⟩) | (go_split_ands; with_reducible exact ⟨below_on (by assumption) hb3, cell_then hb3 (by assumption), cell_then hb3 (by assumption), cell_then hb3 (by assumption), cell_then hb3 (by assumption), cell_then hb3 (by assumption), cell_then hb3 (by assumption), cell_then hb3 (by assumption), cell_then hb3 (by assumption), cell_then hb3 (by assumption), cell_then hb3 (by assumption), cell_then hb3 (by assumption), cell_then hb3 (by assumption), cell_then hb3 (by assumption), cell_then hb3 (by assumption), cell_then hb3 (by assumption), cell_then hb3 (by assumption), cell_then hb3 (by assumption), cell_then hb3 (by assumption), cell_then hb3 (by assumption), cell_then hb3 (by assumption), cell_then hb3 (by assumption), cell_then hb3 (by assumption), cell_then hb3 (by assumption), cell_then hb3 (by assumption)⟩))
      (first | (go_at_call 10; (first | (with_reducible refine (Hs1.out _).mono ?_; rintro e w3 ⟨A3, c3, rfl, hl3, hm3, hr3, hb3⟩) | (with_reducible refine (Hs2.out _).mono ?_; rintro e w4 ⟨A4, c4, rfl, hl4, hm4, hr4, hb4⟩))))
    have hb4X : Below X.heap.size X w4 := And.left (by assumption)
    have XA4 := XA.out.grow hb4X
    have XB4 := XB.out.grow hb4X
    have XZ4 := XZ.out.grow hb4X
    have hb04 := below_call hxb hb4X
    have hXs := XZ.out.lt
    have hs3 : X.heap.size ≤ w3.heap.size := hb3.size
    have hr34 := (hr3.grow hb4).weaken (ok' := fun k => w.heap.size + 1 + 1 < k) (fun k hk => Nat.lt_of_lt_of_le hXs hk)
    have hr44 := hr4.weaken (ok' := fun k => w.heap.size + 1 + 1 < k) (fun k hk => Nat.lt_of_lt_of_le hXs (Nat.le_trans hs3 hk))
    have Hro := Lib.hid (fun w => reforder_any A B w)
    clear xA0 xA0d xA1 xA1d xA2 xA2d xA3 xA3d xA4 xA4d xA5 xA5d xA6 xA6d xA7 xA7d xB0 xB0d xB1 xB1d xB2 xB2d xB3 xB3d xB4 xB4d xB5 xB5d xB6 xB6d xB7 xB7d xZ0 xZ0d xZ1 xZ1d xZ2 xZ2d xZ3 xZ3d xZ4 xZ4d xZ5 xZ5d xZ6 xZ6d xZ7 xZ7d hb3 hb4 hb4X hr3 hr4 hxb
    rw [← zero_av] at XZ4
    go_wp2_with fail
    go_loopw [8, 9, 31] (fun x y i wr => ∃ (k : Nat) (A' : Option Addr) (c' : Nat) (B' : Option Addr) (d' : Nat), k ≤ L.length ∧ i = .int .i64 (k : Int) ∧ x = .slice A' (spanB A (baseN L k)).length c' ∧ (spanB A (baseN L k)).length ≤ c' ∧ c' ≤ maxLen ∧ Rd wr (fun j => w.heap.size + 1 + 1 < j) A' ((spanB A (baseN L k)).map Go.Proofs.Ytpfhhkdmgkkidaa.u8) ∧
      y = .slice B' (spanB B (baseN L k)).length d' ∧ (spanB B (baseN L k)).length ≤ d' ∧ d' ≤ maxLen ∧ Rd wr (fun j => w.heap.size + 1 + 1 < j) B' ((spanB B (baseN L k)).map Go.Proofs.Ytpfhhkdmgkkidaa.u8) ∧
      Blk wr w.heap.size 24 (av A) ∧ Blk wr (w.heap.size + 1) 24 (av B) ∧ Blk wr (w.heap.size + 1 + 1) 24 (av (baseN L k)) ∧ Below w.heap.size w wr) (fun _ _ i _ => L.length - (intOf i).toNat)
    case atStart => exact ⟨0, A3, c3, A4, c4, by omega, rfl, rfl, hl3, hm3, hr34, rfl, hl4, hm4, hr44, XA4, XB4, XZ4, hb04⟩
    case round =>
      obtain ⟨k, A', c', B', d', hk, rfl, rfl, hlA, hmA, hrA, rfl, hlB, hmB, hrB, bA, bB, bZ, hbw⟩ := hrel
      clear hr34 hr44 XA4 XB4 XZ4 hb04 hl3 hm3 hl4 hm4
      have hokb := okV_base Hall.out k
      have HmA := Lib.hid hmA
      have HmB := Lib.hid hmB
      have BA := Lib.hid bA
      have BB := Lib.hid bB
      have BZ := Lib.hid bZ
      clear hmA hmB bA bB bZ
      by_cases hlt : k < L.length
      · obtain ⟨b, off, rfl, hblt, hrg⟩ := Hel.out (by intro e; subst e; simp at hlt)
        have hrk := hrg k hlt
        have hokN := Hall.out _ (List.getElem_mem hlt)
        have hN1 := baseN_succ hlt
        have hrk2 : wr.rangeAt b (off + k * 8) (av L[k]).toList := fun j u hu => (hbw.cell (p := ⟨b, off + k * 8 + j, none⟩) hblt).trans (hrk j u hu)
        obtain ⟨N, hLk⟩ : ∃ N, N = L[k] := ⟨_, rfl⟩
        rw [← hLk] at hrk2 hokN hN1
        have hr1 := fun ok Ad c w h1 h2 h3 => rebase_far A (baseN L k) N hA hokb hokN ok Ad c w h1 h2 h3
        have hr2 := fun ok Ad c w h1 h2 h3 => rebase_far B (baseN L k) N hB hokb hokN ok Ad c w h1 h2 h3
        have ho := fun ok A1 c1 A2 c2 w h1 h2 h3 h4 h5 h6 => sporder_any ok A1 c1 (spanB A N) A2 c2 (spanB B N) w h1 h2 h3 h4 h5 h6
        unfold OrdPost at ho
        have hos : ordS (spanB A N) (spanB B N) = (orderV A B, 0) := by
          unfold ordS
          rw [if_neg (by rw [(read_span hA hokN).1]; simp), if_neg (by rw [(read_span hB hokN).1]; simp), order_span hA hB hokN]
        rw [hos] at ho
        have HN1 := Lib.hid hN1
        generalize baseN L k = base at *
        generalize hS1 : spanB A base = S1 at *
        generalize hS2 : spanB B base = S2 at *
        generalize hS3 : spanB A N = S3 at *
        generalize hS4 : spanB B N = S4 at *
        have Hr1 := Lib.hid hr1
        have Hr2 := Lib.hid hr2
        have Ho := Lib.hid ho
        have HS3 := Lib.hid hS3
        have HS4 := Lib.hid hS4
        have Hrk := Lib.hid hrk2
        clear hr1 hr2 ho hos hrg hrk hrk2 hS1 hS2 hS3 hS4 hN1 hLk
        have hbs := hbw.size
        have hzl := BZ.out.lt
        obtain ⟨f1, f2, f3⟩ := fresh_store N hbw hbs
        have hNw : Blk (wr.alloc (.cells (av zeroV) 24)) wr.heap.size 24 (av zeroV) := Blk.new wr _ _
        obtain ⟨P, hP⟩ : ∃ P, P = ((wr.alloc (.cells (av zeroV) 24)).setRow wr.heap.size (av N)) := ⟨_, rfl⟩
        have g1 := f3 BA.out
        have g2 := f3 BB.out
        have g3 := f3 BZ.out
        have g4 := hrA.fresh N
        have g5 := hrB.fresh N
        have hPs : P.heap.size = wr.heap.size + 1 := by rw [hP, setRow_size]; simp
        rw [← hP] at f1 f2 g1 g2 g3 g4 g5
        have HPZ := Lib.hid g3
        have HPN := Lib.hid f1
        have HNw := Lib.hid hNw
        have HP := Lib.hid hP
        rw [zero_av] at HP
        clear f1 f3 g3 hNw hP hrA hrB
        go_wp2_with (first | (refine wpList_load_mid rfl 24 (.tmp 33) rfl b (off + k * 8) rfl (av N).toList _ Hrk.out Try.underlying24 rfl vec_info ?_) | (refine wpList_store_row rfl 24 (.tmp 11) (.tmp 34) rfl (wr.heap.size) (av N) rfl rfl 24 (av zeroV) (by exact HNw.out) vec_info rfl (av_one _) ?_; rw [← HP.out]) | (refine wpList_load_row rfl 24 (.tmp 7) rfl (w.heap.size + 1 + 1) rfl 24 (av base) (0, 0) _ (by exact HPZ.out) Try.underlying24 rfl vec_info ?_) | (refine wpList_load_row rfl 24 (.tmp 11) rfl (wr.heap.size) rfl 24 (av N) (0, 0) _ (by exact HPN.out) Try.underlying24 rfl vec_info ?_))
        refine (Hr1.out _ A' c' _ hlA HmA.out g4).mono ?_
        rintro e w2 ⟨A5, c5, rfl, hl5, hm5, hr5, hb5⟩
        have hb02 := below_call f2 hb5
        have HZ2 := Lib.hid (HPZ.out.grow hb5)
        have HN2 := Lib.hid (HPN.out.grow hb5)
        have g6 := g5.grow hb5
        have hr5' := hr5.weaken (ok' := fun j => w.heap.size + 1 + 1 < j) (fun j hj => by have h1 : P.heap.size ≤ j := hj; show w.heap.size + 1 + 1 < j; omega)
        have k1 := g1.grow hb5
        have k2 := g2.grow hb5
        have hs5 := hb5.size
        clear hr5 hb5 f2 g4 g5 g1 g2
        go_wp2_with (first | (refine wpList_load_row rfl 24 (.tmp 7) rfl (w.heap.size + 1 + 1) rfl 24 (av base) (0, 0) _ (by exact HZ2.out) Try.underlying24 rfl vec_info ?_) | (refine wpList_load_row rfl 24 (.tmp 11) rfl (wr.heap.size) rfl 24 (av N) (0, 0) _ (by exact HN2.out) Try.underlying24 rfl vec_info ?_))
        refine (Hr2.out _ B' d' _ hlB HmB.out g6).mono ?_
        rintro e w3 ⟨A6, c6, rfl, hl6, hm6, hr6, hb6⟩
        have hb03 := below_call hb02 hb6
        have HZ3 := Lib.hid (HZ2.out.grow hb6)
        have HN3 := Lib.hid (HN2.out.grow hb6)
        have hr56 := hr5'.grow hb6
        have hr6' := hr6.weaken (ok' := fun j => w.heap.size + 1 + 1 < j) (fun j hj => by have h1 : w2.heap.size ≤ j := hj; show w.heap.size + 1 + 1 < j; omega)
        have k3 := k1.grow hb6
        have k4 := k2.grow hb6
        clear hr6 hb6 hb02 g6 hr5' k1 k2
        go_wp2_with fail
        refine (Ho.out _ A5 c5 A6 c6 _ hl5 hm5 hr56 hl6 hm6 hr6').mono ?_
        rintro e w4 ⟨rfl, hb7⟩
        have hb04 := below_call hb03 hb7
        have HZ4 := Lib.hid (HZ3.out.grow hb7)
        have HN4 := Lib.hid (HN3.out.grow hb7)
        obtain ⟨Q, hQ⟩ : ∃ Q, Q = w4.setRow (w.heap.size + 1 + 1) (av N) := ⟨_, rfl⟩
        have q1 : Blk Q w.heap.size 24 (av A) := by rw [hQ]; exact (k3.grow hb7).setRowFar (by omega) _
        have q2 : Blk Q (w.heap.size + 1) 24 (av B) := by rw [hQ]; exact (k4.grow hb7).setRowFar (by omega) _
        have q3 : Blk Q (w.heap.size + 1 + 1) 24 (av N) := by rw [hQ]; exact HZ4.out.setRow_ _
        have q4 : Rd Q (fun j => w.heap.size + 1 + 1 < j) A5 (S3.map Go.Proofs.Ytpfhhkdmgkkidaa.u8) := by rw [hQ]; exact (hr56.grow hb7).setRowFar (fun h => Nat.lt_irrefl _ h) _
        have q5 : Rd Q (fun j => w.heap.size + 1 + 1 < j) A6 (S4.map Go.Proofs.Ytpfhhkdmgkkidaa.u8) := by rw [hQ]; exact (hr6'.grow hb7).setRowFar (fun h => Nat.lt_irrefl _ h) _
        have q6 : Below w.heap.size w Q := by rw [hQ]; exact below_setRow hb04 (by omega) _
        have y0 := q1.cell 0
        have y1 := q1.cell 1
        have y2 := q1.cell 2
        have y3 := q1.cell 3
        have y4 := q1.cell 4
        have y5 := q1.cell 5
        have y6 := q1.cell 6
        have y7 := q1.cell 7
        simp only [List.getElem?_toArray, List.getElem?_cons_zero, List.getElem?_cons_succ, av] at y0 y1 y2 y3 y4 y5 y6 y7
        have z0 := q2.cell 0
        have z1 := q2.cell 1
        have z2 := q2.cell 2
        have z3 := q2.cell 3
        have z4 := q2.cell 4
        have z5 := q2.cell 5
        have z6 := q2.cell 6
        have z7 := q2.cell 7
        simp only [List.getElem?_toArray, List.getElem?_cons_zero, List.getElem?_cons_succ, av] at z0 z1 z2 z3 z4 z5 z6 z7
        have HQ := Lib.hid hQ
        have Q1 := Lib.hid q1
        have Q2 := Lib.hid q2
        have Q3 := Lib.hid q3
        have hro := Hro.out
        unfold vv av at hro
        have Hro2 := Lib.hid hro
        clear hQ hb7 hb03 hb04 k3 k4 hr56 hr6' q1 q2 q3 hro
        go_wp2_with (first | (refine wpList_load_row rfl 24 (.tmp 11) rfl (wr.heap.size) rfl 24 (av N) (0, 0) _ (by exact HN4.out) Try.underlying24 rfl vec_info ?_) | (refine wpList_store_row rfl 24 (.tmp 7) (.tmp 55) rfl (w.heap.size + 1 + 1) (av N) rfl rfl 24 (av base) (by exact HZ4.out) vec_info rfl (av_one _) ?_; rw [← HQ.out]) | (go_at_call 16; (with_reducible refine (Hro2.out _).mono ?_); rintro e w7 ⟨rfl, hb8⟩))
        go_roundw
        case rel =>
          refine ⟨k + 1, A5, c5, A6, c6, by omega, by go_num, ?_, ?_, hm5, ?_, ?_, ?_, hm6, ?_, Q1.out.grow hb8, Q2.out.grow hb8, ?_, below_call q6 hb8⟩
          all_goals rw [HN1.out]
          · rw [HS3.out]
          · rw [HS3.out]; exact hl5
          · rw [HS3.out]; exact q4.grow hb8
          · rw [HS4.out]
          · rw [HS4.out]; exact hl6
          · rw [HS4.out]; exact q5.grow hb8
          · exact Q3.out.grow hb8
        case measure => simp [intOf]; omega
      · obtain rfl : k = L.length := by omega
        have hg1 := fun ok Ad c w h1 h2 h3 => grow_at A (baseN L L.length) hA hokb ok Ad c w h1 h2 h3
        have hg2 := fun ok Ad c w h1 h2 h3 => grow_at B (baseN L L.length) hB hokb ok Ad c w h1 h2 h3
        generalize baseN L L.length = base at *
        generalize hS1 : spanB A base = S1 at *
        generalize hS2 : spanB B base = S2 at *
        have Hg1 := Lib.hid hg1
        have Hg2 := Lib.hid hg2
        clear hg1 hg2 hS1 hS2
        have hbs := hbw.size
        go_wp2_with (first | (refine wpList_load_row rfl 24 (.tmp 7) rfl (w.heap.size + 1 + 1) rfl 24 (av base) (0, 0) _ (by exact BZ.out) Try.underlying24 rfl vec_info ?_))
        refine (Hg1.out _ A' c' _ hlA HmA.out hrA).mono ?_
        rintro e w2 ⟨rfl, hb2⟩
        have hb02 := below_call hbw hb2
        obtain ⟨f1, f2, f3⟩ := fresh_store A hb02 hb02.size
        have hN : Blk (w2.alloc (.cells (av zeroV) 24)) w2.heap.size 24 (av zeroV) := Blk.new w2 _ _
        obtain ⟨P, hP⟩ : ∃ P, P = ((w2.alloc (.cells (av zeroV) 24)).setRow w2.heap.size (av A)) := ⟨_, rfl⟩
        have g1 := f3 (BA.out.grow hb2)
        have g2 := f3 (BB.out.grow hb2)
        have g3 := f3 (BZ.out.grow hb2)
        have g5 := (hrB.grow hb2).fresh A
        rw [← hP] at f1 f2 g1 g2 g3 g5
        have HPZ := Lib.hid g3
        have HN := Lib.hid hN
        have HP := Lib.hid hP
        rw [zero_av] at HP
        clear f3 g3 hN hP hrA hrB hb2 hb02
        go_wp2_with (first | (refine wpList_store_row rfl 24 (.tmp 16) (.tmp 78) rfl (w2.heap.size) (av A) rfl rfl 24 (av zeroV) (by exact HN.out) vec_info rfl (av_one _) ?_; rw [← HP.out]) | (refine wpList_load_row rfl 24 (.tmp 7) rfl (w.heap.size + 1 + 1) rfl 24 (av base) (0, 0) _ (by exact HPZ.out) Try.underlying24 rfl vec_info ?_))
        refine (Hg2.out _ B' d' _ hlB HmB.out g5).mono ?_
        rintro e w3 ⟨rfl, hb3⟩
        have hb03 := below_call f2 hb3
        obtain ⟨e1, e2, e3⟩ := fresh_store B hb03 hb03.size
        have hN : Blk (w3.alloc (.cells (av zeroV) 24)) w3.heap.size 24 (av zeroV) := Blk.new w3 _ _
        obtain ⟨R, hR⟩ : ∃ R, R = ((w3.alloc (.cells (av zeroV) 24)).setRow w3.heap.size (av B)) := ⟨_, rfl⟩
        have r1 := e3 (g1.grow hb3)
        have r2 := e3 (g2.grow hb3)
        have r3 := e3 (f1.grow hb3)
        rw [← hR] at e1 e2 r1 r2 r3
        have y0 := r1.cell 0
        have y1 := r1.cell 1
        have y2 := r1.cell 2
        have y3 := r1.cell 3
        have y4 := r1.cell 4
        have y5 := r1.cell 5
        have y6 := r1.cell 6
        have y7 := r1.cell 7
        simp only [List.getElem?_toArray, List.getElem?_cons_zero, List.getElem?_cons_succ, av] at y0 y1 y2 y3 y4 y5 y6 y7
        have z0 := r2.cell 0
        have z1 := r2.cell 1
        have z2 := r2.cell 2
        have z3 := r2.cell 3
        have z4 := r2.cell 4
        have z5 := r2.cell 5
        have z6 := r2.cell 6
        have z7 := r2.cell 7
        simp only [List.getElem?_toArray, List.getElem?_cons_zero, List.getElem?_cons_succ, av] at z0 z1 z2 z3 z4 z5 z6 z7
        have s0 := r3.cell 0
        have s1 := r3.cell 1
        have s2 := r3.cell 2
        have s3 := r3.cell 3
        have s4 := r3.cell 4
        have s5 := r3.cell 5
        have s6 := r3.cell 6
        have s7 := r3.cell 7
        simp only [List.getElem?_toArray, List.getElem?_cons_zero, List.getElem?_cons_succ, av] at s0 s1 s2 s3 s4 s5 s6 s7
        have t0 := e1.cell 0
        have t1 := e1.cell 1
        have t2 := e1.cell 2
        have t3 := e1.cell 3
        have t4 := e1.cell 4
        have t5 := e1.cell 5
        have t6 := e1.cell 6
        have t7 := e1.cell 7
        simp only [List.getElem?_toArray, List.getElem?_cons_zero, List.getElem?_cons_succ, av] at t0 t1 t2 t3 t4 t5 t6 t7
        have qa := eql_lit A
        have qb := eql_lit B
        have HN3 := Lib.hid hN
        have HR := Lib.hid hR
        rw [zero_av] at HR
        clear e1 e3 r1 r2 r3 hN hR hb3 hb03 g1 g2 f1 f2 g5
        go_wp2_with (first | (refine wpList_store_row rfl 24 (.tmp 18) (.tmp 84) rfl (w3.heap.size) (av B) rfl rfl 24 (av zeroV) (by exact HN3.out) vec_info rfl (av_one _) ?_; rw [← HR.out]))
        go_ret
        exact ⟨rfl, e2⟩
end Go.Proofs.Ytpfhhkdmgkkidaa
