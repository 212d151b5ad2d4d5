/-
  Which records bytes are.
  journal.unpack.
  What store makes of a device: whole sectors, one behind the other, then all is made sure, then the tally.
  What the journal's calls make: put, Add, Replace, Open.
  append onto a slice whose capacity is its length; a device's footprint held to what it is made of.
  slices.Chunk of bytes: its iterator.
-/
import Derived.Test.YtdmbmkjiffhbcaaGreatCodNumMath
import Derived.Test.YtdmbmkjiffhbcaaGreatJRead
import Derived.Test.YtdmbmkjiffhbcaaGreatFieldsAll
import Derived.Test.YtdmbmkjiffhbcaaGreatOpen
import Derived.Test.YtdmbmkjiffhbcaaGreatDevTail
import Derived.Deep.Upon
import Derived.Test.YtdmbmkjiffhbcaaGreatJBase
namespace Go.Proofs.YtdmbmkjiffhbcaaGreat
open Go.RowKit

/-- The record that a field is, if it is one. -/
def recF (f : List UInt8) : Option (List UInt8) := if 4 ≤ f.length ∧ sealedB f = true then some (f.take (f.length - 4)) else none
/-- What has been gathered, and the fields to come: the records, and the error. -/
def recsV (acc : List (List UInt8)) : List (List UInt8 × Nat) → List (List UInt8) × Nat
  | [] => (acc, 0)
  | (f, e) :: r => if e ≠ 0 then ([], 7) else match recF f with
    | none => ([], 9)
    | some x => recsV (acc ++ [x]) r
/-- The records that bytes are, and the error. -/
def recsOf (b : List UInt8) : List (List UInt8) × Nat := recsV [] (steps b)
theorem recF_seal (r : List UInt8) : recF (r ++ sumB r) = some r := by
  unfold recF
  have h1 : (r ++ sumB r).length = r.length + 4 := by rw [List.length_append, sumB_length]
  rw [if_pos ⟨by omega, sealedB_seal r⟩, h1, Nat.add_sub_cancel, List.take_left' rfl]
theorem recsV_seal (acc L : List (List UInt8)) : recsV acc (L.map fun r => (r ++ sumB r, 0)) = (acc ++ L, 0) := by
  induction L generalizing acc with
  | nil => simp [recsV]
  | cons r L ih =>
    rw [List.map_cons]
    show (if (0 : Nat) ≠ 0 then _ else match recF (r ++ sumB r) with | none => _ | some x => recsV (acc ++ [x]) _) = _
    rw [if_neg (by simp), recF_seal]
    show recsV (acc ++ [r]) _ = _
    rw [ih, List.append_assoc]
    rfl
theorem recsB_pack (L : List (List UInt8)) : recsB L = packB (L.map fun r => r ++ sumB r) := by
  induction L with
  | nil => rfl
  | cons r L ih =>
    rw [List.map_cons, packB_cons, ← ih]
    show recB r ++ recsB L = _
    rfl
theorem recsB_append (L M : List (List UInt8)) : recsB (L ++ M) = recsB L ++ recsB M := by unfold recsB; rw [List.flatMap_append]
/-- Records are found again. -/
theorem recsOf_recsB (L : List (List UInt8)) (h : ∀ r ∈ L, r.length ≤ 65531) : recsOf (recsB L) = (L, 0) := by
  unfold recsOf
  have hs := steps_packB (L.map fun r => r ++ sumB r) [] (by
    intro f hf
    obtain ⟨r, hr, rfl⟩ := List.mem_map.1 hf
    have := h r hr
    rw [List.length_append, sumB_length]
    omega)
  rw [List.append_nil, steps_nil, List.append_nil, List.map_map] at hs
  rw [recsB_pack, hs]
  exact recsV_seal [] L
theorem recsV_step {S : List (List UInt8 × Nat)} {acc : List (List UInt8)} {k : Nat} {f : List UInt8} {e : Nat} (h : recsV [] S = recsV acc (S.drop k)) (hk : S[k]? = some (f, e)) :
    (e ≠ 0 → recsV [] S = ([], 7)) ∧ (e = 0 → recF f = none → recsV [] S = ([], 9)) ∧ (∀ x, e = 0 → recF f = some x → recsV [] S = recsV (acc ++ [x]) (S.drop (k + 1))) := by
  have hd : S.drop k = (f, e) :: S.drop (k + 1) := by
    obtain ⟨hlt, he⟩ := List.getElem?_eq_some_iff.1 hk
    rw [List.drop_eq_getElem_cons hlt, he]
  rw [hd] at h
  refine ⟨fun he => ?_, fun he hn => ?_, fun x he hx => ?_⟩
  · rw [h]
    show (if e ≠ 0 then _ else _) = _
    rw [if_pos he]
  · rw [h]
    show (if e ≠ 0 then _ else match recF f with | none => _ | some x => recsV (acc ++ [x]) _) = _
    rw [if_neg (by simpa using he), hn]
  · rw [h]
    show (if e ≠ 0 then _ else match recF f with | none => _ | some x => recsV (acc ++ [x]) _) = _
    rw [if_neg (by simpa using he), hx]
end Go.Proofs.YtdmbmkjiffhbcaaGreat

namespace Go.Proofs.YtdmbmkjiffhbcaaGreat
open Go.RowKit Go.Shelf
set_option maxRecDepth 100000
attribute [local go_sem] Oper.semAt_some

theorem keepsFrom_below {B : Nat} {W W' : World} (hb : Below W.heap.size W W') : KeepsFrom B W W' :=
  ⟨hb.size, fun k _ _ hk _ => (hb.block k (Array.getElem?_eq_some_iff.1 hk).1).trans hk⟩

theorem steps_part (l : List UInt8) (x : List UInt8 × Nat) (hx : x ∈ steps l) : x.1.length ≤ l.length := by
  have h : ∀ (n : Nat) (b : List UInt8), x ∈ stepsN n b → x.1.length ≤ b.length := by
    intro n
    induction n with
    | zero => intro b h; simp [stepsN] at h
    | succ n ih =>
      intro b h
      unfold stepsN at h
      by_cases h0 : b = []
      · rw [if_pos h0] at h; simp at h
      · have hr := firstF_rest b h0
        have hp := firstF_part b
        rw [if_neg h0] at h
        split at h
        · rw [List.mem_singleton] at h
          subst h
          exact Nat.zero_le _
        · rcases List.mem_cons.1 h with rfl | h
          · exact hp
          · have := ih _ h
            omega
  exact h _ _ hx
/-- Open's answer, by the record that the field is. -/
theorem open_rec (ok : Nat → Prop) (v : Value) (f : List UInt8) (W : World) (hv : IsB W ok v f) (hl : f.length ≤ 1099511627776) :
    Calls Tryz.prog 61 #[v] W fun e w' => ((recF f = none ∧ ∃ er : Nat, er ≠ 0 ∧ e = .returned (.tuple #[.slice none 0 0, .int .i64 (er : Int)])) ∨
      (∃ x u, recF f = some x ∧ e = .returned (.tuple #[u, .int .i64 0]) ∧ Own1 w' W.heap.size 5 u (x.map u8))) ∧ Below W.heap.size W w' := by
  refine (open_any ok v f W hv hl).mono ?_
  rintro e w' ⟨h, hb⟩
  refine ⟨?_, hb⟩
  unfold recF
  split at h
  · exact .inl ⟨if_neg (by omega), 8, by decide, h⟩
  · split at h
    · rename_i h1 h2
      obtain ⟨u, h3, h4⟩ := h
      exact .inr ⟨_, u, if_pos ⟨by omega, h2⟩, h3, h4⟩
    · rename_i h1 h2
      exact .inl ⟨if_neg fun h => h2 h.2, 9, by decide, h⟩
/-- The boxes of unpack's variables. -/
def juBox (b : Nat) (x2 x3 x4 : Value) (W : World) : Prop :=
  Blk W b 51 #[x2] ∧ Blk W (b + 1) 31 #[x3] ∧ Blk W (b + 1 + 1) 51 #[x4]
/-- What has been gathered. -/
def juGot (b B1 : Nat) (l : List UInt8) (n : Nat) (x4 : Value) (W : World) : Prop :=
  ∃ (vs : List Value) (acc : List (List UInt8)), Own1 W B1 47 x4 vs ∧ vs.length = acc.length ∧ acc.length = n ∧
    (∀ (i : Nat) (h : i < vs.length) (h' : i < acc.length), Own1 W (b + 1 + 1 + 1) 5 vs[i] (acc[i].map u8)) ∧
    (∀ (i j : Nat) (hi : i < vs.length) (hj : j < vs.length) (k k' : Nat), i < j → vs[i].ownBlock = some k → vs[j].ownBlock = some k' → k < k') ∧
    n ≤ (steps l).length ∧ recsV [] (steps l) = recsV acc ((steps l).drop n)
def juI (w : World) (B1 : Nat) (l : List UInt8) (pre : List (Value × Nat)) (W : World) : Prop :=
  ∃ x4, juBox w.heap.size (.slice none 0 0) (.int .i64 0) x4 W ∧ juGot w.heap.size B1 l pre.length x4 W ∧ Below w.heap.size w W
def juX (w : World) (l : List UInt8) (c : Code) (_ : List (Value × Nat)) (W : World) : Prop :=
  c = .ret ∧ ∃ (e : Nat) (x4 : Value), recsOf l = ([], e) ∧ e ≠ 0 ∧ juBox w.heap.size (.slice none 0 0) (.int .i64 (e : Int)) x4 W ∧ Below w.heap.size w W
section
variable {w W W' : World} {row : Option Nat}
theorem juBox.other {b : Nat} {x2 x3 x4 : Value} (h : juBox b x2 x3 x4 W) (hg : W.grownBy W' row) (hr : ∀ r, row = some r → ∃ o : Obj, W.heap[r]? = some o ∧ o.isCells = false) : juBox b x2 x3 x4 W' :=
  ⟨h.1.other hg hr, h.2.1.other hg hr, h.2.2.other hg hr⟩
theorem juGot.other {b B1 : Nat} {l : List UInt8} {n : Nat} {x4 : Value} (h : juGot b B1 l n x4 W) (hg : W.grownBy W' row) (hr : ∀ r, row = some r → ∃ o : Obj, W.heap[r]? = some o ∧ o.isCells = false) : juGot b B1 l n x4 W' := by
  obtain ⟨vs, acc, h1, h2, h3, h4, h5⟩ := h
  exact ⟨vs, acc, h1.other hg hr, h2, h3, fun i hi hi' => (h4 i hi hi').other hg hr, h5⟩
theorem juI_own (B1 : Nat) (l : List UInt8) (B : Nat) (hB : w.heap.size ≤ B) : OwnFrom B (juI w B1 l) := fun _ _ _ _ ⟨x4, h1, h2, h3⟩ hg hr =>
  ⟨x4, h1.other hg fun r e => (hr r e).2, h2.other hg fun r e => (hr r e).2, h3.trans (below_of_grown hg h3.size fun k e => Nat.le_trans hB (hr k e).1)⟩
theorem juX_own (l : List UInt8) (B : Nat) (hB : w.heap.size ≤ B) (c : Code) : OwnFrom B (juX w l c) := fun _ _ _ _ ⟨h0, e, x4, h1, h2, h3, h4⟩ hg hr =>
  ⟨h0, e, x4, h1, h2, h3.other hg fun r e => (hr r e).2, h4.trans (below_of_grown hg h4.size fun k e => Nat.le_trans hB (hr k e).1)⟩
theorem fieldX_own' (l : List UInt8) (B : Nat) (pre : List (Value × Nat)) (x : Value × Nat) (W0 : World) : OwnFrom B (fun (_ : Unit) W => fieldX l pre x W0 W) := fun _ _ _ _ ⟨f, h1, h2⟩ hg hr =>
  ⟨f, h1, h2.other hg fun r e => (hr r e).2⟩
end

theorem junpack_any (ok : Nat → Prop) (v : Value) (l : List UInt8) (w : World) (hv : IsB w ok v l) (hl : l.length ≤ 1099511627776) :
    Calls Tryz.prog 36 #[v] w fun e w' => ∃ x, e = .returned (.tuple #[x, .int .i64 ((recsOf l).2 : Int)]) ∧ OwnBB w' w.heap.size x (recsOf l).1 ∧ Below w.heap.size w w' := by
  rw [← callsIn_wide (n := 9)]
  refine callsIn_of_wp_marks Tryz.func36 rfl trivial ?_ rfl
  simp only [Tryz.ntmps36, List.size_toArray, List.length_cons, List.length_nil, Nat.reduceAdd, Nat.reduceSub, Array.replicate_succ, Array.replicate_zero, List.push_toArray, List.append_toArray, List.nil_append, List.cons_append]
  have hb0 : Below w.heap.size w (((w.alloc (.cells #[.slice none 0 0] 51)).alloc (.cells #[.int .i64 0] 31)).alloc (.cells #[.slice none 0 0] 51)) := (((Below.refl w.heap.size w).alloc (Nat.le_refl _) _).alloc (by simp) _).alloc (by simp; omega) _
  have hv3 := hv.grow hb0
  gi_wp2_with (refine ⟨trivial, ?_⟩; gi_at_call 60; refine ((callsIn_wide (n := 8)).2 (fields_any ok v l _ hv3 hl)).mono ?_; rintro e1 w1 ⟨Bx, v', rfl, hx1, hx2, hx3, hx4, hb1⟩)
  have hsz1 : w.heap.size + 1 + 1 + 1 ≤ w1.heap.size := by have := hb1.size; simpa using this
  have hI0 : juI w w1.heap.size l [] w1 := by
    refine ⟨.slice none 0 0, ⟨?_, ?_, ?_⟩, ⟨[], [], Own1.nil _ _ _, rfl, rfl, fun i hi => by simp at hi, fun i j hi => by simp at hi, Nat.zero_le _, rfl⟩, ?_⟩
    · exact (((Blk.new w 51 #[.slice none 0 0]).alloc _).alloc _).grow hb1
    · exact Blk.grow (g := w.heap.size + 1) (by have := (Blk.new (w.alloc (.cells #[.slice none 0 0] 51)) 31 #[.int .i64 0]).alloc (.cells #[.slice none 0 0] 51); rwa [World.size_alloc] at this) hb1
    · exact Blk.grow (g := w.heap.size + 1 + 1) (by have := Blk.new ((w.alloc (.cells #[.slice none 0 0] 51)).alloc (.cells #[.int .i64 0] 31)) 51 #[.slice none 0 0]; rwa [World.size_alloc, World.size_alloc] at this) hb1
    · exact hb0.trans (hb1.mono (by simp; omega))
  refine wp_range (gf := 82) (lb := #[.pointer (some ⟨Bx, 0, none⟩)]) rfl (enters_of Tryz.func82 (by kernel_rfl) rfl)
    (fields_iter 8 _ (fun k => w.heap.size + 1 + 1 + 1 ≤ k ∧ k < w1.heap.size) ?hok l Bx ?hbx v' w1 hx3 hx4 hl) (fun k hk => hk.2) (fun pre x W0 => fieldX_own' l _ pre x W0) (fun _ => rfl)
    (juI w w1.heap.size l) (juX w l) (juI_own _ l _ (by omega)) (juX_own l _ (by omega)) hI0
    (fun x => { tmps := #[v, undef, .pointer (some ⟨w.heap.size, 0, none⟩), .pointer (some ⟨w.heap.size + 1, 0, none⟩), .pointer (some ⟨w.heap.size + 1 + 1, 0, none⟩), x.1, .int .i64 (x.2 : Int), undef, undef, v, .func (.func 82) #[] #[.pointer (some ⟨Bx, 0, none⟩)], x.1, .int .i64 (x.2 : Int), undef, undef, undef, undef, undef, undef, undef, undef, undef, undef, undef, undef, undef, undef], defers := [] }) ?assign ?body ?done ?stop
  case hok => intro k hk; simpa using hk
  case hbx => exact ⟨by simpa using hx1, hx2⟩
  case assign =>
    intro L x W K hK
    gi_wp2
    exact hK
  case body =>
    rintro L pre x W0 W hI1 hs01 hX ⟨x4, hbox, hgot, hbel⟩ hs2
    obtain ⟨f, hf, hxo⟩ := hX
    obtain ⟨vs, acc, hg1, hgl, hgn, hg2, hg3, hg4, hg5⟩ := hgot
    obtain ⟨hst1, hst2, hst3⟩ := recsV_step hg5 hf
    obtain ⟨b2, b3, b4⟩ := hbox
    have c2 := b2.cell 0
    have c3 := b3.cell 0
    have c4 := b4.cell 0
    have z2 := b2.frozen 0
    have z3 := b3.frozen 0
    have z4 := b4.frozen 0
    simp only [List.getElem?_toArray, List.getElem?_cons_zero] at c2 c3 c4
    obtain ⟨xv, xe⟩ := x
    have hfl : f.length ≤ 1099511627776 := Nat.le_trans (steps_part l _ (List.mem_of_getElem? hf)) hl
    have hlt := (List.getElem?_eq_some_iff.1 hf).1
    have hsl := steps_length l
    have Hst1 := Lib.hid hst1
    have Hst2 := Lib.hid hst2
    have Hst3 := Lib.hid hst3
    have HF := Lib.hid hf
    have Hg2 := Lib.hid hg2
    have H3 := Lib.hid hg3
    have Hlt := Lib.hid hlt
    have hpl : pre.length ≤ 1099511627776 := by omega
    have Hpl := Lib.hid hpl
    clear hf hst1 hst2 hst3 hg2 hg3 hg4 hg5 hI0 hI1 hlt hsl hpl
    by_cases he : xe = 0
    · subst he
      have HH := open_rec (fun k => xv.ownBlock = some k) xv f W hxo.isB hfl
      rcases hrec : recF f with _ | x
      · have HH' := HH.mono (R' := fun e w' => (∃ er : Nat, er ≠ 0 ∧ e = .returned (.tuple #[.slice none 0 0, .int .i64 (er : Int)])) ∧ Below W.heap.size W w') fun e w' h => ⟨h.1.elim (fun h => h.2) (fun ⟨_, _, h, _⟩ => by rw [hrec] at h; cases h), h.2⟩
        have hend := Hst2.out rfl hrec
        clear HH Hst1 Hst2 Hst3 HF Hg2 H3 Hlt hg1
        gi_wp2_with (refine ⟨trivial, ?_⟩; gi_at_call 61; refine (CallsIn.inRound _ ((callsIn_wide (n := 6)).2 HH')).mono ?_; rintro e2 w2 ⟨⟨er, her, rfl⟩, hb2⟩; have hner : ((er : Int) != 0) = true := (by rw [bne_iff_ne]; omega); have B2 := b2.grow hb2; have B3 := b3.grow hb2; have B4 := b4.grow hb2; have C2 := B2.cell 0; have C3 := B3.cell 0; have C4 := B4.cell 0; have Z2 := B2.frozen 0; have Z3 := B3.frozen 0; have Z4 := B4.frozen 0; simp only [List.getElem?_toArray, List.getElem?_cons_zero] at C2 C3 C4)
        have hbel2 : Below w.heap.size w w2 := hbel.trans (hb2.mono hbel.size)
        refine ⟨((keepsFrom_below hb2).trans (keepsFrom_set _ _ _)).trans (keepsFrom_set _ _ _), rfl, 9, x4, hend, by decide, ⟨?_, ?_, ?_⟩, (hbel2.setCell (p := ⟨w.heap.size, 0, none⟩) (by dsimp only; omega) _).setCell (p := ⟨w.heap.size + 1, 0, none⟩) (by dsimp only; omega) _⟩
        · exact (B2.set_ 0 _).far (by dsimp only; omega) _
        · exact (B3.far (by dsimp only; omega) _).set_ 0 _
        · exact (B4.far (by dsimp only; omega) _).far (by dsimp only; omega) _
      · have HH' := HH.mono (R' := fun e w' => (∃ u, e = .returned (.tuple #[u, .int .i64 0]) ∧ Own1 w' W.heap.size 5 u (x.map u8)) ∧ Below W.heap.size W w') fun e w' h => ⟨h.1.elim (fun h => by rw [hrec] at h; cases h.1) (fun ⟨x', u, h, h1, h2⟩ => by rw [hrec] at h; cases h; exact ⟨u, h1, h2⟩), h.2⟩
        have hend := Hst3.out x rfl hrec
        have Hend := Lib.hid hend
        clear HH Hst1 Hst2 Hst3 hend
        obtain ⟨A4, n4, hx4, hn4, hm4, hr4⟩ := hg1.form
        have hvl : vs.length = pre.length := hgl.trans hgn
        rw [hvl] at hx4 hn4
        subst hx4
        clear hr4
        gi_wp2_with (first | (refine ⟨trivial, ?_⟩; gi_at_call 61; refine (CallsIn.inRound _ ((callsIn_wide (n := 6)).2 HH')).mono ?_; rintro e2 w2 ⟨⟨u, rfl, hu⟩, hb2⟩; obtain ⟨Au, cu, hue, hcu, hmu, hru⟩ := hu.form; rw [List.length_map] at hue; subst hue; clear hru; have B2 := b2.grow hb2; have B3 := b3.grow hb2; have B4 := b4.grow hb2; have C2 := B2.cell 0; have C3 := B3.cell 0; have C4 := B4.cell 0; have Z2 := B2.frozen 0; have Z3 := B3.frozen 0; have Z4 := B4.frozen 0; simp only [List.getElem?_toArray, List.getElem?_cons_zero] at C2 C3 C4; have hg1' : Own1 w2 w1.heap.size 47 (.slice A4 pre.length n4) vs := hg1.keep fun k hk => hb2.block k (hg1.lt k hk).2) | (gi_at_builtin; refine wpListIn_app1_one _ elemBB rfl (.tmp 22) (.tmp 24) rfl w1.heap.size _ vs rfl hg1' (.slice Au x.length cu) _ rfl rfl ?_ ?_ ?_ ?_; rotate_right; intro v2 w3 hown2 hgr2 hat2; have b4' := (B4.alloc (.cells #[.slice Au x.length cu] 47)).grown hgr2 (hg1'.apart B4 (by decide)); have c4' := b4'.cell 0; have z4' := b4'.frozen 0; simp only [List.getElem?_toArray, List.getElem?_cons_zero] at c4'; obtain ⟨A2, n2, hv2, hn2, hm2, hr2⟩ := hown2.form; simp only [List.length_append, hvl, List.length_singleton] at hv2; subst hv2; clear hr2))
        case refine_1 => have := Hpl.out; omega
        case refine_2 => have := Hpl.out; omega
        case refine_3 => have := hs01; have := hb2.size; omega
        have hrow : ∀ k, Value.ownBlock (.slice A4 pre.length n4) = some k → w1.heap.size ≤ k ∧ ∃ c t fz, (w2.alloc (.cells #[.slice Au x.length cu] 47)).heap[k]? = some (.cells c t fz) := fun k hk => ⟨(hg1'.lt k hk).1, (hg1'.alloc _).cells_at k hk⟩
        have hbox2 : juBox w.heap.size (.slice none 0 0) (.int .i64 0) (Value.slice A2 (pre.length + 1) n2) (w3.setCell ⟨w.heap.size + 1 + 1, 0, none⟩ (Value.slice A2 (pre.length + 1) n2)) :=
          ⟨((B2.alloc _).grown hgr2 (hg1'.apart B2 (by decide))).far (by dsimp only; omega) _, ((B3.alloc _).grown hgr2 (hg1'.apart B3 (by decide))).far (by dsimp only; omega) _, b4'.set_ 0 _⟩
        have hbelw : Below w.heap.size w w2 := hbel.trans (hb2.mono hbel.size)
        have hbel2 : Below w.heap.size w w3 := (hbelw.alloc hbelw.size _).grown hgr2 (by simp; have := hbelw.size; omega) (fun k hk => by have := (hrow k hk).1; omega)
        have hfar : ∀ {base : Nat} {e : TypeId} {y : Value} {xs : List Value}, Own1 w3 base e y xs → e ≠ 51 → Own1 (w3.setCell ⟨w.heap.size + 1 + 1, 0, none⟩ (Value.slice A2 (pre.length + 1) n2)) base e y xs := fun ho hne =>
          ho.keep fun k hk => Below.heap_setCell _ _ _ k fun e => by have := ho.apart b4' hne; dsimp only at e; subst e; exact this hk
        have helem2 : ∀ {base : Nat} {y : Value} {xs : List Value}, Own1 w2 base 5 y xs → Own1 (w3.setCell ⟨w.heap.size + 1 + 1, 0, none⟩ (Value.slice A2 (pre.length + 1) n2)) base 5 y xs := fun ho =>
          hfar ((ho.alloc _).kept hgr2 (ho.apart' hg1' (by decide))) (by decide)
        have helem : ∀ {base : Nat} {y : Value} {xs : List Value}, Own1 W base 5 y xs → Own1 (w3.setCell ⟨w.heap.size + 1 + 1, 0, none⟩ (Value.slice A2 (pre.length + 1) n2)) base 5 y xs := fun ho =>
          helem2 (ho.keep fun k hk => hb2.block k (ho.lt k hk).2)
        have hb2s := hb2.size
        refine ⟨?_, ?_, _, hbox2, ⟨vs ++ [.slice Au x.length cu], acc ++ [x], ?_, ?_, ?_, ?_, ?_, ?_, ?_⟩, hbel2.setCell (by dsimp only; omega) _⟩
        · exact (((keepsFrom_below hb2).trans ((KeepsOthers.alloc w2 _).from _)).trans (keepsFrom_grown hgr2 fun k hk => (hrow k hk).2)).trans (keepsFrom_set _ _ _)
        · intro k hk
          rw [Below.heap_setCell _ _ _ k (by dsimp only; omega), hgr2.block k (by simp; omega) (fun e => by have := (hrow k e.symm).1; omega), Below.heap_alloc _ _ _ (by omega), hb2.block k (by omega)]
        · exact hfar hown2 (by decide)
        · rw [List.length_append, List.length_append, List.length_singleton, List.length_singleton, hgl]
        · rw [List.length_append, List.length_append, List.length_singleton, List.length_singleton, hgn]
        · intro i hi hi'
          rw [List.length_append, List.length_singleton] at hi
          by_cases hip : i < pre.length
          · rw [List.getElem_append_left (by omega), List.getElem_append_left (by omega)]
            exact helem (Hg2.out i (by omega) (by omega))
          · obtain rfl : i = vs.length := by omega
            have h1 : (acc ++ [x])[vs.length] = x := by
              simp [hgl]
            rw [h1]
            simp only [List.getElem_append_right (Nat.le_refl _), Nat.sub_self, List.getElem_cons_zero]
            exact helem2 (hu.mono (by have := hbel.size; omega))
        · intro i j hi hj k k' hij hk hk'
          rw [List.length_append, List.length_singleton] at hi hj
          have hip : i < vs.length := by omega
          rw [List.getElem_append_left hip] at hk
          by_cases hjp : j < vs.length
          · rw [List.getElem_append_left hjp] at hk'
            exact H3.out i j hip hjp k k' hij hk hk'
          · obtain rfl : j = vs.length := by omega
            simp only [List.getElem_append_right (Nat.le_refl _), Nat.sub_self, List.getElem_cons_zero] at hk'
            have h3 := ((Hg2.out i hip (by omega)).lt k hk).2
            have h4 := (hu.lt k' hk').1
            omega
        · rw [List.length_append, List.length_singleton]; have := Hlt.out; omega
        · rw [List.length_append, List.length_singleton]
          exact Hend.out
    · have hne : ((xe : Int) != 0) = true := by rw [bne_iff_ne]; omega
      gi_wp2
      refine ⟨(keepsFrom_set _ _ _).trans (keepsFrom_set _ _ _), rfl, 7, x4, Hst1.out he, by decide, ⟨?_, ?_, ?_⟩, (hbel.setCell (p := ⟨w.heap.size, 0, none⟩) (by dsimp only; omega) _).setCell (p := ⟨w.heap.size + 1, 0, none⟩) (by dsimp only; omega) _⟩
      · exact (b2.set_ 0 _).far (by dsimp only; omega) _
      · exact (b3.far (by dsimp only; omega) _).set_ 0 _
      · exact (b4.far (by dsimp only; omega) _).far (by dsimp only; omega) _
  case done =>
    rintro D xs W hD hS ⟨x4, hbox, hgot, hbel⟩ hK
    obtain ⟨vs, acc, hg1, hgl, hgn, hg2, hg3, hg4, hg5⟩ := hgot
    rw [hS, List.drop_length] at hg5
    obtain ⟨b2, b3, b4⟩ := hbox
    have c2 := b2.cell 0
    have c3 := b3.cell 0
    have c4 := b4.cell 0
    have z2 := b2.frozen 0
    have z3 := b3.frozen 0
    simp only [List.getElem?_toArray, List.getElem?_cons_zero] at c2 c3 c4
    have hvl : vs.length = xs.length := hgl.trans hgn
    obtain ⟨A4, n4, hx4, hn4, hm4, hr4⟩ := hg1.form
    rw [hvl] at hx4 hn4
    subst hx4
    have H5 := Lib.hid hg5
    have HS := Lib.hid hS
    have H3 := Lib.hid hg3
    have Hg2 := Lib.hid hg2
    clear hr4 hI0 hg4 hg5 hS hg3 hg2
    have hKd := (keepsFrom_set (w := W.setCell ⟨w.heap.size, 0, none⟩ (.slice A4 xs.length n4)) (B := w1.heap.size) (w.heap.size + 1) 0 (.int .i64 0)).same D _ hD ((keepsFrom_set (w := W) (B := w1.heap.size) (w.heap.size) 0 (.slice A4 xs.length n4)).same D _ hD hK rfl) rfl
    gi_wp2
    refine ⟨by simp, .inl ⟨_, _, rfl, run_takeDeferred hKd, ?_⟩⟩
    have hoth : ∀ r, some D = some r → ∃ o : Obj, ((W.setCell ⟨w.heap.size, 0, none⟩ (.slice A4 xs.length n4)).setCell ⟨w.heap.size + 1, 0, none⟩ (.int .i64 0)).heap[r]? = some o ∧ o.isCells = false := fun r e => by cases e; exact ⟨_, hKd, rfl⟩
    have hg := grownBy_putObj' ((W.setCell ⟨w.heap.size, 0, none⟩ (.slice A4 xs.length n4)).setCell ⟨w.heap.size + 1, 0, none⟩ (.int .i64 0)) D (.deferred none)
    have r4 := (((b2.set_ 0 (.slice A4 xs.length n4)).far (p := ⟨w.heap.size + 1, 0, none⟩) (by dsimp only; omega) (.int .i64 0)).other hg hoth).cell 0
    have r5 := (((b3.far (p := ⟨w.heap.size, 0, none⟩) (by dsimp only; omega) (.slice A4 xs.length n4)).set_ 0 (.int .i64 0)).other hg hoth).cell 0
    have hfar : ∀ {base : Nat} {e : TypeId} {u : Value} {ys : List Value}, Own1 W base e u ys → (∀ k, u.ownBlock = some k → k ≠ w.heap.size ∧ k ≠ w.heap.size + 1) → Own1 (((W.setCell ⟨w.heap.size, 0, none⟩ (.slice A4 xs.length n4)).setCell ⟨w.heap.size + 1, 0, none⟩ (.int .i64 0)).putObj D (.deferred none)) base e u ys := fun ho hne =>
      (ho.keep (w' := (W.setCell ⟨w.heap.size, 0, none⟩ (.slice A4 xs.length n4)).setCell ⟨w.heap.size + 1, 0, none⟩ (.int .i64 0)) fun k hk => (Below.heap_setCell _ _ _ k (by have := (hne k hk).2; exact this)).trans (Below.heap_setCell _ _ _ k (by have := (hne k hk).1; exact this))).other hg hoth
    have hbelp : Below w.heap.size w (((W.setCell ⟨w.heap.size, 0, none⟩ (.slice A4 xs.length n4)).setCell ⟨w.heap.size + 1, 0, none⟩ (.int .i64 0)).putObj D (.deferred none)) :=
      ((hbel.setCell (p := ⟨w.heap.size, 0, none⟩) (by dsimp only; omega) _).setCell (p := ⟨w.heap.size + 1, 0, none⟩) (by dsimp only; omega) _).grown hg (by have := hbel.size; simp [World.setCell]; omega) (fun k e => by cases e; omega)
    have H5' : recsOf l = (acc, 0) := H5.out
    refine ⟨.tuple #[.slice A4 xs.length n4, .int .i64 0], by simp [results, Tryz.f36, go_sem, r4, r5], .slice A4 xs.length n4, ?_, ?_, hbelp⟩
    · rw [H5']; rfl
    · rw [H5']
      refine ⟨vs, (hfar hg1 fun k hk => ?_).mono (by omega), hgl, ?_, H3.out⟩
      · have := (hg1.lt k hk).1; omega
      · intro i hi hi'
        refine (hfar (Hg2.out i hi hi') fun k hk => ?_).mono (by omega)
        have := ((Hg2.out i hi hi').lt k hk).1; omega
  case stop =>
    rintro D c xs W hD ⟨rfl, e, x4, h1, _, ⟨b2, b3, b4⟩, hbel⟩ hK
    gi_wp2
    refine ⟨by simp, .inl ⟨_, _, rfl, run_takeDeferred hK, ?_⟩⟩
    have hoth : ∀ r, some D = some r → ∃ o : Obj, W.heap[r]? = some o ∧ o.isCells = false := fun r e => by cases e; exact ⟨_, hK, rfl⟩
    have hg := grownBy_putObj' W D (.deferred none)
    have r4 := (b2.other hg hoth).cell 0
    have r5 := (b3.other hg hoth).cell 0
    refine ⟨.tuple #[.slice none 0 0, .int .i64 (e : Int)], by simp [results, Tryz.f36, go_sem, r4, r5], .slice none 0 0, ?_, ?_, hbel.grown hg (by have := hbel.size; omega) (fun k e => by cases e; omega)⟩
    · rw [h1]
    · rw [h1]
      exact ⟨[], Own1.nil _ _ _, rfl, fun i hi => by simp at hi, fun i j hi => by simp at hi⟩
end Go.Proofs.YtdmbmkjiffhbcaaGreat

namespace Go.Proofs.YtdmbmkjiffhbcaaGreat

/-- The piece with that number. -/
def pieceB (l : List UInt8) (k : Nat) : List UInt8 := (l.drop (256 * k)).take 256
/-- The device behind so many writes, and the first error. -/
def wrR (D : Dev) (st : Nat) (l : List UInt8) : Nat → Dev × Int
  | 0 => (D, 0)
  | k + 1 => if (wrR D st l k).2 ≠ 0 then wrR D st l k else (wrR D st l k).1.put ((st + k : Nat) : Int) (wholeB (pieceB l k))
theorem wrR_stop (D : Dev) (st : Nat) (l : List UInt8) (k m : Nat) (h : (wrR D st l k).2 ≠ 0) (hm : k ≤ m) : wrR D st l m = wrR D st l k := by
  induction m with
  | zero => obtain rfl : k = 0 := by omega
            rfl
  | succ m ih =>
    by_cases e : k = m + 1
    · rw [e]
    · have h2 := ih (by omega)
      show (if (wrR D st l m).2 ≠ 0 then wrR D st l m else _) = _
      rw [h2, if_pos h]
theorem wrR_next (D : Dev) (st : Nat) (l : List UInt8) (k : Nat) (h : (wrR D st l k).2 = 0) : wrR D st l (k + 1) = (wrR D st l k).1.put ((st + k : Nat) : Int) (wholeB (pieceB l k)) := by
  show (if (wrR D st l k).2 ≠ 0 then wrR D st l k else _) = _
  rw [h, if_neg (by decide)]
theorem wrR_few {D : Dev} {m : Nat} (h : D.Few m) (st : Nat) (l : List UInt8) (k : Nat) : (wrR D st l k).1.Few (m + k) := by
  induction k with
  | zero => exact h
  | succ k ih =>
    show (if (wrR D st l k).2 ≠ 0 then wrR D st l k else _).1.Few _
    split
    · exact ih.mono (by omega)
    · exact put_few ih _ _
theorem wrR_length (D : Dev) (st : Nat) (l : List UInt8) (k : Nat) : (wrR D st l k).1.sure.length = D.sure.length := by
  induction k with
  | zero => rfl
  | succ k ih =>
    show (if (wrR D st l k).2 ≠ 0 then wrR D st l k else _).1.sure.length = _
    split
    · exact ih
    · exact (put_length _ _ _).trans ih
theorem wrR_wf {D : Dev} (h : D.Wf) (st : Nat) (l : List UInt8) (k : Nat) : (wrR D st l k).1.Wf := by
  induction k with
  | zero => exact h
  | succ k ih =>
    show (if (wrR D st l k).2 ≠ 0 then wrR D st l k else _).1.Wf
    split
    · exact ih
    · exact put_wf ih _ _
/-- All that is laid behind what is in use. -/
def laidB (D : Dev) (s u : Nat) (b : List UInt8) : List UInt8 := useB D s u (u / 256) ++ b
/-- The sectors are written. -/
def sectD (D : Dev) (s u : Nat) (b : List UInt8) : Dev × Int := wrR D (2 + s * sideN D + u / 256) (laidB D s u b) (secs (u - u / 256 * 256 + b.length))
/-- store. -/
def storeD (D : Dev) (s u : Nat) (b : List UInt8) (n' s' u' : Nat) : Dev × Int :=
  if (sectD D s u b).2 ≠ 0 then sectD D s u b else if (sectD D s u b).1.barrier.2 ≠ 0 then (sectD D s u b).1.barrier else tellD (sectD D s u b).1.barrier.1 n' s' u'
theorem put_off (D : Dev) (h : D.off = true) (i : Int) (x : List UInt8) : D.put i x = (D, 6) := by
  have hy : D.why i = 6 := by unfold Dev.why; rw [if_pos h]
  unfold Dev.put
  rw [if_pos (by rw [hy]; decide), hy]
theorem barrier_off (D : Dev) (h : D.off = true) : D.barrier = (D, 6) := by unfold Dev.barrier; rw [if_pos h]
theorem wrR_off (D : Dev) (h : D.off = true) (st : Nat) (l : List UInt8) (k : Nat) : wrR D st l k = (D, if k = 0 then 0 else 6) := by
  induction k with
  | zero => rfl
  | succ k ih =>
    by_cases hk : k = 0
    · subst hk
      rw [wrR_next D st l 0 rfl]
      exact put_off D h _ _
    · rw [wrR_stop D st l k (k + 1) (by rw [ih, if_neg hk]; simp) (by omega), ih, if_neg hk, if_neg (by omega)]
theorem storeD_off (D : Dev) (h : D.off = true) (s u : Nat) (b : List UInt8) (n' s' u' : Nat) : storeD D s u b n' s' u' = (D, 6) := by
  unfold storeD sectD
  rw [wrR_off D h]
  by_cases hk : secs (u - u / 256 * 256 + b.length) = 0
  · rw [if_pos hk, if_neg (by simp)]
    show (if D.barrier.2 ≠ 0 then D.barrier else _) = _
    rw [barrier_off D h, if_pos (by simp)]
  · rw [if_neg hk, if_pos (by simp)]
theorem tellD_few {D : Dev} {m : Nat} (h : D.Few m) (n s u : Nat) : (tellD D n s u).1.Few (m + 2) := by
  have hp := put_few h ((n % 2 : Nat) : Int) (tallyB n s u)
  unfold tellD
  split
  · exact hp.mono (by omega)
  · exact barrier_few hp
theorem tellD_length (D : Dev) (n s u : Nat) : (tellD D n s u).1.sure.length = D.sure.length := by
  unfold tellD
  split
  · exact put_length _ _ _
  · exact (barrier_length _).trans (put_length _ _ _)
theorem storeD_few {D : Dev} {m : Nat} (h : D.Few m) (s u : Nat) (b : List UInt8) (n' s' u' : Nat) : (storeD D s u b n' s' u').1.Few (m + secs (u - u / 256 * 256 + b.length) + 3) := by
  have h1 : (sectD D s u b).1.Few _ := wrR_few h _ _ _
  unfold storeD
  split
  · exact h1.mono (by omega)
  · split
    · exact (barrier_few h1).mono (by omega)
    · exact (tellD_few (barrier_few h1) _ _ _).mono (by omega)
theorem storeD_length (D : Dev) (s u : Nat) (b : List UInt8) (n' s' u' : Nat) : (storeD D s u b n' s' u').1.sure.length = D.sure.length := by
  have h1 : (sectD D s u b).1.sure.length = _ := wrR_length D _ _ _
  unfold storeD
  split
  · exact h1
  · split
    · exact (barrier_length _).trans h1
    · exact (tellD_length _ _ _ _).trans ((barrier_length _).trans h1)
end Go.Proofs.YtdmbmkjiffhbcaaGreat

namespace Go.Proofs.YtdmbmkjiffhbcaaGreat

/-- Records are put behind the bytes that a tally counts. -/
def putJ (J : JM) (D : Dev) (n s u cnt : Nat) (L : List (List UInt8)) : (JM × Dev) × Int :=
  if n = 4611686018427387904 then ((J, D), 5)
  else if sideN D * 256 - u < (recsB L).length then ((J, D), 5)
  else if (storeD D s u (recsB L) (n + 1) s (u + (recsB L).length)).2 ≠ 0 then (({ J with broken := true }, (storeD D s u (recsB L) (n + 1) s (u + (recsB L).length)).1), (storeD D s u (recsB L) (n + 1) s (u + (recsB L).length)).2)
  else ((⟨n + 1, s, u + (recsB L).length, cnt + L.length, J.broken⟩, (storeD D s u (recsB L) (n + 1) s (u + (recsB L).length)).1), 0)
def fewLong (L : List (List UInt8)) : Prop := ∀ r ∈ L, r.length ≤ 65531
instance (L : List (List UInt8)) : Decidable (fewLong L) := inferInstanceAs (Decidable (∀ r ∈ L, r.length ≤ 65531))
def addJ (J : JM) (D : Dev) (L : List (List UInt8)) : (JM × Dev) × Int :=
  if J.broken then ((J, D), 3) else if ¬ fewLong L then ((J, D), 4) else if L = [] then ((J, D), 0) else putJ J D J.number J.side J.used J.count L
def repJ (J : JM) (D : Dev) (L : List (List UInt8)) : (JM × Dev) × Int :=
  if J.broken then ((J, D), 3) else if ¬ fewLong L then ((J, D), 4) else putJ J D J.number (1 - J.side) 0 0 L
def noJ : JM × List (List UInt8) := (⟨0, 0, 0, 0, true⟩, [])
/-- A device is opened: the device behind it and the error; the journal and its records. -/
def openM (D : Dev) : (Dev × Int) × (JM × List (List UInt8)) :=
  if D.sure.length < 6 then ((D, 1), noJ)
  else if D.off then ((D, 6), noJ)
  else if (curT D).1 = 0 then (if (tellD D 1 0 0).2 ≠ 0 then (tellD D 1 0 0, noJ) else (((tellD D 1 0 0).1, 0), (⟨1, 0, 0, 0, false⟩, [])))
  else if (recsOf (useB D (curT D).2.1 (curT D).2.2 0)).2 ≠ 0 then ((D, (recsOf (useB D (curT D).2.1 (curT D).2.2 0)).2), noJ)
  else ((D, 0), (⟨(curT D).1, (curT D).2.1, (curT D).2.2, (recsOf (useB D (curT D).2.1 (curT D).2.2 0)).1.length, false⟩, (recsOf (useB D (curT D).2.1 (curT D).2.2 0)).1))

theorem recsB_count (L : List (List UInt8)) : 5 * L.length ≤ (recsB L).length := by
  induction L with
  | nil => exact Nat.zero_le _
  | cons r L ih =>
    have h1 := (recB_length r).1
    have h2 : (recsB (r :: L)).length = (recB r).length + (recsB L).length := by
      show (recB r ++ recsB L).length = _
      rw [List.length_append]
    rw [h2, List.length_cons]
    omega
theorem asTally_ok (b : List UInt8) (size : Nat) : (asTally b size).1 ≤ 4611686018427387904 ∧ (asTally b size).2.1 ≤ 1 ∧ (asTally b size).2.2 ≤ size := by
  unfold asTally
  split
  · exact ⟨Nat.zero_le _, Nat.zero_le _, Nat.zero_le _⟩
  · rename_i h
    split
    · refine ⟨?_, ?_, ?_⟩ <;> dsimp only <;> omega
    · exact ⟨Nat.zero_le _, Nat.zero_le _, Nat.zero_le _⟩
theorem curK_ok (D : Dev) (k : Nat) : (curK D k).1 ≤ 4611686018427387904 ∧ (curK D k).2.1 ≤ 1 ∧ (curK D k).2.2 ≤ sideN D * 256 := by
  induction k with
  | zero => exact ⟨Nat.zero_le _, Nat.zero_le _, Nat.zero_le _⟩
  | succ k ih =>
    show (if (curK D k).1 < (asTally (D.now k) (sideN D * 256)).1 then asTally (D.now k) (sideN D * 256) else curK D k).1 ≤ _ ∧ (if (curK D k).1 < (asTally (D.now k) (sideN D * 256)).1 then asTally (D.now k) (sideN D * 256) else curK D k).2.1 ≤ _ ∧ (if (curK D k).1 < (asTally (D.now k) (sideN D * 256)).1 then asTally (D.now k) (sideN D * 256) else curK D k).2.2 ≤ _
    split
    · exact asTally_ok _ _
    · exact ih
/-- What a journal's numbers keep to. -/
structure JFit (J : JM) (D : Dev) : Prop where
  num : J.number ≤ 4611686018427387904
  side : J.side ≤ 1
  used : J.used ≤ sideN D * 256
  count : J.count ≤ 1099511627776
  big : 6 ≤ D.sure.length
theorem sideN_same {D D' : Dev} (h : D'.sure.length = D.sure.length) : sideN D' = sideN D := by unfold sideN; rw [h]
theorem putJ_length (J : JM) (D : Dev) (n s u cnt : Nat) (L : List (List UInt8)) : (putJ J D n s u cnt L).1.2.sure.length = D.sure.length := by
  unfold putJ
  split
  · rfl
  · split
    · rfl
    · split
      · exact storeD_length _ _ _ _ _ _ _
      · exact storeD_length _ _ _ _ _ _ _
theorem addJ_length (J : JM) (D : Dev) (L : List (List UInt8)) : (addJ J D L).1.2.sure.length = D.sure.length := by
  unfold addJ
  split
  · rfl
  · split
    · rfl
    · split
      · rfl
      · exact putJ_length _ _ _ _ _ _ _
theorem repJ_length (J : JM) (D : Dev) (L : List (List UInt8)) : (repJ J D L).1.2.sure.length = D.sure.length := by
  unfold repJ
  split
  · rfl
  · split
    · rfl
    · exact putJ_length _ _ _ _ _ _ _
theorem openM_length (D : Dev) : (openM D).1.1.sure.length = D.sure.length := by
  unfold openM
  split
  · rfl
  · split
    · rfl
    · split
      · split
        · exact tellD_length _ _ _ _
        · exact tellD_length _ _ _ _
      · split
        · rfl
        · rfl
end Go.Proofs.YtdmbmkjiffhbcaaGreat

namespace Go.Proofs.YtdmbmkjiffhbcaaGreat
open Go.RowKit
set_option maxRecDepth 100000

/-- append onto a slice that is full: its cells, and the new ones behind them; what was there stays. -/
theorem run_app_full {P : Program} (w : World) {t ty e : TypeId} {bytes : Nat} (het : ElemT P t e bytes) {ok ok2 : Nat → Prop} {A B : Option Addr} {c m k : Nat} {olds news : List Value} (hm : olds.length = m) (hk : news.length = k)
    (ho : Rd w ok A olds) (hn : Rd w ok2 B news) (h1 : ∀ u ∈ news, u.oneCell' = true) (h63 : m + k ≤ 140737488355328) (hbytes : (m + k) * bytes ≤ 140737488355328) :
    ∃ A' c' w', (Builtin.append_ #[t, t] ty #[.slice A m m, .slice B k c]).run P w = .ok (.slice A' (m + k) c') w' ∧ m + k ≤ c' ∧ c' ≤ maxLen ∧ Below w.heap.size w w' ∧ Rd w' (fun q => ok q ∨ w.heap.size ≤ q) A' (olds ++ news) := by
  obtain ⟨ht, i, z, hi, hz, hz1, hz2, hz3⟩ := het
  have hmx : m + k ≤ maxLen := by unfold maxLen; omega
  by_cases h0 : news = []
  · subst h0
    have hk0 : k = 0 := by simpa using hk.symm
    subst hk0
    have hs : Src P i.size t (.slice B 0 c) 0 [] w := by
      cases B with
      | none => exact Src.ofNil w ht c
      | some ad => exact Src.ofSlice w ht ad 0 c [] (by simp) (by simp) (by simp)
    refine ⟨A, m, w, run_append_nothing w t t ty e i ht hi A m m (Nat.le_refl _) _ hs, Nat.le_refl _, by omega, Below.refl _ _, ?_⟩
    rw [List.append_nil]
    exact ho.weaken fun _ h => .inl h
  · obtain ⟨ad, rfl, _, hc⟩ := hn h0
    have hk0 : 0 < k := by
      rw [← hk]
      exact List.length_pos_iff.2 h0
    have hs : Src P i.size t (.slice (some ad) k c) k news w := Src.ofSlice w ht ad k c news (by rw [hz1, Nat.mul_one]; exact hk) hc h1
    have hold : (Builtin.firstCells i.size m (.slice A m m)).run P w.drew = .ok olds.toArray w.drew := by
      by_cases h2 : olds = []
      · subst h2
        have hm0 : m = 0 := by simpa using hm.symm
        subst hm0
        cases A with
        | none => exact run_firstCells_none w.drew i.size 0 0 0
        | some a => exact run_firstCells_some w.drew i.size 0 a 0 0 [] (by simp) (by simp)
      · obtain ⟨a, rfl, _, hc2⟩ := ho h2
        exact run_firstCells_some w.drew i.size m a m m olds (by rw [hz1, Nat.mul_one]; exact hm) (by simpa using hc2)
    have hrun := run_append_grow_src (P := P) w t t ty e i z ht hi hz A m m olds hold _ k news hs (by omega) (by omega) (growslice_fits (by omega) (by rw [hz2]; exact hbytes))
    refine ⟨_, _, _, hrun, grownCap_ge w (m + k) m e, grownCap_le_maxLen w (m + k) m e hmx, ((Below.refl w.heap.size w).drew).alloc (Nat.le_refl _) _, ?_⟩
    have hr := (rd_of_row (row_new w.drew (.cells ((olds ++ news).toArray ++ Builtin.zeroCells z.cells (grownCap w (m + k) m e - (m + k))) e)) (fun q => ok q ∨ w.heap.size ≤ q) (.inr (Nat.le_refl _))).take (k := (olds ++ news).length)
    rw [show ((olds ++ news).toArray ++ Builtin.zeroCells z.cells (grownCap w (m + k) m e - (m + k))).toList = (olds ++ news) ++ (Builtin.zeroCells z.cells (grownCap w (m + k) m e - (m + k))).toList by simp, List.take_left' rfl] at hr
    exact hr
theorem wpListIn_app_full {F : Fence} {n : Nat} {P : Program} (w : World) {t e : TypeId} {bytes : Nat} (het : ElemT P t e bytes) {ops : Array Oper} {rest : List Oper} {o : Oper} {a : Act} {Q : Exit → Act → World → Prop} (hgd : o.guard = none) (s x : Operand)
    (hop : o.op = .call { callee := .builtin .append, args := #[s, x], argTypes := #[t, t] })
    {ok ok2 : Nat → Prop} {A B : Option Addr} {c m k : Nat} {olds news : List Value} (hs : a.eval s = .slice A m m) (hx : a.eval x = .slice B k c) (hm : olds.length = m) (hk : news.length = k)
    (ho : Rd w ok A olds) (hn : Rd w ok2 B news) (h1 : ∀ u ∈ news, u.oneCell' = true) (h63 : m + k ≤ 140737488355328) (hbytes : (m + k) * bytes ≤ 140737488355328)
    (h : ∀ A' c' w', m + k ≤ c' → c' ≤ maxLen → Below w.heap.size w w' → Rd w' (fun q => ok q ∨ w.heap.size ≤ q) A' (olds ++ news) → wpListIn F n P ops Q rest (a.put o.dst (.slice A' (m + k) c')) w') :
    wpListIn F n P ops Q (o :: rest) a w := by
  obtain ⟨A', c', w', hrun, h2, h3, h4, h5⟩ := run_app_full (P := P) w (ty := o.type) (c := c) het hm hk ho hn h1 h63 hbytes
  refine wpListIn_plain hgd fun K hK' => ?_
  unfold Oper.wpIn
  refine ⟨?_, ?_⟩
  · simp [Oper.about, hop, resolve, Target.leads, Sem.run_pure]
  · rw [Oper.semAt_plain F _ _ (by rw [hop]; intro c hc'; cases hc')]
    simp only [execOp, hop, resolve, invoke, builtin, Sem.run_bind, Sem.run_pure, Result.andThen_ok, List.map_toArray, List.map_cons, List.map_nil, hs, hx, hrun]
    exact hK' _ _ (h A' c' w' h2 h3 h4 h5)

theorem OwnK.cells_at {w : World} {base : Nat} {e : TypeId} {k n : Nat} {v : Value} {xs : List Value} (h : OwnK w base e k v n xs) : ∀ j, v.ownBlock = some j → ∃ c t fz, w.heap[j]? = some (.cells c t fz) := fun j hj => by
  unfold OwnK World.ownsRow at h
  rcases h.2 with ⟨rfl, _⟩ | ⟨g', cap, cur, rfl, _, hh, _⟩
  · simp [Value.ownBlock] at hj
  · simp [Value.ownBlock] at hj
    subst hj
    exact ⟨_, _, _, hh⟩
/-- Of a device's footprint all blocks may be taken to be of cells. -/
theorem DevAt.tight {w : World} {base : Nat} {F : Nat → Prop} {g : Nat} {D : Dev} (h : DevAt w base F g D) :
    ∃ F2 : Nat → Prop, (∀ k, F2 k → F k) ∧ DevAt w base F2 g D ∧ ∀ k, F2 k → ∃ c t fz, w.heap[k]? = some (.cells c t fz) := by
  obtain ⟨gs, gl, vl, vp, n, hin, hn⟩ := h
  refine ⟨fun k => F k ∧ ∃ c t fz, w.heap[k]? = some (.cells c t fz), fun _ h => h.1, ⟨gs, gl, vl, vp, n, ⟨hin.blk, hin.sure, hin.last, hin.ne, hin.loose, ?_, ⟨hin.fg, _, _, _, hin.blk⟩, ⟨hin.fs, _, _, _, hin.sure⟩, ⟨hin.fl, _, _, _, hin.last⟩, fun k hk => ⟨hin.fv k hk, hin.loose.cells_at k hk⟩, fun k hk => hin.low k hk.1, hin.len, hin.wf⟩, hn⟩, fun _ h => h.2⟩
  rcases hin.plan with h | ⟨h0, h1, gp, vk, e, hf, hb, hfk, hblk, hown⟩
  · exact .inl h
  · refine .inr ⟨h0, h1, gp, vk, e, ⟨hf, _, _, _, hblk⟩, hb, fun k hk => ⟨hfk k hk, ?_⟩, hblk, hown⟩
    obtain ⟨xs, ho, _⟩ := hown
    exact ho.cells_at k hk
theorem Fr.other {F F' : Nat → Prop} {w w' w2 : World} {row : Option Nat} (h : Fr F F' w w') (hg : w'.grownBy w2 row) (hr : ∀ k, row = some k → w.heap.size ≤ k) : Fr F F' w w2 :=
  ⟨hg.os.trans h.os, hg.tape.trans h.tape, hg.output.trans h.output, Nat.le_trans h.size hg.size, fun k hk hF => ⟨(h.block k hk hF).1, (hg.block k (Nat.lt_of_lt_of_le hk h.size) fun e => by have := hr k e.symm; omega).trans (h.block k hk hF).2⟩⟩
theorem DevAt.other {w w' : World} {base : Nat} {F : Nat → Prop} {g : Nat} {D : Dev} {row : Option Nat} (h : DevAt w base F g D) (hc : ∀ k, F k → ∃ c t fz, w.heap[k]? = some (.cells c t fz)) (hg : w.grownBy w' row) (hr : ∀ r, row = some r → ∃ o : Obj, w.heap[r]? = some o ∧ o.isCells = false) :
    DevAt w' base F g D ∧ ∀ k, F k → ∃ c t fz, w'.heap[k]? = some (.cells c t fz) := by
  have hk : ∀ k, F k → w'.heap[k]? = w.heap[k]? := fun k hF => hg.block k (h.low k hF).2 fun e => by
    obtain ⟨o, ho, hoc⟩ := hr k e.symm
    obtain ⟨c, t, fz, hx⟩ := hc k hF
    rw [hx] at ho
    cases ho
    cases hoc
  refine ⟨h.keep hk hg.size, fun k hF => ?_⟩
  obtain ⟨c, t, fz, hx⟩ := hc k hF
  exact ⟨c, t, fz, (hk k hF).trans hx⟩
end Go.Proofs.YtdmbmkjiffhbcaaGreat

namespace Go.Proofs.YtdmbmkjiffhbcaaGreat
open Go.RowKit Go.Shelf
set_option maxRecDepth 100000
attribute [local go_sem] Oper.semAt_some

/-- What is known of a piece as it is yielded. -/
def chunkX (ok : Nat → Prop) (l : List UInt8) (pre : List Value) (x : Value) (_ W : World) : Prop :=
  256 * pre.length < l.length ∧ IsB W ok x ((l.drop (256 * pre.length)).take 256)
theorem chunkX_own {B : Nat} (ok : Nat → Prop) (hok : ∀ k, ok k → k < B) (l : List UInt8) (pre : List Value) (x : Value) (W0 : World) : OwnFrom B (fun (_ : Unit) W => chunkX ok l pre x W0 W) := fun _ _ _ _ ⟨h1, h2⟩ hg hr =>
  ⟨h1, h2.frame fun k hk hlt => hg.block k hlt fun e => by have := (hr k e.symm).1; have := hok k hk; omega⟩
set_option maxHeartbeats 1000000 in
theorem chunk_iter (n : Nat) (ok keep : Nat → Prop) (hok : ∀ k, ok k → keep k) (l : List UInt8) (B1 B2 : Nat) (hB1 : keep B1) (hB2 : keep B2) (v0 : Value) (w : World) (hb1 : w.cell? ⟨B1, 0, none⟩ = some v0) (hb2 : w.cell? ⟨B2, 0, none⟩ = some (.int .i64 256)) (hv0 : IsB w ok v0 l) (hlen : l.length ≤ 1099511627776) :
    Iter n Tryz.prog 94 #[.pointer (some ⟨B1, 0, none⟩), .pointer (some ⟨B2, 0, none⟩)] (fun x : Value => #[x]) keep (chunkX ok l) (fun xs => l.length ≤ 256 * xs.length) (fun _ => True) w := by
  intro L J Jx W hk hsz hY h0
  have hbx1 : W.cell? ⟨B1, 0, none⟩ = some v0 := (World.cell?_of_block (w := w) (hk B1 hB1)).trans hb1
  have hbx2 : W.cell? ⟨B2, 0, none⟩ = some (.int .i64 256) := (World.cell?_of_block (w := w) (hk B2 hB2)).trans hb2
  have hv1 := hv0.frame (w' := W) fun k hk' _ => hk k (hok k hk')
  obtain ⟨A0, c0, rfl, hlc0, hcm0, hr0⟩ := hv1
  refine callsIn_of_wp Tryz.func94 rfl trivial ?_ rfl
  simp only [Tryz.ntmps94, List.size_toArray, List.length_cons, List.length_nil, Nat.reduceAdd, Nat.reduceSub, Array.replicate_succ, Array.replicate_zero, List.push_toArray, List.append_toArray, List.nil_append, List.cons_append]
  gi_wp2
  gi_loopw [4] (fun y wr => ∃ (pre : List Value) (W0 : World), y = .int .i64 ((256 * pre.length : Nat) : Int) ∧ Rd wr ok A0 (l.map u8) ∧ wr.cell? ⟨B1, 0, none⟩ = some (.slice A0 l.length c0) ∧ wr.cell? ⟨B2, 0, none⟩ = some (.int .i64 256) ∧
      J pre W0 ∧ Below W0.heap.size W0 wr ∧ 256 * pre.length < l.length + 256)
    (fun y _ => match y with | .int _ i => (l.length + 256 - i).toNat | _ => 0)
  case atStart =>
    exact ⟨[], W, rfl, hr0, hbx1, hbx2, h0, Below.refl _ _, by simp⟩
  case round =>
    obtain ⟨pre, W0, rfl, hr, hc1, hc2, hJ, hbel, hlt⟩ := hrel
    by_cases hend : l.length ≤ 256 * pre.length
    · have hlss : decide (((256 * pre.length : Nat) : Int) < (l.length : Int)) = false := by simp; omega
      gi_wp2
      go_end0
      exact ⟨⟨_, rfl⟩, .inl ⟨pre, W0, hend, hJ, hbel⟩⟩
    · have hlss : decide (((256 * pre.length : Nat) : Int) < (l.length : Int)) = true := by simp; omega
      have HY := Lib.hid hY
      have Hr := Lib.hid hr
      have Hj := Lib.hid hJ
      have Hb := Lib.hid (hbel.drew)
      clear hY hr hr0 hk h0 hJ hbel
      gi_wp2
      gi_region
      have hm : (min 256 ((l.length - 256 * pre.length : Nat) : Int) : Int) = ((min 256 (l.length - 256 * pre.length) : Nat) : Int) := by omega
      simp only [hm]
      obtain ⟨m, hmm⟩ : ∃ m, m = min 256 (l.length - 256 * pre.length) := ⟨_, rfl⟩
      simp only [← hmm]
      have hc1d : wr.drew.cell? ⟨B1, 0, none⟩ = some (.slice A0 l.length c0) := hc1
      have hX : chunkX ok l pre (.slice (Option.map (fun x => x.add (256 * pre.length)) A0) m m) W0 wr.drew := by
        refine ⟨by omega, A0.map (fun x => x.add (256 * pre.length)), m, ?_, ?_, ?_, ?_⟩
        · rw [List.length_take, List.length_drop, ← hmm]
        · rw [List.length_take, List.length_drop, ← hmm]; exact Nat.le_refl _
        · unfold maxLen; omega
        · have h1 := Hr.out.drop (k := 256 * pre.length) (cap := c0) (by rw [List.length_map]; exact hlc0)
          rw [if_neg (by omega)] at h1
          rw [List.map_take, List.map_drop]
          exact h1.take
      obtain ⟨fn, tmps, assign, body, hy', hR⟩ := HY.out pre _ W0 wr.drew Hj.out Hb.out hX
      replace hy' : (Instr.yield L #[.slice (Option.map (fun x => x.add (256 * pre.length)) A0) m m]).run Tryz.prog wr.drew = .ok (.round L fn tmps assign body) wr.drew := hy'
      have hi1 : 256 * pre.length + m ≤ c0 := by omega
      have Hmm := Lib.hid hmm
      have hm0 : 0 < m := by omega
      have hm1 : m ≤ 256 := by omega
      have hi2 : 256 * pre.length + m ≤ 1099511627776 := by omega
      have hi3 : 256 * pre.length + m - 256 * pre.length = m := by omega
      clear hX hmm hm
      gi_wp2
      refine ⟨Bool.noConfusion, hR.mono ?_⟩
      rintro e3 w3 (⟨rfl, hJ3, hs3, hk3⟩ | ⟨rfl, hJ3⟩)
      · have hr3 := Hr.out.frame (w' := w3) fun k hk' _ => hk3 k (hok k hk')
        have hd1 : w3.cell? ⟨B1, 0, none⟩ = some (.slice A0 l.length c0) := (World.cell?_of_block (w := wr.drew) (hk3 B1 hB1)).trans hc1
        have hd2 : w3.cell? ⟨B2, 0, none⟩ = some (.int .i64 256) := (World.cell?_of_block (w := wr.drew) (hk3 B2 hB2)).trans hc2
        gi_wp2
        go_roundw
        case rel =>
          refine ⟨_, w3, ?_, hr3, hd1, hd2, hJ3, Below.refl _ _, ?_⟩
          · rw [List.length_append, List.length_singleton]; congr 1
          · rw [List.length_append, List.length_singleton]; omega
        case measure => dsimp only; omega
      · gi_wp2
        refine bodyPost_ret (results_none rfl _ _ _) rfl ?_
        exact ⟨⟨_, rfl⟩, .inr ⟨_, w3, trivial, hJ3, Below.refl _ _⟩⟩
/-- Chunk in pieces of 256 bytes: two boxes, and nothing else. -/
theorem chunk_any (ok : Nat → Prop) (v : Value) (l : List UInt8) (w : World) (hv : IsB w ok v l) :
    Calls Tryz.prog 86 #[v, .int .i64 256] w fun e w' => e = .returned (.func (.func 94) #[] #[.pointer (some ⟨w.heap.size, 0, none⟩), .pointer (some ⟨w.heap.size + 1, 0, none⟩)]) ∧
      w'.cell? ⟨w.heap.size, 0, none⟩ = some v ∧ w'.cell? ⟨w.heap.size + 1, 0, none⟩ = some (.int .i64 256) ∧ w'.heap.size = w.heap.size + 1 + 1 ∧ IsB w' ok v l ∧ Below w.heap.size w w' := by
  go_enter Tryz.func86, Tryz.ntmps86
  obtain ⟨A, c, rfl, hc, hm, hr⟩ := hv
  go_wp2
  go_ret
  have hb : Below w.heap.size w ((w.alloc (.cells #[.slice A l.length c] 47)).alloc (.cells #[.int .i64 256] 3)) := ((Below.refl w.heap.size w).alloc (Nat.le_refl _) _).alloc (by simp) _
  refine ⟨rfl, by go_simp, by go_simp, by simp, ⟨A, c, rfl, hc, hm, hr.grow hb⟩, hb⟩
end Go.Proofs.YtdmbmkjiffhbcaaGreat
