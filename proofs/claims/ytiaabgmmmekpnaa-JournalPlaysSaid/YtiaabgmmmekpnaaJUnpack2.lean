/-
  Which records bytes are.
  journal.unpack.
-/
import Derived.Test.YtiaabgmmmekpnaaCodMath
import Derived.Test.YtiaabgmmmekpnaaJRead
import Derived.Test.YtiaabgmmmekpnaaOwnBB
import Derived.Test.YtiaabgmmmekpnaaOpen
namespace Go.Proofs.Ytiaabgmmmekpnaa
open Go.RowKit

/-- The record that a field is, if it is one. -/
def recF (f : List UInt8) : Option (List UInt8) := if 4 ≤ f.length ∧ sealedB f = true then some (f.take (f.length - 4)) else none
/-- What has been gathered, and the fields to come: the records, and the error. -/
def recsV (acc : List (List UInt8)) : List (List UInt8 × Nat) → List (List UInt8) × Nat
  | [] => (acc, 0)
  | (f, e) :: r => if e ≠ 0 then ([], 7) else match recF f with
    | none => ([], 9)
    | some x => recsV (acc ++ [x]) r
/-- The records that bytes are, and the error. -/
def recsOf (b : List UInt8) : List (List UInt8) × Nat := recsV [] (steps b)
theorem recF_seal (r : List UInt8) : recF (r ++ sumB r) = some r := by
  unfold recF
  have h1 : (r ++ sumB r).length = r.length + 4 := by rw [List.length_append, sumB_length]
  rw [if_pos ⟨by omega, sealedB_seal r⟩, h1, Nat.add_sub_cancel, List.take_left' rfl]
theorem recsV_seal (acc L : List (List UInt8)) : recsV acc (L.map fun r => (r ++ sumB r, 0)) = (acc ++ L, 0) := by
  induction L generalizing acc with
  | nil => simp [recsV]
  | cons r L ih =>
    rw [List.map_cons]
    show (if (0 : Nat) ≠ 0 then _ else match recF (r ++ sumB r) with | none => _ | some x => recsV (acc ++ [x]) _) = _
    rw [if_neg (by simp), recF_seal]
    show recsV (acc ++ [r]) _ = _
    rw [ih, List.append_assoc]
    rfl
theorem recsB_pack (L : List (List UInt8)) : recsB L = packB (L.map fun r => r ++ sumB r) := by
  induction L with
  | nil => rfl
  | cons r L ih =>
    rw [List.map_cons, packB_cons, ← ih]
    show recB r ++ recsB L = _
    rfl
theorem recsB_append (L M : List (List UInt8)) : recsB (L ++ M) = recsB L ++ recsB M := by unfold recsB; rw [List.flatMap_append]
/-- Records are found again. -/
theorem recsOf_recsB (L : List (List UInt8)) (h : ∀ r ∈ L, r.length ≤ 65531) : recsOf (recsB L) = (L, 0) := by
  unfold recsOf
  have hs := steps_packB (L.map fun r => r ++ sumB r) [] (by
    intro f hf
    obtain ⟨r, hr, rfl⟩ := List.mem_map.1 hf
    have := h r hr
    rw [List.length_append, sumB_length]
    omega)
  rw [List.append_nil, steps_nil, List.append_nil, List.map_map] at hs
  rw [recsB_pack, hs]
  exact recsV_seal [] L
theorem recsV_step {S : List (List UInt8 × Nat)} {acc : List (List UInt8)} {k : Nat} {f : List UInt8} {e : Nat} (h : recsV [] S = recsV acc (S.drop k)) (hk : S[k]? = some (f, e)) :
    (e ≠ 0 → recsV [] S = ([], 7)) ∧ (e = 0 → recF f = none → recsV [] S = ([], 9)) ∧ (∀ x, e = 0 → recF f = some x → recsV [] S = recsV (acc ++ [x]) (S.drop (k + 1))) := by
  have hd : S.drop k = (f, e) :: S.drop (k + 1) := by
    obtain ⟨hlt, he⟩ := List.getElem?_eq_some_iff.1 hk
    rw [List.drop_eq_getElem_cons hlt, he]
  rw [hd] at h
  refine ⟨fun he => ?_, fun he hn => ?_, fun x he hx => ?_⟩
  · rw [h]
    show (if e ≠ 0 then _ else _) = _
    rw [if_pos he]
  · rw [h]
    show (if e ≠ 0 then _ else match recF f with | none => _ | some x => recsV (acc ++ [x]) _) = _
    rw [if_neg (by simpa using he), hn]
  · rw [h]
    show (if e ≠ 0 then _ else match recF f with | none => _ | some x => recsV (acc ++ [x]) _) = _
    rw [if_neg (by simpa using he), hx]
end Go.Proofs.Ytiaabgmmmekpnaa

namespace Go.Proofs.Ytiaabgmmmekpnaa
open Go.RowKit Go.Shelf
set_option maxRecDepth 100000
attribute [local go_sem] Oper.semAt_some

theorem keepsFrom_below {B : Nat} {W W' : World} (hb : Below W.heap.size W W') : KeepsFrom B W W' :=
  ⟨hb.size, fun k _ _ hk _ => (hb.block k (Array.getElem?_eq_some_iff.1 hk).1).trans hk⟩

theorem steps_part (l : List UInt8) (x : List UInt8 × Nat) (hx : x ∈ steps l) : x.1.length ≤ l.length := by
  have h : ∀ (n : Nat) (b : List UInt8), x ∈ stepsN n b → x.1.length ≤ b.length := by
    intro n
    induction n with
    | zero => intro b h; simp [stepsN] at h
    | succ n ih =>
      intro b h
      unfold stepsN at h
      by_cases h0 : b = []
      · rw [if_pos h0] at h; simp at h
      · have hr := firstF_rest b h0
        have hp := firstF_part b
        rw [if_neg h0] at h
        split at h
        · rw [List.mem_singleton] at h
          subst h
          exact Nat.zero_le _
        · rcases List.mem_cons.1 h with rfl | h
          · exact hp
          · have := ih _ h
            omega
  exact h _ _ hx
/-- Open's answer, by the record that the field is. -/
theorem open_rec (ok : Nat → Prop) (v : Value) (f : List UInt8) (W : World) (hv : IsB W ok v f) (hl : f.length ≤ 1099511627776) :
    Calls Try.prog 59 #[v] W fun e w' => ((recF f = none ∧ ∃ er : Nat, er ≠ 0 ∧ e = .returned (.tuple #[.slice none 0 0, .int .i64 (er : Int)])) ∨
      (∃ x u, recF f = some x ∧ e = .returned (.tuple #[u, .int .i64 0]) ∧ Own1 w' W.heap.size 5 u (x.map u8))) ∧ Below W.heap.size W w' := by
  refine (open_any ok v f W hv hl).mono ?_
  rintro e w' ⟨h, hb⟩
  refine ⟨?_, hb⟩
  unfold recF
  split at h
  · exact .inl ⟨if_neg (by omega), 8, by decide, h⟩
  · split at h
    · rename_i h1 h2
      obtain ⟨u, h3, h4⟩ := h
      exact .inr ⟨_, u, if_pos ⟨by omega, h2⟩, h3, h4⟩
    · rename_i h1 h2
      exact .inl ⟨if_neg fun h => h2 h.2, 9, by decide, h⟩
/-- The boxes of unpack's variables. -/
def juBox (b : Nat) (x2 x3 x4 : Value) (W : World) : Prop :=
  Blk W b 44 #[x2] ∧ Blk W (b + 1) 26 #[x3] ∧ Blk W (b + 1 + 1) 44 #[x4]
/-- What has been gathered. -/
def juGot (b B1 : Nat) (l : List UInt8) (n : Nat) (x4 : Value) (W : World) : Prop :=
  ∃ (vs : List Value) (acc : List (List UInt8)), Own1 W B1 48 x4 vs ∧ vs.length = acc.length ∧ acc.length = n ∧
    (∀ (i : Nat) (h : i < vs.length) (h' : i < acc.length), Own1 W (b + 1 + 1 + 1) 5 vs[i] (acc[i].map u8)) ∧
    (∀ (i j : Nat) (hi : i < vs.length) (hj : j < vs.length) (k k' : Nat), i < j → vs[i].ownBlock = some k → vs[j].ownBlock = some k' → k < k') ∧
    n ≤ (steps l).length ∧ recsV [] (steps l) = recsV acc ((steps l).drop n)
def juI (w : World) (B1 : Nat) (l : List UInt8) (pre : List (Value × Nat)) (W : World) : Prop :=
  ∃ x4, juBox w.heap.size (.slice none 0 0) (.int .i64 0) x4 W ∧ juGot w.heap.size B1 l pre.length x4 W ∧ Below w.heap.size w W
def juX (w : World) (l : List UInt8) (c : Code) (_ : List (Value × Nat)) (W : World) : Prop :=
  c = .ret ∧ ∃ (e : Nat) (x4 : Value), recsOf l = ([], e) ∧ e ≠ 0 ∧ juBox w.heap.size (.slice none 0 0) (.int .i64 (e : Int)) x4 W ∧ Below w.heap.size w W
section
variable {w W W' : World} {row : Option Nat}
theorem juBox.other {b : Nat} {x2 x3 x4 : Value} (h : juBox b x2 x3 x4 W) (hg : W.grownBy W' row) (hr : ∀ r, row = some r → ∃ o : Obj, W.heap[r]? = some o ∧ o.isCells = false) : juBox b x2 x3 x4 W' :=
  ⟨h.1.other hg hr, h.2.1.other hg hr, h.2.2.other hg hr⟩
theorem juGot.other {b B1 : Nat} {l : List UInt8} {n : Nat} {x4 : Value} (h : juGot b B1 l n x4 W) (hg : W.grownBy W' row) (hr : ∀ r, row = some r → ∃ o : Obj, W.heap[r]? = some o ∧ o.isCells = false) : juGot b B1 l n x4 W' := by
  obtain ⟨vs, acc, h1, h2, h3, h4, h5⟩ := h
  exact ⟨vs, acc, h1.other hg hr, h2, h3, fun i hi hi' => (h4 i hi hi').other hg hr, h5⟩
theorem juI_own (B1 : Nat) (l : List UInt8) (B : Nat) (hB : w.heap.size ≤ B) : OwnFrom B (juI w B1 l) := fun _ _ _ _ ⟨x4, h1, h2, h3⟩ hg hr =>
  ⟨x4, h1.other hg fun r e => (hr r e).2, h2.other hg fun r e => (hr r e).2, h3.trans (below_of_grown hg h3.size fun k e => Nat.le_trans hB (hr k e).1)⟩
theorem juX_own (l : List UInt8) (B : Nat) (hB : w.heap.size ≤ B) (c : Code) : OwnFrom B (juX w l c) := fun _ _ _ _ ⟨h0, e, x4, h1, h2, h3, h4⟩ hg hr =>
  ⟨h0, e, x4, h1, h2, h3.other hg fun r e => (hr r e).2, h4.trans (below_of_grown hg h4.size fun k e => Nat.le_trans hB (hr k e).1)⟩
theorem fieldX_own' (l : List UInt8) (B : Nat) (pre : List (Value × Nat)) (x : Value × Nat) (W0 : World) : OwnFrom B (fun (_ : Unit) W => fieldX l pre x W0 W) := fun _ _ _ _ ⟨f, h1, h2⟩ hg hr =>
  ⟨f, h1, h2.other hg fun r e => (hr r e).2⟩
end

theorem junpack_any (ok : Nat → Prop) (v : Value) (l : List UInt8) (w : World) (hv : IsB w ok v l) (hl : l.length ≤ 1099511627776) :
    Calls Try.prog 35 #[v] w fun e w' => ∃ x, e = .returned (.tuple #[x, .int .i64 ((recsOf l).2 : Int)]) ∧ OwnBB w' w.heap.size x (recsOf l).1 ∧ Below w.heap.size w w' := by
  rw [← callsIn_wide (n := 9)]
  refine callsIn_of_wp_marks Try.func35 rfl trivial ?_ rfl
  simp only [Try.ntmps35, List.size_toArray, List.length_cons, List.length_nil, Nat.reduceAdd, Nat.reduceSub, Array.replicate_succ, Array.replicate_zero, List.push_toArray, List.append_toArray, List.nil_append, List.cons_append]
  have hb0 : Below w.heap.size w (((w.alloc (.cells #[.slice none 0 0] 44)).alloc (.cells #[.int .i64 0] 26)).alloc (.cells #[.slice none 0 0] 44)) := (((Below.refl w.heap.size w).alloc (Nat.le_refl _) _).alloc (by simp) _).alloc (by simp; omega) _
  have hv3 := hv.grow hb0
  gi_wp2_with (refine ⟨trivial, ?_⟩; gi_at_call 58; refine ((callsIn_wide (n := 8)).2 (fields_any ok v l _ hv3 hl)).mono ?_; rintro e1 w1 ⟨Bx, v', rfl, hx1, hx2, hx3, hx4, hb1⟩)
  have hsz1 : w.heap.size + 1 + 1 + 1 ≤ w1.heap.size := by have := hb1.size; simpa using this
  have hI0 : juI w w1.heap.size l [] w1 := by
    refine ⟨.slice none 0 0, ⟨?_, ?_, ?_⟩, ⟨[], [], Own1.nil _ _ _, rfl, rfl, fun i hi => by simp at hi, fun i j hi => by simp at hi, Nat.zero_le _, rfl⟩, ?_⟩
    · exact (((Blk.new w 44 #[.slice none 0 0]).alloc _).alloc _).grow hb1
    · exact Blk.grow (g := w.heap.size + 1) (by have := (Blk.new (w.alloc (.cells #[.slice none 0 0] 44)) 26 #[.int .i64 0]).alloc (.cells #[.slice none 0 0] 44); rwa [World.size_alloc] at this) hb1
    · exact Blk.grow (g := w.heap.size + 1 + 1) (by have := Blk.new ((w.alloc (.cells #[.slice none 0 0] 44)).alloc (.cells #[.int .i64 0] 26)) 44 #[.slice none 0 0]; rwa [World.size_alloc, World.size_alloc] at this) hb1
    · exact hb0.trans (hb1.mono (by simp; omega))
  refine wp_range (gf := 76) (lb := #[.pointer (some ⟨Bx, 0, none⟩)]) rfl (enters_of Try.func76 (by kernel_rfl) rfl)
    (fields_iter 8 _ (fun k => w.heap.size + 1 + 1 + 1 ≤ k ∧ k < w1.heap.size) ?hok l Bx ?hbx v' w1 hx3 hx4 hl) (fun k hk => hk.2) (fun pre x W0 => fieldX_own' l _ pre x W0) (fun _ => rfl)
    (juI w w1.heap.size l) (juX w l) (juI_own _ l _ (by omega)) (juX_own l _ (by omega)) hI0
    (fun x => { tmps := #[v, undef, .pointer (some ⟨w.heap.size, 0, none⟩), .pointer (some ⟨w.heap.size + 1, 0, none⟩), .pointer (some ⟨w.heap.size + 1 + 1, 0, none⟩), x.1, .int .i64 (x.2 : Int), undef, undef, v, .func (.func 76) #[] #[.pointer (some ⟨Bx, 0, none⟩)], x.1, .int .i64 (x.2 : Int), undef, undef, undef, undef, undef, undef, undef, undef, undef, undef, undef, undef, undef, undef], defers := [] }) ?assign ?body ?done ?stop
  case hok => intro k hk; simpa using hk
  case hbx => exact ⟨by simpa using hx1, hx2⟩
  case assign =>
    intro L x W K hK
    gi_wp2
    exact hK
  case body =>
    rintro L pre x W0 W hI1 hs01 hX ⟨x4, hbox, hgot, hbel⟩ hs2
    obtain ⟨f, hf, hxo⟩ := hX
    obtain ⟨vs, acc, hg1, hgl, hgn, hg2, hg3, hg4, hg5⟩ := hgot
    obtain ⟨hst1, hst2, hst3⟩ := recsV_step hg5 hf
    obtain ⟨b2, b3, b4⟩ := hbox
    have c2 := b2.cell 0
    have c3 := b3.cell 0
    have c4 := b4.cell 0
    have z2 := b2.frozen 0
    have z3 := b3.frozen 0
    have z4 := b4.frozen 0
    simp only [List.getElem?_toArray, List.getElem?_cons_zero] at c2 c3 c4
    obtain ⟨xv, xe⟩ := x
    have hfl : f.length ≤ 1099511627776 := Nat.le_trans (steps_part l _ (List.mem_of_getElem? hf)) hl
    have hlt := (List.getElem?_eq_some_iff.1 hf).1
    have hsl := steps_length l
    have Hst1 := Lib.hid hst1
    have Hst2 := Lib.hid hst2
    have Hst3 := Lib.hid hst3
    have HF := Lib.hid hf
    have Hg2 := Lib.hid hg2
    have H3 := Lib.hid hg3
    have Hlt := Lib.hid hlt
    have hpl : pre.length ≤ 1099511627776 := by omega
    have Hpl := Lib.hid hpl
    clear hf hst1 hst2 hst3 hg2 hg3 hg4 hg5 hI0 hI1 hlt hsl hpl
    by_cases he : xe = 0
    · subst he
      have HH := open_rec (fun k => xv.ownBlock = some k) xv f W hxo.isB hfl
      rcases hrec : recF f with _ | x
      · have HH' := HH.mono (R' := fun e w' => (∃ er : Nat, er ≠ 0 ∧ e = .returned (.tuple #[.slice none 0 0, .int .i64 (er : Int)])) ∧ Below W.heap.size W w') fun e w' h => ⟨h.1.elim (fun h => h.2) (fun ⟨_, _, h, _⟩ => by rw [hrec] at h; cases h), h.2⟩
        have hend := Hst2.out rfl hrec
        clear HH Hst1 Hst2 Hst3 HF Hg2 H3 Hlt hg1
        gi_wp2_with (refine ⟨trivial, ?_⟩; gi_at_call 59; refine (CallsIn.inRound _ ((callsIn_wide (n := 6)).2 HH')).mono ?_; rintro e2 w2 ⟨⟨er, her, rfl⟩, hb2⟩; have hner : ((er : Int) != 0) = true := (by rw [bne_iff_ne]; omega); have B2 := b2.grow hb2; have B3 := b3.grow hb2; have B4 := b4.grow hb2; have C2 := B2.cell 0; have C3 := B3.cell 0; have C4 := B4.cell 0; have Z2 := B2.frozen 0; have Z3 := B3.frozen 0; have Z4 := B4.frozen 0; simp only [List.getElem?_toArray, List.getElem?_cons_zero] at C2 C3 C4)
        have hbel2 : Below w.heap.size w w2 := hbel.trans (hb2.mono hbel.size)
        refine ⟨((keepsFrom_below hb2).trans (keepsFrom_set _ _ _)).trans (keepsFrom_set _ _ _), rfl, 9, x4, hend, by decide, ⟨?_, ?_, ?_⟩, (hbel2.setCell (p := ⟨w.heap.size, 0, none⟩) (by dsimp only; omega) _).setCell (p := ⟨w.heap.size + 1, 0, none⟩) (by dsimp only; omega) _⟩
        · exact (B2.set_ 0 _).far (by dsimp only; omega) _
        · exact (B3.far (by dsimp only; omega) _).set_ 0 _
        · exact (B4.far (by dsimp only; omega) _).far (by dsimp only; omega) _
      · have HH' := HH.mono (R' := fun e w' => (∃ u, e = .returned (.tuple #[u, .int .i64 0]) ∧ Own1 w' W.heap.size 5 u (x.map u8)) ∧ Below W.heap.size W w') fun e w' h => ⟨h.1.elim (fun h => by rw [hrec] at h; cases h.1) (fun ⟨x', u, h, h1, h2⟩ => by rw [hrec] at h; cases h; exact ⟨u, h1, h2⟩), h.2⟩
        have hend := Hst3.out x rfl hrec
        have Hend := Lib.hid hend
        clear HH Hst1 Hst2 Hst3 hend
        obtain ⟨A4, n4, hx4, hn4, hm4, hr4⟩ := hg1.form
        have hvl : vs.length = pre.length := hgl.trans hgn
        rw [hvl] at hx4 hn4
        subst hx4
        clear hr4
        gi_wp2_with (first | (refine ⟨trivial, ?_⟩; gi_at_call 59; refine (CallsIn.inRound _ ((callsIn_wide (n := 6)).2 HH')).mono ?_; rintro e2 w2 ⟨⟨u, rfl, hu⟩, hb2⟩; obtain ⟨Au, cu, hue, hcu, hmu, hru⟩ := hu.form; rw [List.length_map] at hue; subst hue; clear hru; have B2 := b2.grow hb2; have B3 := b3.grow hb2; have B4 := b4.grow hb2; have C2 := B2.cell 0; have C3 := B3.cell 0; have C4 := B4.cell 0; have Z2 := B2.frozen 0; have Z3 := B3.frozen 0; have Z4 := B4.frozen 0; simp only [List.getElem?_toArray, List.getElem?_cons_zero] at C2 C3 C4; have hg1' : Own1 w2 w1.heap.size 48 (.slice A4 pre.length n4) vs := hg1.keep fun k hk => hb2.block k (hg1.lt k hk).2) | (gi_at_builtin; refine wpListIn_app1_one _ elemBB rfl (.tmp 22) (.tmp 24) rfl w1.heap.size _ vs rfl hg1' (.slice Au x.length cu) _ rfl rfl ?_ ?_ ?_ ?_; rotate_right; intro v2 w3 hown2 hgr2 hat2; have b4' := (B4.alloc (.cells #[.slice Au x.length cu] 48)).grown hgr2 (hg1'.apart B4 (by decide)); have c4' := b4'.cell 0; have z4' := b4'.frozen 0; simp only [List.getElem?_toArray, List.getElem?_cons_zero] at c4'; obtain ⟨A2, n2, hv2, hn2, hm2, hr2⟩ := hown2.form; simp only [List.length_append, hvl, List.length_singleton] at hv2; subst hv2; clear hr2))
        case refine_1 => have := Hpl.out; omega
        case refine_2 => have := Hpl.out; omega
        case refine_3 => have := hs01; have := hb2.size; omega
        have hrow : ∀ k, Value.ownBlock (.slice A4 pre.length n4) = some k → w1.heap.size ≤ k ∧ ∃ c t fz, (w2.alloc (.cells #[.slice Au x.length cu] 48)).heap[k]? = some (.cells c t fz) := fun k hk => ⟨(hg1'.lt k hk).1, (hg1'.alloc _).cells_at k hk⟩
        have hbox2 : juBox w.heap.size (.slice none 0 0) (.int .i64 0) (Value.slice A2 (pre.length + 1) n2) (w3.setCell ⟨w.heap.size + 1 + 1, 0, none⟩ (Value.slice A2 (pre.length + 1) n2)) :=
          ⟨((B2.alloc _).grown hgr2 (hg1'.apart B2 (by decide))).far (by dsimp only; omega) _, ((B3.alloc _).grown hgr2 (hg1'.apart B3 (by decide))).far (by dsimp only; omega) _, b4'.set_ 0 _⟩
        have hbelw : Below w.heap.size w w2 := hbel.trans (hb2.mono hbel.size)
        have hbel2 : Below w.heap.size w w3 := (hbelw.alloc hbelw.size _).grown hgr2 (by simp; have := hbelw.size; omega) (fun k hk => by have := (hrow k hk).1; omega)
        have hfar : ∀ {base : Nat} {e : TypeId} {y : Value} {xs : List Value}, Own1 w3 base e y xs → e ≠ 44 → Own1 (w3.setCell ⟨w.heap.size + 1 + 1, 0, none⟩ (Value.slice A2 (pre.length + 1) n2)) base e y xs := fun ho hne =>
          ho.keep fun k hk => Below.heap_setCell _ _ _ k fun e => by have := ho.apart b4' hne; dsimp only at e; subst e; exact this hk
        have helem2 : ∀ {base : Nat} {y : Value} {xs : List Value}, Own1 w2 base 5 y xs → Own1 (w3.setCell ⟨w.heap.size + 1 + 1, 0, none⟩ (Value.slice A2 (pre.length + 1) n2)) base 5 y xs := fun ho =>
          hfar ((ho.alloc _).kept hgr2 (ho.apart' hg1' (by decide))) (by decide)
        have helem : ∀ {base : Nat} {y : Value} {xs : List Value}, Own1 W base 5 y xs → Own1 (w3.setCell ⟨w.heap.size + 1 + 1, 0, none⟩ (Value.slice A2 (pre.length + 1) n2)) base 5 y xs := fun ho =>
          helem2 (ho.keep fun k hk => hb2.block k (ho.lt k hk).2)
        have hb2s := hb2.size
        refine ⟨?_, ?_, _, hbox2, ⟨vs ++ [.slice Au x.length cu], acc ++ [x], ?_, ?_, ?_, ?_, ?_, ?_, ?_⟩, hbel2.setCell (by dsimp only; omega) _⟩
        · exact (((keepsFrom_below hb2).trans ((KeepsOthers.alloc w2 _).from _)).trans (keepsFrom_grown hgr2 fun k hk => (hrow k hk).2)).trans (keepsFrom_set _ _ _)
        · intro k hk
          rw [Below.heap_setCell _ _ _ k (by dsimp only; omega), hgr2.block k (by simp; omega) (fun e => by have := (hrow k e.symm).1; omega), Below.heap_alloc _ _ _ (by omega), hb2.block k (by omega)]
        · exact hfar hown2 (by decide)
        · rw [List.length_append, List.length_append, List.length_singleton, List.length_singleton, hgl]
        · rw [List.length_append, List.length_append, List.length_singleton, List.length_singleton, hgn]
        · intro i hi hi'
          rw [List.length_append, List.length_singleton] at hi
          by_cases hip : i < pre.length
          · rw [List.getElem_append_left (by omega), List.getElem_append_left (by omega)]
            exact helem (Hg2.out i (by omega) (by omega))
          · obtain rfl : i = vs.length := by omega
            have h1 : (acc ++ [x])[vs.length] = x := by
              simp [hgl]
            rw [h1]
            simp only [List.getElem_append_right (Nat.le_refl _), Nat.sub_self, List.getElem_cons_zero]
            exact helem2 (hu.mono (by have := hbel.size; omega))
        · intro i j hi hj k k' hij hk hk'
          rw [List.length_append, List.length_singleton] at hi hj
          have hip : i < vs.length := by omega
          rw [List.getElem_append_left hip] at hk
          by_cases hjp : j < vs.length
          · rw [List.getElem_append_left hjp] at hk'
            exact H3.out i j hip hjp k k' hij hk hk'
          · obtain rfl : j = vs.length := by omega
            simp only [List.getElem_append_right (Nat.le_refl _), Nat.sub_self, List.getElem_cons_zero] at hk'
            have h3 := ((Hg2.out i hip (by omega)).lt k hk).2
            have h4 := (hu.lt k' hk').1
            omega
        · rw [List.length_append, List.length_singleton]; have := Hlt.out; omega
        · rw [List.length_append, List.length_singleton]
          exact Hend.out
    · have hne : ((xe : Int) != 0) = true := by rw [bne_iff_ne]; omega
      gi_wp2
      refine ⟨(keepsFrom_set _ _ _).trans (keepsFrom_set _ _ _), rfl, 7, x4, Hst1.out he, by decide, ⟨?_, ?_, ?_⟩, (hbel.setCell (p := ⟨w.heap.size, 0, none⟩) (by dsimp only; omega) _).setCell (p := ⟨w.heap.size + 1, 0, none⟩) (by dsimp only; omega) _⟩
      · exact (b2.set_ 0 _).far (by dsimp only; omega) _
      · exact (b3.far (by dsimp only; omega) _).set_ 0 _
      · exact (b4.far (by dsimp only; omega) _).far (by dsimp only; omega) _
  case done =>
    rintro D xs W hD hS ⟨x4, hbox, hgot, hbel⟩ hK
    obtain ⟨vs, acc, hg1, hgl, hgn, hg2, hg3, hg4, hg5⟩ := hgot
    rw [hS, List.drop_length] at hg5
    obtain ⟨b2, b3, b4⟩ := hbox
    have c2 := b2.cell 0
    have c3 := b3.cell 0
    have c4 := b4.cell 0
    have z2 := b2.frozen 0
    have z3 := b3.frozen 0
    simp only [List.getElem?_toArray, List.getElem?_cons_zero] at c2 c3 c4
    have hvl : vs.length = xs.length := hgl.trans hgn
    obtain ⟨A4, n4, hx4, hn4, hm4, hr4⟩ := hg1.form
    rw [hvl] at hx4 hn4
    subst hx4
    have H5 := Lib.hid hg5
    have HS := Lib.hid hS
    have H3 := Lib.hid hg3
    have Hg2 := Lib.hid hg2
    clear hr4 hI0 hg4 hg5 hS hg3 hg2
    have hKd := (keepsFrom_set (w := W.setCell ⟨w.heap.size, 0, none⟩ (.slice A4 xs.length n4)) (B := w1.heap.size) (w.heap.size + 1) 0 (.int .i64 0)).same D _ hD ((keepsFrom_set (w := W) (B := w1.heap.size) (w.heap.size) 0 (.slice A4 xs.length n4)).same D _ hD hK rfl) rfl
    gi_wp2
    refine ⟨by simp, .inl ⟨_, _, rfl, run_takeDeferred hKd, ?_⟩⟩
    have hoth : ∀ r, some D = some r → ∃ o : Obj, ((W.setCell ⟨w.heap.size, 0, none⟩ (.slice A4 xs.length n4)).setCell ⟨w.heap.size + 1, 0, none⟩ (.int .i64 0)).heap[r]? = some o ∧ o.isCells = false := fun r e => by cases e; exact ⟨_, hKd, rfl⟩
    have hg := grownBy_putObj' ((W.setCell ⟨w.heap.size, 0, none⟩ (.slice A4 xs.length n4)).setCell ⟨w.heap.size + 1, 0, none⟩ (.int .i64 0)) D (.deferred none)
    have r4 := (((b2.set_ 0 (.slice A4 xs.length n4)).far (p := ⟨w.heap.size + 1, 0, none⟩) (by dsimp only; omega) (.int .i64 0)).other hg hoth).cell 0
    have r5 := (((b3.far (p := ⟨w.heap.size, 0, none⟩) (by dsimp only; omega) (.slice A4 xs.length n4)).set_ 0 (.int .i64 0)).other hg hoth).cell 0
    have hfar : ∀ {base : Nat} {e : TypeId} {u : Value} {ys : List Value}, Own1 W base e u ys → (∀ k, u.ownBlock = some k → k ≠ w.heap.size ∧ k ≠ w.heap.size + 1) → Own1 (((W.setCell ⟨w.heap.size, 0, none⟩ (.slice A4 xs.length n4)).setCell ⟨w.heap.size + 1, 0, none⟩ (.int .i64 0)).putObj D (.deferred none)) base e u ys := fun ho hne =>
      (ho.keep (w' := (W.setCell ⟨w.heap.size, 0, none⟩ (.slice A4 xs.length n4)).setCell ⟨w.heap.size + 1, 0, none⟩ (.int .i64 0)) fun k hk => (Below.heap_setCell _ _ _ k (by have := (hne k hk).2; exact this)).trans (Below.heap_setCell _ _ _ k (by have := (hne k hk).1; exact this))).other hg hoth
    have hbelp : Below w.heap.size w (((W.setCell ⟨w.heap.size, 0, none⟩ (.slice A4 xs.length n4)).setCell ⟨w.heap.size + 1, 0, none⟩ (.int .i64 0)).putObj D (.deferred none)) :=
      ((hbel.setCell (p := ⟨w.heap.size, 0, none⟩) (by dsimp only; omega) _).setCell (p := ⟨w.heap.size + 1, 0, none⟩) (by dsimp only; omega) _).grown hg (by have := hbel.size; simp [World.setCell]; omega) (fun k e => by cases e; omega)
    have H5' : recsOf l = (acc, 0) := H5.out
    refine ⟨.tuple #[.slice A4 xs.length n4, .int .i64 0], by simp [results, Try.f35, go_sem, r4, r5], .slice A4 xs.length n4, ?_, ?_, hbelp⟩
    · rw [H5']; rfl
    · rw [H5']
      refine ⟨vs, (hfar hg1 fun k hk => ?_).mono (by omega), hgl, ?_, H3.out⟩
      · have := (hg1.lt k hk).1; omega
      · intro i hi hi'
        refine (hfar (Hg2.out i hi hi') fun k hk => ?_).mono (by omega)
        have := ((Hg2.out i hi hi').lt k hk).1; omega
  case stop =>
    rintro D c xs W hD ⟨rfl, e, x4, h1, _, ⟨b2, b3, b4⟩, hbel⟩ hK
    gi_wp2
    refine ⟨by simp, .inl ⟨_, _, rfl, run_takeDeferred hK, ?_⟩⟩
    have hoth : ∀ r, some D = some r → ∃ o : Obj, W.heap[r]? = some o ∧ o.isCells = false := fun r e => by cases e; exact ⟨_, hK, rfl⟩
    have hg := grownBy_putObj' W D (.deferred none)
    have r4 := (b2.other hg hoth).cell 0
    have r5 := (b3.other hg hoth).cell 0
    refine ⟨.tuple #[.slice none 0 0, .int .i64 (e : Int)], by simp [results, Try.f35, go_sem, r4, r5], .slice none 0 0, ?_, ?_, hbel.grown hg (by have := hbel.size; omega) (fun k e => by cases e; omega)⟩
    · rw [h1]
    · rw [h1]
      exact ⟨[], Own1.nil _ _ _, rfl, fun i hi => by simp at hi, fun i j hi => by simp at hi⟩
end Go.Proofs.Ytiaabgmmmekpnaa
