/-
  keep's asChanges.
-/
import Derived.Test.YtdmbmkjiffhbcaaGreatKSmall
import Derived.Test.YtdmbmkjiffhbcaaGreatKChunks
import Derived.Test.YtdmbmkjiffhbcaaGreatFieldsAll
namespace Go.Proofs.YtdmbmkjiffhbcaaGreat
open Go.RowKit Go.Shelf
set_option maxRecDepth 100000
attribute [local go_sem] Oper.semAt_some

theorem elemP : ElemK Tryz.prog 22 49 3 40 := ElemK.mk_ (z := .agg #[.int .u64 0, .slice none 0 0, .bool false]) Tryz.underlying22 (by kernel_rfl) rfl (by decide)
/-- append of one element of several cells, inside a fence. -/
theorem wpListIn_appK_new {F : Fence} {n : Nat} {P : Program} (w : World) {t e : TypeId} {k bytes : Nat} (het : ElemK P t e k bytes) {ops : Array Oper} {rest : List Oper} {o : Oper} {a : Act} {Q : Exit → Act → World → Prop} (hgd : o.guard = none) (s x : Operand)
    (ho : o.op = .call { callee := .builtin .append, args := #[s, x], argTypes := #[t, t] })
    (base m : Nat) (v : Value) (xs : List Value) (hs : a.eval s = v) (hown : OwnK w base e k v m xs)
    (us : List Value) (hus : us.length = 1 * k) (te : TypeId) (hx : a.eval x = .slice (some ⟨w.heap.size, 0, none⟩) 1 1) (h1 : ∀ u ∈ us, u.oneCell' = true)
    (hbytes : (m + 1) * bytes ≤ 140737488355328) (h63 : m + 1 ≤ 140737488355328) (hbase : base ≤ w.heap.size)
    (h : ∀ v' w', OwnK w' base e k v' (m + 1) (xs ++ us) → (w.alloc (.cells us.toArray te)).grownBy w' v.ownBlock → (v'.ownBlock = v.ownBlock ∨ v'.ownBlock = some (w.heap.size + 1)) → wpListIn F n P ops Q rest (a.put o.dst v') w') :
    wpListIn F n P ops Q (o :: rest) a (w.alloc (.cells us.toArray te)) := by
  obtain ⟨v', w', hrun, h2, h3, h4⟩ := run_appK (P := P) (w.alloc (.cells us.toArray te)) (ty := o.type) het (hown.alloc _) (m := 1) (c := 1) hus ((Blk.new w te us.toArray).rd (fun _ => True) trivial) h1 hbytes h63 (by simp; omega)
  refine wpListIn_plain hgd fun K hK' => ?_
  unfold Oper.wpIn
  refine ⟨?_, ?_⟩
  · simp [Oper.about, ho, resolve, Target.leads, Sem.run_pure]
  · rw [Oper.semAt_plain F _ _ (by rw [ho]; intro c hc'; cases hc')]
    have hrun' : (Builtin.append_ #[t, t] o.type #[v, .slice (some ⟨w.heap.size, 0, none⟩) 1 1]).run P (w.alloc (.cells us.toArray te)) = .ok v' w' := hrun
    simp only [execOp, ho, resolve, invoke, builtin, Sem.run_bind, Sem.run_pure, Result.andThen_ok, List.map_toArray, List.map_cons, List.map_nil, hs, hx, hrun']
    exact hK' _ _ (h v' w' h2 h3 (by simpa using h4))

/-- The change of a pair of fields, and the changes that a record tells. -/
def chg (F : List (List UInt8)) (i : Nat) : PutM × Nat := chgM (F.getD (2 * i) []) (F.getD (2 * i + 1) [])
def asChM (b : List UInt8) : List PutM × Nat :=
  if (unpackV (b.length : Int) [] (steps b)).2 ≠ 0 ∨ (unpackV (b.length : Int) [] (steps b)).1.length % 2 ≠ 0 then ([], 7)
  else if ((List.range ((unpackV (b.length : Int) [] (steps b)).1.length / 2)).any fun i => (chg (unpackV (b.length : Int) [] (steps b)).1 i).2 != 0) = true then ([], 7)
  else ((List.range ((unpackV (b.length : Int) [] (steps b)).1.length / 2)).map fun i => (chg (unpackV (b.length : Int) [] (steps b)).1 i).1, 0)
theorem unpackV_length (most : Int) (S : List (List UInt8 × Nat)) : ∀ acc : List (List UInt8), (unpackV most acc S).1.length ≤ acc.length + S.length := by
  induction S with
  | nil => intro acc; simp [unpackV]
  | cons s S ih =>
    intro acc
    obtain ⟨f, e⟩ := s
    rw [unpackV_cons]
    split
    · simp
    · split
      · simp
      · have := ih (acc ++ [f])
        simp at this ⊢
        omega
theorem chgM_err (f g : List UInt8) : (chgM f g).2 = 0 ∨ (chgM f g).2 = 7 := by
  unfold chgM
  split
  · exact .inr rfl
  · split
    · exact .inl rfl
    · split
      · exact .inr rfl
      · exact .inl rfl

theorem kMany_snoc {α : Type} {K : Kind α} {w : World} {ok : Nat → Prop} {cs : List Value} {L : List α} {ds : List Value} {a : α} (h : kMany K w ok cs L) (hd : K.R w ok ds a) : kMany K w ok (cs ++ ds) (L ++ [a]) := by
  obtain ⟨css, rfl, hl, hr⟩ := h
  refine ⟨css ++ [ds], by simp, by simp [hl], fun i hi hi' => ?_⟩
  simp at hi hi'
  by_cases e : i < css.length
  · rw [List.getElem_append_left e, List.getElem_append_left (by omega)]
    exact hr i e (by omega)
  · obtain rfl : i = css.length := by omega
    rw [List.getElem_append_right (Nat.le_refl _), List.getElem_append_right (by omega)]
    simp
    exact hd
/-- What asChanges has laid by a round: the row of changes in its box, all below that box as it was. -/
def ChI (B B6 : Nat) (w2 : World) (F : List (List UInt8)) (K : Nat) (M : Nat → Prop) (xs : List (Fin K)) (W : World) : Prop :=
  ∃ v cells, (∀ i ∈ xs, (chg F i.val).2 = 0) ∧ Blk W B6 22 #[v] ∧ OwnK W (B6 + 1) 49 3 v xs.length cells ∧ kMany kPut W (fun k => B ≤ k ∧ k < B6) cells (xs.map fun i => (chg F i.val).1) ∧
    (∀ k, v.ownBlock = some k → M k) ∧ (∀ k, k < B6 → W.heap[k]? = w2.heap[k]?) ∧ W.os = w2.os ∧ W.tape = w2.tape ∧ W.output = w2.output ∧ w2.heap.size ≤ W.heap.size
theorem ChI.hold {B B6 : Nat} {w2 : World} {F : List (List UInt8)} {K : Nat} {M : Nat → Prop} {xs : List (Fin K)} {A W : World} (h : ChI B B6 w2 F K M xs A) (hB : B6 < w2.heap.size) (hh : Hold (fun k => k < w2.heap.size ∨ M k) A W) : ChI B B6 w2 F K M xs W := by
  obtain ⟨v, cells, h0, h1, h2, h3, h4, h5, h6, h7, h8, h9⟩ := h
  refine ⟨v, cells, h0, h1.keep (hh.block _ (by omega) (.inl hB)), h2.keep (fun k hk => hh.block k (h2.lt k hk).2 (.inr (h4 k hk))), ?_, h4, fun k hk => (hh.block k (by omega) (.inl (by omega))).trans (h5 k hk), hh.os.trans h6, hh.tape.trans h7, hh.output.trans h8, Nat.le_trans h9 hh.size⟩
  exact h3.frame fun k hk hl => hh.block k hl (.inl (by omega))
/-- What it has laid where a pair is no change. -/
def ChX (B : Nat) (w : World) (F : List (List UInt8)) (K : Nat) (c : Code) (_ : Nat → Prop) (_ : List (Fin K)) (W : World) : Prop :=
  c = .ret ∧ (∃ i : Fin K, (chg F i.val).2 = 7) ∧ Blk W B 22 #[.slice none 0 0] ∧ Blk W (B + 1) 31 #[.int .i64 7] ∧ Below B w W
set_option maxHeartbeats 2000000 in
theorem asch_any (ok : Nat → Prop) (v : Value) (b : List UInt8) (w : World) (hv : IsB w ok v b) (hl : b.length ≤ 1099511627776) :
    Calls Tryz.prog 22 #[v] w fun e w' => (∃ x, e = .returned (.tuple #[x, .int .i64 ((asChM b).2 : Int)]) ∧ IsL kPut w' (fun k => w.heap.size ≤ k) x (asChM b).1) ∧ Below w.heap.size w w' := by
  rw [← callsIn_wide (n := 9)]
  refine callsIn_of_wp_marks Tryz.func22 rfl trivial ?_ rfl
  simp only [Tryz.ntmps22, List.size_toArray, List.length_cons, List.length_nil, Nat.reduceAdd, Nat.reduceSub, Array.replicate_succ, Array.replicate_zero, List.push_toArray, List.append_toArray, List.nil_append, List.cons_append]
  obtain ⟨A, c, rfl, hbc, hcm, hrd⟩ := hv
  have hbm : b.length ≤ 9223372036854775807 := by omega
  have hbel0 : Below w.heap.size w ((w.alloc (.cells #[.slice none 0 0] 22)).alloc (.cells #[.int .i64 0] 31)) := ((Below.refl _ _).alloc (Nat.le_refl _) _).alloc (by simp) _
  have hv3 : IsB ((w.alloc (.cells #[.slice none 0 0] 22)).alloc (.cells #[.int .i64 0] 31)) ok (.slice A b.length c) b := ⟨A, c, rfl, hbc, hcm, hrd.grow hbel0⟩
  have hun := unpack_any ok _ b (b.length : Int) _ hv3 hl
  have hm : (asChM b) = if (unpackV (b.length : Int) [] (steps b)).2 ≠ 0 ∨ (unpackV (b.length : Int) [] (steps b)).1.length % 2 ≠ 0 then ([], 7)
    else if ((List.range ((unpackV (b.length : Int) [] (steps b)).1.length / 2)).any fun i => (chg (unpackV (b.length : Int) [] (steps b)).1 i).2 != 0) = true then ([], 7)
    else ((List.range ((unpackV (b.length : Int) [] (steps b)).1.length / 2)).map fun i => (chg (unpackV (b.length : Int) [] (steps b)).1 i).1, 0) := rfl
  have hfl : (unpackV (b.length : Int) [] (steps b)).1.length ≤ 1099511627776 := by
    have h1 := unpackV_length (b.length : Int) (steps b) []
    have h2 := steps_length b
    simp at h1
    omega
  generalize asChM b = R at hm ⊢
  generalize unpackV (b.length : Int) [] (steps b) = U at hun hm hfl
  obtain ⟨F, e⟩ := U
  dsimp only at hun hm hfl
  have y2 : Blk ((w.alloc (.cells #[.slice none 0 0] 22)).alloc (.cells #[.int .i64 0] 31)) w.heap.size 22 #[.slice none 0 0] := (Blk.new w _ _).alloc _
  have y3 : Blk ((w.alloc (.cells #[.slice none 0 0] 22)).alloc (.cells #[.int .i64 0] 31)) (w.heap.size + 1) 31 #[.int .i64 0] := by
    have := Blk.new (w.alloc (.cells #[.slice none 0 0] 22)) 31 #[.int .i64 0]
    rwa [World.size_alloc] at this
  have Y2 := Lib.hid y2
  have Y3 := Lib.hid y3
  have Hun := Lib.hid hun
  have Hm := Lib.hid hm
  have Hbel0 := Lib.hid hbel0
  clear hun hm hv3 hrd hbel0 y2 y3
  gi_wp2_with (first | fail)
  refine ⟨trivial, ?_⟩
  gi_at_call 43
  refine ((callsIn_wide (n := 8)).2 Hun.out).mono ?_
  rintro e1 w1 ⟨x, rfl, hown, hb1⟩
  have z2 := Y2.out.grow hb1
  have z3 := Y3.out.grow hb1
  have hs1 := hb1.size
  simp at hs1
  have d2 := z2.cell 0
  have d3 := z3.cell 0
  have f2 := z2.frozen 0
  have f3 := z3.frozen 0
  simp only [List.getElem?_toArray, List.getElem?_cons_zero] at d2 d3
  have hbel1 := Hbel0.out.trans (hb1.mono Hbel0.out.size)
  have hbb : IsBB w1 (fun k => w.heap.size + 2 ≤ k ∧ k < w1.heap.size) x F := by
    obtain ⟨vs, h1, h2, h3, _⟩ := hown
    obtain ⟨A', c', hv', g1, g2, g3⟩ := h1.form
    rw [h2] at hv' g1
    simp only [World.size_alloc] at h1 h3
    refine ⟨A', c', vs, hv', h2, g1, g2, g3.weaken fun k hk => ⟨by have := (h1.lt k hk).1; omega, (h1.lt k hk).2⟩, fun i hi hi' => (h3 i hi' hi).isB.weaken fun k hk => ⟨by have := ((h3 i hi' hi).lt k hk).1; omega, ((h3 i hi' hi).lt k hk).2⟩⟩
  obtain ⟨Ax, cx, rfl, hFc, hcm2, hel⟩ := hbb.elem
  unfold maxLen at hcm2
  have Hel := Lib.hid hel
  have Hbel1 := Lib.hid hbel1
  have Z2 := Lib.hid z2
  have Z3 := Lib.hid z3
  clear hown hb1 z2 z3 hbel1 hbb hel Hun Y2 Y3
  have hfar2 : Blk ((w1.setCell ⟨w.heap.size, 0, none⟩ (.slice none 0 0)).setCell ⟨w.heap.size + 1, 0, none⟩ (.int .i64 7)) w.heap.size 22 #[.slice none 0 0] := (Z2.out.set_ 0 _).far (by dsimp only; omega) _
  have hfar3 : Blk ((w1.setCell ⟨w.heap.size, 0, none⟩ (.slice none 0 0)).setCell ⟨w.heap.size + 1, 0, none⟩ (.int .i64 7)) (w.heap.size + 1) 31 #[.int .i64 7] := (Z3.out.far (by dsimp only; omega) _).set_ 0 _
  have r2 := hfar2.cell 0
  have r3 := hfar3.cell 0
  simp only [List.getElem?_toArray, List.getElem?_cons_zero] at r2 r3
  have hbelE : Below w.heap.size w ((w1.setCell ⟨w.heap.size, 0, none⟩ (.slice none 0 0)).setCell ⟨w.heap.size + 1, 0, none⟩ (.int .i64 7)) := (Hbel1.out.setCell (p := ⟨w.heap.size, 0, none⟩) (by dsimp only; omega) _).setCell (p := ⟨w.heap.size + 1, 0, none⟩) (by dsimp only; omega) _
  have nilL : ∀ z : World, IsL kPut z (fun k => w.heap.size ≤ k) (.slice none 0 0) [] := fun z => ⟨none, 0, [], rfl, Nat.le_refl _, Nat.zero_le _, Rd.nil, ⟨[], rfl, rfl, fun i h => (by simp at h)⟩⟩
  have HbelE := Lib.hid hbelE
  have NilL := Lib.hid nilL
  clear hfar2 hfar3 hbelE nilL
  have hnm : F.length ≤ 9223372036854775807 := by omega
  obtain ⟨n, hn⟩ : ∃ n, F.length = n := ⟨_, rfl⟩
  rw [hn] at hnm hFc ⊢
  by_cases hbad : e ≠ 0 ∨ F.length % 2 ≠ 0
  · have hR := Hm.out
    rw [if_pos hbad] at hR
    subst hR
    by_cases he : e = 0
    · subst he
      have hodd : ((n : Int) % 2 != 0) = true := by rw [bne_iff_ne]; omega
      clear hbad
      gi_wp2_with (first | fail)
      exact ⟨.tuple #[.slice none 0 0, .int .i64 7], by simp [results, Tryz.f22, go_sem, r2, r3], ⟨_, rfl, NilL.out _⟩, HbelE.out⟩
    · have hne : ((e : Int) != 0) = true := by rw [bne_iff_ne]; omega
      clear hbad
      gi_wp2_with (first | fail)
      exact ⟨.tuple #[.slice none 0 0, .int .i64 7], by simp [results, Tryz.f22, go_sem, r2, r3], ⟨_, rfl, NilL.out _⟩, HbelE.out⟩
  · have hR := Hm.out
    rw [if_neg hbad] at hR
    have HR := Lib.hid hR
    have he : e = 0 := by omega
    subst he
    have hodd : ((n : Int) % 2 != 0) = false := by rw [bne_eq_false_iff_eq]; omega
    have heven : n % 2 = 0 := by omega
    clear hbad hR Hm r2 r3 HbelE
    gi_wp2_with (first | fail)
    refine ⟨trivial, ?_⟩
    gi_at_call 44
    refine ((callsIn_wide (n := 8)).2 (pairs_any (.slice Ax n cx) Ax n cx rfl _)).mono ?_
    rintro e2 w2 ⟨rfl, hx1, hx2, hsz2, hb2⟩
    gi_wp2_with (first | fail)
    have hs12 : w2.heap.size = w1.heap.size + 1 + 1 + 1 := by rw [hsz2]; simp
    have hx1' : w2.cell? ⟨w1.heap.size + 1, 0, none⟩ = some (.slice Ax (2 * (n / 2)) cx) := by
      rw [show 2 * (n / 2) = n by omega]
      simpa using hx1
    have hx2' : w2.cell? ⟨w1.heap.size + 1 + 1, 0, none⟩ = some (.int .i64 2) := by simpa using hx2
    have hb12 : Below w1.heap.size w1 w2 := ((Below.refl _ _).alloc (Nat.le_refl _) _).trans (hb2.mono (by simp))
    have hb02 : Below w.heap.size w w2 := Hbel1.out.trans (hb12.mono (by omega))
    have hbox6 : Blk w2 w1.heap.size 22 #[.slice none 0 0] := (Blk.new w1 _ _).grow hb2
    have HB12 := Lib.hid hb12
    have HB02 := Lib.hid hb02
    have HBox6 := Lib.hid hbox6
    clear hx1 hx2 hb2 hsz2 hb12 hb02 hbox6
    refine wp_range2 (gf := 69) (lb := #[.pointer (some ⟨w1.heap.size + 1, 0, none⟩), .pointer (some ⟨w1.heap.size + 1 + 1, 0, none⟩)]) rfl (enters_of Tryz.func69 (by kernel_rfl) rfl)
      (pairs_iter 8 Ax (n / 2) cx (w1.heap.size + 1) (w1.heap.size + 1 + 1) (by omega) (by omega) w2 hx1' hx2') (fun _ => rfl)
      (ChI (w.heap.size + 2) w1.heap.size w2 F (n / 2)) (ChX w.heap.size w F (n / 2)) ?hI ?hIx ?h0
      (fun x => { tmps := #[.slice A b.length c, undef, .pointer (some ⟨w.heap.size, 0, none⟩), .pointer (some ⟨w.heap.size + 1, 0, none⟩), .slice Ax n cx, .int .i64 0, .pointer (some ⟨w1.heap.size, 0, none⟩), .slice (Ax.map fun y => y.add (2 * x.val)) 2 2, undef, undef,
        .tuple #[.slice Ax n cx, .int .i64 0], .slice A b.length c, .slice A b.length c, .int .i64 (b.length : Int), .tuple #[.slice Ax n cx, .int .i64 0], .slice Ax n cx, .int .i64 0, .int .i64 0, .bool false, .bool false, .slice Ax n cx, .int .i64 (n : Int), .int .i64 ((n : Int) % 2), .bool false, .bool false, .slice Ax n cx,
        .func (.func 69) #[] #[.pointer (some ⟨w1.heap.size + 1, 0, none⟩), .pointer (some ⟨w1.heap.size + 1 + 1, 0, none⟩)], .slice (Ax.map fun y => y.add (2 * x.val)) 2 2, undef, undef, undef, undef, undef, undef, undef, undef, undef, undef, undef, undef, undef, undef, undef, undef, undef, undef], defers := [] }) ?assign ?body ?done ?stop
    case hI => exact fun M xs A' W h hs hh => h.hold (by omega) hh
    case hIx =>
      rintro cd M xs A' W ⟨h0, h1, h2, h3, h4⟩ hs hh
      exact ⟨h0, h1, h2.keep (hh.block _ (by omega) (.inl (by omega))), h3.keep (hh.block _ (by omega) (.inl (by omega))), h4.trans (hh.below (fun k hk => .inl (by omega)) (by omega))⟩
    case h0 => exact ⟨_, [], fun i h => (by cases h), HBox6.out, OwnK.nil _ _ _ _, ⟨[], rfl, rfl, fun i h => (by simp at h)⟩, fun k h => (by cases h), fun k hk => rfl, rfl, rfl, rfl, Nat.le_refl _⟩
    case assign =>
      intro L x W K hK
      unfold pairE
      gi_wp2
      exact hK
    case body =>
      rintro L M pre x W ⟨u, cells, hok, hbox, hown, hmany, hM, hlow, hos, htape, hout, hsz⟩ hMb hs2 hlt
      have hxn := x.isLt
      obtain ⟨bf, off, rfl, ⟨hbf1, hbf2⟩, hbf3, hcell⟩ := Hel.out (by intro h; rw [h] at hn; simp at hn; omega)
      obtain ⟨A1, c1, q1, q2, q3, q4⟩ := hcell (2 * x.val) (by omega)
      obtain ⟨A2, c2, p1, p2, p3, p4⟩ := hcell (2 * x.val + 1) (by omega)
      have hW1 : ∀ k, k < w1.heap.size → W.heap[k]? = w1.heap[k]? := fun k hk => (hlow k hk).trans (HB12.out.block k hk)
      have q1' : W.cell? ⟨bf, off + 2 * x.val, none⟩ = some (.slice A1 F[2 * x.val].length c1) := (World.cell?_of_block (hW1 bf hbf2)).trans q1
      have p1' : W.cell? ⟨bf, off + 2 * x.val + 1, none⟩ = some (.slice A2 F[2 * x.val + 1].length c2) := (World.cell?_of_block (hW1 bf hbf2)).trans p1
      have i1 : IsB W (fun k => w.heap.size + 2 ≤ k ∧ k < w1.heap.size) (.slice A1 F[2 * x.val].length c1) F[2 * x.val] := ⟨A1, c1, rfl, q2, q3, q4.frame fun k hk _ => hW1 k hk.2⟩
      have i2 : IsB W (fun k => w.heap.size + 2 ≤ k ∧ k < w1.heap.size) (.slice A2 F[2 * x.val + 1].length c2) F[2 * x.val + 1] := ⟨A2, c2, rfl, p2, p3, p4.frame fun k hk _ => hW1 k hk.2⟩
      have hch : chg F x.val = chgM F[2 * x.val] F[2 * x.val + 1] := by
        unfold chg
        rw [List.getD_eq_getElem?_getD, List.getD_eq_getElem?_getD, List.getElem?_eq_getElem (by omega), List.getElem?_eq_getElem (by omega)]
        rfl
      have hkey := chgM_key F[2 * x.val] F[2 * x.val + 1]
      have herr := chgM_err F[2 * x.val] F[2 * x.val + 1]
      have has : ∀ z, Below W.heap.size W z → Calls Tryz.prog 45 #[.slice A1 F[2 * x.val].length c1, .slice A2 F[2 * x.val + 1].length c2] z (ChgPost (fun k => w.heap.size + 2 ≤ k ∧ k < w1.heap.size) F[2 * x.val] F[2 * x.val + 1] z) := fun z hz => aschange_any _ _ _ _ _ _ _ z (i1.grow hz) (i2.grow hz)
      unfold ChgPost at has
      rw [← hch] at hkey herr has
      obtain ⟨⟨⟨pk, pv, pg⟩, pe⟩, hp⟩ : ∃ p, p = chg F x.val := ⟨_, rfl⟩
      rw [← hp] at hkey herr has
      dsimp only at hkey herr has
      generalize F[2 * x.val].length = l1 at q1' has
      generalize F[2 * x.val + 1].length = l2 at p1' has
      have Has := Lib.hid has
      have HOwn := Lib.hid hown
      have HMany := Lib.hid hmany
      have HM := Lib.hid hM
      have HMb := Lib.hid hMb
      have HLow := Lib.hid hlow
      have HBox := Lib.hid hbox
      have Hok := Lib.hid hok
      have Hp := Lib.hid hp
      have d6 := hbox.cell 0
      have f6 := hbox.frozen 0
      simp only [List.getElem?_toArray, List.getElem?_cons_zero] at d6
      clear hch has i1 i2 q1 p1 q4 p4 hcell hown hmany hM hMb hlow hbox hok hp hx1' hx2' hW1
      gi_wp2
      refine wpIn_region_inv (fun d a y => ∃ v8 v9 v28 v29 v30 v31 v32 v33 v34 v35 v36 v37 : Value, ∃ (g8 : Nat) (Aq : Option Addr) (cq : Nat), a = ⟨#[.slice A b.length c, undef, .pointer (some ⟨w.heap.size, 0, none⟩), .pointer (some ⟨w.heap.size + 1, 0, none⟩), .slice (some ⟨bf, off, none⟩) n cx, .int .i64 0, .pointer (some ⟨w1.heap.size, 0, none⟩), .slice (some ⟨bf, off + 2 * x.val, none⟩) 2 2, v8, v9, .tuple #[.slice (some ⟨bf, off, none⟩) n cx, .int .i64 0], .slice A b.length c, .slice A b.length c, .int .i64 (b.length : Int), .tuple #[.slice (some ⟨bf, off, none⟩) n cx, .int .i64 0], .slice (some ⟨bf, off, none⟩) n cx, .int .i64 0, .int .i64 0, .bool false, .bool false, .slice (some ⟨bf, off, none⟩) n cx, .int .i64 (n : Int), .int .i64 ((n : Int) % 2), .bool false, .bool false, .slice (some ⟨bf, off, none⟩) n cx, .func (.func 69) #[] #[.pointer (some ⟨w1.heap.size + 1, 0, none⟩), .pointer (some ⟨w1.heap.size + 1 + 1, 0, none⟩)], .slice (some ⟨bf, off + 2 * x.val, none⟩) 2 2, v28, v29, v30, v31, v32, v33, v34, v35, v36, v37, undef, undef, undef, undef, undef, undef, undef, undef], []⟩ ∧ Below W.heap.size W y ∧ (d 0 = true → v29 = (.slice (some ⟨bf, off + 2 * x.val, none⟩) 2 2)) ∧ (d 1 = true → v30 = .pointer (some ⟨bf, off + 2 * x.val, none⟩)) ∧ (d 2 = true → v31 = .slice A1 l1 c1) ∧ (d 3 = true → v32 = (.slice (some ⟨bf, off + 2 * x.val, none⟩) 2 2)) ∧ (d 4 = true → v33 = .pointer (some ⟨bf, off + 2 * x.val + 1, none⟩)) ∧ (d 5 = true → v34 = .slice A2 l2 c2) ∧ (d 6 = true → v35 = (.tuple #[.agg #[.int .u64 (pk : Int), .slice Aq pv.length cq, .bool pg], .int .i64 (pe : Int)])) ∧ (d 6 = true → IsB y (fun k => w.heap.size + 2 ≤ k ∧ k < w1.heap.size) (.slice Aq pv.length cq) pv) ∧ (d 7 = true → v28 = (.tuple #[.agg #[.int .u64 (pk : Int), .slice Aq pv.length cq, .bool pg], .int .i64 (pe : Int)])) ∧ (d 8 = true → v36 = (.agg #[.int .u64 (pk : Int), .slice Aq pv.length cq, .bool pg])) ∧ (d 9 = true → v37 = .int .i64 (pe : Int)) ∧ (d 10 = true → v8 = .pointer (some ⟨g8, 0, none⟩) ∧ W.heap.size ≤ g8 ∧ g8 < y.heap.size) ∧ (d 10 = true → d 11 = false → Blk y g8 49 #[.int .u64 0, .slice none 0 0, .bool false]) ∧ (d 11 = true → Blk y g8 49 #[.int .u64 (pk : Int), .slice Aq pv.length cq, .bool pg]) ∧ (d 12 = true → v9 = .int .i64 (pe : Int)) ∧ (d 7 = true → d 6 = true) ∧ (d 8 = true → d 6 = true) ∧ (d 11 = true → d 6 = true) ∧ (d 11 = true → d 10 = true)) (by kernel_rfl) (by kernel_rfl) (by kernel_rfl) ?_ ?_ ?_
      · exact ⟨_, _, _, _, _, _, _, _, _, _, _, _, 0, none, 0, rfl, (Below.refl _ _).drew, fun q => (by cases q), fun q => (by cases q), fun q => (by cases q), fun q => (by cases q), fun q => (by cases q), fun q => (by cases q), fun q => (by cases q), fun q => (by cases q), fun q => (by cases q), fun q => (by cases q), fun q => (by cases q), fun q => (by cases q), fun q => (by cases q), fun q => (by cases q), fun q => (by cases q), fun q => (by cases q), fun q => (by cases q), fun q => (by cases q), fun q => (by cases q)⟩
      · intro i' o hi d a y hd hpre hI K hK
        obtain ⟨v8, v9, v28, v29, v30, v31, v32, v33, v34, v35, v36, v37, g8, Aq, cq, rfl, hb, h0, h1, h2, h3, h4, h5, h6, hB, h7, h8, h9, hA, hZ, hS, hC, k7, k8, k11, kA⟩ := hI
        have hlt' := (Array.getElem?_eq_some_iff.1 hi).1
        simp only [List.size_toArray, List.length_cons, List.length_nil] at hlt'
        rcases (by omega : i' = 0 ∨ i' = 1 ∨ i' = 2 ∨ i' = 3 ∨ i' = 4 ∨ i' = 5 ∨ i' = 6 ∨ i' = 7 ∨ i' = 8 ∨ i' = 9 ∨ i' = 10 ∨ i' = 11 ∨ i' = 12) with rfl | rfl | rfl | rfl | rfl | rfl | rfl | rfl | rfl | rfl | rfl | rfl | rfl
        all_goals (have ho := Option.some.inj hi; subst ho; clear hi hlt')
        all_goals refine step_plain rfl ?_
        · go_simp
          exact hK _ _ ⟨v8, v9, v28, _, v30, v31, v32, v33, v34, v35, v36, v37, g8, Aq, cq, rfl, hb, fun _ => rfl, h1, h2, h3, h4, h5, h6, hB, h7, h8, h9, hA, hZ, hS, hC, k7, k8, k11, kA⟩
        · obtain rfl := h0 (hpre { on := 0, ground := Ground.data } (by simp) rfl)
          go_simp
          exact hK _ _ ⟨v8, v9, v28, _, _, v31, v32, v33, v34, v35, v36, v37, g8, Aq, cq, rfl, hb, h0, fun _ => rfl, h2, h3, h4, h5, h6, hB, h7, h8, h9, hA, hZ, hS, hC, k7, k8, k11, kA⟩
        · obtain rfl := h1 (hpre { on := 1, ground := Ground.data } (by simp) rfl)
          have q := cell_then hb q1'
          go_simp
          exact hK _ _ ⟨v8, v9, v28, v29, _, _, v32, v33, v34, v35, v36, v37, g8, Aq, cq, rfl, hb, h0, h1, fun _ => rfl, h3, h4, h5, h6, hB, h7, h8, h9, hA, hZ, hS, hC, k7, k8, k11, kA⟩
        · go_simp
          exact hK _ _ ⟨v8, v9, v28, v29, v30, v31, _, v33, v34, v35, v36, v37, g8, Aq, cq, rfl, hb, h0, h1, h2, fun _ => rfl, h4, h5, h6, hB, h7, h8, h9, hA, hZ, hS, hC, k7, k8, k11, kA⟩
        · obtain rfl := h3 (hpre { on := 3, ground := Ground.data } (by simp) rfl)
          go_simp
          exact hK _ _ ⟨v8, v9, v28, v29, v30, v31, _, _, v34, v35, v36, v37, g8, Aq, cq, rfl, hb, h0, h1, h2, h3, fun _ => rfl, h5, h6, hB, h7, h8, h9, hA, hZ, hS, hC, k7, k8, k11, kA⟩
        · obtain rfl := h4 (hpre { on := 4, ground := Ground.data } (by simp) rfl)
          have q := cell_then hb p1'
          go_simp
          exact hK _ _ ⟨v8, v9, v28, v29, v30, v31, v32, _, _, v35, v36, v37, g8, Aq, cq, rfl, hb, h0, h1, h2, h3, h4, fun _ => rfl, h6, hB, h7, h8, h9, hA, hZ, hS, hC, k7, k8, k11, kA⟩
        · obtain rfl := h2 (hpre { on := 2, ground := Ground.data } (by simp) rfl)
          obtain rfl := h5 (hpre { on := 5, ground := Ground.data } (by simp) rfl)
          go_simp
          refine (Has.out y hb).mono ?_
          rintro e y2 ⟨Aq', cq', rfl, hq, hb2⟩
          have hs2 := hb2.size
          have hby := below_call hb hb2
          go_simp
          exact hK _ _ ⟨v8, v9, v28, v29, v30, _, v32, v33, _, _, v36, v37, g8, Aq', cq', rfl, hby, h0, h1, h2, h3, h4, h5, fun _ => rfl, fun _ => hq, fun q => (by rw [k7 q] at hd; cases hd), fun q => (by rw [k8 q] at hd; cases hd), h9, fun q => ⟨(hA q).1, (hA q).2.1, Nat.lt_of_lt_of_le (hA q).2.2 hs2⟩, fun q q2 => (hZ q q2).keep (hb2.block _ (hA q).2.2), fun q => (by rw [k11 q] at hd; cases hd), hC, fun _ => rfl, fun _ => rfl, fun _ => rfl, kA⟩
        · have g6 := (hpre { on := 6, ground := Ground.data } (by simp) rfl)
          obtain rfl := h6 g6
          go_simp
          exact hK _ _ ⟨v8, v9, _, v29, v30, v31, v32, v33, v34, _, v36, v37, g8, Aq, cq, rfl, hb, h0, h1, h2, h3, h4, h5, h6, hB, fun _ => rfl, h8, h9, hA, hZ, hS, hC, fun _ => g6, k8, k11, kA⟩
        · have g7 := (hpre { on := 7, ground := Ground.data } (by simp) rfl)
          obtain rfl := h7 g7
          have G6 := Lib.hid (k7 g7)
          clear g7
          go_simp
          exact hK _ _ ⟨v8, v9, _, v29, v30, v31, v32, v33, v34, v35, _, v37, g8, Aq, cq, rfl, hb, h0, h1, h2, h3, h4, h5, h6, hB, h7, fun _ => rfl, h9, hA, hZ, hS, hC, k7, fun _ => G6.out, k11, kA⟩
        · obtain rfl := h7 (hpre { on := 7, ground := Ground.data } (by simp) rfl)
          go_simp
          exact hK _ _ ⟨v8, v9, _, v29, v30, v31, v32, v33, v34, v35, v36, _, g8, Aq, cq, rfl, hb, h0, h1, h2, h3, h4, h5, h6, hB, h7, h8, fun _ => rfl, hA, hZ, hS, hC, k7, k8, k11, kA⟩
        · have hby : Below W.heap.size W (y.alloc (.cells #[.int .u64 0, .slice none 0 0, .bool false] 49)) := hb.alloc hb.size _
          go_simp
          exact hK _ _ ⟨_, v9, v28, v29, v30, v31, v32, v33, v34, v35, v36, v37, y.heap.size, Aq, cq, rfl, hby, h0, h1, h2, h3, h4, h5, h6, fun q => (hB q).grow ((Below.refl _ _).alloc (Nat.le_refl _) _), h7, h8, h9, fun _ => ⟨rfl, hb.size, by simp⟩, fun _ _ => Blk.new y _ _, fun q => (by rw [kA q] at hd; cases hd), hC, k7, k8, k11, fun q => (by rw [kA q] at hd; cases hd)⟩
        · obtain ⟨rfl, hg1, hg2⟩ := hA (hpre { on := 10, ground := Ground.data } (by simp) rfl)
          have g8d := (hpre { on := 8, ground := Ground.data } (by simp) rfl)
          obtain rfl := h8 g8d
          have G6 := Lib.hid (k8 g8d)
          have G10 := Lib.hid (hpre { on := 10, ground := Ground.data } (by simp) rfl)
          clear g8d
          have hz := hZ (hpre { on := 10, ground := Ground.data } (by simp) rfl) hd
          have z0 := hz.cell 0
          have z1 := hz.cell 1
          have z2 := hz.cell 2
          have y0 := hz.frozen 0
          have y1 := hz.frozen 1
          have y2 := hz.frozen 2
          simp only [List.getElem?_toArray, List.getElem?_cons_zero, List.getElem?_cons_succ] at z0 z1 z2
          have hby : Below W.heap.size W (((y.setCell ⟨g8, 0, none⟩ (.int .u64 (pk : Int))).setCell ⟨g8, 1, none⟩ (.slice Aq pv.length cq)).setCell ⟨g8, 2, none⟩ (.bool pg)) := ((hb.setCell (p := ⟨g8, 0, none⟩) hg1 _).setCell (p := ⟨g8, 1, none⟩) hg1 _).setCell (p := ⟨g8, 2, none⟩) hg1 _
          have hoth : ∀ k, k ≠ g8 → (((y.setCell ⟨g8, 0, none⟩ (.int .u64 (pk : Int))).setCell ⟨g8, 1, none⟩ (.slice Aq pv.length cq)).setCell ⟨g8, 2, none⟩ (.bool pg)).heap[k]? = y.heap[k]? := fun k hk => (Below.heap_setCell _ _ _ k hk).trans ((Below.heap_setCell _ _ _ k hk).trans (Below.heap_setCell _ _ _ k hk))
          have hsz : (((y.setCell ⟨g8, 0, none⟩ (.int .u64 (pk : Int))).setCell ⟨g8, 1, none⟩ (.slice Aq pv.length cq)).setCell ⟨g8, 2, none⟩ (.bool pg)).heap.size = y.heap.size := by simp
          have hblk := ((hz.set_ 0 (.int .u64 (pk : Int))).set_ 1 (.slice Aq pv.length cq)).set_ 2 (.bool pg)
          go_simp
          exact hK _ _ ⟨_, v9, v28, v29, v30, v31, v32, v33, v34, v35, _, v37, g8, Aq, cq, rfl, hby, h0, h1, h2, h3, h4, h5, h6, fun q => (hB q).frame fun k hk _ => hoth k (by omega), h7, h8, h9, fun _ => ⟨rfl, hg1, by rw [hsz]; exact hg2⟩, fun _ q => (by cases q), fun _ => hblk, hC, k7, k8, fun _ => G6.out, fun _ => G10.out⟩
        · obtain rfl := h9 (hpre { on := 9, ground := Ground.data } (by simp) rfl)
          go_simp
          exact hK _ _ ⟨v8, _, v28, v29, v30, v31, v32, v33, v34, v35, v36, _, g8, Aq, cq, rfl, hb, h0, h1, h2, h3, h4, h5, h6, hB, h7, h8, h9, hA, hZ, hS, fun _ => rfl, k7, k8, k11, kA⟩
      · intro d a y hall hI
        obtain ⟨v8, v9, v28, v29, v30, v31, v32, v33, v34, v35, v36, v37, g8, Aq, cq, rfl, hb, h0, h1, h2, h3, h4, h5, h6, hB, h7, h8, h9, hA, hZ, hS, hC, k7, k8, k11, kA⟩ := hI
        obtain ⟨rfl, hg1, hg2⟩ := hA (hall 10 (by decide))
        obtain rfl := hC (hall 12 (by decide))
        have hblk8 := hS (hall 11 (by decide))
        have hval := hB (hall 6 (by decide))
        clear hall h0 h1 h2 h3 h4 h5 h6 hB h7 h8 h9 hA hZ hS hC k7 k8 k11 kA q1' p1' d6 f6
        have hbs := hb.size
        have hb2k : ∀ k, k < w1.heap.size → y.heap[k]? = w1.heap[k]? := fun k hk => (hb.block k (by omega)).trans ((HLow.out k hk).trans (HB12.out.block k hk))
        have hy2 := Z2.out.keep (hb2k w.heap.size (by omega))
        have hy3 := Z3.out.keep (hb2k (w.heap.size + 1) (by omega))
        have hy6 := HBox.out.grow hb
        have m2 := hy2.cell 0
        have m3 := hy3.cell 0
        have m6 := hy6.cell 0
        have e2 := hy2.frozen 0
        have e3 := hy3.frozen 0
        have e6 := hy6.frozen 0
        have l0 := hblk8.cell 0
        have l1' := hblk8.cell 1
        have l2' := hblk8.cell 2
        simp only [List.getElem?_toArray, List.getElem?_cons_zero, List.getElem?_cons_succ] at m2 m3 m6 l0 l1' l2'
        obtain ⟨Au, cu, hu, huc, hum, _⟩ := HOwn.out.form
        subst hu
        have Hb := Lib.hid hb
        have Hval := Lib.hid hval
        have Hy2 := Lib.hid hy2
        have Hy3 := Lib.hid hy3
        have Hy6 := Lib.hid hy6
        clear hb hval hblk8 hy2 hy3 hy6
        rcases herr with rfl | rfl
        · have hownY := HOwn.out.grow Hb.out
          gi_wp2_with (gi_at_builtin; refine wpListIn_appK_new y elemP rfl (.tmp 41) (.tmp 43) rfl (w1.heap.size + 1) pre.length (.slice Au pre.length cu) cells rfl hownY [.int .u64 (pk : Int), .slice Aq pv.length cq, .bool pg] rfl 49 rfl (by intro u hu; simp at hu; rcases hu with rfl | rfl | rfl <;> rfl) (by omega) (by omega) (by omega) ?_; intro v6 w6 hown6 hgr6 hat6; obtain ⟨A6, n6, hv6, hc6, hm6, _⟩ := hown6.form; subst hv6; have hb6 := (Hy6.out.alloc _).grown hgr6 (fun h => by have := (hownY.lt _ h).1; omega); have c6 := hb6.cell 0; have z6 := hb6.frozen 0; simp only [List.getElem?_toArray, List.getElem?_cons_zero] at c6)
          have hs6 : y.heap.size + 1 ≤ w6.heap.size := by have := hgr6.size; simpa using this
          have hlt6 := hown6.lt
          have hlow6 : ∀ k, k < w1.heap.size → (w6.setCell ⟨w1.heap.size, 0, none⟩ (.slice A6 (pre.length + 1) n6)).heap[k]? = W.heap[k]? := fun k hk =>
            (Below.heap_setCell _ _ _ k (by show k ≠ w1.heap.size; omega)).trans ((hgr6.block k (by simp; omega) (fun e => by have := (hownY.lt k e.symm).1; omega)).trans ((Below.heap_alloc _ _ _ (by omega)).trans (Hb.out.block k (by omega))))
          have hvaln : IsB (w6.setCell ⟨w1.heap.size, 0, none⟩ (.slice A6 (pre.length + 1) n6)) (fun k => w.heap.size + 2 ≤ k ∧ k < w1.heap.size) (.slice Aq pv.length cq) pv := Hval.out.frame fun k hk hl => (hlow6 k hk.2).trans (Hb.out.block k (by omega)).symm
          have hmanyn : kMany kPut (w6.setCell ⟨w1.heap.size, 0, none⟩ (.slice A6 (pre.length + 1) n6)) (fun k => w.heap.size + 2 ≤ k ∧ k < w1.heap.size) cells (pre.map fun i => (chg F i.val).1) := HMany.out.frame fun k hk hl => hlow6 k hk.2
          have hHold : Hold (fun k => ¬ M k ∧ (w2.heap.size ≤ k ∨ (k = w1.heap.size + 1 ∨ k = w1.heap.size + 1 + 1))) W (w6.setCell ⟨w1.heap.size, 0, none⟩ (.slice A6 (pre.length + 1) n6)) := by
            refine (((Below.hold Hb.out _).trans (Hold.alloc y _ _)).trans (Hold.grown hgr6 _ fun g e h => h.1 (HM.out g e))).trans (Hold.setCell _ _ _ _ ?_)
            rintro ⟨_, h | h | h⟩
            · have h2 : w2.heap.size ≤ w1.heap.size := h
              omega
            · have h2 : w1.heap.size = w1.heap.size + 1 := h
              omega
            · have h2 : w1.heap.size = w1.heap.size + 1 + 1 := h
              omega
          refine ⟨fun k => M k ∨ (Value.slice A6 (pre.length + 1) n6).ownBlock = some k, ⟨_, cells ++ [.int .u64 (pk : Int), .slice Aq pv.length cq, .bool pg], ?_, hb6.set_ 0 _, ?_, ?_, fun k hk => .inr hk, ?_, ?_, ?_, ?_, ?_⟩, ?_, ?_⟩
          · intro i hi
            rcases List.mem_append.1 hi with hi | hi
            · exact Hok.out i hi
            · simp at hi
              subst hi
              rw [← Hp.out]
          · rw [List.length_append, List.length_singleton]
            exact hown6.keep fun k hk => Below.heap_setCell _ _ _ k (by have := (hlt6 k hk).1; show k ≠ w1.heap.size; omega)
          · rw [List.map_append, List.map_singleton, ← Hp.out]
            exact kMany_snoc hmanyn ⟨_, rfl, hkey, hvaln⟩
          · intro k hk
            exact (hlow6 k hk).trans (HLow.out k hk)
          · exact hHold.os.trans hos
          · exact hHold.tape.trans htape
          · exact hHold.output.trans hout
          · simp
            omega
          · intro k hk
            rcases hk with hk | hk
            · refine ⟨.inl hk, ?_⟩
              have := (HMb.out k hk).2
              simp
              omega
            · refine ⟨?_, by simp; exact (hlt6 k hk).2⟩
              rcases hat6 with h | h
              · rw [h] at hk; exact .inl (HM.out k hk)
              · rw [h] at hk; cases hk; exact .inr (by omega)
          · exact hHold
        · have hbW : Below w.heap.size w W := ⟨hos.trans HB02.out.os, htape.trans HB02.out.tape, hout.trans HB02.out.output, by omega, fun k hk => (HLow.out k (by omega)).trans (HB02.out.block k hk)⟩
          have HbW := Lib.hid hbW
          clear hbW
          gi_wp2_with (first | fail)
          refine ⟨M, ⟨rfl, ⟨x, by rw [← Hp.out]⟩, ?_, ?_, ?_⟩, ?_, ?_⟩
          · exact (Hy2.out.set_ 0 _).far (by dsimp only; omega) _
          · exact (Hy3.out.far (by dsimp only; omega) _).set_ 0 _
          · exact ((HbW.out.trans (Hb.out.mono HbW.out.size)).setCell (p := ⟨w.heap.size, 0, none⟩) (by dsimp only; omega) _).setCell (p := ⟨w.heap.size + 1, 0, none⟩) (by dsimp only; omega) _
          · intro k hk
            refine ⟨.inl hk, ?_⟩
            have := (HMb.out k hk).2
            simp
            omega
          · refine ((Below.hold Hb.out _).trans (Hold.setCell _ _ _ _ ?_)).trans (Hold.setCell _ _ _ _ ?_)
            · rintro ⟨_, h | h | h⟩
              · have h2 : w2.heap.size ≤ w.heap.size := h
                omega
              · have h2 : w.heap.size = w1.heap.size + 1 := h
                omega
              · have h2 : w.heap.size = w1.heap.size + 1 + 1 := h
                omega
            · rintro ⟨_, h | h | h⟩
              · have h2 : w2.heap.size ≤ w.heap.size + 1 := h
                omega
              · have h2 : w.heap.size + 1 = w1.heap.size + 1 := h
                omega
              · have h2 : w.heap.size + 1 = w1.heap.size + 1 + 1 := h
                omega
    case done =>
      rintro D M xs W hD hS ⟨u, cells, hok, hbox, hown, hmany, hM, hlow, hos, htape, hout, hsz⟩ hK hW hMD
      have hb2k : ∀ k, k < w1.heap.size → W.heap[k]? = w1.heap[k]? := fun k hk => (hlow k hk).trans (HB12.out.block k hk)
      have hy2 := Z2.out.keep (hb2k w.heap.size (by omega))
      have hy3 := Z3.out.keep (hb2k (w.heap.size + 1) (by omega))
      have m2 := hy2.cell 0
      have m3 := hy3.cell 0
      have m6 := hbox.cell 0
      have e2 := hy2.frozen 0
      have e3 := hy3.frozen 0
      simp only [List.getElem?_toArray, List.getElem?_cons_zero] at m2 m3 m6
      obtain ⟨Au, cu, hu, huc, hum, hur⟩ := hown.form
      subst hu
      have hlt := hown.lt
      have hbW : Below w.heap.size w W := ⟨hos.trans HB02.out.os, htape.trans HB02.out.tape, hout.trans HB02.out.output, by omega, fun k hk => (hlow k (by omega)).trans (HB02.out.block k hk)⟩
      have hany : ¬ (((List.range (F.length / 2)).any fun i => (chg F i).2 != 0) = true) := fun h => by
        obtain ⟨i, hi, hne⟩ := List.any_eq_true.1 h
        have hin : i < n / 2 := by rw [← hn]; exact List.mem_range.1 hi
        have := hok ⟨i, hin⟩ (by rw [hS]; exact List.mem_finRange _)
        simp [this] at hne
      have hmap : (xs.map fun i => (chg F i.val).1) = ((List.range (F.length / 2)).map fun i => (chg F i).1) := by
        rw [hS, hn]
        exact List.ext_getElem (by simp) (by intro i h1 h2; simp)
      have hRR := HR.out
      rw [if_neg hany, ← hmap] at hRR
      have hxl : xs.length = (xs.map fun i => (chg F i.val).1).length := by rw [List.length_map]
      obtain ⟨Wf, hWf⟩ : ∃ Wf, Wf = ((W.setCell ⟨w.heap.size, 0, none⟩ (.slice Au xs.length cu)).setCell ⟨w.heap.size + 1, 0, none⟩ (.int .i64 0)) := ⟨_, rfl⟩
      have hoth : ∀ k, k ≠ w.heap.size → k ≠ w.heap.size + 1 → k ≠ D → (Wf.putObj D (.deferred none)).heap[k]? = W.heap[k]? := fun k h1 h2 h3 => by
        rw [hWf]
        exact (World.putObj_heap_other h3).trans ((Below.heap_setCell _ _ _ k h2).trans (Below.heap_setCell _ _ _ k h1))
      have hKd : Wf.heap[D]? = some (.deferred (some [])) := by
        rw [hWf]
        exact (Below.heap_setCell _ _ _ D (by show D ≠ w.heap.size + 1; omega)).trans ((Below.heap_setCell _ _ _ D (by show D ≠ w.heap.size; omega)).trans hK)
      have hf2 : Blk (Wf.putObj D (.deferred none)) w.heap.size 22 #[.slice Au xs.length cu] := by
        refine Blk.keep (w := Wf) ?_ (World.putObj_heap_other (by omega))
        rw [hWf]
        exact (hy2.set_ 0 _).far (by dsimp only; omega) _
      have hf3 : Blk (Wf.putObj D (.deferred none)) (w.heap.size + 1) 31 #[.int .i64 0] := by
        refine Blk.keep (w := Wf) ?_ (World.putObj_heap_other (by omega))
        rw [hWf]
        exact (hy3.far (by dsimp only; omega) _).set_ 0 _
      have r2 := hf2.cell 0
      have r3 := hf3.cell 0
      simp only [List.getElem?_toArray, List.getElem?_cons_zero] at r2 r3
      have hbf : Below w.heap.size w (Wf.putObj D (.deferred none)) := by
        have h1 : Below w.heap.size w Wf := by
          rw [hWf]
          exact (hbW.setCell (p := ⟨w.heap.size, 0, none⟩) (by dsimp only; omega) _).setCell (p := ⟨w.heap.size + 1, 0, none⟩) (by dsimp only; omega) _
        exact h1.trans ⟨rfl, rfl, rfl, by simp, fun k hk => World.putObj_heap_other (by omega)⟩
      have hlist : IsL kPut (Wf.putObj D (.deferred none)) (fun k => w.heap.size ≤ k) (.slice Au xs.length cu) (xs.map fun i => (chg F i.val).1) := by
        refine ⟨Au, cu, cells, by rw [hxl], by rw [← hxl]; exact huc, hum, hur.move fun k hk hl => ?_, hmany.move fun k hk hl => ?_⟩
        · have h1 := (hlt k hk).1
          exact ⟨by omega, hoth k (by omega) (by omega) fun e => hMD (e ▸ hM k hk)⟩
        · exact ⟨by omega, hoth k (by omega) (by omega) (by omega)⟩
      have HList := Lib.hid hlist
      have Hbf := Lib.hid hbf
      have HKd := Lib.hid hKd
      have HWf := Lib.hid hWf
      have HRR := Lib.hid hRR
      clear hlist hbf hKd hWf hRR hmap hany hmany hown hur hbox hy2 hy3 hf2 hf3 hlt hoth hxl hS
      gi_wp2
      rw [← HWf.out]
      refine ⟨by simp, .inl ⟨_, _, rfl, run_takeDeferred HKd.out, ?_⟩⟩
      refine ⟨.tuple #[.slice Au xs.length cu, .int .i64 0], by simp [results, Tryz.f22, go_sem, r2, r3], ⟨.slice Au xs.length cu, ?_, ?_⟩, Hbf.out⟩
      · rw [HRR.out]
        rfl
      · rw [HRR.out]
        exact HList.out
    case stop =>
      rintro D cd M xs W hD ⟨rfl, ⟨i, hi⟩, h2, h3, hbel⟩ hK hW hMD
      have hany : (((List.range (F.length / 2)).any fun i => (chg F i).2 != 0) = true) := List.any_eq_true.2 ⟨i.val, List.mem_range.2 (by rw [hn]; exact i.isLt), by rw [hi]; rfl⟩
      have hRR := HR.out
      rw [if_pos hany] at hRR
      have hf2 : Blk (W.putObj D (.deferred none)) w.heap.size 22 #[.slice none 0 0] := h2.keep (World.putObj_heap_other (by omega))
      have hf3 : Blk (W.putObj D (.deferred none)) (w.heap.size + 1) 31 #[.int .i64 7] := h3.keep (World.putObj_heap_other (by omega))
      have r2 := hf2.cell 0
      have r3 := hf3.cell 0
      simp only [List.getElem?_toArray, List.getElem?_cons_zero] at r2 r3
      gi_wp2
      refine ⟨by simp, .inl ⟨_, _, rfl, run_takeDeferred hK, ?_⟩⟩
      refine ⟨.tuple #[.slice none 0 0, .int .i64 7], by simp [results, Tryz.f22, go_sem, r2, r3], ⟨.slice none 0 0, ?_, ?_⟩, hbel.trans ⟨rfl, rfl, rfl, by simp, fun k hk => World.putObj_heap_other (by omega)⟩⟩
      · rw [hRR]
        rfl
      · rw [hRR]
        exact NilL.out _
end Go.Proofs.YtdmbmkjiffhbcaaGreat
