/-
  journal.store.
-/
import Derived.Test.YtdmbmkjiffhbcaaGreatJUnPrep
import Derived.Stop.RegionWithIn
namespace Go.Proofs.YtdmbmkjiffhbcaaGreat
open Go.RowKit Go.Shelf
set_option maxRecDepth 100000
attribute [local go_sem] Oper.semAt_some

theorem keepsFrom_fr {B : Nat} {F F' : Nat → Prop} {W W' : World} (h : Fr F F' W W') (hc : ∀ k, F k → ∃ c t fz, W.heap[k]? = some (.cells c t fz)) : KeepsFrom B W W' :=
  ⟨h.size, fun k o _ hk ho => (h.block k (Array.getElem?_eq_some_iff.1 hk).1 fun hF => by
    obtain ⟨c, t, fz, hx⟩ := hc k hF
    rw [hx] at hk
    cases hk
    cases ho).2.trans hk⟩
/-- The boxes of store's variables. -/
def jsBox (b aB g n s u n' s' u' : Nat) (e : Int) (at_ : Nat) (W : World) : Prop :=
  Blk W b 30 #[.pointer (some ⟨g, 0, none⟩)] ∧ Blk W (b + 1) 90 #[.int .u64 (n : Int), .int .i64 (s : Int), .int .i64 (u : Int)] ∧ Blk W (b + 1 + 1) 90 #[.int .u64 (n' : Int), .int .i64 (s' : Int), .int .i64 (u' : Int)] ∧
    Blk W (b + 1 + 1 + 1) 31 #[.int .i64 e] ∧ Blk W aB 3 #[.int .i64 (at_ : Int)]
section
variable {w W W' : World} {row : Option Nat}
theorem jsBox.other {b aB g n s u n' s' u' : Nat} {e : Int} {at_ : Nat} (h : jsBox b aB g n s u n' s' u' e at_ W) (hg : W.grownBy W' row) (hr : ∀ r, row = some r → ∃ o : Obj, W.heap[r]? = some o ∧ o.isCells = false) : jsBox b aB g n s u n' s' u' e at_ W' :=
  ⟨h.1.other hg hr, h.2.1.other hg hr, h.2.2.1.other hg hr, h.2.2.2.1.other hg hr, h.2.2.2.2.other hg hr⟩
theorem jsBox.keep {b aB g n s u n' s' u' : Nat} {e : Int} {at_ : Nat} (h : jsBox b aB g n s u n' s' u' e at_ W) (hk : ∀ k, (b ≤ k ∧ k < b + 4) ∨ k = aB → W'.heap[k]? = W.heap[k]?) : jsBox b aB g n s u n' s' u' e at_ W' :=
  ⟨h.1.keep (hk _ (by omega)), h.2.1.keep (hk _ (by omega)), h.2.2.1.keep (hk _ (by omega)), h.2.2.2.1.keep (hk _ (by omega)), h.2.2.2.2.keep (hk _ (.inr rfl))⟩
end
/-- The device behind so many sectors that were written; its blocks are of cells, and none of those from b to t. -/
def jsDev (w : World) (base t : Nat) (G : Nat → Prop) (g : Nat) (R : Dev) (W : World) : Prop :=
  ∃ G2, DevAt W base G2 g R ∧ (∀ k, G2 k → ∃ c t fz, W.heap[k]? = some (.cells c t fz)) ∧ Fr G G2 w W ∧ ∀ k, w.heap.size ≤ k → k < t → ¬ G2 k
theorem jsDev.other {w W W' : World} {base t : Nat} {G : Nat → Prop} {g : Nat} {R : Dev} {row : Option Nat} (h : jsDev w base t G g R W) (hg : W.grownBy W' row) (hr : ∀ r, row = some r → w.heap.size ≤ r ∧ ∃ o : Obj, W.heap[r]? = some o ∧ o.isCells = false) : jsDev w base t G g R W' := by
  obtain ⟨G2, h1, h2, h3, h4⟩ := h
  obtain ⟨k1, k2⟩ := h1.other h2 hg fun r e => (hr r e).2
  exact ⟨G2, k1, k2, h3.other hg fun k e => (hr k e).1, h4⟩
/-- What holds ahead of each round. -/
def jsI (w : World) (base t aB : Nat) (G : Nat → Prop) (g : Nat) (D : Dev) (st : Nat) (l : List UInt8) (n s u n' s' u' : Nat) (pre : List Value) (W : World) : Prop :=
  jsBox w.heap.size aB g n s u n' s' u' 0 (st + pre.length) W ∧ (wrR D st l pre.length).2 = 0 ∧ 256 * pre.length < l.length + 256 ∧ jsDev w base t G g (wrR D st l pre.length).1 W
def jsX (w : World) (base t aB : Nat) (G : Nat → Prop) (g : Nat) (D : Dev) (st : Nat) (l : List UInt8) (n s u n' s' u' : Nat) (c : Code) (_ : List Value) (W : World) : Prop :=
  c = .ret ∧ ∃ k at_, 256 * k < l.length + 256 ∧ (wrR D st l k).2 ≠ 0 ∧ jsBox w.heap.size aB g n s u n' s' u' (wrR D st l k).2 at_ W ∧ jsDev w base t G g (wrR D st l k).1 W
theorem jsI_own {w : World} {base t aB : Nat} {G : Nat → Prop} {g : Nat} {D : Dev} {st : Nat} {l : List UInt8} {n s u n' s' u' : Nat} {B : Nat} (hB : w.heap.size ≤ B) : OwnFrom B (jsI w base t aB G g D st l n s u n' s' u') := fun _ _ _ _ ⟨h1, h2, h3, h4⟩ hg hr =>
  ⟨h1.other hg fun r e => (hr r e).2, h2, h3, h4.other hg fun r e => ⟨Nat.le_trans hB (hr r e).1, (hr r e).2⟩⟩
theorem jsX_own {w : World} {base t aB : Nat} {G : Nat → Prop} {g : Nat} {D : Dev} {st : Nat} {l : List UInt8} {n s u n' s' u' : Nat} {B : Nat} (hB : w.heap.size ≤ B) (c : Code) : OwnFrom B (jsX w base t aB G g D st l n s u n' s' u' c) := fun _ _ _ _ ⟨h0, k, at_, h1, h2, h3, h4⟩ hg hr =>
  ⟨h0, k, at_, h1, h2, h3.other hg fun r e => (hr r e).2, h4.other hg fun r e => ⟨Nat.le_trans hB (hr r e).1, (hr r e).2⟩⟩

/-- The mark is taken off, behind whatever was stored ahead of it. -/
theorem js_end {w Wf : World} {base b8 g Dm : Nat} {G G' : Nat → Prop} {R : Dev} {v : Value} (hd : DevAt Wf base G' g R) (hF : Fr G G' w Wf) (hb8 : Blk Wf b8 31 #[v]) (hD : w.heap.size ≤ Dm) (hK : Wf.heap[Dm]? = some (.deferred (some []))) :
    (Wf.putObj Dm (.deferred none)).cell? ⟨b8, 0, none⟩ = some v ∧ ∃ G2, DevAt (Wf.putObj Dm (.deferred none)) base G2 g R ∧ Fr G G2 w (Wf.putObj Dm (.deferred none)) := by
  have hoth : ∀ r, some Dm = some r → ∃ o : Obj, Wf.heap[r]? = some o ∧ o.isCells = false := fun r e => by cases e; exact ⟨_, hK, rfl⟩
  have hg := grownBy_putObj' Wf Dm (.deferred none)
  obtain ⟨G2, hG2, hd2, hc2⟩ := hd.tight
  refine ⟨?_, G2, (hd2.other hc2 hg hoth).1, ((hF.more fun k hk => .inl (hG2 k hk)).other hg fun k e => by cases e; exact hD)⟩
  have := (hb8.other hg hoth).cell 0
  simpa using this
theorem js_set {w Wf : World} {base b8 g : Nat} {G G' : Nat → Prop} {R : Dev} {v : Value} (u : Value) (hd : DevAt Wf base G' g R) (hF : Fr G G' w Wf) (hb8 : Blk Wf b8 31 #[v]) (hn : ¬ G' b8) (hw : w.heap.size ≤ b8) :
    DevAt (Wf.setCell ⟨b8, 0, none⟩ u) base G' g R ∧ Fr G G' w (Wf.setCell ⟨b8, 0, none⟩ u) ∧ Blk (Wf.setCell ⟨b8, 0, none⟩ u) b8 31 #[u] ∧ ∀ {Dm : Nat}, Wf.heap[Dm]? = some (.deferred (some [])) → (Wf.setCell ⟨b8, 0, none⟩ u).heap[Dm]? = some (.deferred (some [])) := by
  refine ⟨hd.keep (fun k hk => Below.heap_setCell _ _ _ _ (fun (e : k = b8) => hn (e ▸ hk))) (by simp [World.setCell]), hF.then_below ((Below.refl _ _).setCell hw u), ?_, fun {Dm} hK => (Below.heap_setCell _ _ _ _ (fun (e : Dm = b8) => ?_)).trans hK⟩
  · have := hb8.set_ 0 u
    simpa using this
  · subst e
    unfold Blk at hb8
    rw [hK] at hb8
    cases hb8

set_option maxHeartbeats 1000000 in
theorem jstore_any (base : Nat) (G ok : Nat → Prop) (g : Nat) (D : Dev) (n s u n' s' u' : Nat) (vb : Value) (b : List UInt8) (w : World) (hs : s ≤ 1) (hu : u ≤ sideN D * 256) (hub : u + b.length ≤ sideN D * 256) (hs' : s' ≤ 1) (hu' : u' < 9223372036854775808) (h6 : 6 ≤ D.sure.length) (hfew : D.Few 900000)
    (hd : DevAt w base G g D) (hv : IsB w ok vb b) :
    Calls Tryz.prog 63 #[.pointer (some ⟨g, 0, none⟩), vTally (n, s, u), vb, vTally (n', s', u')] w fun e w' => e = .returned (.int .i64 (storeD D s u b n' s' u').2) ∧ ∃ G', DevAt w' base G' g (storeD D s u b n' s' u').1 ∧ Fr G G' w w' := by
  rw [← callsIn_wide (n := 9)]
  refine callsIn_of_wp_marks Tryz.func63 rfl trivial ?_ rfl
  unfold vTally
  simp only [Tryz.ntmps63, List.size_toArray, List.length_cons, List.length_nil, Nat.reduceAdd, Nat.reduceSub, Array.replicate_succ, Array.replicate_zero, List.push_toArray, List.append_toArray, List.nil_append, List.cons_append]
  have hb0 : Below w.heap.size w ((((w.alloc (.cells #[.pointer (some ⟨g, 0, none⟩)] 30)).alloc (.cells #[.int .u64 (n : Int), .int .i64 (s : Int), .int .i64 (u : Int)] 90)).alloc (.cells #[.int .u64 (n' : Int), .int .i64 (s' : Int), .int .i64 (u' : Int)] 90)).alloc (.cells #[.int .i64 0] 31)) := ((((Below.refl w.heap.size w).alloc (Nat.le_refl _) _).alloc (by simp) _).alloc (by simp; omega) _).alloc (by simp; omega) _
  obtain ⟨W0, hW0⟩ : ∃ W0, W0 = ((((w.alloc (.cells #[.pointer (some ⟨g, 0, none⟩)] 30)).alloc (.cells #[.int .u64 (n : Int), .int .i64 (s : Int), .int .i64 (u : Int)] 90)).alloc (.cells #[.int .u64 (n' : Int), .int .i64 (s' : Int), .int .i64 (u' : Int)] 90)).alloc (.cells #[.int .i64 0] 31)) := ⟨_, rfl⟩
  have hs0 : W0.heap.size = w.heap.size + 4 := by rw [hW0]; simp
  have B4 : Blk W0 w.heap.size 30 #[.pointer (some ⟨g, 0, none⟩)] := by rw [hW0]; exact (((Blk.new w _ _).alloc _).alloc _).alloc _
  have B5 : Blk W0 (w.heap.size + 1) 90 #[.int .u64 (n : Int), .int .i64 (s : Int), .int .i64 (u : Int)] := by
    rw [hW0]
    have := ((Blk.new (w.alloc (.cells #[.pointer (some ⟨g, 0, none⟩)] 30)) 90 #[.int .u64 (n : Int), .int .i64 (s : Int), .int .i64 (u : Int)]).alloc (.cells #[.int .u64 (n' : Int), .int .i64 (s' : Int), .int .i64 (u' : Int)] 90)).alloc (.cells #[.int .i64 0] 31)
    rwa [World.size_alloc] at this
  have B7 : Blk W0 (w.heap.size + 1 + 1) 90 #[.int .u64 (n' : Int), .int .i64 (s' : Int), .int .i64 (u' : Int)] := by
    rw [hW0]
    have := (Blk.new ((w.alloc (.cells #[.pointer (some ⟨g, 0, none⟩)] 30)).alloc (.cells #[.int .u64 (n : Int), .int .i64 (s : Int), .int .i64 (u : Int)] 90)) 90 #[.int .u64 (n' : Int), .int .i64 (s' : Int), .int .i64 (u' : Int)]).alloc (.cells #[.int .i64 0] 31)
    rwa [World.size_alloc, World.size_alloc] at this
  have B8 : Blk W0 (w.heap.size + 1 + 1 + 1) 31 #[.int .i64 0] := by
    rw [hW0]
    have := Blk.new (((w.alloc (.cells #[.pointer (some ⟨g, 0, none⟩)] 30)).alloc (.cells #[.int .u64 (n : Int), .int .i64 (s : Int), .int .i64 (u : Int)] 90)).alloc (.cells #[.int .u64 (n' : Int), .int .i64 (s' : Int), .int .i64 (u' : Int)] 90)) 31 #[.int .i64 0]
    rwa [World.size_alloc, World.size_alloc, World.size_alloc] at this
  rw [← hW0] at hb0
  have hd0 := hd.grow hb0
  have hv0 := hv.grow hb0
  have hsn := sideN_le D hd.lens.2
  obtain ⟨f, hf⟩ : ∃ f, f = u / 256 := ⟨_, rfl⟩
  have hq : (u : Int) / 256 = (f : Int) := by omega
  have Hin := Lib.hid (inuse_any base G g D n s u f hs hu (by omega) W0 hd0 h6)
  have HW0 := Lib.hid hW0
  have Hb0 := Lib.hid hb0
  have HB4 := Lib.hid B4
  have HB5 := Lib.hid B5
  have HB7 := Lib.hid B7
  have HB8 := Lib.hid B8
  have Hd0 := Lib.hid hd0
  have Hv0 := Lib.hid hv0
  have Hd := Lib.hid hd
  have Hhq := Lib.hid hq
  have Hhf := Lib.hid hf
  clear hW0 hb0 B4 B5 B7 B8 hd0 hv0 hd hv hq hf
  gi_wp2_with fail
  rw [Hhq.out, ← HW0.out]
  refine ⟨trivial, ((callsIn_wide (n := 8)).2 Hin.out).mono ?_⟩
  rintro e w1 ⟨hb1, hcase⟩
  have C4 := HB4.out.grow hb1
  have C5 := HB5.out.grow hb1
  have C7 := HB7.out.grow hb1
  have C8 := HB8.out.grow hb1
  have c4 := C4.cell 0
  have c50 := C5.cell 0
  have c51 := C5.cell 1
  have c52 := C5.cell 2
  have c8 := C8.cell 0
  have z8 := C8.frozen 0
  simp only [List.getElem?_toArray, List.getElem?_cons_zero, List.getElem?_cons_succ] at c4 c50 c51 c52 c8
  have HC4 := Lib.hid C4
  have HC5 := Lib.hid C5
  have HC7 := Lib.hid C7
  have HC8 := Lib.hid C8
  have Hb1 := Lib.hid (below_call Hb0.out hb1)
  have Hb1' := Lib.hid hb1
  have Hd1 := Lib.hid (Hd0.out.grow hb1)
  have Hv1 := Lib.hid (Hv0.out.grow hb1)
  clear C4 C5 C7 C8 hb1
  have Hhub : u + b.length ≤ 524032 := by omega
  have hpl : s * sideN D ≤ 2047 := by
    have := Nat.mul_le_mul hs hsn
    omega
  obtain ⟨T, hT⟩ : ∃ T, T = 2 + s * sideN D := ⟨_, rfl⟩
  have hst := fun (z : World) (hz : DevAt z base G g D) => sidestart_any base G g D s hs z hz
  rw [← hT] at hst
  have hwst : wrap64 ((T : Int) + (f : Int)) = ((T + f : Nat) : Int) := by
    have e : (T : Int) + (f : Int) = ((T + f : Nat) : Int) := by omega
    rw [e]
    have := Hhf.out
    exact IntWalk.wrap64_in _ (by omega)
  obtain ⟨st, hst2⟩ : ∃ st, st = T + f := ⟨_, rfl⟩
  rw [← hst2] at hwst
  have Hst := Lib.hid hst
  have HT := Lib.hid hT
  have Hst2 := Lib.hid hst2
  have Hwst := Lib.hid hwst
  have Hhs := Lib.hid hs
  have Hhu := Lib.hid hu
  have Hhub2 := Lib.hid hub
  have Hhs' := Lib.hid hs'
  have Hhu' := Lib.hid hu'
  have Hh6 := Lib.hid h6
  have Hfew := Lib.hid hfew
  have Hsn := Lib.hid hsn
  have Hpl := Lib.hid hpl
  clear hst hT hst2 hwst hs hu hub hs' hu' h6 hfew hsn hpl
  rcases hcase with ⟨hoff, hlt, rfl⟩ | ⟨hoff, A, rfl, hul, hrd⟩
  · have Hoff := Lib.hid hoff
    clear hoff hlt
    gi_wp2
    have r8 := (HC8.out.set_ 0 (.int .i64 6)).cell 0
    simp at r8
    refine ⟨.int .i64 6, by simp [results, Tryz.f63, go_sem, r8], ?_⟩
    rw [storeD_off D Hoff.out]
    refine ⟨rfl, G, ?_, (Fr.of_below Hb1.out G).then_below ((Below.refl _ _).setCell (by dsimp only; omega) _)⟩
    exact Hd1.out.keep (fun k hk => Below.heap_setCell _ _ _ _ (by have := (Hd.out.low k hk).2; dsimp only; omega)) (by simp [World.setCell])
  · obtain ⟨M, hM⟩ : ∃ M, M = u - f * 256 := ⟨_, rfl⟩
    rw [← hM] at hul ⊢
    obtain ⟨l, hl⟩ : ∃ l, l = useB D s u f ++ b := ⟨_, rfl⟩
    have hll : l.length = M + b.length := by rw [hl, List.length_append, hul]
    have hMb : M + b.length ≤ 524032 := by omega
    obtain ⟨Ab, cb, rfl, hbc, hbm, hbr⟩ := Hv1.out
    have hb2 : Below w1.heap.size w1 (w1.alloc (.cells #[.int .i64 (st : Int)] 3)) := (Below.refl _ _).alloc (Nat.le_refl _) _
    have hBa : Blk (w1.alloc (.cells #[.int .i64 (st : Int)] 3)) w1.heap.size 3 #[.int .i64 (st : Int)] := Blk.new _ _ _
    have hrd2 : Rd (w1.alloc (.cells #[.int .i64 (st : Int)] 3)) (fun k => W0.heap.size ≤ k ∧ k < w1.heap.size) A ((useB D s u f).map u8) := hrd.move fun k hk hlt => ⟨⟨hk, hlt⟩, hb2.block k hlt⟩
    have hbr2 := hbr.grow hb2
    have h63 : M + b.length ≤ 140737488355328 := by omega
    have h63' : (M + b.length) * 1 ≤ 140737488355328 := by omega
    have hul2 : ((useB D s u f).map u8).length = M := by rw [List.length_map]; exact hul
    have Hrd2 := Lib.hid hrd2
    have Hbr2 := Lib.hid hbr2
    have HBa := Lib.hid hBa
    have Hb2 := Lib.hid (below_call Hb1.out hb2)
    have Hoff := Lib.hid hoff
    have Hul2 := Lib.hid hul2
    have HM := Lib.hid hM
    have Hl := Lib.hid hl
    have Hll := Lib.hid hll
    clear hul hrd hoff hbr hbr2 hrd2 hBa hul2 hM hl hll hb2 hbc hbm
    have hwst := Hwst.out
    gi_wp2_with fail
    refine ⟨trivial, ((callsIn_wide (n := 8)).2 (Hst.out _ Hd1.out)).mono ?_⟩
    rintro e w' ⟨rfl, rfl⟩
    gi_wp2_with (gi_at_builtin; refine wpListIn_app_full _ elemB rfl (.tmp 35) (.tmp 36) rfl (A := A) (B := Ab) (c := cb) (m := M) (k := b.length) (olds := (useB D s u f).map u8) (news := b.map u8) rfl rfl Hul2.out (List.length_map _) Hrd2.out Hbr2.out (u8_oneCell _) h63 h63' ?_; intro A3 c3 w3 hc3 hm3 hb3 hrd3; rw [← List.map_append, ← Hl.out] at hrd3; have Hb3 := Lib.hid (below_call Hb2.out hb3); have Hb3' := Lib.hid hb3; have hB3 : IsB w3 (fun q => (W0.heap.size ≤ q ∧ q < w1.heap.size) ∨ w1.heap.size + 1 ≤ q ∧ q < w3.heap.size) (.slice A3 (M + b.length) c3) l := ⟨A3, c3, (by rw [Hll.out]), (by rw [Hll.out]; exact hc3), hm3, hrd3.move fun q hq hlt => ⟨hq.elim (fun h => .inl h) (fun h => .inr ⟨(by simpa using h), hlt⟩), rfl⟩⟩; have HB3 := Lib.hid hB3; clear hrd3 hB3 hb3 hc3 hm3)
    refine ⟨trivial, ((callsIn_wide (n := 8)).2 (chunk_any _ _ l w3 HB3.out)).mono ?_⟩
    rintro e w4 ⟨rfl, hx1, hx2, hs4, hB4, hb4⟩
    gi_wp2_with fail
    have hs1 := Hb1.out.size
    have hs1' := Hb1'.out.size
    have hs3 := Hb3'.out.size
    rw [World.size_alloc] at hs3
    have Hb34 := Lib.hid (below_call Hb3'.out hb4)
    have hb04 := below_call Hb3.out hb4
    obtain ⟨G0, hG0, hd4, hc4⟩ := (Hd.out.grow hb04).tight
    have hI0 : jsI w base w4.heap.size w1.heap.size G g D st l n s u n' s' u' [] w4 := by
      refine ⟨⟨?_, ?_, ?_, ?_, ?_⟩, rfl, by simp, G0, hd4, hc4, (Fr.of_below hb04 G).more (fun k hk => .inl (hG0 k hk)), fun k hk _ h => ?_⟩
      · exact (HC4.out.alloc _).grow Hb34.out
      · exact (HC5.out.alloc _).grow Hb34.out
      · exact (HC7.out.alloc _).grow Hb34.out
      · exact (HC8.out.alloc _).grow Hb34.out
      · exact HBa.out.grow Hb34.out
      · have := (Hd.out.low _ (hG0 _ h)).2
        omega
    have HI0 := Lib.hid hI0
    have Hb04 := Lib.hid hb04
    clear hI0 hb04 hG0 hd4 hc4 hb4
    refine wp_range (gf := 94) (lb := #[.pointer (some ⟨w3.heap.size, 0, none⟩), .pointer (some ⟨w3.heap.size + 1, 0, none⟩)]) rfl (enters_of Tryz.func94 (by kernel_rfl) rfl)
      (chunk_iter 8 (fun q => (W0.heap.size ≤ q ∧ q < w1.heap.size) ∨ w1.heap.size + 1 ≤ q ∧ q < w3.heap.size) (fun k => (W0.heap.size ≤ k ∧ k ≠ w1.heap.size) ∧ k < w4.heap.size) ?hok l w3.heap.size (w3.heap.size + 1) ?hB1 ?hB2 _ w4 hx1 hx2 hB4 ?hlen) (fun k hk => hk.2) (fun pre x W0 => chunkX_own _ ?hok2 l pre x W0) (fun _ => rfl)
      (jsI w base w4.heap.size w1.heap.size G g D st l n s u n' s' u') (jsX w base w4.heap.size w1.heap.size G g D st l n s u n' s' u') (jsI_own ?hB) (jsX_own ?hB') HI0.out
      (fun x => { tmps := #[.pointer (some ⟨g, 0, none⟩), .agg #[.int .u64 (n : Int), .int .i64 (s : Int), .int .i64 (u : Int)], .slice Ab b.length cb, .agg #[.int .u64 (n' : Int), .int .i64 (s' : Int), .int .i64 (u' : Int)], .pointer (some ⟨w.heap.size, 0, none⟩), .pointer (some ⟨w.heap.size + 1, 0, none⟩), undef, .pointer (some ⟨w.heap.size + 1 + 1, 0, none⟩), .pointer (some ⟨w.heap.size + 1 + 1 + 1, 0, none⟩), .int .i64 (f : Int), .slice A M M, .int .i64 0, .pointer (some ⟨w1.heap.size, 0, none⟩), x, undef, undef, .pointer (some ⟨w.heap.size + 1, 2, none⟩), .int .i64 (u : Int), .int .i64 (f : Int), .tuple #[.slice A M M, .int .i64 0], .pointer (some ⟨g, 0, none⟩), .agg #[.int .u64 (n : Int), .int .i64 (s : Int), .int .i64 (u : Int)], .int .i64 (f : Int), .tuple #[.slice A M M, .int .i64 0], .slice A M M, .int .i64 0, .int .i64 0, .bool false, undef, .pointer (some ⟨g, 0, none⟩), .pointer (some ⟨w.heap.size + 1, 1, none⟩), .int .i64 (s : Int), .int .i64 (T : Int), .int .i64 (f : Int), .int .i64 (st : Int), .slice A M M, .slice Ab b.length cb, .slice A3 (M + b.length) c3, .func (.func 94) #[] #[.pointer (some ⟨w3.heap.size, 0, none⟩), .pointer (some ⟨w3.heap.size + 1, 0, none⟩)], x, undef, undef, undef, undef, undef, undef, undef, undef, undef, undef, undef, undef, undef, undef, undef, undef, undef, undef], defers := [] }) ?assign ?body ?done ?stop
    case hok => intro k hk; omega
    case hok2 => intro k hk; omega
    case hB1 => omega
    case hB2 => omega
    case hlen => rw [Hll.out]; omega
    case hB => omega
    case hB' => omega
    case assign =>
      intro L x W K hK
      gi_wp2
      exact hK
    case body =>
      rintro L pre x V0 W hI1 hs01 hX ⟨⟨b4, b5, b7, b8, ba⟩, hz, hlt, G2, hd2, hc2, hf2, hn2⟩ hs2
      clear hI1
      obtain ⟨hlt2, hxB⟩ := hX
      have c4 := b4.cell 0
      have ca := ba.cell 0
      have za := ba.frozen 0
      have c8 := b8.cell 0
      have z8 := b8.frozen 0
      simp only [List.getElem?_toArray, List.getElem?_cons_zero] at c4 ca c8
      have hput := wrR_next D st l pre.length hz
      have hfk := wrR_few Hfew.out st l pre.length
      have hplen : pre.length ≤ 2100 := by have := Hll.out; omega
      have hw1 : wrap64 (((st + pre.length : Nat) : Int) + 1) = ((st + (pre.length + 1) : Nat) : Int) := by
        have e : ((st + pre.length : Nat) : Int) + 1 = ((st + (pre.length + 1) : Nat) : Int) := by omega
        rw [e]
        have := Hst2.out
        have := HT.out
        have := Hhf.out
        have := Hpl.out
        exact IntWalk.wrap64_in _ (by omega)
      have hpc : (pieceB l pre.length).length ≤ 256 := by unfold pieceB; rw [List.length_take]; omega
      obtain ⟨q, hq⟩ : ∃ q, q = st + pre.length := ⟨_, rfl⟩
      obtain ⟨q1, hq1⟩ : ∃ q1, q1 = st + (pre.length + 1) := ⟨_, rfl⟩
      rw [← hq] at ba ca hput hw1
      rw [← hq1] at hw1
      obtain ⟨E, hE⟩ : ∃ E, E = (wrR D st l pre.length).1 := ⟨_, rfl⟩
      obtain ⟨R, hR⟩ : ∃ R, R = wrR D st l (pre.length + 1) := ⟨_, rfl⟩
      rw [← hE] at hd2 hput hfk
      rw [← hR] at hput
      have Hwh := Lib.hid (whole_any _ x (pieceB l pre.length) W.drew (hxB.grow ((Below.refl _ _).drew)) hpc)
      have hE1 : E.changes ≤ 1099511627775 := by have := hfk.2; omega
      have hE2 : E.loose.length ≤ 274877906943 := by have := hfk.1; omega
      have Hput := Lib.hid hput
      have Hhq := Lib.hid hq
      have Hhq1 := Lib.hid hq1
      have HR := Lib.hid hR
      have Hw1 := Lib.hid hw1
      have Hd2 := Lib.hid hd2
      have Hc2 := Lib.hid hc2
      have Hf2 := Lib.hid hf2
      have Hn2 := Lib.hid hn2
      have Hb4 := Lib.hid b4
      have Hb5 := Lib.hid b5
      have Hb7 := Lib.hid b7
      have Hb8 := Lib.hid b8
      have Hba := Lib.hid ba
      have Hlt2 := Lib.hid hlt2
      have HE1 := Lib.hid hE1
      have HE2 := Lib.hid hE2
      clear hput hq hq1 hR hw1 hd2 hc2 hf2 hn2 b4 b5 b7 b8 ba hlt2 hxB hfk hpc hE hz hlt hE1 hE2
      gi_wp2
      gi_region_with (first
        | (refine ⟨trivial, ?_⟩; gi_at_call 81; with_reducible refine (CallsIn.inRound _ ((callsIn_wide (n := 6)).2 Hwh.out)).mono ?_; rintro e w5 ⟨rfl, hblk5, hb5'⟩; have hb5 := below_drew_then hb5'; have hd5 := Hd2.out.grow hb5; have c4' := cell_then hb5 c4; have ca' := cell_then hb5 ca; have HB5 := Lib.hid hb5; have hblk5b : Blk w5 W.heap.size 5 ((wholeB (pieceB l pre.length)).map Go.Proofs.YtdmbmkjiffhbcaaGreat.u8).toArray := (by simpa using hblk5); have Hblk5 := Lib.hid (isB_blk hblk5b (wholeB_length _) (by unfold maxLen; omega)); clear hblk5b hb5' hb5 hblk5)
        | (refine ⟨trivial, ?_⟩; gi_at_call 56; with_reducible refine (CallsIn.inRound _ ((callsIn_wide (n := 6)).2 (write_any base G2 g E (fun _ => True) (q : Int) _ (wholeB (pieceB l pre.length)) w5 hd5 Hblk5.out hd5.size HE1.out HE2.out))).mono ?_; rintro e w6 ⟨rfl, G6, hd6, hf6⟩; rw [← Hput.out] at hd6 ⊢; have Hd6 := Lib.hid hd6; have Hf6 := Lib.hid hf6; clear hd6 hf6))
      all_goals
        have hs5 := HB5.out.size
        have hW4 : w4.heap.size ≤ W.heap.size := by omega
        have hk6 : ∀ k, w.heap.size ≤ k → k < w4.heap.size → w6.heap[k]? = W.heap[k]? ∧ ¬ G6 k := fun k h1 h2 => by
          have h3 := Hf6.out.block k (by omega) (Hn2.out k h1 h2)
          exact ⟨h3.2.trans (HB5.out.block k (by omega)), h3.1⟩
        have e4 := Hb4.out.keep (hk6 _ (by omega) (by omega)).1
        have e5 := Hb5.out.keep (hk6 _ (by omega) (by omega)).1
        have e7 := Hb7.out.keep (hk6 _ (by omega) (by omega)).1
        have e8 := Hb8.out.keep (hk6 _ (by omega) (by omega)).1
        have ea := Hba.out.keep (hk6 _ (by omega) (by omega)).1
        have r8 := e8.cell 0
        have rz8 := e8.frozen 0
        have ra := ea.cell 0
        have rza := ea.frozen 0
        simp only [List.getElem?_toArray, List.getElem?_cons_zero] at r8 ra
        obtain ⟨F6, hF6, hd6, hc6⟩ := Hd6.out.tight
        have hf6 : Fr G F6 w w6 := ((Hf2.out.trans (Fr.of_below HB5.out G2)).trans Hf6.out).more fun k hk => .inl (hF6 k hk)
        have hn6 : ∀ k, w.heap.size ≤ k → k < w4.heap.size → ¬ F6 k := fun k h1 h2 h => (hk6 k h1 h2).2 (hF6 k h)
        have hkf : KeepsFrom w4.heap.size W w6 := (keepsFrom_below HB5.out).trans (keepsFrom_fr Hf6.out fun k hk => by
          obtain ⟨c, t, fz, h⟩ := Hc2.out k hk
          exact ⟨c, t, fz, (HB5.out.block k (Hd2.out.low k hk).2).trans h⟩)
        have Hk6 := Lib.hid hk6
        have HE4 := Lib.hid e4
        have HE5 := Lib.hid e5
        have HE7 := Lib.hid e7
        have HE8 := Lib.hid e8
        have HEa := Lib.hid ea
        have HF6 := Lib.hid hF6
        have Hd6' := Lib.hid hd6
        have Hc6 := Lib.hid hc6
        have Hf6' := Lib.hid hf6
        have Hn6 := Lib.hid hn6
        have Hkf := Lib.hid hkf
        clear hk6 e4 e5 e7 e8 ea hF6 hd6 hc6 hf6 hn6 hkf c4 ca za c8 z8 c4' ca'
        by_cases he : R.2 = 0
        · rw [he]
          have He := Lib.hid he
          have hw1 := Hw1.out
          clear he hd5
          gi_wp2
          have hls : (pre ++ [x]).length = pre.length + 1 := by rw [List.length_append, List.length_singleton]
          refine ⟨Hkf.out.trans (keepsFrom_set _ _ _), fun k hk => (Below.heap_setCell _ _ _ _ (by dsimp only; omega)).trans (Hk6.out k (by omega) (by omega)).1, ⟨?_, ?_, ?_, ?_, ?_⟩, ?_, ?_, F6, ?_, ?_, ?_, Hn6.out⟩
          · exact HE4.out.far (by dsimp only; omega) _
          · exact HE5.out.far (by dsimp only; omega) _
          · exact HE7.out.far (by dsimp only; omega) _
          · exact HE8.out.far (by dsimp only; omega) _
          · have := HEa.out.set_ 0 (.int .i64 (q1 : Int))
            rw [hls, ← Hhq1.out]
            simpa using this
          · rw [hls, ← HR.out]; exact He.out
          · rw [hls]; have := Hlt2.out; omega
          · rw [hls, ← HR.out]
            exact Hd6'.out.keep (fun k hk => Below.heap_setCell _ _ _ _ (fun (e : k = w1.heap.size) => Hn6.out k (by omega) (by omega) hk)) (by simp [World.setCell])
          · intro k hk
            obtain ⟨c, t, fz, h⟩ := Hc6.out k hk
            exact ⟨c, t, fz, (Below.heap_setCell _ _ _ _ (fun (e : k = w1.heap.size) => Hn6.out k (by omega) (by omega) hk)).trans h⟩
          · exact Hf6'.out.then_below ((Below.refl _ _).setCell (by dsimp only; omega) _)
        · have hne : (R.2 != 0) = true := by rw [bne_iff_ne]; exact he
          have He := Lib.hid he
          clear he hd5
          gi_wp2
          refine ⟨Hkf.out.trans (keepsFrom_set _ _ _), rfl, pre.length + 1, q, by have := Hlt2.out; omega, by rw [← HR.out]; exact He.out, ⟨?_, ?_, ?_, ?_, ?_⟩, F6, ?_, ?_, ?_, Hn6.out⟩
          · exact HE4.out.far (by dsimp only; omega) _
          · exact HE5.out.far (by dsimp only; omega) _
          · exact HE7.out.far (by dsimp only; omega) _
          · have := HE8.out.set_ 0 (.int .i64 R.2)
            rw [← HR.out]
            simpa using this
          · exact HEa.out.far (by dsimp only; omega) _
          · rw [← HR.out]
            exact Hd6'.out.keep (fun k hk => Below.heap_setCell _ _ _ _ (fun (e : k = w.heap.size + 1 + 1 + 1) => Hn6.out k (by omega) (by omega) hk)) (by simp [World.setCell])
          · intro k hk
            obtain ⟨c, t, fz, h⟩ := Hc6.out k hk
            exact ⟨c, t, fz, (Below.heap_setCell _ _ _ _ (fun (e : k = w.heap.size + 1 + 1 + 1) => Hn6.out k (by omega) (by omega) hk)).trans h⟩
          · exact Hf6'.out.then_below ((Below.refl _ _).setCell (by dsimp only; omega) _)
    case done =>
      rintro Dm xs W hD hS ⟨⟨b4, b5, b7, b8, ba⟩, hz, hlt, G2, hd2, hc2, hf2, hn2⟩ hK
      have hxs : xs.length = secs (u - u / 256 * 256 + b.length) := by
        have h1 := Hll.out
        have h2 := HM.out
        have h3 := Hhf.out
        unfold secs
        omega
      have hsect : sectD D s u b = wrR D st l xs.length := by
        unfold sectD laidB
        rw [Hst2.out, HT.out, Hl.out, Hhf.out, hxs]
      have hfk := wrR_few Hfew.out st l xs.length
      have hplen : xs.length ≤ 2100 := by have := Hll.out; omega
      have hsto : storeD D s u b n' s' u' = if (wrR D st l xs.length).1.barrier.2 ≠ 0 then (wrR D st l xs.length).1.barrier else tellD (wrR D st l xs.length).1.barrier.1 n' s' u' := by
        unfold storeD
        rw [hsect, if_neg (by rw [hz]; decide)]
      obtain ⟨E, hE⟩ : ∃ E, E = (wrR D st l xs.length).1 := ⟨_, rfl⟩
      rw [← hE] at hd2 hfk hsto
      have hfb := barrier_few hfk
      obtain ⟨B, hB⟩ : ∃ B, B = E.barrier := ⟨_, rfl⟩
      rw [← hB] at hsto hfb
      have c4 := b4.cell 0
      have c8 := b8.cell 0
      have z8 := b8.frozen 0
      simp only [List.getElem?_toArray, List.getElem?_cons_zero] at c4 c8
      have hE1 : E.changes ≤ 1099511627776 := by have := hfk.2; omega
      have hE2 : E.loose.length ≤ 1099511627776 := by have := hfk.1; omega
      have hB1 : B.1.loose.length ≤ 1000000 ∧ B.1.changes ≤ 1000000 := ⟨by have := hfb.1; omega, by have := hfb.2; omega⟩
      have Hsto := Lib.hid hsto
      have Hd2 := Lib.hid hd2
      have Hc2 := Lib.hid hc2
      have Hf2 := Lib.hid hf2
      have Hn2 := Lib.hid hn2
      have Hb4 := Lib.hid b4
      have Hb7 := Lib.hid b7
      have Hb8 := Lib.hid b8
      have HE1 := Lib.hid hE1
      have HE2 := Lib.hid hE2
      have HB1 := Lib.hid hB1
      have HB := Lib.hid hB
      have HK := Lib.hid hK
      clear hsto hd2 hc2 hf2 hn2 b4 b5 b7 b8 ba hE1 hE2 hB1 hB hE hfk hfb hsect hxs hz hlt hK hS
      gi_wp2_with fail
      refine ⟨trivial, ((callsIn_wide (n := 8)).2 (barrier_any base G2 g E W Hd2.out HE1.out HE2.out)).mono ?_⟩
      rintro e w5 ⟨rfl, hd5, hf5⟩
      rw [← HB.out] at hd5 ⊢
      have hk5 : ∀ k, w.heap.size ≤ k → k < w4.heap.size → k < W.heap.size → w5.heap[k]? = W.heap[k]? := fun k h1 h2 h3 => (hf5.block k h3 (Hn2.out k h1 h2)).2
      have e4 := Hb4.out.keep (hk5 _ (by omega) (by omega) Hb4.out.lt)
      have e7 := Hb7.out.keep (hk5 _ (by omega) (by omega) Hb7.out.lt)
      have e8 := Hb8.out.keep (hk5 _ (by omega) (by omega) Hb8.out.lt)
      have r4 := e4.cell 0
      have r70 := e7.cell 0
      have r71 := e7.cell 1
      have r72 := e7.cell 2
      have r8 := e8.cell 0
      have rz8 := e8.frozen 0
      simp only [List.getElem?_toArray, List.getElem?_cons_zero, List.getElem?_cons_succ] at r4 r70 r71 r72 r8
      have hK5 := (keepsFrom_fr (B := w4.heap.size) hf5 Hc2.out).same Dm _ hD HK.out rfl
      obtain ⟨F5, hF5, hd5', hc5⟩ := hd5.tight
      have Hd5 := Lib.hid hd5'
      have Hf5 := Lib.hid (hf5.more (F2 := F5) fun k hk => .inl (hF5 k hk))
      have Hn5 := Lib.hid (show ∀ k, w.heap.size ≤ k → k < w4.heap.size → ¬ F5 k from fun k h1 h2 h => Hn2.out k h1 h2 (hF5 k h))
      have HE8 := Lib.hid e8
      have HK5 := Lib.hid hK5
      have Hc5 := Lib.hid hc5
      clear hd5 hd5' hf5 e4 e7 e8 hK5 hk5 c4 c8 z8 hc5 hF5
      by_cases he : B.2 = 0
      · have hsto := Hsto.out
        rw [if_neg (by rw [he]; decide)] at hsto
        have Hsto2 := Lib.hid hsto
        rw [he]
        clear hsto he
        gi_wp2_with fail
        refine ⟨trivial, ((callsIn_wide (n := 8)).2 (tell_any base F5 g B.1 n' s' u' (by have := Hhs'.out; omega) Hhu'.out w5 Hd5.out HB1.out)).mono ?_⟩
        rintro e w6 ⟨rfl, G6, hd6, hf6⟩
        rw [← Hsto2.out] at hd6 ⊢
        have hn8 := Hn5.out (w.heap.size + 1 + 1 + 1) (by omega) (by omega)
        have e8 := HE8.out.keep (hf6.block _ HE8.out.lt hn8).2
        have s8 := e8.cell 0
        have sz8 := e8.frozen 0
        simp only [List.getElem?_toArray, List.getElem?_cons_zero] at s8
        have hK6 := (keepsFrom_fr (B := w4.heap.size) hf6 Hc5.out).same Dm _ hD HK5.out rfl
        obtain ⟨q1, q2, q3, q4⟩ := js_set (.int .i64 (storeD D s u b n' s' u').2) hd6 ((Hf2.out.trans Hf5.out).trans hf6) e8 (hf6.block _ HE8.out.lt hn8).1 (by omega)
        obtain ⟨p1, p2⟩ := js_end q1 q2 q3 (by omega) (q4 hK6)
        have Hp2 := Lib.hid p2
        have Hq4 := Lib.hid (q4 hK6)
        clear q1 q2 q3 q4 p2 hd6 hf6 e8 hK6 hn8
        gi_wp2
        refine ⟨by simp, .inl ⟨_, _, rfl, run_takeDeferred Hq4.out, ?_⟩⟩
        exact ⟨.int .i64 (storeD D s u b n' s' u').2, by simp [results, Tryz.f63, go_sem, p1], rfl, Hp2.out⟩
      · have hsto := Hsto.out
        rw [if_pos he] at hsto
        have hn8 := Hn5.out (w.heap.size + 1 + 1 + 1) (by omega) (by omega)
        obtain ⟨q1, q2, q3, q4⟩ := js_set (.int .i64 B.2) Hd5.out (Hf2.out.trans Hf5.out) HE8.out hn8 (by omega)
        obtain ⟨p1, p2⟩ := js_end q1 q2 q3 (by omega) (q4 HK5.out)
        have hne : (B.2 != 0) = true := by rw [bne_iff_ne]; exact he
        have Hp2 := Lib.hid p2
        have Hq4 := Lib.hid (q4 HK5.out)
        have Hsto2 := Lib.hid hsto
        clear q1 q2 q3 q4 p2 hn8 hsto he
        gi_wp2
        refine ⟨by simp, .inl ⟨_, _, rfl, run_takeDeferred Hq4.out, ?_⟩⟩
        rw [Hsto2.out]
        exact ⟨.int .i64 B.2, by simp [results, Tryz.f63, go_sem, p1], rfl, Hp2.out⟩
    case stop =>
      rintro Dm c xs W hD ⟨rfl, k, at_, hk, hne, ⟨b4, b5, b7, b8, ba⟩, G2, hd2, hc2, hf2, hn2⟩ hK
      have hsect : sectD D s u b = wrR D st l k := by
        unfold sectD laidB
        rw [← Hhf.out, ← Hl.out, ← HT.out, ← Hst2.out]
        refine wrR_stop D st l k _ hne ?_
        have h1 := Hll.out
        have h2 := HM.out
        have h3 := Hhf.out
        unfold secs
        omega
      have hsto : storeD D s u b n' s' u' = wrR D st l k := by
        unfold storeD
        rw [hsect, if_pos hne]
      obtain ⟨p1, p2⟩ := js_end hd2 hf2 b8 (by omega) hK
      have Hp2 := Lib.hid p2
      have HK := Lib.hid hK
      have Hsto := Lib.hid hsto
      clear hsto hsect p2 hK hd2 hc2 hf2 hn2 b4 b5 b7 b8 ba hne
      gi_wp2
      refine ⟨by simp, .inl ⟨_, _, rfl, run_takeDeferred HK.out, ?_⟩⟩
      rw [Hsto.out]
      exact ⟨.int .i64 (wrR D st l k).2, by simp [results, Tryz.f63, go_sem, p1], rfl, Hp2.out⟩
end Go.Proofs.YtdmbmkjiffhbcaaGreat
