/-
  The reader of an event's fields: next, number, vector, id, ids.
  readEvent.
  event.Read.
-/
import Derived.Test.YtkojoahamoffcaaEvIds
import Derived.Test.YtkojoahamoffcaaSpReads
import Derived.Test.YtkojoahamoffcaaRegions
import Derived.Test.YtkojoahamoffcaaEvCheck
namespace Go.Proofs.Ytkojoahamoffcaa
open Go.RowKit
set_option maxRecDepth 100000

/-- All blocks but p are as they were. -/
def But (p : Nat) (w w' : World) : Prop := w'.os = w.os ∧ w'.tape = w.tape ∧ w'.output = w.output ∧ w.heap.size ≤ w'.heap.size ∧ ∀ k, k < w.heap.size → k ≠ p → w'.heap[k]? = w.heap[k]?
theorem But.trans {p : Nat} {w w' w'' : World} (h : But p w w') (h' : But p w' w'') : But p w w'' :=
  ⟨h'.1.trans h.1, h'.2.1.trans h.2.1, h'.2.2.1.trans h.2.2.1, Nat.le_trans h.2.2.2.1 h'.2.2.2.1, fun k hk hp => (h'.2.2.2.2 k (Nat.lt_of_lt_of_le hk h.2.2.2.1) hp).trans (h.2.2.2.2 k hk hp)⟩
theorem Only.but {p : Nat} {w w' : World} (h : Only p w w') : But p w w' := ⟨h.1, h.2.1, h.2.2.1, Nat.le_of_eq h.2.2.2.1.symm, fun k _ hp => h.2.2.2.2 k hp⟩
theorem below_but {w w' : World} (h : Below w.heap.size w w') (p : Nat) : But p w w' := ⟨h.os, h.tape, h.output, h.size, fun k hk _ => h.block k hk⟩
theorem But.blk {p g : Nat} {w w' : World} {t : TypeId} {cs : Array Value} (h : But p w w') (hg : g ≠ p) (hb : Blk w g t cs) : Blk w' g t cs := (h.2.2.2.2 g hb.lt hg).trans hb
theorem But.isB {p : Nat} {w w' : World} {ok : Nat → Prop} {v : Value} {l : List UInt8} (h : But p w w') (hv : IsB w ok v l) (hn : ∀ q, ok q → q ≠ p) : IsB w' ok v l := hv.frame fun q hq hl => h.2.2.2.2 q hl (hn q hq)
theorem But.isBB {p : Nat} {w w' : World} {ok : Nat → Prop} {v : Value} {l : List (List UInt8)} (h : But p w w') (hv : IsBB w ok v l) (hn : ∀ q, ok q → q ≠ p) : IsBB w' ok v l := hv.frame fun q hq hl => h.2.2.2.2 q hl (hn q hq)
theorem But.isL {α : Type} {K : Kind α} {p : Nat} {w w' : World} {ok : Nat → Prop} {v : Value} {l : List α} (h : But p w w') (hv : IsL K w ok v l) (hn : ∀ q, ok q → q ≠ p) : IsL K w' ok v l := hv.frame fun q hq hl => h.2.2.2.2 q hl (hn q hq)
theorem But.below {p B : Nat} {w0 w w' : World} (h : But p w w') (hp : B ≤ p) (hb : Below B w0 w) (hB : B ≤ w.heap.size) : Below B w0 w' :=
  ⟨h.1.trans hb.os, h.2.1.trans hb.tape, h.2.2.1.trans hb.output, Nat.le_trans hb.size h.2.2.2.1, fun k hk => (h.2.2.2.2 k (by omega) (by omega)).trans (hb.block k hk)⟩

theorem But.setRow {p g : Nat} {w w' : World} (h : But p w w') (hg : w.heap.size ≤ g) (cs : Array Value) : But p w (w'.setRow g cs) := by
  have hb := below_setRow (B := w.heap.size) (Below.refl _ w') hg cs
  exact ⟨hb.os.trans h.1, hb.tape.trans h.2.1, hb.output.trans h.2.2.1, Nat.le_trans h.2.2.2.1 hb.size, fun k hk hp => (hb.block k hk).trans (h.2.2.2.2 k hk hp)⟩
theorem But.alloc {p : Nat} {w w' : World} (h : But p w w') (o : Obj) : But p w (w'.alloc o) := h.trans (below_but ((Below.refl _ _).alloc (Nat.le_refl _) o) p)

/-- A reader at p that has these fields before it, which lie below B. -/
def RdAt (w : World) (p B : Nat) (F : List (List UInt8)) (wr : Bool) : Prop := ∃ v, B ≤ p ∧ Blk w p 81 #[v, .bool wr] ∧ IsBB w (fun q => q < B) v F
section
variable {w w' : World} {p B : Nat} {F : List (List UInt8)} {wr : Bool}
theorem RdAt.lt (h : RdAt w p B F wr) : p < w.heap.size ∧ B ≤ p := by
  obtain ⟨v, h0, h1, _⟩ := h
  exact ⟨h1.lt, h0⟩
theorem RdAt.keep (h : RdAt w p B F wr) (hk : ∀ k, k < B → w'.heap[k]? = w.heap[k]?) (hp : w'.heap[p]? = w.heap[p]?) : RdAt w' p B F wr := by
  obtain ⟨v, h0, h1, h2⟩ := h
  exact ⟨v, h0, hp.trans h1, h2.frame fun k hq _ => hk k hq⟩
theorem RdAt.grow (h : RdAt w p B F wr) (hb : Below w.heap.size w w') : RdAt w' p B F wr := h.keep (fun k hk => hb.block k (by have := h.lt; omega)) (hb.block p h.lt.1)
theorem RdAt.only {g : Nat} (h : RdAt w p B F wr) (ho : Only g w w') (hg : p < g) : RdAt w' p B F wr := h.keep (fun k hk => ho.2.2.2.2 k (by have := h.lt; omega)) (ho.2.2.2.2 p (by omega))
theorem RdAt.setRow {g : Nat} (h : RdAt w p B F wr) (hg : p < g) (cs : Array Value) : RdAt (w.setRow g cs) p B F wr := by
  have hb := below_setRow (B := p + 1) (Below.refl _ w) hg cs
  exact h.keep (fun k hk => hb.block k (by have := h.lt; omega)) (hb.block p (by omega))
/-- What stands of the reader behind a store of its second cell. -/
theorem RdAt.mark (h : RdAt w p B F wr) (x : Bool) (hw : w' = w.setCell ⟨p, 1, none⟩ (.bool x)) : RdAt w' p B F x ∧ Only p w w' := by
  subst hw
  obtain ⟨v, h0, h1, h2⟩ := h
  have ho := only_setCell p 1 (.bool x) w
  exact ⟨⟨v, h0, h1.set_ 1 _, h2.frame fun k hk _ => ho.2.2.2.2 k (by omega)⟩, ho⟩
theorem RdAt.cell (h : RdAt w p B F wr) : w.cell? ⟨p, 1, none⟩ = some (.bool wr) ∧ w.frozen? ⟨p, 1, none⟩ = false := by
  obtain ⟨v, _, h1, _⟩ := h
  exact ⟨by rw [h1.cell]; rfl, h1.frozen 1⟩
end

theorem rd_low {w : World} {ok : Nat → Prop} {A : Option Addr} {xs : List Value} (h : Rd w ok A xs) : Rd w (fun q => q < w.heap.size) A xs := fun hn => by
  obtain ⟨ad, e, _, hl⟩ := h.lt hn
  obtain ⟨ad', e', _, hc⟩ := h hn
  subst e
  cases e'
  exact ⟨ad, rfl, hl, hc⟩
theorem isB_low {w : World} {ok : Nat → Prop} {v : Value} {l : List UInt8} (h : IsB w ok v l) : IsB w (fun q => q < w.heap.size) v l := by
  obtain ⟨A, c, e, h1, h2, h3⟩ := h
  exact ⟨A, c, e, h1, h2, rd_low h3⟩
theorem conv_strE {w : World} {ok : Nat → Prop} {v : Value} {l : List UInt8} (h : IsB w ok v l) : (convert 34 9 v).run Try.prog w = .ok (str l) w := by
  obtain ⟨A, c, rfl, _, _, hr⟩ := h
  exact run_bytes_str _ _ _ Try.underlying34 Try.underlying5 Try.underlying9 hr
theorem IsBB.tail {w : World} {ok : Nat → Prop} {b off c : Nat} {f : List UInt8} {R : List (List UInt8)} (h : IsBB w ok (.slice (some ⟨b, off, none⟩) (R.length + 1) c) (f :: R)) :
    IsBB w ok (.slice (some ⟨b, off + 1, none⟩) R.length (c - 1)) R ∧ (c = 1 → IsBB w ok (.slice (some ⟨b, off, none⟩) R.length (c - 1)) R) := by
  obtain ⟨A, c', vs, e, h0, h1, h2, h3, h4⟩ := h
  cases e
  rw [List.length_cons] at h0 h1
  have hd := h3.drop' (k := 1)
  have ht : ∀ (i : Nat) (hi : i < R.length) (hi' : i < (vs.drop 1).length), IsB w ok (vs.drop 1)[i] R[i] := by
    intro i hi hi'
    have hl : i + 1 < vs.length := by rw [List.length_drop] at hi'; omega
    have := h4 (i + 1) (by rw [List.length_cons]; omega) hl
    rw [List.getElem_drop]
    simpa [Nat.add_comm] using this
  refine ⟨⟨_, c - 1, vs.drop 1, rfl, by rw [List.length_drop]; omega, by omega, Nat.le_trans (Nat.sub_le _ _) h2, by simpa using hd, ht⟩, fun e => ?_⟩
  · have : R = [] := List.eq_nil_of_length_eq_zero (by omega)
    subst this
    exact ⟨_, c - 1, [], rfl, rfl, by simp, Nat.le_trans (Nat.sub_le _ _) h2, Rd.nil, fun i hi => by simp at hi⟩

set_option maxHeartbeats 1000000 in
theorem rnext_any (p B : Nat) (f : List UInt8) (R : List (List UInt8)) (wr : Bool) (w : World) (h : RdAt w p B (f :: R) wr) :
    Calls Try.prog 54 #[.pointer (some ⟨p, 0, none⟩)] w fun e w' => ∃ u, e = .returned u ∧ IsB w' (fun q => q < B) u f ∧ RdAt w' p B R wr ∧ Only p w w' := by
  obtain ⟨v, h0, hb, hv⟩ := h
  obtain ⟨A, c, rfl, hc1, hc2, hel⟩ := hv.elem
  obtain ⟨b, off, rfl, hbp, hbl, hel⟩ := hel (by simp)
  obtain ⟨Ai, ci, hc, hci, hcm, hrd⟩ := hel 0 (by simp)
  rw [List.length_cons] at hv hb hc1
  obtain ⟨ht1, ht2⟩ := hv.tail
  simp only [Nat.add_zero, List.getElem_cons_zero] at hc hci hrd
  have c0 : w.cell? ⟨p, 0, none⟩ = some (.slice (some ⟨b, off, none⟩) (R.length + 1) c) := by rw [hb.cell]; rfl
  have z0 : w.frozen? ⟨p, 0, none⟩ = false := hb.frozen 0
  have hB : IsB w (fun q => q < B) (.slice Ai f.length ci) f := ⟨_, _, rfl, hci, hcm, hrd⟩
  obtain ⟨n, hn⟩ : ∃ n, n = f.length := ⟨_, rfl⟩
  rw [← hn] at hc hB
  have hm : c ≤ 9223372036854775807 := Nat.le_trans hc2 (by decide)
  have Ht1 := Lib.hid ht1
  have HB := Lib.hid hB
  have HBk := Lib.hid hb
  have Hbp := Lib.hid hbp
  clear hn ht1 hB hb hv hel hrd hc2 hbp
  by_cases h1 : c = 1
  · have Ht2 := Lib.hid (ht2 h1)
    clear ht2
    go_enter Try.func54, Try.ntmps54
    go_wp2_with fail
    subst h1
    have ho := only_setCell p 0 (.slice (some ⟨b, off, none⟩) R.length 0) w
    go_ret
    exact ⟨_, rfl, HB.out.frame fun q hq _ => ho.2.2.2.2 q (by omega), ⟨_, h0, HBk.out.set_ 0 _, Ht2.out.frame fun q hq _ => ho.2.2.2.2 q (by omega)⟩, ho⟩
  · clear ht2
    go_enter Try.func54, Try.ntmps54
    go_wp2_with fail
    have ho := only_setCell p 0 (.slice (some ⟨b, off + 1, none⟩) R.length (c - 1)) w
    go_ret
    exact ⟨_, rfl, HB.out.frame fun q hq _ => ho.2.2.2.2 q (by omega), ⟨_, h0, HBk.out.set_ 0 _, Ht1.out.frame fun q hq _ => ho.2.2.2.2 q (by omega)⟩, ho⟩

set_option maxHeartbeats 1000000 in
theorem rnumber_any (p B : Nat) (f : List UInt8) (R : List (List UInt8)) (wr : Bool) (w : World) (h : RdAt w p B (f :: R) wr) :
    Calls Try.prog 51 #[.pointer (some ⟨p, 0, none⟩)] w fun e w' => e = .returned (.int .i64 ((rdNum f).1 : Int)) ∧ RdAt w' p B R (wr || !(rdNum f).2) ∧ But p w w' := by
  have hn := rnext_any p B f R wr w h
  have hr := fun ok v w (hv : IsB w ok v f) => rdnum_any ok v f w hv
  generalize rdNum f = N at hr ⊢
  obtain ⟨n, o⟩ := N
  simp only [] at hr ⊢
  have Hn := Lib.hid hn
  have Hr := Lib.hid hr
  clear hn hr h
  cases wr <;> cases o
  all_goals go_enter Try.func51, Try.ntmps51
  all_goals go_wp2_with (first | (go_at_call 54; (with_reducible refine Hn.out.mono ?_); rintro e w1 ⟨u, rfl, hu, hR, ho⟩; have HR := Lib.hid hR; obtain ⟨c1, z1⟩ := hR.cell; have Hu := Lib.hid hu; have Ho := Lib.hid ho; clear hR hu ho) | (go_at_call 63; refine (Hr.out _ _ _ Hu.out).mono ?_; rintro e w2 ⟨rfl, rfl⟩))
  all_goals go_ret
  all_goals exact ⟨rfl, (HR.out.mark _ rfl).1, Ho.out.but.trans (HR.out.mark _ rfl).2.but⟩

set_option maxHeartbeats 1000000 in
theorem rid_any (p B : Nat) (f : List UInt8) (R : List (List UInt8)) (wr : Bool) (w : World) (h : RdAt w p B (f :: R) wr) :
    Calls Try.prog 53 #[.pointer (some ⟨p, 0, none⟩)] w fun e w' => e = .returned (.agg (idC (rdID f).1.1 (rdID f).1.2)) ∧ RdAt w' p B R (wr || !(rdID f).2) ∧ But p w w' := by
  have hp := h.lt
  obtain ⟨W, hW⟩ : ∃ W, W = w.alloc (.cells #[.int .i64 0, .int .u32 0] 24) := ⟨_, rfl⟩
  have hbW : Below w.heap.size w W := by rw [hW]; exact (Below.refl _ _).alloc (Nat.le_refl _) _
  have hB0 : Blk W w.heap.size 24 (idC 0 0) := by rw [hW]; exact Blk.new w _ _
  have hn := rnext_any p B f R wr W (h.grow hbW)
  have hr := fun ok v w (hv : IsB w ok v f) => rdid_any ok v f w hv
  generalize rdID f = N at hr ⊢
  obtain ⟨⟨r, s⟩, o⟩ := N
  simp only [] at hr ⊢
  have Hn := Lib.hid hn
  have Hr := Lib.hid hr
  have HW := Lib.hid hW
  have HB0 := Lib.hid hB0
  clear hn hr h hW hB0
  cases wr <;> cases o
  all_goals go_enter Try.func53, Try.ntmps53
  all_goals go_upto_region 1 with fail
  all_goals rw [← HW.out]
  all_goals refine wp_region_lit ?_
  all_goals go_upto_region 2 with (first | (go_at_call 54; (with_reducible refine Hn.out.mono ?_); rintro e w1 ⟨u, rfl, hu, hR, ho⟩; have HR := Lib.hid hR; have Hu := Lib.hid hu; have Ho := Lib.hid ho; clear hR hu ho) | (go_at_call 65; refine (Hr.out _ _ _ Hu.out).mono ?_; rintro e w2 ⟨rfl, hb2⟩; have HB2 := Lib.hid (show Blk (w2.alloc (.cells #[.int .i64 0, .int .u32 0] 24)) w2.heap.size 24 (idC 0 0) from Blk.new w2 _ _)) | (refine wpList_store_row ?_ 24 (.tmp 3) (.tmp 9) ?_ w2.heap.size (idC r s) ?_ ?_ 24 (idC 0 0) HB2.out id_info rfl (idC_one _ _) ?_; exact rfl; exact rfl; exact rfl; exact rfl; obtain ⟨Z, hZ⟩ : ∃ Z, Z = (w2.alloc (.cells #[.int .i64 0, .int .u32 0] 24)).setRow w2.heap.size (idC r s) := ⟨_, rfl⟩; rw [← hZ]; have hbZ : Below w2.heap.size w2 Z := (by rw [hZ]; exact below_setRow ((Below.refl _ _).alloc (Nat.le_refl _) _) (Nat.le_refl _) _); have HB3 := Lib.hid (show Blk Z w2.heap.size 24 (idC r s) by rw [hZ]; exact HB2.out.setRow_ _); clear hZ))
  all_goals have hs1 := Ho.out.2.2.2.1
  all_goals have hsW := hbW.size
  all_goals have hs2 := hb2.size
  all_goals have HR2 := Lib.hid ((HR.out.grow hb2).grow hbZ)
  all_goals obtain ⟨c1, z1⟩ := HR2.out.cell
  all_goals have HB4 := Lib.hid (((Ho.out.blk (by omega) HB0.out).grow hb2).grow hbZ)
  all_goals go_upto_region 3 with fail
  all_goals generalize hV : World.setCell _ _ _ = V
  all_goals have hm := HR2.out.mark _ hV.symm
  all_goals have HB5 := Lib.hid (hm.2.blk (by omega) HB3.out)
  all_goals have HB6 := Lib.hid (hm.2.blk (by omega) HB4.out)
  all_goals have HV := Lib.hid hV
  all_goals clear hV c1 z1
  all_goals refine wp_region_lit ?_
  all_goals refine wpList_load_row rfl 24 (.tmp 3) rfl w2.heap.size rfl 24 (idC r s) (0, 0) _ HB5.out Try.underlying24 rfl id_info ?_
  all_goals refine wpList_store_row rfl 24 (.tmp 2) (.tmp 22) rfl w.heap.size (idC r s) rfl rfl 24 (idC 0 0) HB6.out id_info rfl (idC_one _ _) ?_
  all_goals go_wp2_with fail
  all_goals exact bodyPost_ret (v := .agg (idC r s)) (results_cell_row Try.results53 _ _ w.heap.size 24 (idC r s) (0, 0) _ rfl (HB6.out.setRow_ _) Try.underlying24 rfl id_info) rfl ⟨rfl, hm.1.setRow hp.1 _, (((((below_but hbW p).trans Ho.out.but).trans (below_but hb2 p)).trans (below_but hbZ p)).trans hm.2.but).setRow (Nat.le_refl _) _⟩

theorem grow_slice (ok : Nat → Prop) (A : Option Addr) (c : Nat) (l : List UInt8) (w : World) (hv : IsB w ok (.slice A l.length c) l) :
    Calls Try.prog 64 #[.slice A l.length c, .agg #[.int .u32 0, .int .u32 0, .int .u32 0, .int .u32 0, .int .u32 0, .int .u32 0, .int .u32 0, .int .u32 0]] w fun e w' => e = .returned (.tuple #[.agg (av (growV l zeroV).1), .int .i64 ((growV l zeroV).2 : Int)]) ∧ Below w.heap.size w w' := by
  obtain ⟨A', c', e, h1, h2, h3⟩ := hv
  cases e
  exact grow_any ok A c l zeroV okV_zero w h1 h2 h3

set_option maxHeartbeats 1000000 in
theorem rvector_any (p B : Nat) (f : List UInt8) (R : List (List UInt8)) (wr : Bool) (w : World) (h : RdAt w p B (f :: R) wr) :
    Calls Try.prog 52 #[.pointer (some ⟨p, 0, none⟩)] w fun e w' => e = .returned (.agg (av (growV f zeroV).1)) ∧ RdAt w' p B R (wr || !decide ((growV f zeroV).2 = 0)) ∧ But p w w' := by
  have hp := h.lt
  obtain ⟨W, hW⟩ : ∃ W, W = w.alloc (.cells #[.int .u32 0, .int .u32 0, .int .u32 0, .int .u32 0, .int .u32 0, .int .u32 0, .int .u32 0, .int .u32 0] 26) := ⟨_, rfl⟩
  have hbW : Below w.heap.size w W := by rw [hW]; exact (Below.refl _ _).alloc (Nat.le_refl _) _
  have hB0 : Blk W w.heap.size 26 (av zeroV) := by rw [hW]; exact Blk.new w _ _
  have hn := rnext_any p B f R wr W (h.grow hbW)
  have hr := fun ok A c w (hv : IsB w ok (.slice A f.length c) f) => grow_slice ok A c f w hv
  obtain ⟨n, hn0⟩ : ∃ n, n = f.length := ⟨_, rfl⟩
  rw [← hn0] at hr
  generalize growV f zeroV = N at hr ⊢
  obtain ⟨V0, o⟩ := N
  simp only [] at hr ⊢
  obtain ⟨x, hx⟩ : ∃ x, x = decide (o = 0) := ⟨_, rfl⟩
  rw [← hx]
  have e1 : ((o : Int) != 0) = !x := by rw [hx, Bool.eq_iff_iff]; simp
  have e2 : (o != 0) = !x := by rw [hx, Bool.eq_iff_iff]; simp
  have Hn0 := Lib.hid hn0
  have Hn := Lib.hid hn
  have Hr := Lib.hid hr
  have HW := Lib.hid hW
  have HB0 := Lib.hid hB0
  clear hn hr h hW hB0 hx hn0
  cases wr <;> cases x
  all_goals simp only [Bool.not_true, Bool.not_false] at e1 e2
  all_goals go_enter Try.func52, Try.ntmps52
  all_goals go_upto_region 1 with fail
  all_goals rw [← HW.out]
  all_goals refine wp_region_lit ?_
  all_goals go_upto_region 2 with (first | (go_at_call 54; (with_reducible refine Hn.out.mono ?_); rintro e w1 ⟨u, rfl, hu, hR, ho⟩; obtain ⟨Au, cu, rfl, hcu, hcm, hru⟩ := hu; have hu := (show IsB w1 (fun q => q < B) (.slice Au f.length cu) f from ⟨Au, cu, rfl, hcu, hcm, hru⟩); rw [← Hn0.out] at hu; rw [← Hn0.out]; clear hru hcu hcm; have HR := Lib.hid hR; have Hu := Lib.hid hu; have Ho := Lib.hid ho; clear hR hu ho) | (go_at_call 64; refine (Hr.out _ _ _ _ Hu.out).mono ?_; rintro e w2 ⟨rfl, hb2⟩; have HB2 := Lib.hid (show Blk (w2.alloc (.cells #[.int .u32 0, .int .u32 0, .int .u32 0, .int .u32 0, .int .u32 0, .int .u32 0, .int .u32 0, .int .u32 0] 26)) w2.heap.size 26 (av zeroV) from Blk.new w2 _ _)) | (refine wpList_store_row ?_ 26 (.tmp 3) (.tmp 10) ?_ w2.heap.size (av V0) ?_ ?_ 26 (av zeroV) HB2.out vec_info rfl (av_one _) ?_; exact rfl; exact rfl; exact rfl; exact rfl; obtain ⟨Z, hZ⟩ : ∃ Z, Z = (w2.alloc (.cells #[.int .u32 0, .int .u32 0, .int .u32 0, .int .u32 0, .int .u32 0, .int .u32 0, .int .u32 0, .int .u32 0] 26)).setRow w2.heap.size (av V0) := ⟨_, rfl⟩; rw [← hZ]; have hbZ : Below w2.heap.size w2 Z := (by rw [hZ]; exact below_setRow ((Below.refl _ _).alloc (Nat.le_refl _) _) (Nat.le_refl _) _); have HB3 := Lib.hid (show Blk Z w2.heap.size 26 (av V0) by rw [hZ]; exact HB2.out.setRow_ _); clear hZ))
  all_goals have hs1 := Ho.out.2.2.2.1
  all_goals have hsW := hbW.size
  all_goals have hs2 := hb2.size
  all_goals have HR2 := Lib.hid ((HR.out.grow hb2).grow hbZ)
  all_goals obtain ⟨c1, z1⟩ := HR2.out.cell
  all_goals have HB4 := Lib.hid (((Ho.out.blk (by omega) HB0.out).grow hb2).grow hbZ)
  all_goals go_upto_region 3 with fail
  all_goals generalize hV : World.setCell _ _ _ = V
  all_goals have hm := HR2.out.mark _ hV.symm
  all_goals have HB5 := Lib.hid (hm.2.blk (by omega) HB3.out)
  all_goals have HB6 := Lib.hid (hm.2.blk (by omega) HB4.out)
  all_goals have HV := Lib.hid hV
  all_goals clear hV c1 z1
  all_goals refine wp_region_lit ?_
  all_goals refine wpList_load_row rfl 26 (.tmp 3) rfl w2.heap.size rfl 26 (av V0) (0, 0) _ HB5.out Try.underlying26 rfl vec_info ?_
  all_goals refine wpList_store_row rfl 26 (.tmp 2) (.tmp 23) rfl w.heap.size (av V0) rfl rfl 26 (av zeroV) HB6.out vec_info rfl (av_one _) ?_
  all_goals go_wp2_with fail
  all_goals exact bodyPost_ret (v := .agg (av V0)) (results_cell_row Try.results52 _ _ w.heap.size 26 (av V0) (0, 0) _ rfl (HB6.out.setRow_ _) Try.underlying26 rfl vec_info) rfl ⟨rfl, hm.1.setRow hp.1 _, (((((below_but hbW p).trans Ho.out.but).trans (below_but hb2 p)).trans (below_but hbZ p)).trans hm.2.but).setRow (Nat.le_refl _) _⟩

set_option maxHeartbeats 1000000 in
theorem rids_any (p B : Nat) (f : List UInt8) (R : List (List UInt8)) (wr : Bool) (w : World) (h : RdAt w p B (f :: R) wr) (hf : f.length ≤ 1099511627776) :
    Calls Try.prog 55 #[.pointer (some ⟨p, 0, none⟩)] w fun e w' => ∃ u, e = .returned u ∧ IsL kId w' (fun q => w.heap.size ≤ q) u (rdIDs f 8).1 ∧ RdAt w' p B R (wr || !decide ((rdIDs f 8).2 = 0)) ∧ But p w w' := by
  have hn := rnext_any p B f R wr w h
  have hr := fun ok v w (hv : IsB w ok v f) => rdids_any ok v f 8 w hv hf
  have hp := h.lt
  generalize rdIDs f 8 = N at hr ⊢
  obtain ⟨n, o⟩ := N
  simp only [] at hr ⊢
  obtain ⟨x, hx⟩ : ∃ x, x = decide (o = 0) := ⟨_, rfl⟩
  rw [← hx]
  have e1 : ((o : Int) != 0) = !x := by rw [hx, Bool.eq_iff_iff]; simp
  have e2 : (o != 0) = !x := by rw [hx, Bool.eq_iff_iff]; simp
  have Hn := Lib.hid hn
  have Hr := Lib.hid hr
  clear hn hr h hx hf
  cases wr <;> cases x
  all_goals simp only [Bool.not_true, Bool.not_false] at e1 e2
  all_goals go_enter Try.func55, Try.ntmps55
  all_goals go_wp2_with (first | (go_at_call 54; (with_reducible refine Hn.out.mono ?_); rintro e w1 ⟨u, rfl, hu, hR, ho⟩; have HR := Lib.hid hR; have Hu := Lib.hid hu; have Ho := Lib.hid ho; clear hR hu ho) | (go_at_call 66; refine (Hr.out _ _ _ Hu.out).mono ?_; rintro e w2 ⟨l, rfl, hl, hb2⟩; have HR2 := Lib.hid (HR.out.grow hb2); obtain ⟨c1, z1⟩ := HR2.out.cell; have Hl := Lib.hid hl; have Hb2 := Lib.hid hb2; clear hl hb2))
  all_goals go_ret
  all_goals have hs := Ho.out.2.2.2.1
  all_goals exact ⟨_, rfl, (((HR2.out.mark _ rfl).2.but).isL Hl.out (fun q hq => by omega)).weaken (fun q hq => by omega), (HR2.out.mark _ rfl).1, (Ho.out.but.trans (below_but Hb2.out p)).trans (HR2.out.mark _ rfl).2.but⟩
end Go.Proofs.Ytkojoahamoffcaa

namespace Go.Proofs.Ytkojoahamoffcaa
open Go.RowKit
set_option maxRecDepth 100000

/-- What stands while an event's fields are read: the reader, the event, the result. -/
structure St (w0 W : World) (B : Nat) (e : Ev) (vg vb : Value) (F : List (List UInt8)) (wr : Bool) : Prop where
  rd : RdAt W (B + 1) B F wr
  ev : Blk W (B + 1 + 1) 29 (evC e vg vb)
  res : Blk W B 29 (evC zeroE (.slice none 0 0) (.slice none 0 0))
  gone : IsL kId W (fun q => B + 1 + 1 < q) vg e.gone
  base : IsL kId W (fun q => B + 1 + 1 < q) vb e.base
  below : Below B w0 W
section
variable {w0 W W' : World} {B : Nat} {e e' : Ev} {vg vb vg' vb' : Value} {F F' : List (List UInt8)} {wr wr' : Bool}
theorem St.but (h : St w0 W B e vg vb F wr) (hr : RdAt W' (B + 1) B F' wr') (hb : But (B + 1) W W') : St w0 W' B e vg vb F' wr' :=
  ⟨hr, hb.blk (by omega) h.ev, hb.blk (by omega) h.res, hb.isL h.gone fun q hq => by omega, hb.isL h.base fun q hq => by omega, hb.below (by omega) h.below (by have := h.res.lt; omega)⟩
theorem St.put (h : St w0 W B e vg vb F wr) (ho : Only (B + 1 + 1) W W') (hb : Blk W' (B + 1 + 1) 29 (evC e' vg' vb')) (hg : IsL kId W (fun q => B + 1 + 1 < q) vg' e'.gone) (hb' : IsL kId W (fun q => B + 1 + 1 < q) vb' e'.base) : St w0 W' B e' vg' vb' F wr :=
  ⟨h.rd.only ho (by omega), hb, ho.blk (by omega) h.res, hg.frame fun q hq _ => ho.2.2.2.2 q (by omega), hb'.frame fun q hq _ => ho.2.2.2.2 q (by omega), ho.below (by omega) h.below⟩
theorem St.set_ (h : St w0 W B e vg vb F wr) (o : Nat) (v : Value) (hw : W' = W.setCell ⟨B + 1 + 1, o, none⟩ v) (e' : Ev) (he : (evC e vg vb).setIfInBounds o v = evC e' vg vb) (hg : e'.gone = e.gone) (hb : e'.base = e.base) : St w0 W' B e' vg vb F wr := by
  subst hw
  exact h.put (only_setCell _ _ _ _) (he ▸ h.ev.set_ o v) (hg ▸ h.gone) (hb ▸ h.base)
end
theorem zeroE_lit : evC zeroE (.slice none 0 0) (.slice none 0 0) = #[.int .i64 0, .int .u32 0, .int .u32 0, .int .u32 0, .int .u32 0, .int .u32 0, .int .u32 0, .int .u32 0, .int .u32 0, .int .u32 0, .int .i64 0, .int .i64 0, .int .u32 0, .int .i64 0, .int .u32 0, .string { data := #[] }, .slice none 0 0, .slice none 0 0, .int .i64 0, .string { data := #[] }, .int .i64 0] := rfl
theorem put_dep (e : Ev) (vg vb : Value) (V : Nat → Nat) : setAll (evC e vg vb) 2 (av V).toList = evC { e with dep := V } vg vb := by simp [setAll, evC, av]
theorem put_obj (e : Ev) (vg vb : Value) (r : Int) (s : Nat) : setAll (evC e vg vb) 11 (idC r s).toList = evC { e with orep := r, oseq := s } vg vb := by simp [setAll, evC, idC]
theorem put_dir (e : Ev) (vg vb : Value) (r : Int) (s : Nat) : setAll (evC e vg vb) 13 (idC r s).toList = evC { e with drep := r, dseq := s } vg vb := by simp [setAll, evC, idC]
theorem rd_fields {F : List (List UInt8)} (h : F.length = 12) : ∃ a0 a1 a2 a3 a4 a5 a6 a7 a8 a9 a10 a11, F = [a0, a1, a2, a3, a4, a5, a6, a7, a8, a9, a10, a11] := ⟨_, _, _, _, _, _, _, _, _, _, _, _, list12 h⟩
theorem rdOk_not (x0 x1 x2 x3 x4 x5 x7 x8 x9 x11 : Bool) : (!(((((((((((false || !x0) || !x1) || !x2) || !x3) || !x4) || !x5) || !x7) || !x8) || !x9) || !x11)) ) = (x0 && x1 && x2 && x3 && x4 && x5 && x7 && x8 && x9 && x11) := by
  cases x0 <;> cases x1 <;> cases x2 <;> cases x3 <;> cases x4 <;> cases x5 <;> cases x7 <;> cases x8 <;> cases x9 <;> cases x11 <;> rfl

/-- What stands in the last region of readEvent. -/
structure RdJ (w : World) (E : Array Value) (F : List (List UInt8)) (vg vb : Value) (m : Bool) (d : Nat → Bool) (x : World) : Prop where
  ev : Blk x (w.heap.size + 1 + 1) 29 E
  rd : RdAt x (w.heap.size + 1) w.heap.size [] m
  gone : IsL kId x (fun q => w.heap.size + 1 + 1 < q) vg (rdEv F).gone
  base : IsL kId x (fun q => w.heap.size + 1 + 1 < q) vb (rdEv F).base
  below : Below w.heap.size w x
  out : d 4 = true → Blk x w.heap.size 29 E
  res : d 4 = false → Blk x w.heap.size 29 (evC zeroE (.slice none 0 0) (.slice none 0 0))
theorem RdJ.drew {w : World} {E : Array Value} {F : List (List UInt8)} {vg vb : Value} {m : Bool} {d : Nat → Bool} {x : World} (h : RdJ w E F vg vb m d x) : RdJ w E F vg vb m d x.drew := by
  have hb := (Below.refl x.heap.size x).drew
  exact ⟨h.ev.grow hb, h.rd.grow hb, h.gone.grow hb, h.base.grow hb, h.below.drew, fun e => (h.out e).grow hb, fun e => (h.res e).grow hb⟩
theorem RdJ.more {w : World} {E : Array Value} {F : List (List UInt8)} {vg vb : Value} {m : Bool} {d : Nat → Bool} {x : World} (h : RdJ w E F vg vb m d x) {i : Nat} (hi : i ≠ 4) : RdJ w E F vg vb m (also d i) x := by
  have e : also d i 4 = d 4 := by unfold also; rw [if_neg (fun e => hi e.symm)]
  exact ⟨h.ev, h.rd, h.gone, h.base, h.below, fun h' => h.out (e ▸ h'), fun h' => h.res (e ▸ h')⟩
theorem RdJ.store {w : World} {E : Array Value} {F : List (List UInt8)} {vg vb : Value} {m : Bool} {d : Nat → Bool} {x : World} (h : RdJ w E F vg vb m d x) (hd : d 4 = false) : RdJ w E F vg vb m (also d 4) (x.setRow w.heap.size E) := by
  have hB := h.res hd
  have ho : ∀ k, k ≠ w.heap.size → (x.setRow w.heap.size E).heap[k]? = x.heap[k]? := fun k hk => setRow_other x w.heap.size k E hk
  exact ⟨(ho _ (by omega)).trans h.ev, h.rd.keep (fun k hk => ho k (by omega)) (ho _ (by omega)), h.gone.frame fun q hq _ => ho q (by omega), h.base.frame fun q hq _ => ho q (by omega), below_setRow h.below (Nat.le_refl _) _, fun _ => hB.setRow_ _, fun e => by cases e⟩
theorem rdEv_ok (F : List (List UInt8)) (h6 : (fld F 6).length ≤ maxLen) (h10 : (fld F 10).length ≤ maxLen) : EvOk (rdEv F) := by
  have hn := fun i => rdNum_le (fld F i)
  have n0 := hn 0
  have n1 := hn 1
  have n3 := hn 3
  have n9 := hn 9
  have n11 := hn 11
  have i4 := rdID_ok (fld F 4)
  have i5 := rdID_ok (fld F 5)
  have g := okV_grow (fld F 2) zeroV
  exact ⟨by show I64 (((rdNum (fld F 0)).1 : Nat) : Int); unfold I64; omega, by show (rdNum (fld F 1)).1 < _; omega, g, by show I64 (((rdNum (fld F 3)).1 : Nat) : Int); unfold I64; omega, i4, i5, h6, by show I64 (((rdNum (fld F 9)).1 : Nat) : Int); unfold I64; omega, h10, by show I64 (((rdNum (fld F 11)).1 : Nat) : Int); unfold I64; omega⟩
theorem IsB.le {w : World} {ok : Nat → Prop} {v : Value} {l : List UInt8} (h : IsB w ok v l) : l.length ≤ maxLen := by
  obtain ⟨A, c, _, h1, h2, _⟩ := h
  exact Nat.le_trans h1 h2
theorem many6 {i n : Nat} (h : i < n) (hn : n = 6) : i = 0 ∨ i = 1 ∨ i = 2 ∨ i = 3 ∨ i = 4 ∨ i = 5 := by omega

set_option maxHeartbeats 8000000 in
theorem readev_any (ok : Nat → Prop) (v : Value) (F : List (List UInt8)) (w : World) (hv : IsBB w ok v F) (hF : F.length = 12) (hf : ∀ f ∈ F, f.length ≤ 1099511627776) :
    Calls Try.prog 33 #[v] w fun x w' => ∃ vg vb, x = .returned (.tuple #[.agg (evC (rdEv F) vg vb), .bool (rdOk F)]) ∧ EvIn w' (fun q => w.heap.size ≤ q) (rdEv F) vg vb ∧ Below w.heap.size w w' := by
  obtain ⟨a0, a1, a2, a3, a4, a5, a6, a7, a8, a9, a10, a11, rfl⟩ := rd_fields hF
  have hlow : IsBB w (fun q => q < w.heap.size) v [a0, a1, a2, a3, a4, a5, a6, a7, a8, a9, a10, a11] := by
    obtain ⟨A, c, vs, e, h0, h1, h2, h3, h4⟩ := hv
    exact ⟨A, c, vs, e, h0, h1, h2, rd_low h3, fun i hi hi' => isB_low (h4 i hi hi')⟩
  obtain ⟨A, c, _, rfl, _⟩ := hv
  obtain ⟨W, hW⟩ : ∃ W, W = ((w.alloc (.cells (evC zeroE (.slice none 0 0) (.slice none 0 0)) 29)).alloc (.cells #[.slice A 12 c, .bool false] 81)).alloc (.cells (evC zeroE (.slice none 0 0) (.slice none 0 0)) 29) := ⟨_, rfl⟩
  have hS0 : St w W w.heap.size zeroE (.slice none 0 0) (.slice none 0 0) [a0, a1, a2, a3, a4, a5, a6, a7, a8, a9, a10, a11] false := by
    have k0 := Blk.new w 29 (evC zeroE (.slice none 0 0) (.slice none 0 0))
    have k1 := Blk.new (w.alloc (.cells (evC zeroE (.slice none 0 0) (.slice none 0 0)) 29)) 81 #[.slice A 12 c, .bool false]
    have k2 := Blk.new ((w.alloc (.cells (evC zeroE (.slice none 0 0) (.slice none 0 0)) 29)).alloc (.cells #[.slice A 12 c, .bool false] 81)) 29 (evC zeroE (.slice none 0 0) (.slice none 0 0))
    rw [World.size_alloc] at k1
    rw [World.size_alloc, World.size_alloc] at k2
    have hb : Below w.heap.size w W := by
      rw [hW]
      exact (((Below.refl _ _).alloc (Nat.le_refl _) _).alloc (by rw [World.size_alloc]; omega) _).alloc (by rw [World.size_alloc, World.size_alloc]; omega) _
    rw [← hW] at k2
    have k1' := k1.alloc (.cells (evC zeroE (.slice none 0 0) (.slice none 0 0)) 29)
    have k0' := (k0.alloc (.cells #[.slice A 12 c, .bool false] 81)).alloc (.cells (evC zeroE (.slice none 0 0) (.slice none 0 0)) 29)
    rw [← hW] at k1' k0'
    exact ⟨⟨_, by omega, k1', hlow.grow hb⟩, k2, k0', IsL.nil, IsL.nil, hb⟩
  rw [zeroE_lit] at hW
  have HW := Lib.hid hW
  have HS0 := Lib.hid hS0
  have hf7 := hf a7 (by simp)
  have hf8 := hf a8 (by simp)
  have hw1 : IntKind.u32.wrap ((rdNum a1).1 : Int) = ((rdNum a1).1 : Int) := by have := rdNum_le a1; rw [IntKind.wrap_u32]; omega
  have Hf7 := Lib.hid hf7
  have Hf8 := Lib.hid hf8
  clear hW hS0 hf7 hf8 hf hF hlow
  go_enter Try.func33, Try.ntmps33
  go_upto_region 3 with fail
  rw [← HW.out]
  refine wp_region_lit ?_
  go_upto_region 4 with (go_at_call 51; (with_reducible refine (rnumber_any _ _ _ _ _ _ HS0.out.rd).mono ?_); rintro x u0 ⟨rfl, hR0, hb0⟩; have HT0 := Lib.hid (HS0.out.but hR0 hb0); have hc0 := HT0.out.ev.ev.rep; have hz0 := HT0.out.ev.frozen 0; clear hR0 hb0)
  generalize hV0 : World.setCell _ _ _ = V0
  have HS1 := Lib.hid (HT0.out.set_ 0 (.int .i64 ((rdNum a0).1 : Int)) hV0.symm ({ zeroE with rep := (rdNum a0).1 }) rfl rfl rfl)
  clear hV0 hc0 hz0
  refine wp_region_lit ?_
  go_upto_region 5 with (go_at_call 51; (with_reducible refine (rnumber_any _ _ _ _ _ _ HS1.out.rd).mono ?_); rintro x u1 ⟨rfl, hR1, hb1⟩; have HT1 := Lib.hid (HS1.out.but hR1 hb1); have hc1 := HT1.out.ev.ev.seq; have hz1 := HT1.out.ev.frozen 1; clear hR1 hb1)
  generalize hV1 : World.setCell _ _ _ = V1
  have HS2 := Lib.hid (HT1.out.set_ 1 (.int .u32 ((rdNum a1).1 : Int)) hV1.symm ({ zeroE with rep := (rdNum a0).1, seq := (rdNum a1).1 }) rfl rfl rfl)
  clear hV1 hc1 hz1
  refine wp_region_lit ?_
  go_upto_region 6 with (first | (go_at_call 52; (with_reducible refine (rvector_any _ _ _ _ _ _ HS2.out.rd).mono ?_); rintro x u2 ⟨rfl, hR2, hb2⟩; have HT2 := Lib.hid (HS2.out.but hR2 hb2); clear hR2 hb2) | (refine wpList_store_blk ?_ 26 (.tmp 16) (.tmp 15) ?_ (w.heap.size + 1 + 1) 2 (av (growV a2 zeroV).1) ?_ ?_ 29 _ HT2.out.ev ?_ vec_info (av_one _) ?_; exact rfl; exact rfl; exact rfl; exact rfl; exact (by show 2 + 8 ≤ 21; omega); intro V2 ho2 hB2; rw [put_dep] at hB2; have Ho2 := Lib.hid ho2; have HB2 := Lib.hid hB2; clear ho2 hB2))
  have HS3 := Lib.hid (HT2.out.put (e' := { zeroE with rep := (rdNum a0).1, seq := (rdNum a1).1, dep := (growV a2 zeroV).1 }) Ho2.out HB2.out HT2.out.gone HT2.out.base)
  refine wp_region_lit ?_
  go_upto_region 7 with (go_at_call 51; (with_reducible refine (rnumber_any _ _ _ _ _ _ HS3.out.rd).mono ?_); rintro x u3 ⟨rfl, hR3, hb3⟩; have HT3 := Lib.hid (HS3.out.but hR3 hb3); have hc3 := HT3.out.ev.ev.kind; have hz3 := HT3.out.ev.frozen 10; clear hR3 hb3)
  generalize hV3 : World.setCell _ _ _ = V3
  have HS4 := Lib.hid (HT3.out.set_ 10 (.int .i64 ((rdNum a3).1 : Int)) hV3.symm ({ zeroE with rep := (rdNum a0).1, seq := (rdNum a1).1, dep := (growV a2 zeroV).1, kind := (rdNum a3).1 }) rfl rfl rfl)
  clear hV3 hc3 hz3
  refine wp_region_lit ?_
  go_upto_region 8 with (first | (go_at_call 53; (with_reducible refine (rid_any _ _ _ _ _ _ HS4.out.rd).mono ?_); rintro x u4 ⟨rfl, hR4, hb4⟩; have HT4 := Lib.hid (HS4.out.but hR4 hb4); clear hR4 hb4) | (refine wpList_store_blk ?_ 24 (.tmp 20) (.tmp 19) ?_ (w.heap.size + 1 + 1) 11 (idC (rdID a4).1.1 (rdID a4).1.2) ?_ ?_ 29 _ HT4.out.ev ?_ id_info (idC_one _ _) ?_; exact rfl; exact rfl; exact rfl; exact rfl; exact (by show 11 + 2 ≤ 21; omega); intro V4 ho4 hB4; rw [put_obj] at hB4; have Ho4 := Lib.hid ho4; have HB4 := Lib.hid hB4; clear ho4 hB4))
  have HS5 := Lib.hid (HT4.out.put (e' := { zeroE with rep := (rdNum a0).1, seq := (rdNum a1).1, dep := (growV a2 zeroV).1, kind := (rdNum a3).1, orep := (rdID a4).1.1, oseq := (rdID a4).1.2 }) Ho4.out HB4.out HT4.out.gone HT4.out.base)
  refine wp_region_lit ?_
  go_upto_region 9 with (first | (go_at_call 53; (with_reducible refine (rid_any _ _ _ _ _ _ HS5.out.rd).mono ?_); rintro x u5 ⟨rfl, hR5, hb5⟩; have HT5 := Lib.hid (HS5.out.but hR5 hb5); clear hR5 hb5) | (refine wpList_store_blk ?_ 24 (.tmp 22) (.tmp 21) ?_ (w.heap.size + 1 + 1) 13 (idC (rdID a5).1.1 (rdID a5).1.2) ?_ ?_ 29 _ HT5.out.ev ?_ id_info (idC_one _ _) ?_; exact rfl; exact rfl; exact rfl; exact rfl; exact (by show 13 + 2 ≤ 21; omega); intro V5 ho5 hB5; rw [put_dir] at hB5; have Ho5 := Lib.hid ho5; have HB5 := Lib.hid hB5; clear ho5 hB5))
  have HS6 := Lib.hid (HT5.out.put (e' := { zeroE with rep := (rdNum a0).1, seq := (rdNum a1).1, dep := (growV a2 zeroV).1, kind := (rdNum a3).1, orep := (rdID a4).1.1, oseq := (rdID a4).1.2, drep := (rdID a5).1.1, dseq := (rdID a5).1.2 }) Ho5.out HB5.out HT5.out.gone HT5.out.base)
  refine wp_region_lit ?_
  go_upto_region 10 with (go_at_call 54; (with_reducible refine (rnext_any _ _ _ _ _ _ HS6.out.rd).mono ?_); rintro x u6 ⟨v6, rfl, hu6, hR6, ho6⟩; have HT6 := Lib.hid (HS6.out.but hR6 ho6.but); have hc6 := HT6.out.ev.ev.name; have hz6 := HT6.out.ev.frozen 15; have hs6 := conv_strE hu6; have Hl6 := Lib.hid hu6; clear hR6 ho6 hu6)
  generalize hV6 : World.setCell _ _ _ = V6
  have HS7 := Lib.hid (HT6.out.set_ 15 (str a6) hV6.symm ({ zeroE with rep := (rdNum a0).1, seq := (rdNum a1).1, dep := (growV a2 zeroV).1, kind := (rdNum a3).1, orep := (rdID a4).1.1, oseq := (rdID a4).1.2, drep := (rdID a5).1.1, dseq := (rdID a5).1.2, name := a6 }) rfl rfl rfl)
  clear hV6 hc6 hz6 hs6
  refine wp_region_lit ?_
  go_upto_region 11 with (go_at_call 55; (with_reducible refine (rids_any _ _ _ _ _ _ HS7.out.rd Hf7.out).mono ?_); rintro x u7 ⟨v7, rfl, hu7, hR7, hb7⟩; have HT7 := Lib.hid (HS7.out.but hR7 hb7); have hc7 := HT7.out.ev.ev.gone; have hz7 := HT7.out.ev.frozen 16; have Hl7 := Lib.hid (hu7.weaken (ok' := fun q => w.heap.size + 1 + 1 < q) fun q hq => Nat.lt_of_lt_of_le HS7.out.ev.lt hq); obtain ⟨Al7, cl7, _, el7, _⟩ := hu7; subst el7; clear hR7 hb7)
  generalize hV7 : World.setCell _ _ _ = V7
  have HS8 := Lib.hid (St.put (e' := { zeroE with rep := (rdNum a0).1, seq := (rdNum a1).1, dep := (growV a2 zeroV).1, kind := (rdNum a3).1, orep := (rdID a4).1.1, oseq := (rdID a4).1.2, drep := (rdID a5).1.1, dseq := (rdID a5).1.2, name := a6, gone := (rdIDs a7 8).1 }) HT7.out (hV7 ▸ only_setCell _ 16 (.slice Al7 (rdIDs a7 8).1.length cl7) _) (hV7 ▸ HT7.out.ev.set_ 16 (.slice Al7 (rdIDs a7 8).1.length cl7)) Hl7.out HT7.out.base)
  clear hV7 hc7 hz7
  refine wp_region_lit ?_
  go_upto_region 12 with (go_at_call 55; (with_reducible refine (rids_any _ _ _ _ _ _ HS8.out.rd Hf8.out).mono ?_); rintro x u8 ⟨v8, rfl, hu8, hR8, hb8⟩; have HT8 := Lib.hid (HS8.out.but hR8 hb8); have hc8 := HT8.out.ev.ev.base; have hz8 := HT8.out.ev.frozen 17; have Hl8 := Lib.hid (hu8.weaken (ok' := fun q => w.heap.size + 1 + 1 < q) fun q hq => Nat.lt_of_lt_of_le HS8.out.ev.lt hq); obtain ⟨Al8, cl8, _, el8, _⟩ := hu8; subst el8; clear hR8 hb8)
  generalize hV8 : World.setCell _ _ _ = V8
  have HS9 := Lib.hid (St.put (e' := { zeroE with rep := (rdNum a0).1, seq := (rdNum a1).1, dep := (growV a2 zeroV).1, kind := (rdNum a3).1, orep := (rdID a4).1.1, oseq := (rdID a4).1.2, drep := (rdID a5).1.1, dseq := (rdID a5).1.2, name := a6, gone := (rdIDs a7 8).1, base := (rdIDs a8 8).1 }) HT8.out (hV8 ▸ only_setCell _ 17 (.slice Al8 (rdIDs a8 8).1.length cl8) _) (hV8 ▸ HT8.out.ev.set_ 17 (.slice Al8 (rdIDs a8 8).1.length cl8)) HT8.out.gone Hl8.out)
  clear hV8 hc8 hz8
  refine wp_region_lit ?_
  go_upto_region 13 with (go_at_call 51; (with_reducible refine (rnumber_any _ _ _ _ _ _ HS9.out.rd).mono ?_); rintro x u9 ⟨rfl, hR9, hb9⟩; have HT9 := Lib.hid (HS9.out.but hR9 hb9); have hc9 := HT9.out.ev.ev.off; have hz9 := HT9.out.ev.frozen 18; clear hR9 hb9)
  generalize hV9 : World.setCell _ _ _ = V9
  have HS10 := Lib.hid (HT9.out.set_ 18 (.int .i64 ((rdNum a9).1 : Int)) hV9.symm ({ zeroE with rep := (rdNum a0).1, seq := (rdNum a1).1, dep := (growV a2 zeroV).1, kind := (rdNum a3).1, orep := (rdID a4).1.1, oseq := (rdID a4).1.2, drep := (rdID a5).1.1, dseq := (rdID a5).1.2, name := a6, gone := (rdIDs a7 8).1, base := (rdIDs a8 8).1, off := (rdNum a9).1 }) rfl rfl rfl)
  clear hV9 hc9 hz9
  refine wp_region_lit ?_
  go_upto_region 14 with (go_at_call 54; (with_reducible refine (rnext_any _ _ _ _ _ _ HS10.out.rd).mono ?_); rintro x u10 ⟨v10, rfl, hu10, hR10, ho10⟩; have HT10 := Lib.hid (HS10.out.but hR10 ho10.but); have hc10 := HT10.out.ev.ev.data; have hz10 := HT10.out.ev.frozen 19; have hs10 := conv_strE hu10; have Hl10 := Lib.hid hu10; clear hR10 ho10 hu10)
  generalize hV10 : World.setCell _ _ _ = V10
  have HS11 := Lib.hid (HT10.out.set_ 19 (str a10) hV10.symm ({ zeroE with rep := (rdNum a0).1, seq := (rdNum a1).1, dep := (growV a2 zeroV).1, kind := (rdNum a3).1, orep := (rdID a4).1.1, oseq := (rdID a4).1.2, drep := (rdID a5).1.1, dseq := (rdID a5).1.2, name := a6, gone := (rdIDs a7 8).1, base := (rdIDs a8 8).1, off := (rdNum a9).1, data := a10 }) rfl rfl rfl)
  clear hV10 hc10 hz10 hs10
  refine wp_region_lit ?_
  go_upto_region 15 with (go_at_call 51; (with_reducible refine (rnumber_any _ _ _ _ _ _ HS11.out.rd).mono ?_); rintro x u11 ⟨rfl, hR11, hb11⟩; have HT11 := Lib.hid (HS11.out.but hR11 hb11); have hc11 := HT11.out.ev.ev.ward; have hz11 := HT11.out.ev.frozen 20; clear hR11 hb11)
  generalize hV11 : World.setCell _ _ _ = V11
  have HS12 := Lib.hid (HT11.out.set_ 20 (.int .i64 ((rdNum a11).1 : Int)) hV11.symm ({ zeroE with rep := (rdNum a0).1, seq := (rdNum a1).1, dep := (growV a2 zeroV).1, kind := (rdNum a3).1, orep := (rdID a4).1.1, oseq := (rdID a4).1.2, drep := (rdID a5).1.1, dseq := (rdID a5).1.2, name := a6, gone := (rdIDs a7 8).1, base := (rdIDs a8 8).1, off := (rdNum a9).1, data := a10, ward := (rdNum a11).1 }) rfl rfl rfl)
  clear hV11 hc11 hz11
  have hl6 := Hl6.out.le
  have hl10 := Hl10.out.le
  have hok : EvOk (rdEv [a0, a1, a2, a3, a4, a5, a6, a7, a8, a9, a10, a11]) := rdEv_ok [a0, a1, a2, a3, a4, a5, a6, a7, a8, a9, a10, a11] hl6 hl10
  obtain ⟨m, hm⟩ : ∃ m, m = (((((((((((false || !(rdNum a0).2) || !(rdNum a1).2) || !decide ((growV a2 zeroV).2 = 0)) || !(rdNum a3).2) || !(rdID a4).2) || !(rdID a5).2) || !decide ((rdIDs a7 8).2 = 0)) || !decide ((rdIDs a8 8).2 = 0)) || !(rdNum a9).2) || !(rdNum a11).2)) := ⟨_, rfl⟩
  have hrk : rdOk [a0, a1, a2, a3, a4, a5, a6, a7, a8, a9, a10, a11] = !m := by rw [hm, rdOk_not]; rfl
  have hSf : St w V11 w.heap.size (rdEv [a0, a1, a2, a3, a4, a5, a6, a7, a8, a9, a10, a11]) (.slice Al7 (rdIDs a7 8).1.length cl7) (.slice Al8 (rdIDs a8 8).1.length cl8) [] m := by rw [hm]; exact HS12.out
  obtain ⟨E, hE⟩ : ∃ E, E = evC (rdEv [a0, a1, a2, a3, a4, a5, a6, a7, a8, a9, a10, a11]) (.slice Al7 (rdIDs a7 8).1.length cl7) (.slice Al8 (rdIDs a8 8).1.length cl8) := ⟨_, rfl⟩
  have hEi : (Try.prog.info? 29).map (·.size) = some E.size := by rw [hE]; exact ev_info
  have hE1 : E.all (·.oneCell') = true := by rw [hE]; exact evC_one ⟨hok, hSf.gone, hSf.base⟩
  have hEs : (evC zeroE (.slice none 0 0) (.slice none 0 0)).size = E.size := by rw [hE]; rfl
  have hJ0 : RdJ w E [a0, a1, a2, a3, a4, a5, a6, a7, a8, a9, a10, a11] (.slice Al7 (rdIDs a7 8).1.length cl7) (.slice Al8 (rdIDs a8 8).1.length cl8) m (fun _ => false) V11 := ⟨by rw [hE]; exact hSf.ev, hSf.rd, hSf.gone, hSf.base, hSf.below, (fun h => by cases h), fun _ => hSf.res⟩
  refine wp_region_fix (fun s => match s with | 37 => .agg E | 38 => .pointer (some ⟨w.heap.size + 1, 1, none⟩) | 39 => .bool m | 40 => .bool (!m) | 3 => .bool (!m) | _ => undef) (RdJ w E [a0, a1, a2, a3, a4, a5, a6, a7, a8, a9, a10, a11] (.slice Al7 (rdIDs a7 8).1.length cl7) (.slice Al8 (rdIDs a8 8).1.length cl8) m) 41 (by kernel_rfl) (by kernel_rfl) (by kernel_rfl) rfl hJ0.drew ?_ ?_
  · intro i o hi d a x hJ hd hpre hsame hV K hK
    have hlt := (Array.getElem?_eq_some_iff.1 hi).1
    rcases many6 hlt rfl with rfl | rfl | rfl | rfl | rfl | rfl
    all_goals (have ho := Option.some.inj hi; subst ho; clear hi hlt)
    · have q5 : a.tmps[5]?.getD undef = .pointer (some ⟨w.heap.size + 1 + 1, 0, none⟩) := hsame 5 (slot_free (by decide +kernel))
      refine wp_load_mid 29 (.tmp 5) rfl (w.heap.size + 1 + 1) 0 (eval_at q5) E.toList _ (ev_row hJ.ev) Try.underlying29 rfl hEi ?_
      exact hK _ _ (fun s hs => by cases hs; rfl) (hJ.more (by decide))
    · have q4 : a.tmps[4]?.getD undef = .pointer (some ⟨w.heap.size + 1, 0, none⟩) := hsame 4 (slot_free (by decide +kernel))
      have hk : ∀ v x', (v = .pointer (some ⟨w.heap.size + 1, 1, none⟩)) → RdJ w E [a0, a1, a2, a3, a4, a5, a6, a7, a8, a9, a10, a11] (.slice Al7 (rdIDs a7 8).1.length cl7) (.slice Al8 (rdIDs a8 8).1.length cl8) m (also d 1) x' → K (a.put (some 38) v) x' := fun v x' h1 h2 => hK v x' (fun s hs => by cases hs; exact h1) h2
      clear hsame hpre hK hV hm hrk
      go_simp
      exact hk _ _ rfl (hJ.more (by decide))
    · have q38 : a.tmps[38]?.getD undef = .pointer (some ⟨w.heap.size + 1, 1, none⟩) := hV 1 38 (hpre ⟨1, .data⟩ (by simp) rfl) rfl
      obtain ⟨c0, _⟩ := hJ.rd.cell
      have hk : ∀ v x', (v = .bool m) → RdJ w E [a0, a1, a2, a3, a4, a5, a6, a7, a8, a9, a10, a11] (.slice Al7 (rdIDs a7 8).1.length cl7) (.slice Al8 (rdIDs a8 8).1.length cl8) m (also d 2) x' → K (a.put (some 39) v) x' := fun v x' h1 h2 => hK v x' (fun s hs => by cases hs; exact h1) h2
      clear hsame hpre hK hV hm hrk
      go_simp
      exact hk _ _ rfl (hJ.more (by decide))
    · have q39 : a.tmps[39]?.getD undef = .bool m := hV 2 39 (hpre ⟨2, .data⟩ (by simp) rfl) rfl
      have hk : ∀ v x', (v = .bool (!m)) → RdJ w E [a0, a1, a2, a3, a4, a5, a6, a7, a8, a9, a10, a11] (.slice Al7 (rdIDs a7 8).1.length cl7) (.slice Al8 (rdIDs a8 8).1.length cl8) m (also d 3) x' → K (a.put (some 40) v) x' := fun v x' h1 h2 => hK v x' (fun s hs => by cases hs; exact h1) h2
      clear hsame hpre hK hV hm hrk
      go_simp
      exact hk _ _ rfl (hJ.more (by decide))
    · have q2 : a.tmps[2]?.getD undef = .pointer (some ⟨w.heap.size, 0, none⟩) := hsame 2 (slot_free (by decide +kernel))
      have q37 : a.tmps[37]?.getD undef = .agg E := hV 0 37 (hpre ⟨0, .data⟩ (by simp) rfl) rfl
      refine wp_store_row 29 (.tmp 2) (.tmp 37) rfl w.heap.size E (eval_at q2) (eval_at q37) 29 (evC zeroE (.slice none 0 0) (.slice none 0 0)) (hJ.res hd) hEi hEs hE1 ?_
      exact hK _ _ (fun s hs => by cases hs) (hJ.store hd)
    · have q40 : a.tmps[40]?.getD undef = .bool (!m) := hV 3 40 (hpre ⟨3, .data⟩ (by simp) rfl) rfl
      have hk : ∀ v x', (v = .bool (!m)) → RdJ w E [a0, a1, a2, a3, a4, a5, a6, a7, a8, a9, a10, a11] (.slice Al7 (rdIDs a7 8).1.length cl7) (.slice Al8 (rdIDs a8 8).1.length cl8) m (also d 5) x' → K (a.put (some 3) v) x' := fun v x' h1 h2 => hK v x' (fun s hs => by cases hs; exact h1) h2
      clear hsame hpre hK hV hm hrk
      go_simp
      exact hk _ _ rfl (hJ.more (by decide))
  · intro d a x hall hJ hsame hV hsz hde
    have q2 : a.tmps[2]?.getD undef = .pointer (some ⟨w.heap.size, 0, none⟩) := hsame 2 (slot_free (by decide +kernel))
    have q3 : a.tmps[3]?.getD undef = .bool (!m) := hV 5 3 (by decide) rfl
    have hde' : a.defers = [] := hde
    have hB := hJ.out (hall 4 (by decide))
    have HJ := Lib.hid hJ
    have Hok := Lib.hid hok
    have Hrk := Lib.hid hrk
    have HE := Lib.hid hE
    clear hJ hsame hV hall hok hrk hm hE hSf hJ0
    go_wp2_with fail
    refine bodyPost_ret (v := .tuple #[.agg E, .bool (!m)]) (results_cell_tmp Try.results33 _ _ w.heap.size 29 E (0, 0) _ _ (by rw [Array.getD_eq_getD_getElem?, q2]) (by rw [Array.getD_eq_getD_getElem?, q3]) hB Try.underlying29 rfl hEi) hde' ?_
    refine ⟨_, _, by rw [HE.out, Hrk.out], ⟨Hok.out, HJ.out.gone.weaken (fun q hq => by omega), HJ.out.base.weaken (fun q hq => by omega)⟩, HJ.out.below⟩
end Go.Proofs.Ytkojoahamoffcaa

namespace Go.Proofs.Ytkojoahamoffcaa
open Go.RowKit
set_option maxRecDepth 100000

theorem isL_row {α : Type} {K : Kind α} {w : World} {ok ok' : Nat → Prop} {v : Value} {L : List α} {g : Nat} (h : IsL K w ok v L) (cs : Array Value) (hn : ∀ q, ok q → q ≠ g ∧ ok' q) : IsL K (w.setRow g cs) ok' v L :=
  (h.frame fun q hq _ => setRow_other w g q cs (hn q hq).1).weaken fun q hq => (hn q hq).2
/-- What Read answers. -/
def ReadPost (R : Ev × Nat) (w : World) (x : Ending) (w' : World) : Prop :=
  ∃ vg vb, x = .returned (.tuple #[.agg (evC R.1 vg vb), .int .i64 (R.2 : Int)]) ∧ EvIn w' (fun q => w.heap.size ≤ q) R.1 vg vb ∧ Below w.heap.size w w'
theorem zeroE_one : (evC zeroE (.slice none 0 0) (.slice none 0 0)).all (·.oneCell') = true := by simp [evC, Value.oneCell']
theorem read_zero {w x : World} (q : Nat) (hb : Below w.heap.size w x) : ReadPost (zeroE, q) w (.returned (.tuple #[.agg (evC zeroE (.slice none 0 0) (.slice none 0 0)), .int .i64 (q : Int)])) (x.setRow w.heap.size (evC zeroE (.slice none 0 0) (.slice none 0 0))) :=
  ⟨_, _, rfl, zeroE_in _ _, below_setRow hb (Nat.le_refl _) _⟩

set_option maxHeartbeats 4000000 in
theorem read_any (ok : Nat → Prop) (v : Value) (l : List UInt8) (w : World) (hv : IsB w ok v l) (hl : l.length ≤ 1099511627776) :
    Calls Try.prog 14 #[v] w (ReadPost (readE l) w) := by
  obtain ⟨W, hW⟩ : ∃ W, W = w.alloc (.cells (evC zeroE (.slice none 0 0) (.slice none 0 0)) 29) := ⟨_, rfl⟩
  have hbW : Below w.heap.size w W := by rw [hW]; exact (Below.refl _ _).alloc (Nat.le_refl _) _
  have hB0 : Blk W w.heap.size 29 (evC zeroE (.slice none 0 0) (.slice none 0 0)) := by rw [hW]; exact Blk.new w _ _
  have hu := unpack_any ok v l 12 W (hv.grow hbW) hl
  have hcan : (unpackV 12 [] (steps l)).2 = 0 → (∀ f ∈ (unpackV 12 [] (steps l)).1, f.length ≤ 65535) ∧ (unpackV 12 [] (steps l)).1.length ≤ 12 := fun h => by
    obtain ⟨L, e1, _, e3, e4⟩ := unpack_canon 12 l.length l [] (Nat.le_refl _) h
    rw [e1, List.nil_append]
    refine ⟨e3, ?_⟩
    by_cases hn : L = []
    · subst hn; simp
    · have := e4 hn; simp at this; omega
  have hz1 := zeroE_lit
  rw [hz1] at hW
  obtain ⟨P, hP⟩ : ∃ P, P = readE l := ⟨_, rfl⟩
  rw [← hP]
  unfold readE at hP
  generalize unpackV 12 [] (steps l) = R at hu hcan hP
  obtain ⟨L, q⟩ := R
  simp only [] at hu hcan hP
  have Hu := Lib.hid hu
  have HW := Lib.hid hW
  have HB0 := Lib.hid hB0
  have HbW := Lib.hid hbW
  have Hcan := Lib.hid hcan
  clear hu hv hl hW hB0 hbW hcan hz1
  by_cases hq : q = 0
  · subst hq
    rw [if_neg (by simp)] at hP
    by_cases h12 : L.length < 12
    · rw [if_pos h12] at hP
      have HP := Lib.hid hP
      have e3 : decide ((L.length : Int) < 12) = true := by rw [decide_eq_true_iff]; omega
      have e4 : decide (L.length < 12) = true := by rw [decide_eq_true_iff]; omega
      clear hP h12
      go_enter Try.func14, Try.ntmps14
      go_upto_region 1 with fail
      rw [← HW.out]
      refine wp_region_lit ?_
      go_upto_region 5 with (go_at_call 32; (with_reducible refine Hu.out.mono ?_); rintro e w1 ⟨x, rfl, hx, hb1⟩; obtain ⟨A, c, rfl, hc1, hc2, hx2⟩ := hx.isBBE.elem)
      have HB1 := Lib.hid (HB0.out.grow hb1)
      have hb01 := below_call HbW.out hb1
      refine wp_region_lit ?_
      go_wp2_with (refine wpList_store_row ?_ 29 (.tmp 2) (.tmp 20) ?_ w.heap.size (evC zeroE (.slice none 0 0) (.slice none 0 0)) ?_ ?_ 29 (evC zeroE (.slice none 0 0) (.slice none 0 0)) HB1.out ev_info rfl zeroE_one ?_; exact rfl; exact rfl; exact rfl; exact rfl)
      exact bodyPost_ret (v := .tuple #[.agg (evC zeroE (.slice none 0 0) (.slice none 0 0)), .int .i64 8]) (results_cell_tmp Try.results14 _ _ w.heap.size 29 (evC zeroE (.slice none 0 0) (.slice none 0 0)) (0, 0) _ _ rfl rfl (HB1.out.setRow_ _) Try.underlying29 rfl ev_info) rfl (by rw [HP.out]; exact read_zero _ hb01)
    · rw [if_neg h12] at hP
      obtain ⟨m, hm⟩ : ∃ m, m = checkB (rdEv L) := ⟨_, rfl⟩
      rw [← hm] at hP
      have e3 : decide ((L.length : Int) < 12) = false := by rw [decide_eq_false_iff_not]; omega
      have e4 : decide (L.length < 12) = false := by rw [decide_eq_false_iff_not]; omega
      have hL12 : L.length = 12 := by have := (Hcan.out rfl).2; omega
      have hr := fun v w (h : IsBB w (fun q => W.heap.size ≤ q) v L) => readev_any _ v L w h hL12 (fun f hf => by have := (Hcan.out rfl).1 f hf; omega)
      obtain ⟨k, hk⟩ : ∃ k, k = rdOk L := ⟨_, rfl⟩
      rw [← hk] at hP
      simp only [← hk] at hr
      have HP := Lib.hid hP
      have Hm := Lib.hid hm
      have Hr := Lib.hid hr
      clear hP h12 hr hL12 hk hm
      go_enter Try.func14, Try.ntmps14
      go_upto_region 1 with fail
      rw [← HW.out]
      refine wp_region_lit ?_
      go_upto_region 6 with (go_at_call 32; (with_reducible refine Hu.out.mono ?_); rintro e w1 ⟨x, rfl, hx, hb1⟩; have HX := Lib.hid hx.isBBE; obtain ⟨A, c, rfl, hc1, hc2, hx2⟩ := HX.out.elem; clear hx hx2)
      refine wp_region_lit ?_
      go_upto_region 7 with (first | (go_at_call 33; (with_reducible refine (Hr.out _ _ HX.out).mono ?_); rintro e w2 ⟨vg, vb, rfl, hin, hb2⟩; have Hin := Lib.hid hin; have HB2 := Lib.hid (Blk.new w2 29 (evC zeroE (.slice none 0 0) (.slice none 0 0))); rw [zeroE_lit] at HB2; clear hin) | (refine wpList_store_row ?_ 29 (.tmp 6) (.tmp 24) ?_ w2.heap.size (evC (rdEv L) vg vb) ?_ ?_ 29 _ HB2.out ev_info rfl (evC_one Hin.out) ?_; exact rfl; exact rfl; exact rfl; exact rfl))
      have hbZ : Below w2.heap.size w2 ((w2.alloc (.cells (evC zeroE (.slice none 0 0) (.slice none 0 0)) 29)).setRow w2.heap.size (evC (rdEv L) vg vb)) := below_setRow ((Below.refl _ _).alloc (Nat.le_refl _) _) (Nat.le_refl _) _
      rw [zeroE_lit] at hbZ
      have HBZ := Lib.hid (HB2.out.setRow_ (evC (rdEv L) vg vb))
      obtain ⟨Z, hZ⟩ : ∃ Z, Z = (w2.alloc (.cells #[.int .i64 0, .int .u32 0, .int .u32 0, .int .u32 0, .int .u32 0, .int .u32 0, .int .u32 0, .int .u32 0, .int .u32 0, .int .u32 0, .int .i64 0, .int .i64 0, .int .u32 0, .int .i64 0, .int .u32 0, .string { data := #[] }, .slice none 0 0, .slice none 0 0, .int .i64 0, .string { data := #[] }, .int .i64 0] 29)).setRow w2.heap.size (evC (rdEv L) vg vb) := ⟨_, rfl⟩
      rw [← hZ] at hbZ HBZ ⊢
      clear hZ HB2
      have hinZ := Hin.out.grow hbZ
      have HinZ := Lib.hid hinZ
      have RA := Lib.hid (range_exts (ev_all HBZ.out))
      have k1 := fun y : Ext Z => check_any _ (rdEv L) vg vb y.now (hinZ.grow y.out)
      simp only [← Hm.out] at k1
      have K1 := Lib.hid k1
      have hb01 := below_call HbW.out hb1
      have hb02 := below_call hb01 hb2
      have hb0Z := below_call hb02 hbZ
      have HBr := Lib.hid (((HB0.out.grow hb1).grow hb2).grow hbZ)
      have hs2 := hb02.size
      have hsW := HbW.out.size
      have hs12 := hb1.size
      clear hinZ k1 Hr Hu Hcan
      cases k <;> cases m
      all_goals refine wp_plain_grow ?_
      all_goals repeat (first | (go_big_quiet_want; refine quiet_mid 29 (.tmp 6) rfl w2.heap.size 0 rfl (evC (rdEv L) vg vb) _ RA.out Try.underlying29 rfl ev_info ?_; go_simp; go_big_quiet_on) | go_big_quiet_step ((go_at_call 9; with_reducible exact calls_grow (K1.out _))) | quiet_step ((go_at_call 9; with_reducible exact calls_grow (K1.out _))))
      all_goals refine wpQuiet_nil ?_
      all_goals rintro w6 ⟨⟨_, hb6⟩, rfl⟩
      all_goals have HB1 := Lib.hid (HBr.out.grow hb6)
      all_goals have HE6 := Lib.hid (HBZ.out.grow hb6)
      all_goals have hb06 := below_call hb0Z hb6
      all_goals have hPv := HP.out
      all_goals simp only [Bool.and_false, Bool.false_and, Bool.and_self, Bool.false_eq_true, if_false, if_true] at hPv
      all_goals have HP := Lib.hid hPv
      all_goals clear hPv
      · go_upto_region 8 with fail
        refine wp_region_lit ?_
        go_wp2_with (refine wpList_store_row ?_ 29 (.tmp 2) (.tmp 33) ?_ w.heap.size (evC zeroE (.slice none 0 0) (.slice none 0 0)) ?_ ?_ 29 (evC zeroE (.slice none 0 0) (.slice none 0 0)) HB1.out ev_info rfl zeroE_one ?_; exact rfl; exact rfl; exact rfl; exact rfl)
        exact bodyPost_ret (v := .tuple #[.agg (evC zeroE (.slice none 0 0) (.slice none 0 0)), .int .i64 7]) (results_cell_tmp Try.results14 _ _ w.heap.size 29 (evC zeroE (.slice none 0 0) (.slice none 0 0)) (0, 0) _ _ rfl rfl (HB1.out.setRow_ _) Try.underlying29 rfl ev_info) rfl (by rw [HP.out]; exact read_zero _ hb06)
      · go_upto_region 8 with fail
        refine wp_region_lit ?_
        go_wp2_with (refine wpList_store_row ?_ 29 (.tmp 2) (.tmp 33) ?_ w.heap.size (evC zeroE (.slice none 0 0) (.slice none 0 0)) ?_ ?_ 29 (evC zeroE (.slice none 0 0) (.slice none 0 0)) HB1.out ev_info rfl zeroE_one ?_; exact rfl; exact rfl; exact rfl; exact rfl)
        exact bodyPost_ret (v := .tuple #[.agg (evC zeroE (.slice none 0 0) (.slice none 0 0)), .int .i64 7]) (results_cell_tmp Try.results14 _ _ w.heap.size 29 (evC zeroE (.slice none 0 0) (.slice none 0 0)) (0, 0) _ _ rfl rfl (HB1.out.setRow_ _) Try.underlying29 rfl ev_info) rfl (by rw [HP.out]; exact read_zero _ hb06)
      · go_upto_region 8 with fail
        refine wp_region_lit ?_
        go_wp2_with (refine wpList_store_row ?_ 29 (.tmp 2) (.tmp 33) ?_ w.heap.size (evC zeroE (.slice none 0 0) (.slice none 0 0)) ?_ ?_ 29 (evC zeroE (.slice none 0 0) (.slice none 0 0)) HB1.out ev_info rfl zeroE_one ?_; exact rfl; exact rfl; exact rfl; exact rfl)
        exact bodyPost_ret (v := .tuple #[.agg (evC zeroE (.slice none 0 0) (.slice none 0 0)), .int .i64 7]) (results_cell_tmp Try.results14 _ _ w.heap.size 29 (evC zeroE (.slice none 0 0) (.slice none 0 0)) (0, 0) _ _ rfl rfl (HB1.out.setRow_ _) Try.underlying29 rfl ev_info) rfl (by rw [HP.out]; exact read_zero _ hb06)
      · go_upto_region 9 with fail
        refine wp_region_lit ?_
        refine wpList_load_row rfl 29 (.tmp 6) rfl w2.heap.size rfl 29 (evC (rdEv L) vg vb) (0, 0) _ HE6.out Try.underlying29 rfl ev_info ?_
        refine wpList_store_row rfl 29 (.tmp 2) (.tmp 34) rfl w.heap.size (evC (rdEv L) vg vb) rfl rfl 29 (evC zeroE (.slice none 0 0) (.slice none 0 0)) HB1.out ev_info rfl (evC_one Hin.out) ?_
        go_wp2_with fail
        refine bodyPost_ret (v := .tuple #[.agg (evC (rdEv L) vg vb), .int .i64 0]) (results_cell_tmp Try.results14 _ _ w.heap.size 29 (evC (rdEv L) vg vb) (0, 0) _ _ rfl rfl (HB1.out.setRow_ _) Try.underlying29 rfl ev_info) rfl ?_
        have hin6 := HinZ.out.grow hb6
        have hlt := HB0.out.lt
        rw [HP.out]
        exact ⟨vg, vb, rfl, ⟨hin6.fits, isL_row hin6.gone _ (fun q hq => by omega), isL_row hin6.base _ (fun q hq => by omega)⟩, below_setRow hb06 (Nat.le_refl _) _⟩
  · rw [if_pos hq] at hP
    have e1 : ((q : Int) != 0) = true := by rw [bne_iff_ne]; omega
    have e2 : (q != 0) = true := by rw [bne_iff_ne]; exact hq
    have HP := Lib.hid hP
    clear hq hP
    go_enter Try.func14, Try.ntmps14
    go_upto_region 1 with fail
    rw [← HW.out]
    refine wp_region_lit ?_
    go_upto_region 3 with (go_at_call 32; (with_reducible refine Hu.out.mono ?_); rintro e w1 ⟨x, rfl, hx, hb1⟩; obtain ⟨A, c, rfl, hc1, hc2, hx2⟩ := hx.isBBE.elem)
    have HB1 := Lib.hid (HB0.out.grow hb1)
    have hb01 := below_call HbW.out hb1
    refine wp_region_lit ?_
    go_wp2_with (refine wpList_store_row ?_ 29 (.tmp 2) (.tmp 15) ?_ w.heap.size (evC zeroE (.slice none 0 0) (.slice none 0 0)) ?_ ?_ 29 (evC zeroE (.slice none 0 0) (.slice none 0 0)) HB1.out ev_info rfl zeroE_one ?_; exact rfl; exact rfl; exact rfl; exact rfl)
    exact bodyPost_ret (v := .tuple #[.agg (evC zeroE (.slice none 0 0) (.slice none 0 0)), .int .i64 (q : Int)]) (results_cell_tmp Try.results14 _ _ w.heap.size 29 (evC zeroE (.slice none 0 0) (.slice none 0 0)) (0, 0) _ _ rfl rfl (HB1.out.setRow_ _) Try.underlying29 rfl ev_info) rfl (by rw [HP.out]; exact read_zero _ hb01)
end Go.Proofs.Ytkojoahamoffcaa
