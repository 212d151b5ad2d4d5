/-
  wardshiplaw08.lives and short.
-/
import Derived.Test.YtkojoahamoffcaaEvReads
import Derived.Test.YtkojoahamoffcaaEvWrite
import Derived.Test.YtkojoahamoffcaaEvSame
import Derived.Test.YtkojoahamoffcaaEvNames
namespace Go.Proofs.Ytkojoahamoffcaa
open Go.RowKit
set_option maxRecDepth 100000

/-- The event of lives. -/
def liveE : Ev := { zeroE with rep := 2, seq := 1, kind := 1, name := [97] }
theorem liveE_check : checkB liveE = true := by decide +kernel
theorem liveE_bytes : evB liveE = [1, 2, 1, 1, 2, 0, 0, 1, 1, 0, 0, 1, 97, 0, 0, 0, 0, 0] := by decide +kernel
theorem live_name : nameB [97, 46, 98] = true := by decide +kernel
theorem liveE_lit : evC liveE (.slice none 0 0) (.slice none 0 0) = #[.int .i64 2, .int .u32 1, .int .u32 0, .int .u32 0, .int .u32 0, .int .u32 0, .int .u32 0, .int .u32 0, .int .u32 0, .int .u32 0, .int .i64 1, .int .i64 0, .int .u32 0, .int .i64 0, .int .u32 0, .string { data := #[97] }, .slice none 0 0, .slice none 0 0, .int .i64 0, .string { data := #[] }, .int .i64 0] := rfl
theorem liveE_ok : EvOk liveE := ⟨by unfold liveE I64; simp only []; omega, by decide, okV_zero, by unfold liveE I64; simp only []; omega, ⟨i64_zero, by decide⟩, ⟨i64_zero, by decide⟩, by decide, i64_zero, Nat.zero_le _, i64_zero⟩
theorem liveE_in (w : World) (ok : Nat → Prop) : EvIn w ok liveE (.slice none 0 0) (.slice none 0 0) := ⟨liveE_ok, IsL.nil, IsL.nil⟩

theorem write_ok (ok : Nat → Prop) (e : Ev) (vg vb : Value) (w : World) (hin : EvIn w ok e vg vb) (hc : checkB e = true) :
    Calls Try.prog 13 #[.agg (evC e vg vb)] w fun x w' => (∃ u, x = .returned (.tuple #[u, .int .i64 0]) ∧ Own1 w' w.heap.size 5 u ((evB e).map u8)) ∧ Below w.heap.size w w' :=
  (write_any ok e vg vb w hin).mono fun x w' h => by unfold WritePost at h; rwa [if_pos hc] at h
theorem write_no (ok : Nat → Prop) (e : Ev) (vg vb : Value) (w : World) (hin : EvIn w ok e vg vb) (hc : checkB e = false) :
    Calls Try.prog 13 #[.agg (evC e vg vb)] w fun x w' => x = .returned (.tuple #[.slice none 0 0, .int .i64 7]) ∧ Below w.heap.size w w' :=
  (write_any ok e vg vb w hin).mono fun x w' h => by unfold WritePost at h; rwa [if_neg (by rw [hc]; simp)] at h
theorem wpList_built {P : Program} {ops : Array Oper} {rest : List Oper} {o : Oper} {a : Act} {w : World} {Q : Exit → Act → World → Prop} (hg : o.guard = none) (t : TypeId) (parts : Array (Nat × Operand)) (ho : o.op = .build t parts)
    (cells : Array Value) (hb : P.built t (parts.toList.map fun (i, x) => (i, a.eval x)) = some cells) (h : wpList P ops Q rest (a.put o.dst (.agg cells)) w) : wpList P ops Q (o :: rest) a w :=
  wpList_build hg t parts ho (by rw [Array.toList_map, hb]; rfl) (by rw [Array.toList_map, hb]; exact h)
theorem live_all : ∃ E : Ev, checkB E = true ∧ evB E = [1, 2, 1, 1, 2, 0, 0, 1, 1, 0, 0, 1, 97, 0, 0, 0, 0, 0] ∧ EvOk E ∧ (readE (evB E)).2 = 0 ∧ sameE E (readE (evB E)).1 = true ∧ E.gone = [] ∧ E.base = [] ∧
    evC E (.slice none 0 0) (.slice none 0 0) = #[.int .i64 2, .int .u32 1, .int .u32 0, .int .u32 0, .int .u32 0, .int .u32 0, .int .u32 0, .int .u32 0, .int .u32 0, .int .u32 0, .int .i64 1, .int .i64 0, .int .u32 0, .int .i64 0, .int .u32 0, .string { data := #[97] }, .slice none 0 0, .slice none 0 0, .int .i64 0, .string { data := #[] }, .int .i64 0] :=
  ⟨liveE, liveE_check, liveE_bytes, liveE_ok, (read_write liveE_check).1, sameE_comm (read_write liveE_check).2, rfl, rfl, liveE_lit⟩

set_option maxHeartbeats 4000000 in
theorem lives08_any (w : World) : Calls Try.prog 7 #[] w fun e w' => e = .returned (.bool true) ∧ Below w.heap.size w w' := by
  obtain ⟨E, hE1, hE2, hE3, hE4, hE5, hE6, hE7, hlit⟩ := live_all
  have hin : ∀ (u : World), EvIn u (fun _ => True) E (.slice none 0 0) (.slice none 0 0) := fun u => ⟨hE3, by rw [hE6]; exact IsL.nil, by rw [hE7]; exact IsL.nil⟩
  obtain ⟨C, hC⟩ : ∃ C, C = evC E (.slice none 0 0) (.slice none 0 0) := ⟨_, rfl⟩
  have hbd : Try.prog.built 29 [(0, .agg #[.int .i64 2, .int .u32 1]), (2, .int .i64 1), (5, .string { data := #[97] })] = some C := by rw [hC, hlit]; kernel_rfl
  have Hbd := Lib.hid hbd
  clear hbd
  have hB := Blk.new w 29 (evC zeroE (.slice none 0 0) (.slice none 0 0))
  obtain ⟨W, hW⟩ : ∃ W, W = (w.alloc (.cells (evC zeroE (.slice none 0 0) (.slice none 0 0)) 29)).setRow w.heap.size C := ⟨_, rfl⟩
  have hbW : Below w.heap.size w W := by rw [hW]; exact below_setRow ((Below.refl _ _).alloc (Nat.le_refl _) _) (Nat.le_refl _) _
  have hB0 : Blk W w.heap.size 29 C := by rw [hW]; exact hB.setRow_ _
  have h21 : (evC zeroE (.slice none 0 0) (.slice none 0 0)).size = C.size := by rw [hC]; rfl
  have hone : C.all (·.oneCell') = true := by rw [hC]; exact evC_one (hin w)
  have hw := write_ok (fun _ => True) E _ _ W (hin _) hE1
  have hi : (Try.prog.info? 29).map (·.size) = some C.size := by rw [hC]; exact ev_info
  have hch := fun u => check_any (fun _ => True) E _ _ u (hin u)
  have hsm := fun (F : Ev) vg vb ok u (h : EvIn u ok F vg vb) => same_any (fun _ => True) ok E F _ _ vg vb u (hin u) h
  simp only [hE1] at hch
  rw [← hC] at hw
  simp only [← hC] at hsm hch
  rw [zeroE_lit] at hW hB h21
  have hrd := fun ok v u (h : IsB u ok v (evB E)) => read_any ok v (evB E) u h (by rw [hE2]; decide)
  have hev := hE2
  generalize evB E = b at hw hrd hE4 hE5 hev
  have hsm2 := fun vg vb ok u h => hsm (readE b).1 vg vb ok u h
  simp only [hE5] at hsm2
  generalize readE b = R at hrd hE4 hsm2
  obtain ⟨F, q⟩ := R
  simp only [] at hE4 hsm2
  subst hE4
  have HW := Lib.hid hW
  have HbW := Lib.hid hbW
  have HB := Lib.hid hB
  have H21 := Lib.hid h21
  have Hone := Lib.hid hone
  have HB0 := Lib.hid hB0
  have Hi := Lib.hid hi
  have Hwr := Lib.hid hw
  have Hch := Lib.hid hch
  have Hsm := Lib.hid hsm2
  have Hrd := Lib.hid hrd
  have Hev := Lib.hid hev
  clear hW hbW hB0 hB h21 hone hw hi hE1 hE2 hE3 hE5 hE6 hE7 hlit hin hC hch hsm hsm2 hrd hev
  go_enter Try.func7, Try.ntmps7
  go_upto_region 1 with fail
  refine wp_region_lit ?_
  go_upto_region 2 with (first | (refine wpList_built ?_ 29 #[(0, .tmp 6), (2, .const (.int .i64 1)), (5, .const (.string { data := #[97] }))] ?_ C ?_ ?_; exact rfl; exact rfl; exact Hbd.out) | (refine wpList_store_row ?_ 29 (.tmp 1) (.tmp 7) ?_ w.heap.size C ?_ ?_ 29 _ HB.out Hi.out H21.out Hone.out ?_; exact rfl; exact rfl; exact rfl; exact rfl; rw [← HW.out]))
  refine wp_region_lit ?_
  refine wpList_load_row rfl 29 (.tmp 1) rfl w.heap.size rfl 29 C (0, 0) _ HB0.out Try.underlying29 rfl Hi.out ?_
  go_upto_region 3 with (go_at_call 13; (with_reducible refine Hwr.out.mono ?_); rintro e w1 ⟨⟨u, rfl, hu⟩, hb1⟩; have HU := Lib.hid hu.isB; clear hu)
  have HB1 := Lib.hid (HB0.out.grow hb1)
  have hb01 := below_call HbW.out hb1
  refine wp_region_lit ?_
  go_upto_region 4 with (first | (go_at_call 14; (with_reducible refine (Hrd.out _ _ _ HU.out).mono ?_); rintro e w2 ⟨vg, vb, rfl, hin2, hb2⟩; have Hin2 := Lib.hid hin2; have HB2 := Lib.hid (Blk.new w2 29 (evC zeroE (.slice none 0 0) (.slice none 0 0))); rw [zeroE_lit] at HB2; clear hin2) | (refine wpList_store_row ?_ 29 (.tmp 4) (.tmp 16) ?_ w2.heap.size (evC F vg vb) ?_ ?_ 29 _ HB2.out ev_info rfl (evC_one Hin2.out) ?_; exact rfl; exact rfl; exact rfl; exact rfl))
  have hbZ : Below w2.heap.size w2 ((w2.alloc (.cells (evC zeroE (.slice none 0 0) (.slice none 0 0)) 29)).setRow w2.heap.size (evC F vg vb)) := below_setRow ((Below.refl _ _).alloc (Nat.le_refl _) _) (Nat.le_refl _) _
  rw [zeroE_lit] at hbZ
  have HBZ := Lib.hid (HB2.out.setRow_ (evC F vg vb))
  obtain ⟨Z, hZ⟩ : ∃ Z, Z = (w2.alloc (.cells #[.int .i64 0, .int .u32 0, .int .u32 0, .int .u32 0, .int .u32 0, .int .u32 0, .int .u32 0, .int .u32 0, .int .u32 0, .int .u32 0, .int .i64 0, .int .i64 0, .int .u32 0, .int .i64 0, .int .u32 0, .string { data := #[] }, .slice none 0 0, .slice none 0 0, .int .i64 0, .string { data := #[] }, .int .i64 0] 29)).setRow w2.heap.size (evC F vg vb) := ⟨_, rfl⟩
  rw [← hZ] at hbZ HBZ ⊢
  clear hZ HB2
  have hb02 := below_call hb01 hb2
  have hb0Z := below_call hb02 hbZ
  have RA := Lib.hid (range_exts (ev_row ((HB1.out.grow hb2).grow hbZ)))
  have RB := Lib.hid (range_exts (ev_all HBZ.out))
  have K1 := Lib.hid (fun y : Ext Z => Hch.out y.now)
  have K2 := Lib.hid (fun y : Ext Z => Hsm.out vg vb _ y.now ((Hin2.out.grow hbZ).grow y.out))
  have K3 := Lib.hid (fun y : Ext Z => name_any [97, 46, 98] y.now)
  have hcv := fun y : Ext Z => conv_strE (((HU.out.grow hb2).grow hbZ).grow y.out)
  rw [Hev.out] at hcv
  refine wp_plain_grow ?_
  repeat (first | (go_big_quiet_want; refine quiet_mid 29 (.tmp 1) rfl w.heap.size 0 rfl C _ RA.out Try.underlying29 rfl Hi.out ?_; go_simp; go_big_quiet_on) | (go_big_quiet_want; refine quiet_mid 29 (.tmp 4) rfl w2.heap.size 0 rfl (evC F vg vb) _ RB.out Try.underlying29 rfl ev_info ?_; go_simp; go_big_quiet_on) | go_big_quiet_step (first | (go_at_call 9; with_reducible exact calls_grow (K1.out _)) | (go_at_call 17; with_reducible exact calls_grow (K2.out _)) | (go_at_call 11; with_reducible exact calls_grow (K3.out _))) | quiet_step (first | (go_at_call 9; with_reducible exact calls_grow (K1.out _)) | (go_at_call 17; with_reducible exact calls_grow (K2.out _)) | (go_at_call 11; with_reducible exact calls_grow (K3.out _))))
  refine wpQuiet_nil ?_
  rintro w6 ⟨⟨_, hb6⟩, rfl⟩
  go_wp2_with fail
  go_ret
  exact ⟨by rw [live_name]; rfl, below_call hb0Z hb6⟩

/-- short. -/
def shortB (e : Ev) : Bool := decide (e.name.length ≤ 300) && decide (e.data.length ≤ 600) && decide (e.gone.length ≤ 30) && decide (e.base.length ≤ 30)
theorem le_both (n k : Nat) (b : Bool) (h : b = decide (n ≤ k)) : decide ((n : Int) ≤ (k : Int)) = b ∧ decide (n ≤ k) = b := by
  refine ⟨?_, h.symm⟩
  rw [h, Bool.eq_iff_iff, decide_eq_true_iff, decide_eq_true_iff]
  omega

set_option maxHeartbeats 4000000 in
theorem short08_any (ok : Nat → Prop) (e : Ev) (vg vb : Value) (w : World) (hin : EvIn w ok e vg vb) :
    Calls Try.prog 8 #[.agg (evC e vg vb)] w fun x w' => x = .returned (.bool (shortB e)) ∧ Below w.heap.size w w' := by
  obtain ⟨h1, hbel⟩ := ev_box (evC e vg vb) 29 w
  obtain ⟨Ag, cg, rfl, _⟩ := id_at hin.gone
  obtain ⟨Ab, cb, rfl, _⟩ := id_at hin.base
  obtain ⟨W, hW⟩ : ∃ W, W = (w.alloc (.cells (evC e (.slice Ag e.gone.length cg) (.slice Ab e.base.length cb)) 29)) := ⟨_, rfl⟩
  rw [← hW] at h1 hbel
  have c1 := h1.ev.name
  have c2 := h1.ev.data
  have c3 := h1.ev.gone
  have c4 := h1.ev.base
  unfold shortB
  obtain ⟨b1, k1⟩ : ∃ b, b = decide (e.name.length ≤ 300) := ⟨_, rfl⟩
  obtain ⟨b2, k2⟩ : ∃ b, b = decide (e.data.length ≤ 600) := ⟨_, rfl⟩
  obtain ⟨b3, k3⟩ : ∃ b, b = decide (e.gone.length ≤ 30) := ⟨_, rfl⟩
  obtain ⟨b4, k4⟩ : ∃ b, b = decide (e.base.length ≤ 30) := ⟨_, rfl⟩
  rw [← k1, ← k2, ← k3, ← k4]
  have i1 : decide ((e.name.length : Int) ≤ 300) = b1 := (le_both _ _ _ k1).1
  have j1 := (le_both _ _ _ k1).2
  have i2 : decide ((e.data.length : Int) ≤ 600) = b2 := (le_both _ _ _ k2).1
  have j2 := (le_both _ _ _ k2).2
  have i3 : decide ((e.gone.length : Int) ≤ 30) = b3 := (le_both _ _ _ k3).1
  have j3 := (le_both _ _ _ k3).2
  have i4 : decide ((e.base.length : Int) ≤ 30) = b4 := (le_both _ _ _ k4).1
  have j4 := (le_both _ _ _ k4).2
  have HW := Lib.hid hW
  clear hW k1 k2 k3 k4 h1
  cases b1 <;> cases b2 <;> cases b3 <;> cases b4
  all_goals go_enter Try.func8, Try.ntmps8
  all_goals go_upto_region 1 with fail
  all_goals rw [← HW.out]
  all_goals go_wp2_with fail
  all_goals go_ret
  all_goals exact ⟨rfl, hbel⟩
end Go.Proofs.Ytkojoahamoffcaa
