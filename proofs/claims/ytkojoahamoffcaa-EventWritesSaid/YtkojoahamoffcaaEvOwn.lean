/-
  onlyOwn.
-/
import Derived.Test.YtkojoahamoffcaaEvBase
import Derived.Laws.Tables
namespace Go.Proofs.Ytkojoahamoffcaa
open Go.RowKit
set_option maxRecDepth 100000

def nilV : Value := .slice none 0 0
/-- The values of the lists that its kind has. -/
def ownG (e : Ev) (vg : Value) : Value := if e.kind = 6 ∨ e.kind = 7 then vg else nilV
def ownB (e : Ev) (vb : Value) : Value := if e.kind = 3 ∨ e.kind = 4 ∨ e.kind = 5 then vb else nilV
/-- The cells of an event of which nothing is known but whose it is. -/
def baseC (e : Ev) (k : Int) : Array Value := #[.int .i64 e.rep, .int .u32 (e.seq : Int), .int .u32 (e.dep 0 : Int), .int .u32 (e.dep 1 : Int), .int .u32 (e.dep 2 : Int), .int .u32 (e.dep 3 : Int), .int .u32 (e.dep 4 : Int), .int .u32 (e.dep 5 : Int), .int .u32 (e.dep 6 : Int), .int .u32 (e.dep 7 : Int), .int .i64 k, .int .i64 0, .int .u32 0, .int .i64 0, .int .u32 0, .string ⟨#[]⟩, .slice none 0 0, .slice none 0 0, .int .i64 0, .string ⟨#[]⟩, .int .i64 0]
def zeroC : Array Value := #[.int .i64 0, .int .u32 0, .int .u32 0, .int .u32 0, .int .u32 0, .int .u32 0, .int .u32 0, .int .u32 0, .int .u32 0, .int .u32 0, .int .i64 0, .int .i64 0, .int .u32 0, .int .i64 0, .int .u32 0, .string ⟨#[]⟩, .slice none 0 0, .slice none 0 0, .int .i64 0, .string ⟨#[]⟩, .int .i64 0]
theorem zero_evC : evC zeroE nilV nilV = zeroC := rfl
theorem zero_lit : zeroC = #[.int .i64 0, .int .u32 0, .int .u32 0, .int .u32 0, .int .u32 0, .int .u32 0, .int .u32 0, .int .u32 0, .int .u32 0, .int .u32 0, .int .i64 0, .int .i64 0, .int .u32 0, .int .i64 0, .int .u32 0, .string ⟨#[]⟩, .slice none 0 0, .slice none 0 0, .int .i64 0, .string ⟨#[]⟩, .int .i64 0] := rfl
theorem baseC_one (e : Ev) (k : Int) : (baseC e k).all (·.oneCell') = true := by simp [baseC, Value.oneCell']
theorem boxesT (A B : Array Value) (t : TypeId) (w : World) : Blk ((w.alloc (.cells A t)).alloc (.cells B t)) w.heap.size t A ∧ Blk ((w.alloc (.cells A t)).alloc (.cells B t)) (w.heap.size + 1) t B ∧ Below w.heap.size w ((w.alloc (.cells A t)).alloc (.cells B t)) := by
  refine ⟨(Blk.new w _ _).alloc _, ?_, ((Below.refl _ _).alloc (Nat.le_refl _) _).alloc (by simp) _⟩
  have := Blk.new (w.alloc (.cells A t)) t B
  rw [World.size_alloc] at this
  exact this
theorem below_set {B : Nat} {a w : World} (h : Below B a w) {g : Nat} (hg : B ≤ g) (i : Nat) (v : Value) : Below B a (w.setCell ⟨g, i, none⟩ v) :=
  h.setCell (p := ⟨g, i, none⟩) hg v
/-- The first operations of a plain region, quiet ones. -/
theorem wpList_pre {P : Program} {ops : Array Oper} {C : World → Prop} {Q : Exit → Act → World → Prop} (n : Nat) {l : List Oper} {a : Act} {w : World} (hw : C w)
    (h : wpQuiet P ops C (fun a' => ∀ w', C w' → wpList P ops Q (l.drop n) a' w') (l.take n) a) : wpList P ops Q l a w := by
  have key : ∀ (l1 l2 : List Oper) (a : Act) (w : World), C w → wpQuiet P ops C (fun a' => ∀ w', C w' → wpList P ops Q l2 a' w') l1 a → wpList P ops Q (l1 ++ l2) a w := by
    intro l1
    induction l1 with
    | nil => intro l2 a w hw h; exact h w hw
    | cons o rest ih =>
      intro l2 a w hw h
      unfold wpQuiet at h
      rw [List.cons_append]
      unfold wpList
      split
      · rename_i hg
        rw [if_pos hg] at h
        exact .inl (Oper.wp_of_quiet hw (fun a' w' hw' hk => ih l2 a' w' hw' hk) h)
      · rename_i hg
        rw [if_neg hg] at h
        exact ih l2 _ w hw h
  have := key (l.take n) (l.drop n) a w hw h
  rwa [List.take_append_drop] at this
theorem build_run (e : Ev) (k : Int) : ∀ w : World, (Instr.build 29 #[(0, .agg #[.int .i64 e.rep, .int .u32 (e.seq : Int)]), (1, .agg #[.int .u32 (e.dep 0 : Int), .int .u32 (e.dep 1 : Int), .int .u32 (e.dep 2 : Int), .int .u32 (e.dep 3 : Int), .int .u32 (e.dep 4 : Int), .int .u32 (e.dep 5 : Int), .int .u32 (e.dep 6 : Int), .int .u32 (e.dep 7 : Int)]), (2, .int .i64 k)]).run Try.prog w = .ok (.agg (baseC e k)) w := fun w => run_build w _ _ (baseC e k) (by kernel_rfl)
theorem set_frozen {w : World} {g : Nat} {t : TypeId} {cs : Array Value} (h : Blk w g t cs) : ∀ i, w.frozen? ⟨g, i, none⟩ = false := fun i => h.frozen i
theorem set_cell {w : World} {g : Nat} {t : TypeId} {cs : Array Value} (h : Blk w g t cs) {i : Nat} {v : Value} (hv : cs[i]? = some v) : w.cell? ⟨g, i, none⟩ = some v := (h.cell i).trans hv
/-- The memory in which onlyOwn begins with the fields. -/
theorem own_boxes (e : Ev) (k : Int) (vg vb : Value) (w w6 : World) (hb : Below (w.heap.size + 1 + 1) ((w.alloc (.cells (evC e vg vb) 29)).alloc (.cells zeroC 29)) w6) : ∃ Z, Z = (w6.alloc (.cells zeroC 29)).setRow w6.heap.size (baseC e k) ∧
    Blk (w6.alloc (.cells zeroC 29)) w6.heap.size 29 zeroC ∧
    Blk Z w.heap.size 29 (evC e vg vb) ∧ Blk Z (w.heap.size + 1) 29 zeroC ∧ Blk Z w6.heap.size 29 (baseC e k) ∧ Below w.heap.size w Z ∧ w.heap.size + 1 < w6.heap.size := by
  obtain ⟨h1, h2, hb0⟩ := boxesT (evC e vg vb) zeroC 29 w
  have hs : w.heap.size + 1 + 1 ≤ w6.heap.size := by have := hb.size; rw [World.size_alloc, World.size_alloc] at this; exact this
  have h3 := Blk.new w6 29 zeroC
  have k1 := h1.below hb (by omega)
  have k2 := h2.below hb (by omega)
  have hb6 : Below w.heap.size w w6 := hb0.trans (hb.mono (by omega))
  exact ⟨_, rfl, h3, Blk.setRowFar (k1.alloc _) (by omega) _, Blk.setRowFar (k2.alloc _) (by omega) _, h3.setRow_ _, below_setRow (hb6.alloc (by omega) _) (by omega) _, by omega⟩

set_option maxHeartbeats 8000000 in
theorem own1 (ok : Nat → Prop) (e : Ev) (vg vb : Value) (w : World) (hin : EvIn w ok e vg vb) (hk : e.kind = 1) :
    Calls Try.prog 20 #[.agg (evC e vg vb)] w fun e' w' => e' = .returned (.agg (evC (ownE e) (ownG e vg) (ownB e vb))) ∧ Below w.heap.size w w' := by
  obtain ⟨Ag, cg, _, rfl, _⟩ := hin.gone
  obtain ⟨Ab, cb, _, rfl, _⟩ := hin.base
  have hE : evC (ownE e) (ownG e (.slice Ag e.gone.length cg)) (ownB e (.slice Ab e.base.length cb)) = #[.int .i64 e.rep, .int .u32 (e.seq : Int), .int .u32 (e.dep 0 : Int), .int .u32 (e.dep 1 : Int), .int .u32 (e.dep 2 : Int), .int .u32 (e.dep 3 : Int), .int .u32 (e.dep 4 : Int), .int .u32 (e.dep 5 : Int), .int .u32 (e.dep 6 : Int), .int .u32 (e.dep 7 : Int), .int .i64 1, .int .i64 0, .int .u32 0, .int .i64 e.drep, .int .u32 (e.dseq : Int), str e.name, .slice none 0 0, .slice none 0 0, .int .i64 0, .string ⟨#[]⟩, .int .i64 0] := by
    unfold ownE ownG ownB
    rw [if_pos (by omega), if_neg (by omega), if_neg (by omega)]
    show (#[.int .i64 e.rep, .int .u32 (e.seq : Int), .int .u32 (e.dep 0 : Int), .int .u32 (e.dep 1 : Int), .int .u32 (e.dep 2 : Int), .int .u32 (e.dep 3 : Int), .int .u32 (e.dep 4 : Int), .int .u32 (e.dep 5 : Int), .int .u32 (e.dep 6 : Int), .int .u32 (e.dep 7 : Int), .int .i64 e.kind, .int .i64 0, .int .u32 0, .int .i64 e.drep, .int .u32 (e.dseq : Int), str e.name, .slice none 0 0, .slice none 0 0, .int .i64 0, .string ⟨#[]⟩, .int .i64 0] : Array Value) = _
    rw [hk]
  have h1c : (evC (ownE e) (ownG e (.slice Ag e.gone.length cg)) (ownB e (.slice Ab e.base.length cb))).all (·.oneCell') = true := by rw [hE]; simp [Value.oneCell']
  obtain ⟨V, hV⟩ : ∃ V, V = evC (ownE e) (ownG e (.slice Ag e.gone.length cg)) (ownB e (.slice Ab e.base.length cb)) := ⟨_, rfl⟩
  rw [← hV] at h1c hE ⊢
  have hsV : V.size = 21 := by rw [hV]; rfl
  obtain ⟨h1, _, hb⟩ := boxesT (evC e (.slice Ag e.gone.length cg) (.slice Ab e.base.length cb)) zeroC 29 w
  obtain ⟨W, hW⟩ : ∃ W, W = ((w.alloc (.cells (evC e (.slice Ag e.gone.length cg) (.slice Ab e.base.length cb)) 29)).alloc (.cells zeroC 29)) := ⟨_, rfl⟩
  have hsz : W.heap.size = w.heap.size + 1 + 1 := by rw [hW, World.size_alloc, World.size_alloc]
  have hox := fun w6 (hb : Below W.heap.size W w6) => own_boxes e 1 (.slice Ag e.gone.length cg) (.slice Ab e.base.length cb) w w6 (by rw [← hW, ← hsz]; exact hb)
  rw [← hW] at h1 hb
  have R0 := Lib.hid (range_exts (ev_id h1))
  have R1 := Lib.hid (range_exts (ev_dep h1))
  have c2 := fun y : Ext W => (EvCells.ext h1 y).kind
  rw [hk] at c2
  have hbd := build_run e 1
  rw [zero_lit] at hW
  have HW := Lib.hid hW
  have HX := Lib.hid hox
  have HE := Lib.hid hE
  have H1c := Lib.hid h1c
  have HsV := Lib.hid hsV
  have Hk := Lib.hid hk
  clear hW hox hE h1 hb hV h1c hsV hk
  go_enter Try.func20, Try.ntmps20
  go_upto_region 1 with fail
  rw [← HW.out]
  refine wp_region_lit ?_
  refine wpList_pre 7 (C := fun w' => ∃ x : Ext W, w' = x.now) ⟨⟨W, Below.refl _ _⟩, rfl⟩ ?_
  simp only [List.take_succ_cons, List.take_zero, List.drop_succ_cons, List.drop_zero]
  repeat (first | (go_big_quiet_want; refine quiet_mid 24 (.tmp 4) rfl w.heap.size 0 rfl #[.int .i64 e.rep, .int .u32 (e.seq : Int)] _ R0.out Try.underlying24 rfl id_info ?_; go_simp; go_big_quiet_on) | (go_big_quiet_want; refine quiet_mid 26 (.tmp 6) rfl w.heap.size 2 rfl #[.int .u32 (e.dep 0 : Int), .int .u32 (e.dep 1 : Int), .int .u32 (e.dep 2 : Int), .int .u32 (e.dep 3 : Int), .int .u32 (e.dep 4 : Int), .int .u32 (e.dep 5 : Int), .int .u32 (e.dep 6 : Int), .int .u32 (e.dep 7 : Int)] _ R1.out Try.underlying26 rfl vec_info ?_; go_simp; go_big_quiet_on) | go_big_quiet_step (fail) | quiet_step (fail))
  refine wpQuiet_nil ?_
  rintro w6 ⟨⟨_, hb6⟩, rfl⟩
  obtain ⟨Z, hZ, h0, h1, h2, h3, hb, hlt⟩ := HX.out w6 hb6
  have e0 := h1.ev.kind
  rw [Hk.out] at e0
  have r13 : Z.cell? ⟨w.heap.size, 13, none⟩ = some (.int .i64 e.drep) := set_cell h1 rfl
  have s13 : Z.cell? ⟨w6.heap.size, 13, none⟩ = some (.int .i64 0) := set_cell h3 rfl
  have f13 : Z.frozen? ⟨w6.heap.size, 13, none⟩ = false := set_frozen h3 13
  have r14 : Z.cell? ⟨w.heap.size, 14, none⟩ = some (.int .u32 (e.dseq : Int)) := set_cell h1 rfl
  have s14 : Z.cell? ⟨w6.heap.size, 14, none⟩ = some (.int .u32 0) := set_cell h3 rfl
  have f14 : Z.frozen? ⟨w6.heap.size, 14, none⟩ = false := set_frozen h3 14
  have r15 : Z.cell? ⟨w.heap.size, 15, none⟩ = some (str e.name) := set_cell h1 rfl
  have s15 : Z.cell? ⟨w6.heap.size, 15, none⟩ = some (.string ⟨#[]⟩) := set_cell h3 rfl
  have f15 : Z.frozen? ⟨w6.heap.size, 15, none⟩ = false := set_frozen h3 15
  have e1 := (((h3.set_ 13 (.int .i64 e.drep)).set_ 14 (.int .u32 (e.dseq : Int))).set_ 15 (str e.name))
  have e2 := (((h2.far (p := ⟨w6.heap.size, 13, none⟩) (by show w.heap.size + 1 ≠ w6.heap.size; omega) (.int .i64 e.drep)).far (p := ⟨w6.heap.size, 14, none⟩) (by show w.heap.size + 1 ≠ w6.heap.size; omega) (.int .u32 (e.dseq : Int))).far (p := ⟨w6.heap.size, 15, none⟩) (by show w.heap.size + 1 ≠ w6.heap.size; omega) (str e.name))
  have e3 := (below_set (below_set (below_set hb (g := w6.heap.size) (by omega) 13 (.int .i64 e.drep)) (g := w6.heap.size) (by omega) 14 (.int .u32 (e.dseq : Int))) (g := w6.heap.size) (by omega) 15 (str e.name))
  rw [zero_lit] at h0 hZ
  have H0 := Lib.hid h0
  have HZ := Lib.hid hZ
  have E1 := Lib.hid e1
  have E2 := Lib.hid e2
  have E3 := Lib.hid e3
  have Hlt := Lib.hid hlt
  clear hZ h0 h1 h2 h3 hb e1 e2 e3 hlt hb6 hbd
  go_upto_region 2 with (refine wpList_store_row (o := ⟨none, .store _ (.tmp 3) (.tmp 10), _, _, _, _⟩) rfl 29 (.tmp 3) (.tmp 10) rfl w6.heap.size (baseC e 1) rfl rfl 29 (#[.int .i64 0, .int .u32 0, .int .u32 0, .int .u32 0, .int .u32 0, .int .u32 0, .int .u32 0, .int .u32 0, .int .u32 0, .int .u32 0, .int .i64 0, .int .i64 0, .int .u32 0, .int .i64 0, .int .u32 0, .string ⟨#[]⟩, .slice none 0 0, .slice none 0 0, .int .i64 0, .string ⟨#[]⟩, .int .i64 0]) (by exact H0.out) ev_info rfl (baseC_one e _) ?_; rw [← HZ.out])
  go_upto_region 5 with fail
  go_region
  have ea : #[.int .i64 e.rep, .int .u32 (e.seq : Int), .int .u32 (e.dep 0 : Int), .int .u32 (e.dep 1 : Int), .int .u32 (e.dep 2 : Int), .int .u32 (e.dep 3 : Int), .int .u32 (e.dep 4 : Int), .int .u32 (e.dep 5 : Int), .int .u32 (e.dep 6 : Int), .int .u32 (e.dep 7 : Int), .int .i64 1, .int .i64 0, .int .u32 0, .int .i64 e.drep, .int .u32 (e.dseq : Int), str e.name, .slice none 0 0, .slice none 0 0, .int .i64 0, .string ⟨#[]⟩, .int .i64 0] = ((((baseC e 1).setIfInBounds 13 (.int .i64 e.drep)).setIfInBounds 14 (.int .u32 (e.dseq : Int))).setIfInBounds 15 (str e.name)) := by kernel_rfl
  have E4 : Go.RowKit.Hid (Blk (((Z.setCell ⟨w6.heap.size, 13, none⟩ (.int .i64 e.drep)).setCell ⟨w6.heap.size, 14, none⟩ (.int .u32 (e.dseq : Int))).setCell ⟨w6.heap.size, 15, none⟩ (str e.name)).drew w6.heap.size 29 V) := Lib.hid (by rw [HE.out, ea]; exact E1.out.drew)
  have E5 : Go.RowKit.Hid (Blk (((Z.setCell ⟨w6.heap.size, 13, none⟩ (.int .i64 e.drep)).setCell ⟨w6.heap.size, 14, none⟩ (.int .u32 (e.dseq : Int))).setCell ⟨w6.heap.size, 15, none⟩ (str e.name)).drew (w.heap.size + 1) 29 zeroC) := Lib.hid E2.out.drew
  have hi : (Try.prog.info? 29).map (·.size) = some V.size := by rw [HsV.out]; exact ev_info
  have Hi := Lib.hid hi
  clear hi
  go_upto_region 18 with fail
  refine wp_region_lit ?_
  refine wpList_load_row rfl 29 (.tmp 3) rfl w6.heap.size rfl 29 V (0, 0) _ (by exact E4.out) Try.underlying29 rfl Hi.out ?_
  refine wpList_store_row rfl 29 (.tmp 2) (.tmp 85) rfl (w.heap.size + 1) V rfl rfl 29 zeroC (by exact E5.out) Hi.out (by rw [HsV.out]; rfl) H1c.out ?_
  go_wp2_with fail
  have hend := E5.out.setRow_ V
  exact bodyPost_ret (v := .agg V) (results_cell_row Try.results20 _ _ (w.heap.size + 1) 29 V (0, 0) _ rfl hend Try.underlying29 rfl Hi.out) rfl ⟨rfl, below_setRow (E3.out.drew) (by omega) _⟩
set_option maxHeartbeats 8000000 in
theorem own2 (ok : Nat → Prop) (e : Ev) (vg vb : Value) (w : World) (hin : EvIn w ok e vg vb) (hk : e.kind = 2) :
    Calls Try.prog 20 #[.agg (evC e vg vb)] w fun e' w' => e' = .returned (.agg (evC (ownE e) (ownG e vg) (ownB e vb))) ∧ Below w.heap.size w w' := by
  obtain ⟨Ag, cg, _, rfl, _⟩ := hin.gone
  obtain ⟨Ab, cb, _, rfl, _⟩ := hin.base
  have hE : evC (ownE e) (ownG e (.slice Ag e.gone.length cg)) (ownB e (.slice Ab e.base.length cb)) = #[.int .i64 e.rep, .int .u32 (e.seq : Int), .int .u32 (e.dep 0 : Int), .int .u32 (e.dep 1 : Int), .int .u32 (e.dep 2 : Int), .int .u32 (e.dep 3 : Int), .int .u32 (e.dep 4 : Int), .int .u32 (e.dep 5 : Int), .int .u32 (e.dep 6 : Int), .int .u32 (e.dep 7 : Int), .int .i64 2, .int .i64 0, .int .u32 0, .int .i64 e.drep, .int .u32 (e.dseq : Int), str e.name, .slice none 0 0, .slice none 0 0, .int .i64 0, .string ⟨#[]⟩, .int .i64 0] := by
    unfold ownE ownG ownB
    rw [if_pos (by omega), if_neg (by omega), if_neg (by omega)]
    show (#[.int .i64 e.rep, .int .u32 (e.seq : Int), .int .u32 (e.dep 0 : Int), .int .u32 (e.dep 1 : Int), .int .u32 (e.dep 2 : Int), .int .u32 (e.dep 3 : Int), .int .u32 (e.dep 4 : Int), .int .u32 (e.dep 5 : Int), .int .u32 (e.dep 6 : Int), .int .u32 (e.dep 7 : Int), .int .i64 e.kind, .int .i64 0, .int .u32 0, .int .i64 e.drep, .int .u32 (e.dseq : Int), str e.name, .slice none 0 0, .slice none 0 0, .int .i64 0, .string ⟨#[]⟩, .int .i64 0] : Array Value) = _
    rw [hk]
  have h1c : (evC (ownE e) (ownG e (.slice Ag e.gone.length cg)) (ownB e (.slice Ab e.base.length cb))).all (·.oneCell') = true := by rw [hE]; simp [Value.oneCell']
  obtain ⟨V, hV⟩ : ∃ V, V = evC (ownE e) (ownG e (.slice Ag e.gone.length cg)) (ownB e (.slice Ab e.base.length cb)) := ⟨_, rfl⟩
  rw [← hV] at h1c hE ⊢
  have hsV : V.size = 21 := by rw [hV]; rfl
  obtain ⟨h1, _, hb⟩ := boxesT (evC e (.slice Ag e.gone.length cg) (.slice Ab e.base.length cb)) zeroC 29 w
  obtain ⟨W, hW⟩ : ∃ W, W = ((w.alloc (.cells (evC e (.slice Ag e.gone.length cg) (.slice Ab e.base.length cb)) 29)).alloc (.cells zeroC 29)) := ⟨_, rfl⟩
  have hsz : W.heap.size = w.heap.size + 1 + 1 := by rw [hW, World.size_alloc, World.size_alloc]
  have hox := fun w6 (hb : Below W.heap.size W w6) => own_boxes e 2 (.slice Ag e.gone.length cg) (.slice Ab e.base.length cb) w w6 (by rw [← hW, ← hsz]; exact hb)
  rw [← hW] at h1 hb
  have R0 := Lib.hid (range_exts (ev_id h1))
  have R1 := Lib.hid (range_exts (ev_dep h1))
  have c2 := fun y : Ext W => (EvCells.ext h1 y).kind
  rw [hk] at c2
  have hbd := build_run e 2
  rw [zero_lit] at hW
  have HW := Lib.hid hW
  have HX := Lib.hid hox
  have HE := Lib.hid hE
  have H1c := Lib.hid h1c
  have HsV := Lib.hid hsV
  have Hk := Lib.hid hk
  clear hW hox hE h1 hb hV h1c hsV hk
  go_enter Try.func20, Try.ntmps20
  go_upto_region 1 with fail
  rw [← HW.out]
  refine wp_region_lit ?_
  refine wpList_pre 7 (C := fun w' => ∃ x : Ext W, w' = x.now) ⟨⟨W, Below.refl _ _⟩, rfl⟩ ?_
  simp only [List.take_succ_cons, List.take_zero, List.drop_succ_cons, List.drop_zero]
  repeat (first | (go_big_quiet_want; refine quiet_mid 24 (.tmp 4) rfl w.heap.size 0 rfl #[.int .i64 e.rep, .int .u32 (e.seq : Int)] _ R0.out Try.underlying24 rfl id_info ?_; go_simp; go_big_quiet_on) | (go_big_quiet_want; refine quiet_mid 26 (.tmp 6) rfl w.heap.size 2 rfl #[.int .u32 (e.dep 0 : Int), .int .u32 (e.dep 1 : Int), .int .u32 (e.dep 2 : Int), .int .u32 (e.dep 3 : Int), .int .u32 (e.dep 4 : Int), .int .u32 (e.dep 5 : Int), .int .u32 (e.dep 6 : Int), .int .u32 (e.dep 7 : Int)] _ R1.out Try.underlying26 rfl vec_info ?_; go_simp; go_big_quiet_on) | go_big_quiet_step (fail) | quiet_step (fail))
  refine wpQuiet_nil ?_
  rintro w6 ⟨⟨_, hb6⟩, rfl⟩
  obtain ⟨Z, hZ, h0, h1, h2, h3, hb, hlt⟩ := HX.out w6 hb6
  have e0 := h1.ev.kind
  rw [Hk.out] at e0
  have r13 : Z.cell? ⟨w.heap.size, 13, none⟩ = some (.int .i64 e.drep) := set_cell h1 rfl
  have s13 : Z.cell? ⟨w6.heap.size, 13, none⟩ = some (.int .i64 0) := set_cell h3 rfl
  have f13 : Z.frozen? ⟨w6.heap.size, 13, none⟩ = false := set_frozen h3 13
  have r14 : Z.cell? ⟨w.heap.size, 14, none⟩ = some (.int .u32 (e.dseq : Int)) := set_cell h1 rfl
  have s14 : Z.cell? ⟨w6.heap.size, 14, none⟩ = some (.int .u32 0) := set_cell h3 rfl
  have f14 : Z.frozen? ⟨w6.heap.size, 14, none⟩ = false := set_frozen h3 14
  have r15 : Z.cell? ⟨w.heap.size, 15, none⟩ = some (str e.name) := set_cell h1 rfl
  have s15 : Z.cell? ⟨w6.heap.size, 15, none⟩ = some (.string ⟨#[]⟩) := set_cell h3 rfl
  have f15 : Z.frozen? ⟨w6.heap.size, 15, none⟩ = false := set_frozen h3 15
  have e1 := (((h3.set_ 13 (.int .i64 e.drep)).set_ 14 (.int .u32 (e.dseq : Int))).set_ 15 (str e.name))
  have e2 := (((h2.far (p := ⟨w6.heap.size, 13, none⟩) (by show w.heap.size + 1 ≠ w6.heap.size; omega) (.int .i64 e.drep)).far (p := ⟨w6.heap.size, 14, none⟩) (by show w.heap.size + 1 ≠ w6.heap.size; omega) (.int .u32 (e.dseq : Int))).far (p := ⟨w6.heap.size, 15, none⟩) (by show w.heap.size + 1 ≠ w6.heap.size; omega) (str e.name))
  have e3 := (below_set (below_set (below_set hb (g := w6.heap.size) (by omega) 13 (.int .i64 e.drep)) (g := w6.heap.size) (by omega) 14 (.int .u32 (e.dseq : Int))) (g := w6.heap.size) (by omega) 15 (str e.name))
  rw [zero_lit] at h0 hZ
  have H0 := Lib.hid h0
  have HZ := Lib.hid hZ
  have E1 := Lib.hid e1
  have E2 := Lib.hid e2
  have E3 := Lib.hid e3
  have Hlt := Lib.hid hlt
  clear hZ h0 h1 h2 h3 hb e1 e2 e3 hlt hb6 hbd
  go_upto_region 2 with (refine wpList_store_row (o := ⟨none, .store _ (.tmp 3) (.tmp 10), _, _, _, _⟩) rfl 29 (.tmp 3) (.tmp 10) rfl w6.heap.size (baseC e 2) rfl rfl 29 (#[.int .i64 0, .int .u32 0, .int .u32 0, .int .u32 0, .int .u32 0, .int .u32 0, .int .u32 0, .int .u32 0, .int .u32 0, .int .u32 0, .int .i64 0, .int .i64 0, .int .u32 0, .int .i64 0, .int .u32 0, .string ⟨#[]⟩, .slice none 0 0, .slice none 0 0, .int .i64 0, .string ⟨#[]⟩, .int .i64 0]) (by exact H0.out) ev_info rfl (baseC_one e _) ?_; rw [← HZ.out])
  go_upto_region 5 with fail
  go_region
  have ea : #[.int .i64 e.rep, .int .u32 (e.seq : Int), .int .u32 (e.dep 0 : Int), .int .u32 (e.dep 1 : Int), .int .u32 (e.dep 2 : Int), .int .u32 (e.dep 3 : Int), .int .u32 (e.dep 4 : Int), .int .u32 (e.dep 5 : Int), .int .u32 (e.dep 6 : Int), .int .u32 (e.dep 7 : Int), .int .i64 2, .int .i64 0, .int .u32 0, .int .i64 e.drep, .int .u32 (e.dseq : Int), str e.name, .slice none 0 0, .slice none 0 0, .int .i64 0, .string ⟨#[]⟩, .int .i64 0] = ((((baseC e 2).setIfInBounds 13 (.int .i64 e.drep)).setIfInBounds 14 (.int .u32 (e.dseq : Int))).setIfInBounds 15 (str e.name)) := by kernel_rfl
  have E4 : Go.RowKit.Hid (Blk (((Z.setCell ⟨w6.heap.size, 13, none⟩ (.int .i64 e.drep)).setCell ⟨w6.heap.size, 14, none⟩ (.int .u32 (e.dseq : Int))).setCell ⟨w6.heap.size, 15, none⟩ (str e.name)).drew w6.heap.size 29 V) := Lib.hid (by rw [HE.out, ea]; exact E1.out.drew)
  have E5 : Go.RowKit.Hid (Blk (((Z.setCell ⟨w6.heap.size, 13, none⟩ (.int .i64 e.drep)).setCell ⟨w6.heap.size, 14, none⟩ (.int .u32 (e.dseq : Int))).setCell ⟨w6.heap.size, 15, none⟩ (str e.name)).drew (w.heap.size + 1) 29 zeroC) := Lib.hid E2.out.drew
  have hi : (Try.prog.info? 29).map (·.size) = some V.size := by rw [HsV.out]; exact ev_info
  have Hi := Lib.hid hi
  clear hi
  go_upto_region 18 with fail
  refine wp_region_lit ?_
  refine wpList_load_row rfl 29 (.tmp 3) rfl w6.heap.size rfl 29 V (0, 0) _ (by exact E4.out) Try.underlying29 rfl Hi.out ?_
  refine wpList_store_row rfl 29 (.tmp 2) (.tmp 85) rfl (w.heap.size + 1) V rfl rfl 29 zeroC (by exact E5.out) Hi.out (by rw [HsV.out]; rfl) H1c.out ?_
  go_wp2_with fail
  have hend := E5.out.setRow_ V
  exact bodyPost_ret (v := .agg V) (results_cell_row Try.results20 _ _ (w.heap.size + 1) 29 V (0, 0) _ rfl hend Try.underlying29 rfl Hi.out) rfl ⟨rfl, below_setRow (E3.out.drew) (by omega) _⟩
set_option maxHeartbeats 8000000 in
theorem own3 (ok : Nat → Prop) (e : Ev) (vg vb : Value) (w : World) (hin : EvIn w ok e vg vb) (hk : e.kind = 3) :
    Calls Try.prog 20 #[.agg (evC e vg vb)] w fun e' w' => e' = .returned (.agg (evC (ownE e) (ownG e vg) (ownB e vb))) ∧ Below w.heap.size w w' := by
  obtain ⟨Ag, cg, _, rfl, _⟩ := hin.gone
  obtain ⟨Ab, cb, _, rfl, _⟩ := hin.base
  have hE : evC (ownE e) (ownG e (.slice Ag e.gone.length cg)) (ownB e (.slice Ab e.base.length cb)) = #[.int .i64 e.rep, .int .u32 (e.seq : Int), .int .u32 (e.dep 0 : Int), .int .u32 (e.dep 1 : Int), .int .u32 (e.dep 2 : Int), .int .u32 (e.dep 3 : Int), .int .u32 (e.dep 4 : Int), .int .u32 (e.dep 5 : Int), .int .u32 (e.dep 6 : Int), .int .u32 (e.dep 7 : Int), .int .i64 3, .int .i64 e.orep, .int .u32 (e.oseq : Int), .int .i64 0, .int .u32 0, .string ⟨#[]⟩, .slice none 0 0, (.slice Ab e.base.length cb), .int .i64 e.off, str e.data, .int .i64 0] := by
    unfold ownE ownG ownB
    rw [if_neg (by omega), if_pos hk, if_neg (by omega), if_pos (by omega)]
    show (#[.int .i64 e.rep, .int .u32 (e.seq : Int), .int .u32 (e.dep 0 : Int), .int .u32 (e.dep 1 : Int), .int .u32 (e.dep 2 : Int), .int .u32 (e.dep 3 : Int), .int .u32 (e.dep 4 : Int), .int .u32 (e.dep 5 : Int), .int .u32 (e.dep 6 : Int), .int .u32 (e.dep 7 : Int), .int .i64 e.kind, .int .i64 e.orep, .int .u32 (e.oseq : Int), .int .i64 0, .int .u32 0, .string ⟨#[]⟩, .slice none 0 0, (.slice Ab e.base.length cb), .int .i64 e.off, str e.data, .int .i64 0] : Array Value) = _
    rw [hk]
  have h1c : (evC (ownE e) (ownG e (.slice Ag e.gone.length cg)) (ownB e (.slice Ab e.base.length cb))).all (·.oneCell') = true := by rw [hE]; simp [Value.oneCell']
  obtain ⟨V, hV⟩ : ∃ V, V = evC (ownE e) (ownG e (.slice Ag e.gone.length cg)) (ownB e (.slice Ab e.base.length cb)) := ⟨_, rfl⟩
  rw [← hV] at h1c hE ⊢
  have hsV : V.size = 21 := by rw [hV]; rfl
  obtain ⟨h1, _, hb⟩ := boxesT (evC e (.slice Ag e.gone.length cg) (.slice Ab e.base.length cb)) zeroC 29 w
  obtain ⟨W, hW⟩ : ∃ W, W = ((w.alloc (.cells (evC e (.slice Ag e.gone.length cg) (.slice Ab e.base.length cb)) 29)).alloc (.cells zeroC 29)) := ⟨_, rfl⟩
  have hsz : W.heap.size = w.heap.size + 1 + 1 := by rw [hW, World.size_alloc, World.size_alloc]
  have hox := fun w6 (hb : Below W.heap.size W w6) => own_boxes e 3 (.slice Ag e.gone.length cg) (.slice Ab e.base.length cb) w w6 (by rw [← hW, ← hsz]; exact hb)
  rw [← hW] at h1 hb
  have R0 := Lib.hid (range_exts (ev_id h1))
  have R1 := Lib.hid (range_exts (ev_dep h1))
  have c2 := fun y : Ext W => (EvCells.ext h1 y).kind
  rw [hk] at c2
  have hbd := build_run e 3
  rw [zero_lit] at hW
  have HW := Lib.hid hW
  have HX := Lib.hid hox
  have HE := Lib.hid hE
  have H1c := Lib.hid h1c
  have HsV := Lib.hid hsV
  have Hk := Lib.hid hk
  clear hW hox hE h1 hb hV h1c hsV hk
  go_enter Try.func20, Try.ntmps20
  go_upto_region 1 with fail
  rw [← HW.out]
  refine wp_region_lit ?_
  refine wpList_pre 7 (C := fun w' => ∃ x : Ext W, w' = x.now) ⟨⟨W, Below.refl _ _⟩, rfl⟩ ?_
  simp only [List.take_succ_cons, List.take_zero, List.drop_succ_cons, List.drop_zero]
  repeat (first | (go_big_quiet_want; refine quiet_mid 24 (.tmp 4) rfl w.heap.size 0 rfl #[.int .i64 e.rep, .int .u32 (e.seq : Int)] _ R0.out Try.underlying24 rfl id_info ?_; go_simp; go_big_quiet_on) | (go_big_quiet_want; refine quiet_mid 26 (.tmp 6) rfl w.heap.size 2 rfl #[.int .u32 (e.dep 0 : Int), .int .u32 (e.dep 1 : Int), .int .u32 (e.dep 2 : Int), .int .u32 (e.dep 3 : Int), .int .u32 (e.dep 4 : Int), .int .u32 (e.dep 5 : Int), .int .u32 (e.dep 6 : Int), .int .u32 (e.dep 7 : Int)] _ R1.out Try.underlying26 rfl vec_info ?_; go_simp; go_big_quiet_on) | go_big_quiet_step (fail) | quiet_step (fail))
  refine wpQuiet_nil ?_
  rintro w6 ⟨⟨_, hb6⟩, rfl⟩
  obtain ⟨Z, hZ, h0, h1, h2, h3, hb, hlt⟩ := HX.out w6 hb6
  have e0 := h1.ev.kind
  rw [Hk.out] at e0
  have r11 : Z.cell? ⟨w.heap.size, 11, none⟩ = some (.int .i64 e.orep) := set_cell h1 rfl
  have s11 : Z.cell? ⟨w6.heap.size, 11, none⟩ = some (.int .i64 0) := set_cell h3 rfl
  have f11 : Z.frozen? ⟨w6.heap.size, 11, none⟩ = false := set_frozen h3 11
  have r12 : Z.cell? ⟨w.heap.size, 12, none⟩ = some (.int .u32 (e.oseq : Int)) := set_cell h1 rfl
  have s12 : Z.cell? ⟨w6.heap.size, 12, none⟩ = some (.int .u32 0) := set_cell h3 rfl
  have f12 : Z.frozen? ⟨w6.heap.size, 12, none⟩ = false := set_frozen h3 12
  have r17 : Z.cell? ⟨w.heap.size, 17, none⟩ = some ((.slice Ab e.base.length cb)) := set_cell h1 rfl
  have s17 : Z.cell? ⟨w6.heap.size, 17, none⟩ = some (.slice none 0 0) := set_cell h3 rfl
  have f17 : Z.frozen? ⟨w6.heap.size, 17, none⟩ = false := set_frozen h3 17
  have r18 : Z.cell? ⟨w.heap.size, 18, none⟩ = some (.int .i64 e.off) := set_cell h1 rfl
  have s18 : Z.cell? ⟨w6.heap.size, 18, none⟩ = some (.int .i64 0) := set_cell h3 rfl
  have f18 : Z.frozen? ⟨w6.heap.size, 18, none⟩ = false := set_frozen h3 18
  have r19 : Z.cell? ⟨w.heap.size, 19, none⟩ = some (str e.data) := set_cell h1 rfl
  have s19 : Z.cell? ⟨w6.heap.size, 19, none⟩ = some (.string ⟨#[]⟩) := set_cell h3 rfl
  have f19 : Z.frozen? ⟨w6.heap.size, 19, none⟩ = false := set_frozen h3 19
  have e1 := (((((h3.set_ 11 (.int .i64 e.orep)).set_ 12 (.int .u32 (e.oseq : Int))).set_ 17 ((.slice Ab e.base.length cb))).set_ 18 (.int .i64 e.off)).set_ 19 (str e.data))
  have e2 := (((((h2.far (p := ⟨w6.heap.size, 11, none⟩) (by show w.heap.size + 1 ≠ w6.heap.size; omega) (.int .i64 e.orep)).far (p := ⟨w6.heap.size, 12, none⟩) (by show w.heap.size + 1 ≠ w6.heap.size; omega) (.int .u32 (e.oseq : Int))).far (p := ⟨w6.heap.size, 17, none⟩) (by show w.heap.size + 1 ≠ w6.heap.size; omega) ((.slice Ab e.base.length cb))).far (p := ⟨w6.heap.size, 18, none⟩) (by show w.heap.size + 1 ≠ w6.heap.size; omega) (.int .i64 e.off)).far (p := ⟨w6.heap.size, 19, none⟩) (by show w.heap.size + 1 ≠ w6.heap.size; omega) (str e.data))
  have e3 := (below_set (below_set (below_set (below_set (below_set hb (g := w6.heap.size) (by omega) 11 (.int .i64 e.orep)) (g := w6.heap.size) (by omega) 12 (.int .u32 (e.oseq : Int))) (g := w6.heap.size) (by omega) 17 ((.slice Ab e.base.length cb))) (g := w6.heap.size) (by omega) 18 (.int .i64 e.off)) (g := w6.heap.size) (by omega) 19 (str e.data))
  rw [zero_lit] at h0 hZ
  have H0 := Lib.hid h0
  have HZ := Lib.hid hZ
  have E1 := Lib.hid e1
  have E2 := Lib.hid e2
  have E3 := Lib.hid e3
  have Hlt := Lib.hid hlt
  clear hZ h0 h1 h2 h3 hb e1 e2 e3 hlt hb6 hbd
  go_upto_region 2 with (refine wpList_store_row (o := ⟨none, .store _ (.tmp 3) (.tmp 10), _, _, _, _⟩) rfl 29 (.tmp 3) (.tmp 10) rfl w6.heap.size (baseC e 3) rfl rfl 29 (#[.int .i64 0, .int .u32 0, .int .u32 0, .int .u32 0, .int .u32 0, .int .u32 0, .int .u32 0, .int .u32 0, .int .u32 0, .int .u32 0, .int .i64 0, .int .i64 0, .int .u32 0, .int .i64 0, .int .u32 0, .string ⟨#[]⟩, .slice none 0 0, .slice none 0 0, .int .i64 0, .string ⟨#[]⟩, .int .i64 0]) (by exact H0.out) ev_info rfl (baseC_one e _) ?_; rw [← HZ.out])
  go_upto_region 7 with fail
  go_region
  have ea : #[.int .i64 e.rep, .int .u32 (e.seq : Int), .int .u32 (e.dep 0 : Int), .int .u32 (e.dep 1 : Int), .int .u32 (e.dep 2 : Int), .int .u32 (e.dep 3 : Int), .int .u32 (e.dep 4 : Int), .int .u32 (e.dep 5 : Int), .int .u32 (e.dep 6 : Int), .int .u32 (e.dep 7 : Int), .int .i64 3, .int .i64 e.orep, .int .u32 (e.oseq : Int), .int .i64 0, .int .u32 0, .string ⟨#[]⟩, .slice none 0 0, (.slice Ab e.base.length cb), .int .i64 e.off, str e.data, .int .i64 0] = ((((((baseC e 3).setIfInBounds 11 (.int .i64 e.orep)).setIfInBounds 12 (.int .u32 (e.oseq : Int))).setIfInBounds 17 ((.slice Ab e.base.length cb))).setIfInBounds 18 (.int .i64 e.off)).setIfInBounds 19 (str e.data)) := by kernel_rfl
  have E4 : Go.RowKit.Hid (Blk (((((Z.setCell ⟨w6.heap.size, 11, none⟩ (.int .i64 e.orep)).setCell ⟨w6.heap.size, 12, none⟩ (.int .u32 (e.oseq : Int))).setCell ⟨w6.heap.size, 17, none⟩ ((.slice Ab e.base.length cb))).setCell ⟨w6.heap.size, 18, none⟩ (.int .i64 e.off)).setCell ⟨w6.heap.size, 19, none⟩ (str e.data)).drew w6.heap.size 29 V) := Lib.hid (by rw [HE.out, ea]; exact E1.out.drew)
  have E5 : Go.RowKit.Hid (Blk (((((Z.setCell ⟨w6.heap.size, 11, none⟩ (.int .i64 e.orep)).setCell ⟨w6.heap.size, 12, none⟩ (.int .u32 (e.oseq : Int))).setCell ⟨w6.heap.size, 17, none⟩ ((.slice Ab e.base.length cb))).setCell ⟨w6.heap.size, 18, none⟩ (.int .i64 e.off)).setCell ⟨w6.heap.size, 19, none⟩ (str e.data)).drew (w.heap.size + 1) 29 zeroC) := Lib.hid E2.out.drew
  have hi : (Try.prog.info? 29).map (·.size) = some V.size := by rw [HsV.out]; exact ev_info
  have Hi := Lib.hid hi
  clear hi
  go_upto_region 18 with fail
  refine wp_region_lit ?_
  refine wpList_load_row rfl 29 (.tmp 3) rfl w6.heap.size rfl 29 V (0, 0) _ (by exact E4.out) Try.underlying29 rfl Hi.out ?_
  refine wpList_store_row rfl 29 (.tmp 2) (.tmp 85) rfl (w.heap.size + 1) V rfl rfl 29 zeroC (by exact E5.out) Hi.out (by rw [HsV.out]; rfl) H1c.out ?_
  go_wp2_with fail
  have hend := E5.out.setRow_ V
  exact bodyPost_ret (v := .agg V) (results_cell_row Try.results20 _ _ (w.heap.size + 1) 29 V (0, 0) _ rfl hend Try.underlying29 rfl Hi.out) rfl ⟨rfl, below_setRow (E3.out.drew) (by omega) _⟩
set_option maxHeartbeats 8000000 in
theorem own4 (ok : Nat → Prop) (e : Ev) (vg vb : Value) (w : World) (hin : EvIn w ok e vg vb) (hk : e.kind = 4) :
    Calls Try.prog 20 #[.agg (evC e vg vb)] w fun e' w' => e' = .returned (.agg (evC (ownE e) (ownG e vg) (ownB e vb))) ∧ Below w.heap.size w w' := by
  obtain ⟨Ag, cg, _, rfl, _⟩ := hin.gone
  obtain ⟨Ab, cb, _, rfl, _⟩ := hin.base
  have hE : evC (ownE e) (ownG e (.slice Ag e.gone.length cg)) (ownB e (.slice Ab e.base.length cb)) = #[.int .i64 e.rep, .int .u32 (e.seq : Int), .int .u32 (e.dep 0 : Int), .int .u32 (e.dep 1 : Int), .int .u32 (e.dep 2 : Int), .int .u32 (e.dep 3 : Int), .int .u32 (e.dep 4 : Int), .int .u32 (e.dep 5 : Int), .int .u32 (e.dep 6 : Int), .int .u32 (e.dep 7 : Int), .int .i64 4, .int .i64 e.orep, .int .u32 (e.oseq : Int), .int .i64 0, .int .u32 0, .string ⟨#[]⟩, .slice none 0 0, (.slice Ab e.base.length cb), .int .i64 e.off, .string ⟨#[]⟩, .int .i64 0] := by
    unfold ownE ownG ownB
    rw [if_neg (by omega), if_neg (by omega), if_pos hk, if_neg (by omega), if_pos (by omega)]
    show (#[.int .i64 e.rep, .int .u32 (e.seq : Int), .int .u32 (e.dep 0 : Int), .int .u32 (e.dep 1 : Int), .int .u32 (e.dep 2 : Int), .int .u32 (e.dep 3 : Int), .int .u32 (e.dep 4 : Int), .int .u32 (e.dep 5 : Int), .int .u32 (e.dep 6 : Int), .int .u32 (e.dep 7 : Int), .int .i64 e.kind, .int .i64 e.orep, .int .u32 (e.oseq : Int), .int .i64 0, .int .u32 0, .string ⟨#[]⟩, .slice none 0 0, (.slice Ab e.base.length cb), .int .i64 e.off, .string ⟨#[]⟩, .int .i64 0] : Array Value) = _
    rw [hk]
  have h1c : (evC (ownE e) (ownG e (.slice Ag e.gone.length cg)) (ownB e (.slice Ab e.base.length cb))).all (·.oneCell') = true := by rw [hE]; simp [Value.oneCell']
  obtain ⟨V, hV⟩ : ∃ V, V = evC (ownE e) (ownG e (.slice Ag e.gone.length cg)) (ownB e (.slice Ab e.base.length cb)) := ⟨_, rfl⟩
  rw [← hV] at h1c hE ⊢
  have hsV : V.size = 21 := by rw [hV]; rfl
  obtain ⟨h1, _, hb⟩ := boxesT (evC e (.slice Ag e.gone.length cg) (.slice Ab e.base.length cb)) zeroC 29 w
  obtain ⟨W, hW⟩ : ∃ W, W = ((w.alloc (.cells (evC e (.slice Ag e.gone.length cg) (.slice Ab e.base.length cb)) 29)).alloc (.cells zeroC 29)) := ⟨_, rfl⟩
  have hsz : W.heap.size = w.heap.size + 1 + 1 := by rw [hW, World.size_alloc, World.size_alloc]
  have hox := fun w6 (hb : Below W.heap.size W w6) => own_boxes e 4 (.slice Ag e.gone.length cg) (.slice Ab e.base.length cb) w w6 (by rw [← hW, ← hsz]; exact hb)
  rw [← hW] at h1 hb
  have R0 := Lib.hid (range_exts (ev_id h1))
  have R1 := Lib.hid (range_exts (ev_dep h1))
  have c2 := fun y : Ext W => (EvCells.ext h1 y).kind
  rw [hk] at c2
  have hbd := build_run e 4
  rw [zero_lit] at hW
  have HW := Lib.hid hW
  have HX := Lib.hid hox
  have HE := Lib.hid hE
  have H1c := Lib.hid h1c
  have HsV := Lib.hid hsV
  have Hk := Lib.hid hk
  clear hW hox hE h1 hb hV h1c hsV hk
  go_enter Try.func20, Try.ntmps20
  go_upto_region 1 with fail
  rw [← HW.out]
  refine wp_region_lit ?_
  refine wpList_pre 7 (C := fun w' => ∃ x : Ext W, w' = x.now) ⟨⟨W, Below.refl _ _⟩, rfl⟩ ?_
  simp only [List.take_succ_cons, List.take_zero, List.drop_succ_cons, List.drop_zero]
  repeat (first | (go_big_quiet_want; refine quiet_mid 24 (.tmp 4) rfl w.heap.size 0 rfl #[.int .i64 e.rep, .int .u32 (e.seq : Int)] _ R0.out Try.underlying24 rfl id_info ?_; go_simp; go_big_quiet_on) | (go_big_quiet_want; refine quiet_mid 26 (.tmp 6) rfl w.heap.size 2 rfl #[.int .u32 (e.dep 0 : Int), .int .u32 (e.dep 1 : Int), .int .u32 (e.dep 2 : Int), .int .u32 (e.dep 3 : Int), .int .u32 (e.dep 4 : Int), .int .u32 (e.dep 5 : Int), .int .u32 (e.dep 6 : Int), .int .u32 (e.dep 7 : Int)] _ R1.out Try.underlying26 rfl vec_info ?_; go_simp; go_big_quiet_on) | go_big_quiet_step (fail) | quiet_step (fail))
  refine wpQuiet_nil ?_
  rintro w6 ⟨⟨_, hb6⟩, rfl⟩
  obtain ⟨Z, hZ, h0, h1, h2, h3, hb, hlt⟩ := HX.out w6 hb6
  have e0 := h1.ev.kind
  rw [Hk.out] at e0
  have r11 : Z.cell? ⟨w.heap.size, 11, none⟩ = some (.int .i64 e.orep) := set_cell h1 rfl
  have s11 : Z.cell? ⟨w6.heap.size, 11, none⟩ = some (.int .i64 0) := set_cell h3 rfl
  have f11 : Z.frozen? ⟨w6.heap.size, 11, none⟩ = false := set_frozen h3 11
  have r12 : Z.cell? ⟨w.heap.size, 12, none⟩ = some (.int .u32 (e.oseq : Int)) := set_cell h1 rfl
  have s12 : Z.cell? ⟨w6.heap.size, 12, none⟩ = some (.int .u32 0) := set_cell h3 rfl
  have f12 : Z.frozen? ⟨w6.heap.size, 12, none⟩ = false := set_frozen h3 12
  have r17 : Z.cell? ⟨w.heap.size, 17, none⟩ = some ((.slice Ab e.base.length cb)) := set_cell h1 rfl
  have s17 : Z.cell? ⟨w6.heap.size, 17, none⟩ = some (.slice none 0 0) := set_cell h3 rfl
  have f17 : Z.frozen? ⟨w6.heap.size, 17, none⟩ = false := set_frozen h3 17
  have r18 : Z.cell? ⟨w.heap.size, 18, none⟩ = some (.int .i64 e.off) := set_cell h1 rfl
  have s18 : Z.cell? ⟨w6.heap.size, 18, none⟩ = some (.int .i64 0) := set_cell h3 rfl
  have f18 : Z.frozen? ⟨w6.heap.size, 18, none⟩ = false := set_frozen h3 18
  have e1 := ((((h3.set_ 11 (.int .i64 e.orep)).set_ 12 (.int .u32 (e.oseq : Int))).set_ 17 ((.slice Ab e.base.length cb))).set_ 18 (.int .i64 e.off))
  have e2 := ((((h2.far (p := ⟨w6.heap.size, 11, none⟩) (by show w.heap.size + 1 ≠ w6.heap.size; omega) (.int .i64 e.orep)).far (p := ⟨w6.heap.size, 12, none⟩) (by show w.heap.size + 1 ≠ w6.heap.size; omega) (.int .u32 (e.oseq : Int))).far (p := ⟨w6.heap.size, 17, none⟩) (by show w.heap.size + 1 ≠ w6.heap.size; omega) ((.slice Ab e.base.length cb))).far (p := ⟨w6.heap.size, 18, none⟩) (by show w.heap.size + 1 ≠ w6.heap.size; omega) (.int .i64 e.off))
  have e3 := (below_set (below_set (below_set (below_set hb (g := w6.heap.size) (by omega) 11 (.int .i64 e.orep)) (g := w6.heap.size) (by omega) 12 (.int .u32 (e.oseq : Int))) (g := w6.heap.size) (by omega) 17 ((.slice Ab e.base.length cb))) (g := w6.heap.size) (by omega) 18 (.int .i64 e.off))
  rw [zero_lit] at h0 hZ
  have H0 := Lib.hid h0
  have HZ := Lib.hid hZ
  have E1 := Lib.hid e1
  have E2 := Lib.hid e2
  have E3 := Lib.hid e3
  have Hlt := Lib.hid hlt
  clear hZ h0 h1 h2 h3 hb e1 e2 e3 hlt hb6 hbd
  go_upto_region 2 with (refine wpList_store_row (o := ⟨none, .store _ (.tmp 3) (.tmp 10), _, _, _, _⟩) rfl 29 (.tmp 3) (.tmp 10) rfl w6.heap.size (baseC e 4) rfl rfl 29 (#[.int .i64 0, .int .u32 0, .int .u32 0, .int .u32 0, .int .u32 0, .int .u32 0, .int .u32 0, .int .u32 0, .int .u32 0, .int .u32 0, .int .i64 0, .int .i64 0, .int .u32 0, .int .i64 0, .int .u32 0, .string ⟨#[]⟩, .slice none 0 0, .slice none 0 0, .int .i64 0, .string ⟨#[]⟩, .int .i64 0]) (by exact H0.out) ev_info rfl (baseC_one e _) ?_; rw [← HZ.out])
  go_upto_region 9 with fail
  go_region
  have ea : #[.int .i64 e.rep, .int .u32 (e.seq : Int), .int .u32 (e.dep 0 : Int), .int .u32 (e.dep 1 : Int), .int .u32 (e.dep 2 : Int), .int .u32 (e.dep 3 : Int), .int .u32 (e.dep 4 : Int), .int .u32 (e.dep 5 : Int), .int .u32 (e.dep 6 : Int), .int .u32 (e.dep 7 : Int), .int .i64 4, .int .i64 e.orep, .int .u32 (e.oseq : Int), .int .i64 0, .int .u32 0, .string ⟨#[]⟩, .slice none 0 0, (.slice Ab e.base.length cb), .int .i64 e.off, .string ⟨#[]⟩, .int .i64 0] = (((((baseC e 4).setIfInBounds 11 (.int .i64 e.orep)).setIfInBounds 12 (.int .u32 (e.oseq : Int))).setIfInBounds 17 ((.slice Ab e.base.length cb))).setIfInBounds 18 (.int .i64 e.off)) := by kernel_rfl
  have E4 : Go.RowKit.Hid (Blk ((((Z.setCell ⟨w6.heap.size, 11, none⟩ (.int .i64 e.orep)).setCell ⟨w6.heap.size, 12, none⟩ (.int .u32 (e.oseq : Int))).setCell ⟨w6.heap.size, 17, none⟩ ((.slice Ab e.base.length cb))).setCell ⟨w6.heap.size, 18, none⟩ (.int .i64 e.off)).drew w6.heap.size 29 V) := Lib.hid (by rw [HE.out, ea]; exact E1.out.drew)
  have E5 : Go.RowKit.Hid (Blk ((((Z.setCell ⟨w6.heap.size, 11, none⟩ (.int .i64 e.orep)).setCell ⟨w6.heap.size, 12, none⟩ (.int .u32 (e.oseq : Int))).setCell ⟨w6.heap.size, 17, none⟩ ((.slice Ab e.base.length cb))).setCell ⟨w6.heap.size, 18, none⟩ (.int .i64 e.off)).drew (w.heap.size + 1) 29 zeroC) := Lib.hid E2.out.drew
  have hi : (Try.prog.info? 29).map (·.size) = some V.size := by rw [HsV.out]; exact ev_info
  have Hi := Lib.hid hi
  clear hi
  go_upto_region 18 with fail
  refine wp_region_lit ?_
  refine wpList_load_row rfl 29 (.tmp 3) rfl w6.heap.size rfl 29 V (0, 0) _ (by exact E4.out) Try.underlying29 rfl Hi.out ?_
  refine wpList_store_row rfl 29 (.tmp 2) (.tmp 85) rfl (w.heap.size + 1) V rfl rfl 29 zeroC (by exact E5.out) Hi.out (by rw [HsV.out]; rfl) H1c.out ?_
  go_wp2_with fail
  have hend := E5.out.setRow_ V
  exact bodyPost_ret (v := .agg V) (results_cell_row Try.results20 _ _ (w.heap.size + 1) 29 V (0, 0) _ rfl hend Try.underlying29 rfl Hi.out) rfl ⟨rfl, below_setRow (E3.out.drew) (by omega) _⟩
set_option maxHeartbeats 8000000 in
theorem own5 (ok : Nat → Prop) (e : Ev) (vg vb : Value) (w : World) (hin : EvIn w ok e vg vb) (hk : e.kind = 5) :
    Calls Try.prog 20 #[.agg (evC e vg vb)] w fun e' w' => e' = .returned (.agg (evC (ownE e) (ownG e vg) (ownB e vb))) ∧ Below w.heap.size w w' := by
  obtain ⟨Ag, cg, _, rfl, _⟩ := hin.gone
  obtain ⟨Ab, cb, _, rfl, _⟩ := hin.base
  have hE : evC (ownE e) (ownG e (.slice Ag e.gone.length cg)) (ownB e (.slice Ab e.base.length cb)) = #[.int .i64 e.rep, .int .u32 (e.seq : Int), .int .u32 (e.dep 0 : Int), .int .u32 (e.dep 1 : Int), .int .u32 (e.dep 2 : Int), .int .u32 (e.dep 3 : Int), .int .u32 (e.dep 4 : Int), .int .u32 (e.dep 5 : Int), .int .u32 (e.dep 6 : Int), .int .u32 (e.dep 7 : Int), .int .i64 5, .int .i64 e.orep, .int .u32 (e.oseq : Int), .int .i64 0, .int .u32 0, .string ⟨#[]⟩, .slice none 0 0, (.slice Ab e.base.length cb), .int .i64 0, str e.data, .int .i64 0] := by
    unfold ownE ownG ownB
    rw [if_neg (by omega), if_neg (by omega), if_neg (by omega), if_pos hk, if_neg (by omega), if_pos (by omega)]
    show (#[.int .i64 e.rep, .int .u32 (e.seq : Int), .int .u32 (e.dep 0 : Int), .int .u32 (e.dep 1 : Int), .int .u32 (e.dep 2 : Int), .int .u32 (e.dep 3 : Int), .int .u32 (e.dep 4 : Int), .int .u32 (e.dep 5 : Int), .int .u32 (e.dep 6 : Int), .int .u32 (e.dep 7 : Int), .int .i64 e.kind, .int .i64 e.orep, .int .u32 (e.oseq : Int), .int .i64 0, .int .u32 0, .string ⟨#[]⟩, .slice none 0 0, (.slice Ab e.base.length cb), .int .i64 0, str e.data, .int .i64 0] : Array Value) = _
    rw [hk]
  have h1c : (evC (ownE e) (ownG e (.slice Ag e.gone.length cg)) (ownB e (.slice Ab e.base.length cb))).all (·.oneCell') = true := by rw [hE]; simp [Value.oneCell']
  obtain ⟨V, hV⟩ : ∃ V, V = evC (ownE e) (ownG e (.slice Ag e.gone.length cg)) (ownB e (.slice Ab e.base.length cb)) := ⟨_, rfl⟩
  rw [← hV] at h1c hE ⊢
  have hsV : V.size = 21 := by rw [hV]; rfl
  obtain ⟨h1, _, hb⟩ := boxesT (evC e (.slice Ag e.gone.length cg) (.slice Ab e.base.length cb)) zeroC 29 w
  obtain ⟨W, hW⟩ : ∃ W, W = ((w.alloc (.cells (evC e (.slice Ag e.gone.length cg) (.slice Ab e.base.length cb)) 29)).alloc (.cells zeroC 29)) := ⟨_, rfl⟩
  have hsz : W.heap.size = w.heap.size + 1 + 1 := by rw [hW, World.size_alloc, World.size_alloc]
  have hox := fun w6 (hb : Below W.heap.size W w6) => own_boxes e 5 (.slice Ag e.gone.length cg) (.slice Ab e.base.length cb) w w6 (by rw [← hW, ← hsz]; exact hb)
  rw [← hW] at h1 hb
  have R0 := Lib.hid (range_exts (ev_id h1))
  have R1 := Lib.hid (range_exts (ev_dep h1))
  have c2 := fun y : Ext W => (EvCells.ext h1 y).kind
  rw [hk] at c2
  have hbd := build_run e 5
  rw [zero_lit] at hW
  have HW := Lib.hid hW
  have HX := Lib.hid hox
  have HE := Lib.hid hE
  have H1c := Lib.hid h1c
  have HsV := Lib.hid hsV
  have Hk := Lib.hid hk
  clear hW hox hE h1 hb hV h1c hsV hk
  go_enter Try.func20, Try.ntmps20
  go_upto_region 1 with fail
  rw [← HW.out]
  refine wp_region_lit ?_
  refine wpList_pre 7 (C := fun w' => ∃ x : Ext W, w' = x.now) ⟨⟨W, Below.refl _ _⟩, rfl⟩ ?_
  simp only [List.take_succ_cons, List.take_zero, List.drop_succ_cons, List.drop_zero]
  repeat (first | (go_big_quiet_want; refine quiet_mid 24 (.tmp 4) rfl w.heap.size 0 rfl #[.int .i64 e.rep, .int .u32 (e.seq : Int)] _ R0.out Try.underlying24 rfl id_info ?_; go_simp; go_big_quiet_on) | (go_big_quiet_want; refine quiet_mid 26 (.tmp 6) rfl w.heap.size 2 rfl #[.int .u32 (e.dep 0 : Int), .int .u32 (e.dep 1 : Int), .int .u32 (e.dep 2 : Int), .int .u32 (e.dep 3 : Int), .int .u32 (e.dep 4 : Int), .int .u32 (e.dep 5 : Int), .int .u32 (e.dep 6 : Int), .int .u32 (e.dep 7 : Int)] _ R1.out Try.underlying26 rfl vec_info ?_; go_simp; go_big_quiet_on) | go_big_quiet_step (fail) | quiet_step (fail))
  refine wpQuiet_nil ?_
  rintro w6 ⟨⟨_, hb6⟩, rfl⟩
  obtain ⟨Z, hZ, h0, h1, h2, h3, hb, hlt⟩ := HX.out w6 hb6
  have e0 := h1.ev.kind
  rw [Hk.out] at e0
  have r11 : Z.cell? ⟨w.heap.size, 11, none⟩ = some (.int .i64 e.orep) := set_cell h1 rfl
  have s11 : Z.cell? ⟨w6.heap.size, 11, none⟩ = some (.int .i64 0) := set_cell h3 rfl
  have f11 : Z.frozen? ⟨w6.heap.size, 11, none⟩ = false := set_frozen h3 11
  have r12 : Z.cell? ⟨w.heap.size, 12, none⟩ = some (.int .u32 (e.oseq : Int)) := set_cell h1 rfl
  have s12 : Z.cell? ⟨w6.heap.size, 12, none⟩ = some (.int .u32 0) := set_cell h3 rfl
  have f12 : Z.frozen? ⟨w6.heap.size, 12, none⟩ = false := set_frozen h3 12
  have r17 : Z.cell? ⟨w.heap.size, 17, none⟩ = some ((.slice Ab e.base.length cb)) := set_cell h1 rfl
  have s17 : Z.cell? ⟨w6.heap.size, 17, none⟩ = some (.slice none 0 0) := set_cell h3 rfl
  have f17 : Z.frozen? ⟨w6.heap.size, 17, none⟩ = false := set_frozen h3 17
  have r19 : Z.cell? ⟨w.heap.size, 19, none⟩ = some (str e.data) := set_cell h1 rfl
  have s19 : Z.cell? ⟨w6.heap.size, 19, none⟩ = some (.string ⟨#[]⟩) := set_cell h3 rfl
  have f19 : Z.frozen? ⟨w6.heap.size, 19, none⟩ = false := set_frozen h3 19
  have e1 := ((((h3.set_ 11 (.int .i64 e.orep)).set_ 12 (.int .u32 (e.oseq : Int))).set_ 17 ((.slice Ab e.base.length cb))).set_ 19 (str e.data))
  have e2 := ((((h2.far (p := ⟨w6.heap.size, 11, none⟩) (by show w.heap.size + 1 ≠ w6.heap.size; omega) (.int .i64 e.orep)).far (p := ⟨w6.heap.size, 12, none⟩) (by show w.heap.size + 1 ≠ w6.heap.size; omega) (.int .u32 (e.oseq : Int))).far (p := ⟨w6.heap.size, 17, none⟩) (by show w.heap.size + 1 ≠ w6.heap.size; omega) ((.slice Ab e.base.length cb))).far (p := ⟨w6.heap.size, 19, none⟩) (by show w.heap.size + 1 ≠ w6.heap.size; omega) (str e.data))
  have e3 := (below_set (below_set (below_set (below_set hb (g := w6.heap.size) (by omega) 11 (.int .i64 e.orep)) (g := w6.heap.size) (by omega) 12 (.int .u32 (e.oseq : Int))) (g := w6.heap.size) (by omega) 17 ((.slice Ab e.base.length cb))) (g := w6.heap.size) (by omega) 19 (str e.data))
  rw [zero_lit] at h0 hZ
  have H0 := Lib.hid h0
  have HZ := Lib.hid hZ
  have E1 := Lib.hid e1
  have E2 := Lib.hid e2
  have E3 := Lib.hid e3
  have Hlt := Lib.hid hlt
  clear hZ h0 h1 h2 h3 hb e1 e2 e3 hlt hb6 hbd
  go_upto_region 2 with (refine wpList_store_row (o := ⟨none, .store _ (.tmp 3) (.tmp 10), _, _, _, _⟩) rfl 29 (.tmp 3) (.tmp 10) rfl w6.heap.size (baseC e 5) rfl rfl 29 (#[.int .i64 0, .int .u32 0, .int .u32 0, .int .u32 0, .int .u32 0, .int .u32 0, .int .u32 0, .int .u32 0, .int .u32 0, .int .u32 0, .int .i64 0, .int .i64 0, .int .u32 0, .int .i64 0, .int .u32 0, .string ⟨#[]⟩, .slice none 0 0, .slice none 0 0, .int .i64 0, .string ⟨#[]⟩, .int .i64 0]) (by exact H0.out) ev_info rfl (baseC_one e _) ?_; rw [← HZ.out])
  go_upto_region 11 with fail
  go_region
  have ea : #[.int .i64 e.rep, .int .u32 (e.seq : Int), .int .u32 (e.dep 0 : Int), .int .u32 (e.dep 1 : Int), .int .u32 (e.dep 2 : Int), .int .u32 (e.dep 3 : Int), .int .u32 (e.dep 4 : Int), .int .u32 (e.dep 5 : Int), .int .u32 (e.dep 6 : Int), .int .u32 (e.dep 7 : Int), .int .i64 5, .int .i64 e.orep, .int .u32 (e.oseq : Int), .int .i64 0, .int .u32 0, .string ⟨#[]⟩, .slice none 0 0, (.slice Ab e.base.length cb), .int .i64 0, str e.data, .int .i64 0] = (((((baseC e 5).setIfInBounds 11 (.int .i64 e.orep)).setIfInBounds 12 (.int .u32 (e.oseq : Int))).setIfInBounds 17 ((.slice Ab e.base.length cb))).setIfInBounds 19 (str e.data)) := by kernel_rfl
  have E4 : Go.RowKit.Hid (Blk ((((Z.setCell ⟨w6.heap.size, 11, none⟩ (.int .i64 e.orep)).setCell ⟨w6.heap.size, 12, none⟩ (.int .u32 (e.oseq : Int))).setCell ⟨w6.heap.size, 17, none⟩ ((.slice Ab e.base.length cb))).setCell ⟨w6.heap.size, 19, none⟩ (str e.data)).drew w6.heap.size 29 V) := Lib.hid (by rw [HE.out, ea]; exact E1.out.drew)
  have E5 : Go.RowKit.Hid (Blk ((((Z.setCell ⟨w6.heap.size, 11, none⟩ (.int .i64 e.orep)).setCell ⟨w6.heap.size, 12, none⟩ (.int .u32 (e.oseq : Int))).setCell ⟨w6.heap.size, 17, none⟩ ((.slice Ab e.base.length cb))).setCell ⟨w6.heap.size, 19, none⟩ (str e.data)).drew (w.heap.size + 1) 29 zeroC) := Lib.hid E2.out.drew
  have hi : (Try.prog.info? 29).map (·.size) = some V.size := by rw [HsV.out]; exact ev_info
  have Hi := Lib.hid hi
  clear hi
  go_upto_region 18 with fail
  refine wp_region_lit ?_
  refine wpList_load_row rfl 29 (.tmp 3) rfl w6.heap.size rfl 29 V (0, 0) _ (by exact E4.out) Try.underlying29 rfl Hi.out ?_
  refine wpList_store_row rfl 29 (.tmp 2) (.tmp 85) rfl (w.heap.size + 1) V rfl rfl 29 zeroC (by exact E5.out) Hi.out (by rw [HsV.out]; rfl) H1c.out ?_
  go_wp2_with fail
  have hend := E5.out.setRow_ V
  exact bodyPost_ret (v := .agg V) (results_cell_row Try.results20 _ _ (w.heap.size + 1) 29 V (0, 0) _ rfl hend Try.underlying29 rfl Hi.out) rfl ⟨rfl, below_setRow (E3.out.drew) (by omega) _⟩
set_option maxHeartbeats 8000000 in
theorem own6 (ok : Nat → Prop) (e : Ev) (vg vb : Value) (w : World) (hin : EvIn w ok e vg vb) (hk : e.kind = 6) :
    Calls Try.prog 20 #[.agg (evC e vg vb)] w fun e' w' => e' = .returned (.agg (evC (ownE e) (ownG e vg) (ownB e vb))) ∧ Below w.heap.size w w' := by
  obtain ⟨Ag, cg, _, rfl, _⟩ := hin.gone
  obtain ⟨Ab, cb, _, rfl, _⟩ := hin.base
  have hE : evC (ownE e) (ownG e (.slice Ag e.gone.length cg)) (ownB e (.slice Ab e.base.length cb)) = #[.int .i64 e.rep, .int .u32 (e.seq : Int), .int .u32 (e.dep 0 : Int), .int .u32 (e.dep 1 : Int), .int .u32 (e.dep 2 : Int), .int .u32 (e.dep 3 : Int), .int .u32 (e.dep 4 : Int), .int .u32 (e.dep 5 : Int), .int .u32 (e.dep 6 : Int), .int .u32 (e.dep 7 : Int), .int .i64 6, .int .i64 e.orep, .int .u32 (e.oseq : Int), .int .i64 0, .int .u32 0, .string ⟨#[]⟩, (.slice Ag e.gone.length cg), .slice none 0 0, .int .i64 0, .string ⟨#[]⟩, .int .i64 0] := by
    unfold ownE ownG ownB
    rw [if_neg (by omega), if_neg (by omega), if_neg (by omega), if_neg (by omega), if_pos hk, if_pos (by omega), if_neg (by omega)]
    show (#[.int .i64 e.rep, .int .u32 (e.seq : Int), .int .u32 (e.dep 0 : Int), .int .u32 (e.dep 1 : Int), .int .u32 (e.dep 2 : Int), .int .u32 (e.dep 3 : Int), .int .u32 (e.dep 4 : Int), .int .u32 (e.dep 5 : Int), .int .u32 (e.dep 6 : Int), .int .u32 (e.dep 7 : Int), .int .i64 e.kind, .int .i64 e.orep, .int .u32 (e.oseq : Int), .int .i64 0, .int .u32 0, .string ⟨#[]⟩, (.slice Ag e.gone.length cg), .slice none 0 0, .int .i64 0, .string ⟨#[]⟩, .int .i64 0] : Array Value) = _
    rw [hk]
  have h1c : (evC (ownE e) (ownG e (.slice Ag e.gone.length cg)) (ownB e (.slice Ab e.base.length cb))).all (·.oneCell') = true := by rw [hE]; simp [Value.oneCell']
  obtain ⟨V, hV⟩ : ∃ V, V = evC (ownE e) (ownG e (.slice Ag e.gone.length cg)) (ownB e (.slice Ab e.base.length cb)) := ⟨_, rfl⟩
  rw [← hV] at h1c hE ⊢
  have hsV : V.size = 21 := by rw [hV]; rfl
  obtain ⟨h1, _, hb⟩ := boxesT (evC e (.slice Ag e.gone.length cg) (.slice Ab e.base.length cb)) zeroC 29 w
  obtain ⟨W, hW⟩ : ∃ W, W = ((w.alloc (.cells (evC e (.slice Ag e.gone.length cg) (.slice Ab e.base.length cb)) 29)).alloc (.cells zeroC 29)) := ⟨_, rfl⟩
  have hsz : W.heap.size = w.heap.size + 1 + 1 := by rw [hW, World.size_alloc, World.size_alloc]
  have hox := fun w6 (hb : Below W.heap.size W w6) => own_boxes e 6 (.slice Ag e.gone.length cg) (.slice Ab e.base.length cb) w w6 (by rw [← hW, ← hsz]; exact hb)
  rw [← hW] at h1 hb
  have R0 := Lib.hid (range_exts (ev_id h1))
  have R1 := Lib.hid (range_exts (ev_dep h1))
  have c2 := fun y : Ext W => (EvCells.ext h1 y).kind
  rw [hk] at c2
  have hbd := build_run e 6
  rw [zero_lit] at hW
  have HW := Lib.hid hW
  have HX := Lib.hid hox
  have HE := Lib.hid hE
  have H1c := Lib.hid h1c
  have HsV := Lib.hid hsV
  have Hk := Lib.hid hk
  clear hW hox hE h1 hb hV h1c hsV hk
  go_enter Try.func20, Try.ntmps20
  go_upto_region 1 with fail
  rw [← HW.out]
  refine wp_region_lit ?_
  refine wpList_pre 7 (C := fun w' => ∃ x : Ext W, w' = x.now) ⟨⟨W, Below.refl _ _⟩, rfl⟩ ?_
  simp only [List.take_succ_cons, List.take_zero, List.drop_succ_cons, List.drop_zero]
  repeat (first | (go_big_quiet_want; refine quiet_mid 24 (.tmp 4) rfl w.heap.size 0 rfl #[.int .i64 e.rep, .int .u32 (e.seq : Int)] _ R0.out Try.underlying24 rfl id_info ?_; go_simp; go_big_quiet_on) | (go_big_quiet_want; refine quiet_mid 26 (.tmp 6) rfl w.heap.size 2 rfl #[.int .u32 (e.dep 0 : Int), .int .u32 (e.dep 1 : Int), .int .u32 (e.dep 2 : Int), .int .u32 (e.dep 3 : Int), .int .u32 (e.dep 4 : Int), .int .u32 (e.dep 5 : Int), .int .u32 (e.dep 6 : Int), .int .u32 (e.dep 7 : Int)] _ R1.out Try.underlying26 rfl vec_info ?_; go_simp; go_big_quiet_on) | go_big_quiet_step (fail) | quiet_step (fail))
  refine wpQuiet_nil ?_
  rintro w6 ⟨⟨_, hb6⟩, rfl⟩
  obtain ⟨Z, hZ, h0, h1, h2, h3, hb, hlt⟩ := HX.out w6 hb6
  have e0 := h1.ev.kind
  rw [Hk.out] at e0
  have r11 : Z.cell? ⟨w.heap.size, 11, none⟩ = some (.int .i64 e.orep) := set_cell h1 rfl
  have s11 : Z.cell? ⟨w6.heap.size, 11, none⟩ = some (.int .i64 0) := set_cell h3 rfl
  have f11 : Z.frozen? ⟨w6.heap.size, 11, none⟩ = false := set_frozen h3 11
  have r12 : Z.cell? ⟨w.heap.size, 12, none⟩ = some (.int .u32 (e.oseq : Int)) := set_cell h1 rfl
  have s12 : Z.cell? ⟨w6.heap.size, 12, none⟩ = some (.int .u32 0) := set_cell h3 rfl
  have f12 : Z.frozen? ⟨w6.heap.size, 12, none⟩ = false := set_frozen h3 12
  have r16 : Z.cell? ⟨w.heap.size, 16, none⟩ = some ((.slice Ag e.gone.length cg)) := set_cell h1 rfl
  have s16 : Z.cell? ⟨w6.heap.size, 16, none⟩ = some (.slice none 0 0) := set_cell h3 rfl
  have f16 : Z.frozen? ⟨w6.heap.size, 16, none⟩ = false := set_frozen h3 16
  have e1 := (((h3.set_ 11 (.int .i64 e.orep)).set_ 12 (.int .u32 (e.oseq : Int))).set_ 16 ((.slice Ag e.gone.length cg)))
  have e2 := (((h2.far (p := ⟨w6.heap.size, 11, none⟩) (by show w.heap.size + 1 ≠ w6.heap.size; omega) (.int .i64 e.orep)).far (p := ⟨w6.heap.size, 12, none⟩) (by show w.heap.size + 1 ≠ w6.heap.size; omega) (.int .u32 (e.oseq : Int))).far (p := ⟨w6.heap.size, 16, none⟩) (by show w.heap.size + 1 ≠ w6.heap.size; omega) ((.slice Ag e.gone.length cg)))
  have e3 := (below_set (below_set (below_set hb (g := w6.heap.size) (by omega) 11 (.int .i64 e.orep)) (g := w6.heap.size) (by omega) 12 (.int .u32 (e.oseq : Int))) (g := w6.heap.size) (by omega) 16 ((.slice Ag e.gone.length cg)))
  rw [zero_lit] at h0 hZ
  have H0 := Lib.hid h0
  have HZ := Lib.hid hZ
  have E1 := Lib.hid e1
  have E2 := Lib.hid e2
  have E3 := Lib.hid e3
  have Hlt := Lib.hid hlt
  clear hZ h0 h1 h2 h3 hb e1 e2 e3 hlt hb6 hbd
  go_upto_region 2 with (refine wpList_store_row (o := ⟨none, .store _ (.tmp 3) (.tmp 10), _, _, _, _⟩) rfl 29 (.tmp 3) (.tmp 10) rfl w6.heap.size (baseC e 6) rfl rfl 29 (#[.int .i64 0, .int .u32 0, .int .u32 0, .int .u32 0, .int .u32 0, .int .u32 0, .int .u32 0, .int .u32 0, .int .u32 0, .int .u32 0, .int .i64 0, .int .i64 0, .int .u32 0, .int .i64 0, .int .u32 0, .string ⟨#[]⟩, .slice none 0 0, .slice none 0 0, .int .i64 0, .string ⟨#[]⟩, .int .i64 0]) (by exact H0.out) ev_info rfl (baseC_one e _) ?_; rw [← HZ.out])
  go_upto_region 13 with fail
  go_region
  have ea : #[.int .i64 e.rep, .int .u32 (e.seq : Int), .int .u32 (e.dep 0 : Int), .int .u32 (e.dep 1 : Int), .int .u32 (e.dep 2 : Int), .int .u32 (e.dep 3 : Int), .int .u32 (e.dep 4 : Int), .int .u32 (e.dep 5 : Int), .int .u32 (e.dep 6 : Int), .int .u32 (e.dep 7 : Int), .int .i64 6, .int .i64 e.orep, .int .u32 (e.oseq : Int), .int .i64 0, .int .u32 0, .string ⟨#[]⟩, (.slice Ag e.gone.length cg), .slice none 0 0, .int .i64 0, .string ⟨#[]⟩, .int .i64 0] = ((((baseC e 6).setIfInBounds 11 (.int .i64 e.orep)).setIfInBounds 12 (.int .u32 (e.oseq : Int))).setIfInBounds 16 ((.slice Ag e.gone.length cg))) := by kernel_rfl
  have E4 : Go.RowKit.Hid (Blk (((Z.setCell ⟨w6.heap.size, 11, none⟩ (.int .i64 e.orep)).setCell ⟨w6.heap.size, 12, none⟩ (.int .u32 (e.oseq : Int))).setCell ⟨w6.heap.size, 16, none⟩ ((.slice Ag e.gone.length cg))).drew w6.heap.size 29 V) := Lib.hid (by rw [HE.out, ea]; exact E1.out.drew)
  have E5 : Go.RowKit.Hid (Blk (((Z.setCell ⟨w6.heap.size, 11, none⟩ (.int .i64 e.orep)).setCell ⟨w6.heap.size, 12, none⟩ (.int .u32 (e.oseq : Int))).setCell ⟨w6.heap.size, 16, none⟩ ((.slice Ag e.gone.length cg))).drew (w.heap.size + 1) 29 zeroC) := Lib.hid E2.out.drew
  have hi : (Try.prog.info? 29).map (·.size) = some V.size := by rw [HsV.out]; exact ev_info
  have Hi := Lib.hid hi
  clear hi
  go_upto_region 18 with fail
  refine wp_region_lit ?_
  refine wpList_load_row rfl 29 (.tmp 3) rfl w6.heap.size rfl 29 V (0, 0) _ (by exact E4.out) Try.underlying29 rfl Hi.out ?_
  refine wpList_store_row rfl 29 (.tmp 2) (.tmp 85) rfl (w.heap.size + 1) V rfl rfl 29 zeroC (by exact E5.out) Hi.out (by rw [HsV.out]; rfl) H1c.out ?_
  go_wp2_with fail
  have hend := E5.out.setRow_ V
  exact bodyPost_ret (v := .agg V) (results_cell_row Try.results20 _ _ (w.heap.size + 1) 29 V (0, 0) _ rfl hend Try.underlying29 rfl Hi.out) rfl ⟨rfl, below_setRow (E3.out.drew) (by omega) _⟩
set_option maxHeartbeats 8000000 in
theorem own7 (ok : Nat → Prop) (e : Ev) (vg vb : Value) (w : World) (hin : EvIn w ok e vg vb) (hk : e.kind = 7) :
    Calls Try.prog 20 #[.agg (evC e vg vb)] w fun e' w' => e' = .returned (.agg (evC (ownE e) (ownG e vg) (ownB e vb))) ∧ Below w.heap.size w w' := by
  obtain ⟨Ag, cg, _, rfl, _⟩ := hin.gone
  obtain ⟨Ab, cb, _, rfl, _⟩ := hin.base
  have hE : evC (ownE e) (ownG e (.slice Ag e.gone.length cg)) (ownB e (.slice Ab e.base.length cb)) = #[.int .i64 e.rep, .int .u32 (e.seq : Int), .int .u32 (e.dep 0 : Int), .int .u32 (e.dep 1 : Int), .int .u32 (e.dep 2 : Int), .int .u32 (e.dep 3 : Int), .int .u32 (e.dep 4 : Int), .int .u32 (e.dep 5 : Int), .int .u32 (e.dep 6 : Int), .int .u32 (e.dep 7 : Int), .int .i64 7, .int .i64 e.orep, .int .u32 (e.oseq : Int), .int .i64 e.drep, .int .u32 (e.dseq : Int), str e.name, (.slice Ag e.gone.length cg), .slice none 0 0, .int .i64 0, .string ⟨#[]⟩, .int .i64 0] := by
    unfold ownE ownG ownB
    rw [if_neg (by omega), if_neg (by omega), if_neg (by omega), if_neg (by omega), if_neg (by omega), if_pos hk, if_pos (by omega), if_neg (by omega)]
    show (#[.int .i64 e.rep, .int .u32 (e.seq : Int), .int .u32 (e.dep 0 : Int), .int .u32 (e.dep 1 : Int), .int .u32 (e.dep 2 : Int), .int .u32 (e.dep 3 : Int), .int .u32 (e.dep 4 : Int), .int .u32 (e.dep 5 : Int), .int .u32 (e.dep 6 : Int), .int .u32 (e.dep 7 : Int), .int .i64 e.kind, .int .i64 e.orep, .int .u32 (e.oseq : Int), .int .i64 e.drep, .int .u32 (e.dseq : Int), str e.name, (.slice Ag e.gone.length cg), .slice none 0 0, .int .i64 0, .string ⟨#[]⟩, .int .i64 0] : Array Value) = _
    rw [hk]
  have h1c : (evC (ownE e) (ownG e (.slice Ag e.gone.length cg)) (ownB e (.slice Ab e.base.length cb))).all (·.oneCell') = true := by rw [hE]; simp [Value.oneCell']
  obtain ⟨V, hV⟩ : ∃ V, V = evC (ownE e) (ownG e (.slice Ag e.gone.length cg)) (ownB e (.slice Ab e.base.length cb)) := ⟨_, rfl⟩
  rw [← hV] at h1c hE ⊢
  have hsV : V.size = 21 := by rw [hV]; rfl
  obtain ⟨h1, _, hb⟩ := boxesT (evC e (.slice Ag e.gone.length cg) (.slice Ab e.base.length cb)) zeroC 29 w
  obtain ⟨W, hW⟩ : ∃ W, W = ((w.alloc (.cells (evC e (.slice Ag e.gone.length cg) (.slice Ab e.base.length cb)) 29)).alloc (.cells zeroC 29)) := ⟨_, rfl⟩
  have hsz : W.heap.size = w.heap.size + 1 + 1 := by rw [hW, World.size_alloc, World.size_alloc]
  have hox := fun w6 (hb : Below W.heap.size W w6) => own_boxes e 7 (.slice Ag e.gone.length cg) (.slice Ab e.base.length cb) w w6 (by rw [← hW, ← hsz]; exact hb)
  rw [← hW] at h1 hb
  have R0 := Lib.hid (range_exts (ev_id h1))
  have R1 := Lib.hid (range_exts (ev_dep h1))
  have c2 := fun y : Ext W => (EvCells.ext h1 y).kind
  rw [hk] at c2
  have hbd := build_run e 7
  rw [zero_lit] at hW
  have HW := Lib.hid hW
  have HX := Lib.hid hox
  have HE := Lib.hid hE
  have H1c := Lib.hid h1c
  have HsV := Lib.hid hsV
  have Hk := Lib.hid hk
  clear hW hox hE h1 hb hV h1c hsV hk
  go_enter Try.func20, Try.ntmps20
  go_upto_region 1 with fail
  rw [← HW.out]
  refine wp_region_lit ?_
  refine wpList_pre 7 (C := fun w' => ∃ x : Ext W, w' = x.now) ⟨⟨W, Below.refl _ _⟩, rfl⟩ ?_
  simp only [List.take_succ_cons, List.take_zero, List.drop_succ_cons, List.drop_zero]
  repeat (first | (go_big_quiet_want; refine quiet_mid 24 (.tmp 4) rfl w.heap.size 0 rfl #[.int .i64 e.rep, .int .u32 (e.seq : Int)] _ R0.out Try.underlying24 rfl id_info ?_; go_simp; go_big_quiet_on) | (go_big_quiet_want; refine quiet_mid 26 (.tmp 6) rfl w.heap.size 2 rfl #[.int .u32 (e.dep 0 : Int), .int .u32 (e.dep 1 : Int), .int .u32 (e.dep 2 : Int), .int .u32 (e.dep 3 : Int), .int .u32 (e.dep 4 : Int), .int .u32 (e.dep 5 : Int), .int .u32 (e.dep 6 : Int), .int .u32 (e.dep 7 : Int)] _ R1.out Try.underlying26 rfl vec_info ?_; go_simp; go_big_quiet_on) | go_big_quiet_step (fail) | quiet_step (fail))
  refine wpQuiet_nil ?_
  rintro w6 ⟨⟨_, hb6⟩, rfl⟩
  obtain ⟨Z, hZ, h0, h1, h2, h3, hb, hlt⟩ := HX.out w6 hb6
  have e0 := h1.ev.kind
  rw [Hk.out] at e0
  have r11 : Z.cell? ⟨w.heap.size, 11, none⟩ = some (.int .i64 e.orep) := set_cell h1 rfl
  have s11 : Z.cell? ⟨w6.heap.size, 11, none⟩ = some (.int .i64 0) := set_cell h3 rfl
  have f11 : Z.frozen? ⟨w6.heap.size, 11, none⟩ = false := set_frozen h3 11
  have r12 : Z.cell? ⟨w.heap.size, 12, none⟩ = some (.int .u32 (e.oseq : Int)) := set_cell h1 rfl
  have s12 : Z.cell? ⟨w6.heap.size, 12, none⟩ = some (.int .u32 0) := set_cell h3 rfl
  have f12 : Z.frozen? ⟨w6.heap.size, 12, none⟩ = false := set_frozen h3 12
  have r16 : Z.cell? ⟨w.heap.size, 16, none⟩ = some ((.slice Ag e.gone.length cg)) := set_cell h1 rfl
  have s16 : Z.cell? ⟨w6.heap.size, 16, none⟩ = some (.slice none 0 0) := set_cell h3 rfl
  have f16 : Z.frozen? ⟨w6.heap.size, 16, none⟩ = false := set_frozen h3 16
  have r13 : Z.cell? ⟨w.heap.size, 13, none⟩ = some (.int .i64 e.drep) := set_cell h1 rfl
  have s13 : Z.cell? ⟨w6.heap.size, 13, none⟩ = some (.int .i64 0) := set_cell h3 rfl
  have f13 : Z.frozen? ⟨w6.heap.size, 13, none⟩ = false := set_frozen h3 13
  have r14 : Z.cell? ⟨w.heap.size, 14, none⟩ = some (.int .u32 (e.dseq : Int)) := set_cell h1 rfl
  have s14 : Z.cell? ⟨w6.heap.size, 14, none⟩ = some (.int .u32 0) := set_cell h3 rfl
  have f14 : Z.frozen? ⟨w6.heap.size, 14, none⟩ = false := set_frozen h3 14
  have r15 : Z.cell? ⟨w.heap.size, 15, none⟩ = some (str e.name) := set_cell h1 rfl
  have s15 : Z.cell? ⟨w6.heap.size, 15, none⟩ = some (.string ⟨#[]⟩) := set_cell h3 rfl
  have f15 : Z.frozen? ⟨w6.heap.size, 15, none⟩ = false := set_frozen h3 15
  have e1 := ((((((h3.set_ 11 (.int .i64 e.orep)).set_ 12 (.int .u32 (e.oseq : Int))).set_ 16 ((.slice Ag e.gone.length cg))).set_ 13 (.int .i64 e.drep)).set_ 14 (.int .u32 (e.dseq : Int))).set_ 15 (str e.name))
  have e2 := ((((((h2.far (p := ⟨w6.heap.size, 11, none⟩) (by show w.heap.size + 1 ≠ w6.heap.size; omega) (.int .i64 e.orep)).far (p := ⟨w6.heap.size, 12, none⟩) (by show w.heap.size + 1 ≠ w6.heap.size; omega) (.int .u32 (e.oseq : Int))).far (p := ⟨w6.heap.size, 16, none⟩) (by show w.heap.size + 1 ≠ w6.heap.size; omega) ((.slice Ag e.gone.length cg))).far (p := ⟨w6.heap.size, 13, none⟩) (by show w.heap.size + 1 ≠ w6.heap.size; omega) (.int .i64 e.drep)).far (p := ⟨w6.heap.size, 14, none⟩) (by show w.heap.size + 1 ≠ w6.heap.size; omega) (.int .u32 (e.dseq : Int))).far (p := ⟨w6.heap.size, 15, none⟩) (by show w.heap.size + 1 ≠ w6.heap.size; omega) (str e.name))
  have e3 := (below_set (below_set (below_set (below_set (below_set (below_set hb (g := w6.heap.size) (by omega) 11 (.int .i64 e.orep)) (g := w6.heap.size) (by omega) 12 (.int .u32 (e.oseq : Int))) (g := w6.heap.size) (by omega) 16 ((.slice Ag e.gone.length cg))) (g := w6.heap.size) (by omega) 13 (.int .i64 e.drep)) (g := w6.heap.size) (by omega) 14 (.int .u32 (e.dseq : Int))) (g := w6.heap.size) (by omega) 15 (str e.name))
  rw [zero_lit] at h0 hZ
  have H0 := Lib.hid h0
  have HZ := Lib.hid hZ
  have E1 := Lib.hid e1
  have E2 := Lib.hid e2
  have E3 := Lib.hid e3
  have Hlt := Lib.hid hlt
  clear hZ h0 h1 h2 h3 hb e1 e2 e3 hlt hb6 hbd
  go_upto_region 2 with (refine wpList_store_row (o := ⟨none, .store _ (.tmp 3) (.tmp 10), _, _, _, _⟩) rfl 29 (.tmp 3) (.tmp 10) rfl w6.heap.size (baseC e 7) rfl rfl 29 (#[.int .i64 0, .int .u32 0, .int .u32 0, .int .u32 0, .int .u32 0, .int .u32 0, .int .u32 0, .int .u32 0, .int .u32 0, .int .u32 0, .int .i64 0, .int .i64 0, .int .u32 0, .int .i64 0, .int .u32 0, .string ⟨#[]⟩, .slice none 0 0, .slice none 0 0, .int .i64 0, .string ⟨#[]⟩, .int .i64 0]) (by exact H0.out) ev_info rfl (baseC_one e _) ?_; rw [← HZ.out])
  go_upto_region 15 with fail
  go_region
  have ea : #[.int .i64 e.rep, .int .u32 (e.seq : Int), .int .u32 (e.dep 0 : Int), .int .u32 (e.dep 1 : Int), .int .u32 (e.dep 2 : Int), .int .u32 (e.dep 3 : Int), .int .u32 (e.dep 4 : Int), .int .u32 (e.dep 5 : Int), .int .u32 (e.dep 6 : Int), .int .u32 (e.dep 7 : Int), .int .i64 7, .int .i64 e.orep, .int .u32 (e.oseq : Int), .int .i64 e.drep, .int .u32 (e.dseq : Int), str e.name, (.slice Ag e.gone.length cg), .slice none 0 0, .int .i64 0, .string ⟨#[]⟩, .int .i64 0] = (((((((baseC e 7).setIfInBounds 11 (.int .i64 e.orep)).setIfInBounds 12 (.int .u32 (e.oseq : Int))).setIfInBounds 16 ((.slice Ag e.gone.length cg))).setIfInBounds 13 (.int .i64 e.drep)).setIfInBounds 14 (.int .u32 (e.dseq : Int))).setIfInBounds 15 (str e.name)) := by kernel_rfl
  have E4 : Go.RowKit.Hid (Blk ((((((Z.setCell ⟨w6.heap.size, 11, none⟩ (.int .i64 e.orep)).setCell ⟨w6.heap.size, 12, none⟩ (.int .u32 (e.oseq : Int))).setCell ⟨w6.heap.size, 16, none⟩ ((.slice Ag e.gone.length cg))).setCell ⟨w6.heap.size, 13, none⟩ (.int .i64 e.drep)).setCell ⟨w6.heap.size, 14, none⟩ (.int .u32 (e.dseq : Int))).setCell ⟨w6.heap.size, 15, none⟩ (str e.name)).drew w6.heap.size 29 V) := Lib.hid (by rw [HE.out, ea]; exact E1.out.drew)
  have E5 : Go.RowKit.Hid (Blk ((((((Z.setCell ⟨w6.heap.size, 11, none⟩ (.int .i64 e.orep)).setCell ⟨w6.heap.size, 12, none⟩ (.int .u32 (e.oseq : Int))).setCell ⟨w6.heap.size, 16, none⟩ ((.slice Ag e.gone.length cg))).setCell ⟨w6.heap.size, 13, none⟩ (.int .i64 e.drep)).setCell ⟨w6.heap.size, 14, none⟩ (.int .u32 (e.dseq : Int))).setCell ⟨w6.heap.size, 15, none⟩ (str e.name)).drew (w.heap.size + 1) 29 zeroC) := Lib.hid E2.out.drew
  have hi : (Try.prog.info? 29).map (·.size) = some V.size := by rw [HsV.out]; exact ev_info
  have Hi := Lib.hid hi
  clear hi
  go_upto_region 18 with fail
  refine wp_region_lit ?_
  refine wpList_load_row rfl 29 (.tmp 3) rfl w6.heap.size rfl 29 V (0, 0) _ (by exact E4.out) Try.underlying29 rfl Hi.out ?_
  refine wpList_store_row rfl 29 (.tmp 2) (.tmp 85) rfl (w.heap.size + 1) V rfl rfl 29 zeroC (by exact E5.out) Hi.out (by rw [HsV.out]; rfl) H1c.out ?_
  go_wp2_with fail
  have hend := E5.out.setRow_ V
  exact bodyPost_ret (v := .agg V) (results_cell_row Try.results20 _ _ (w.heap.size + 1) 29 V (0, 0) _ rfl hend Try.underlying29 rfl Hi.out) rfl ⟨rfl, below_setRow (E3.out.drew) (by omega) _⟩
set_option maxHeartbeats 8000000 in
theorem own8 (ok : Nat → Prop) (e : Ev) (vg vb : Value) (w : World) (hin : EvIn w ok e vg vb) (hk : e.kind = 8) :
    Calls Try.prog 20 #[.agg (evC e vg vb)] w fun e' w' => e' = .returned (.agg (evC (ownE e) (ownG e vg) (ownB e vb))) ∧ Below w.heap.size w w' := by
  obtain ⟨Ag, cg, _, rfl, _⟩ := hin.gone
  obtain ⟨Ab, cb, _, rfl, _⟩ := hin.base
  have hE : evC (ownE e) (ownG e (.slice Ag e.gone.length cg)) (ownB e (.slice Ab e.base.length cb)) = #[.int .i64 e.rep, .int .u32 (e.seq : Int), .int .u32 (e.dep 0 : Int), .int .u32 (e.dep 1 : Int), .int .u32 (e.dep 2 : Int), .int .u32 (e.dep 3 : Int), .int .u32 (e.dep 4 : Int), .int .u32 (e.dep 5 : Int), .int .u32 (e.dep 6 : Int), .int .u32 (e.dep 7 : Int), .int .i64 8, .int .i64 0, .int .u32 0, .int .i64 0, .int .u32 0, .string ⟨#[]⟩, .slice none 0 0, .slice none 0 0, .int .i64 0, .string ⟨#[]⟩, .int .i64 e.ward] := by
    unfold ownE ownG ownB
    rw [if_neg (by omega), if_neg (by omega), if_neg (by omega), if_neg (by omega), if_neg (by omega), if_neg (by omega), if_pos hk, if_neg (by omega), if_neg (by omega)]
    show (#[.int .i64 e.rep, .int .u32 (e.seq : Int), .int .u32 (e.dep 0 : Int), .int .u32 (e.dep 1 : Int), .int .u32 (e.dep 2 : Int), .int .u32 (e.dep 3 : Int), .int .u32 (e.dep 4 : Int), .int .u32 (e.dep 5 : Int), .int .u32 (e.dep 6 : Int), .int .u32 (e.dep 7 : Int), .int .i64 e.kind, .int .i64 0, .int .u32 0, .int .i64 0, .int .u32 0, .string ⟨#[]⟩, .slice none 0 0, .slice none 0 0, .int .i64 0, .string ⟨#[]⟩, .int .i64 e.ward] : Array Value) = _
    rw [hk]
  have h1c : (evC (ownE e) (ownG e (.slice Ag e.gone.length cg)) (ownB e (.slice Ab e.base.length cb))).all (·.oneCell') = true := by rw [hE]; simp [Value.oneCell']
  obtain ⟨V, hV⟩ : ∃ V, V = evC (ownE e) (ownG e (.slice Ag e.gone.length cg)) (ownB e (.slice Ab e.base.length cb)) := ⟨_, rfl⟩
  rw [← hV] at h1c hE ⊢
  have hsV : V.size = 21 := by rw [hV]; rfl
  obtain ⟨h1, _, hb⟩ := boxesT (evC e (.slice Ag e.gone.length cg) (.slice Ab e.base.length cb)) zeroC 29 w
  obtain ⟨W, hW⟩ : ∃ W, W = ((w.alloc (.cells (evC e (.slice Ag e.gone.length cg) (.slice Ab e.base.length cb)) 29)).alloc (.cells zeroC 29)) := ⟨_, rfl⟩
  have hsz : W.heap.size = w.heap.size + 1 + 1 := by rw [hW, World.size_alloc, World.size_alloc]
  have hox := fun w6 (hb : Below W.heap.size W w6) => own_boxes e 8 (.slice Ag e.gone.length cg) (.slice Ab e.base.length cb) w w6 (by rw [← hW, ← hsz]; exact hb)
  rw [← hW] at h1 hb
  have R0 := Lib.hid (range_exts (ev_id h1))
  have R1 := Lib.hid (range_exts (ev_dep h1))
  have c2 := fun y : Ext W => (EvCells.ext h1 y).kind
  rw [hk] at c2
  have hbd := build_run e 8
  rw [zero_lit] at hW
  have HW := Lib.hid hW
  have HX := Lib.hid hox
  have HE := Lib.hid hE
  have H1c := Lib.hid h1c
  have HsV := Lib.hid hsV
  have Hk := Lib.hid hk
  clear hW hox hE h1 hb hV h1c hsV hk
  go_enter Try.func20, Try.ntmps20
  go_upto_region 1 with fail
  rw [← HW.out]
  refine wp_region_lit ?_
  refine wpList_pre 7 (C := fun w' => ∃ x : Ext W, w' = x.now) ⟨⟨W, Below.refl _ _⟩, rfl⟩ ?_
  simp only [List.take_succ_cons, List.take_zero, List.drop_succ_cons, List.drop_zero]
  repeat (first | (go_big_quiet_want; refine quiet_mid 24 (.tmp 4) rfl w.heap.size 0 rfl #[.int .i64 e.rep, .int .u32 (e.seq : Int)] _ R0.out Try.underlying24 rfl id_info ?_; go_simp; go_big_quiet_on) | (go_big_quiet_want; refine quiet_mid 26 (.tmp 6) rfl w.heap.size 2 rfl #[.int .u32 (e.dep 0 : Int), .int .u32 (e.dep 1 : Int), .int .u32 (e.dep 2 : Int), .int .u32 (e.dep 3 : Int), .int .u32 (e.dep 4 : Int), .int .u32 (e.dep 5 : Int), .int .u32 (e.dep 6 : Int), .int .u32 (e.dep 7 : Int)] _ R1.out Try.underlying26 rfl vec_info ?_; go_simp; go_big_quiet_on) | go_big_quiet_step (fail) | quiet_step (fail))
  refine wpQuiet_nil ?_
  rintro w6 ⟨⟨_, hb6⟩, rfl⟩
  obtain ⟨Z, hZ, h0, h1, h2, h3, hb, hlt⟩ := HX.out w6 hb6
  have e0 := h1.ev.kind
  rw [Hk.out] at e0
  have r20 : Z.cell? ⟨w.heap.size, 20, none⟩ = some (.int .i64 e.ward) := set_cell h1 rfl
  have s20 : Z.cell? ⟨w6.heap.size, 20, none⟩ = some (.int .i64 0) := set_cell h3 rfl
  have f20 : Z.frozen? ⟨w6.heap.size, 20, none⟩ = false := set_frozen h3 20
  have e1 := (h3.set_ 20 (.int .i64 e.ward))
  have e2 := (h2.far (p := ⟨w6.heap.size, 20, none⟩) (by show w.heap.size + 1 ≠ w6.heap.size; omega) (.int .i64 e.ward))
  have e3 := (below_set hb (g := w6.heap.size) (by omega) 20 (.int .i64 e.ward))
  rw [zero_lit] at h0 hZ
  have H0 := Lib.hid h0
  have HZ := Lib.hid hZ
  have E1 := Lib.hid e1
  have E2 := Lib.hid e2
  have E3 := Lib.hid e3
  have Hlt := Lib.hid hlt
  clear hZ h0 h1 h2 h3 hb e1 e2 e3 hlt hb6 hbd
  go_upto_region 2 with (refine wpList_store_row (o := ⟨none, .store _ (.tmp 3) (.tmp 10), _, _, _, _⟩) rfl 29 (.tmp 3) (.tmp 10) rfl w6.heap.size (baseC e 8) rfl rfl 29 (#[.int .i64 0, .int .u32 0, .int .u32 0, .int .u32 0, .int .u32 0, .int .u32 0, .int .u32 0, .int .u32 0, .int .u32 0, .int .u32 0, .int .i64 0, .int .i64 0, .int .u32 0, .int .i64 0, .int .u32 0, .string ⟨#[]⟩, .slice none 0 0, .slice none 0 0, .int .i64 0, .string ⟨#[]⟩, .int .i64 0]) (by exact H0.out) ev_info rfl (baseC_one e _) ?_; rw [← HZ.out])
  have ea : #[.int .i64 e.rep, .int .u32 (e.seq : Int), .int .u32 (e.dep 0 : Int), .int .u32 (e.dep 1 : Int), .int .u32 (e.dep 2 : Int), .int .u32 (e.dep 3 : Int), .int .u32 (e.dep 4 : Int), .int .u32 (e.dep 5 : Int), .int .u32 (e.dep 6 : Int), .int .u32 (e.dep 7 : Int), .int .i64 8, .int .i64 0, .int .u32 0, .int .i64 0, .int .u32 0, .string ⟨#[]⟩, .slice none 0 0, .slice none 0 0, .int .i64 0, .string ⟨#[]⟩, .int .i64 e.ward] = ((baseC e 8).setIfInBounds 20 (.int .i64 e.ward)) := by kernel_rfl
  have E4 : Go.RowKit.Hid (Blk (Z.setCell ⟨w6.heap.size, 20, none⟩ (.int .i64 e.ward)) w6.heap.size 29 V) := Lib.hid (by rw [HE.out, ea]; exact E1.out)
  have E5 : Go.RowKit.Hid (Blk (Z.setCell ⟨w6.heap.size, 20, none⟩ (.int .i64 e.ward)) (w.heap.size + 1) 29 zeroC) := Lib.hid E2.out
  have hi : (Try.prog.info? 29).map (·.size) = some V.size := by rw [HsV.out]; exact ev_info
  have Hi := Lib.hid hi
  clear hi
  go_upto_region 18 with fail
  refine wp_region_lit ?_
  refine wpList_load_row rfl 29 (.tmp 3) rfl w6.heap.size rfl 29 V (0, 0) _ (by exact E4.out) Try.underlying29 rfl Hi.out ?_
  refine wpList_store_row rfl 29 (.tmp 2) (.tmp 85) rfl (w.heap.size + 1) V rfl rfl 29 zeroC (by exact E5.out) Hi.out (by rw [HsV.out]; rfl) H1c.out ?_
  go_wp2_with fail
  have hend := E5.out.setRow_ V
  exact bodyPost_ret (v := .agg V) (results_cell_row Try.results20 _ _ (w.heap.size + 1) 29 V (0, 0) _ rfl hend Try.underlying29 rfl Hi.out) rfl ⟨rfl, below_setRow E3.out (by omega) _⟩
set_option maxHeartbeats 8000000 in
theorem own9 (ok : Nat → Prop) (e : Ev) (vg vb : Value) (w : World) (hin : EvIn w ok e vg vb) (h1 : ¬ (e.kind = 1 ∨ e.kind = 2)) (h3 : ¬ e.kind = 3) (h4 : ¬ e.kind = 4) (h5 : ¬ e.kind = 5) (h6 : ¬ e.kind = 6) (h7 : ¬ e.kind = 7) (h8 : ¬ e.kind = 8) :
    Calls Try.prog 20 #[.agg (evC e vg vb)] w fun e' w' => e' = .returned (.agg (evC (ownE e) (ownG e vg) (ownB e vb))) ∧ Below w.heap.size w w' := by
  obtain ⟨Ag, cg, _, rfl, _⟩ := hin.gone
  obtain ⟨Ab, cb, _, rfl, _⟩ := hin.base
  have hE : evC (ownE e) (ownG e (.slice Ag e.gone.length cg)) (ownB e (.slice Ab e.base.length cb)) = #[.int .i64 e.rep, .int .u32 (e.seq : Int), .int .u32 (e.dep 0 : Int), .int .u32 (e.dep 1 : Int), .int .u32 (e.dep 2 : Int), .int .u32 (e.dep 3 : Int), .int .u32 (e.dep 4 : Int), .int .u32 (e.dep 5 : Int), .int .u32 (e.dep 6 : Int), .int .u32 (e.dep 7 : Int), .int .i64 e.kind, .int .i64 0, .int .u32 0, .int .i64 0, .int .u32 0, .string ⟨#[]⟩, .slice none 0 0, .slice none 0 0, .int .i64 0, .string ⟨#[]⟩, .int .i64 0] := by
    unfold ownE ownG ownB
    rw [if_neg h1, if_neg h3, if_neg h4, if_neg h5, if_neg h6, if_neg h7, if_neg h8, if_neg (by omega), if_neg (by omega)]
    rfl
  have q1 : (e.kind == 1) = false := by rw [beq_eq_false_iff_ne]; omega
  have q2 : (e.kind == 2) = false := by rw [beq_eq_false_iff_ne]; omega
  have q3 : (e.kind == 3) = false := by rw [beq_eq_false_iff_ne]; omega
  have q4 : (e.kind == 4) = false := by rw [beq_eq_false_iff_ne]; omega
  have q5 : (e.kind == 5) = false := by rw [beq_eq_false_iff_ne]; omega
  have q6 : (e.kind == 6) = false := by rw [beq_eq_false_iff_ne]; omega
  have q7 : (e.kind == 7) = false := by rw [beq_eq_false_iff_ne]; omega
  have q8 : (e.kind == 8) = false := by rw [beq_eq_false_iff_ne]; omega
  have h1c : (evC (ownE e) (ownG e (.slice Ag e.gone.length cg)) (ownB e (.slice Ab e.base.length cb))).all (·.oneCell') = true := by rw [hE]; simp [Value.oneCell']
  obtain ⟨V, hV⟩ : ∃ V, V = evC (ownE e) (ownG e (.slice Ag e.gone.length cg)) (ownB e (.slice Ab e.base.length cb)) := ⟨_, rfl⟩
  rw [← hV] at h1c hE ⊢
  have hsV : V.size = 21 := by rw [hV]; rfl
  obtain ⟨h1, _, hb⟩ := boxesT (evC e (.slice Ag e.gone.length cg) (.slice Ab e.base.length cb)) zeroC 29 w
  obtain ⟨W, hW⟩ : ∃ W, W = ((w.alloc (.cells (evC e (.slice Ag e.gone.length cg) (.slice Ab e.base.length cb)) 29)).alloc (.cells zeroC 29)) := ⟨_, rfl⟩
  have hsz : W.heap.size = w.heap.size + 1 + 1 := by rw [hW, World.size_alloc, World.size_alloc]
  have hox := fun w6 (hb : Below W.heap.size W w6) => own_boxes e e.kind (.slice Ag e.gone.length cg) (.slice Ab e.base.length cb) w w6 (by rw [← hW, ← hsz]; exact hb)
  rw [← hW] at h1 hb
  have R0 := Lib.hid (range_exts (ev_id h1))
  have R1 := Lib.hid (range_exts (ev_dep h1))
  have c2 := fun y : Ext W => (EvCells.ext h1 y).kind
  have hbd := build_run e e.kind
  rw [zero_lit] at hW
  have HW := Lib.hid hW
  have HX := Lib.hid hox
  have HE := Lib.hid hE
  have H1c := Lib.hid h1c
  have HsV := Lib.hid hsV
  clear hW hox hE h1 hb hV h1c hsV h3 h4 h5 h6 h7 h8
  go_enter Try.func20, Try.ntmps20
  go_upto_region 1 with fail
  rw [← HW.out]
  refine wp_region_lit ?_
  refine wpList_pre 7 (C := fun w' => ∃ x : Ext W, w' = x.now) ⟨⟨W, Below.refl _ _⟩, rfl⟩ ?_
  simp only [List.take_succ_cons, List.take_zero, List.drop_succ_cons, List.drop_zero]
  repeat (first | (go_big_quiet_want; refine quiet_mid 24 (.tmp 4) rfl w.heap.size 0 rfl #[.int .i64 e.rep, .int .u32 (e.seq : Int)] _ R0.out Try.underlying24 rfl id_info ?_; go_simp; go_big_quiet_on) | (go_big_quiet_want; refine quiet_mid 26 (.tmp 6) rfl w.heap.size 2 rfl #[.int .u32 (e.dep 0 : Int), .int .u32 (e.dep 1 : Int), .int .u32 (e.dep 2 : Int), .int .u32 (e.dep 3 : Int), .int .u32 (e.dep 4 : Int), .int .u32 (e.dep 5 : Int), .int .u32 (e.dep 6 : Int), .int .u32 (e.dep 7 : Int)] _ R1.out Try.underlying26 rfl vec_info ?_; go_simp; go_big_quiet_on) | go_big_quiet_step (fail) | quiet_step (fail))
  refine wpQuiet_nil ?_
  rintro w6 ⟨⟨_, hb6⟩, rfl⟩
  obtain ⟨Z, hZ, h0, h1, h2, h3, hb, hlt⟩ := HX.out w6 hb6
  have e0 := h1.ev.kind
  have e1 := h3
  have e2 := h2
  have e3 := hb
  rw [zero_lit] at h0 hZ
  have H0 := Lib.hid h0
  have HZ := Lib.hid hZ
  have E1 := Lib.hid e1
  have E2 := Lib.hid e2
  have E3 := Lib.hid e3
  have Hlt := Lib.hid hlt
  clear hZ h0 h1 h2 h3 hb e1 e2 e3 hlt hb6 hbd
  go_upto_region 2 with (refine wpList_store_row (o := ⟨none, .store _ (.tmp 3) (.tmp 10), _, _, _, _⟩) rfl 29 (.tmp 3) (.tmp 10) rfl w6.heap.size (baseC e e.kind) rfl rfl 29 (#[.int .i64 0, .int .u32 0, .int .u32 0, .int .u32 0, .int .u32 0, .int .u32 0, .int .u32 0, .int .u32 0, .int .u32 0, .int .u32 0, .int .i64 0, .int .i64 0, .int .u32 0, .int .i64 0, .int .u32 0, .string ⟨#[]⟩, .slice none 0 0, .slice none 0 0, .int .i64 0, .string ⟨#[]⟩, .int .i64 0]) (by exact H0.out) ev_info rfl (baseC_one e _) ?_; rw [← HZ.out])
  have ea : #[.int .i64 e.rep, .int .u32 (e.seq : Int), .int .u32 (e.dep 0 : Int), .int .u32 (e.dep 1 : Int), .int .u32 (e.dep 2 : Int), .int .u32 (e.dep 3 : Int), .int .u32 (e.dep 4 : Int), .int .u32 (e.dep 5 : Int), .int .u32 (e.dep 6 : Int), .int .u32 (e.dep 7 : Int), .int .i64 e.kind, .int .i64 0, .int .u32 0, .int .i64 0, .int .u32 0, .string ⟨#[]⟩, .slice none 0 0, .slice none 0 0, .int .i64 0, .string ⟨#[]⟩, .int .i64 0] = (baseC e e.kind) := by kernel_rfl
  have E4 : Go.RowKit.Hid (Blk Z w6.heap.size 29 V) := Lib.hid (by rw [HE.out, ea]; exact E1.out)
  have E5 : Go.RowKit.Hid (Blk Z (w.heap.size + 1) 29 zeroC) := Lib.hid E2.out
  have hi : (Try.prog.info? 29).map (·.size) = some V.size := by rw [HsV.out]; exact ev_info
  have Hi := Lib.hid hi
  clear hi
  go_upto_region 18 with fail
  refine wp_region_lit ?_
  refine wpList_load_row rfl 29 (.tmp 3) rfl w6.heap.size rfl 29 V (0, 0) _ (by exact E4.out) Try.underlying29 rfl Hi.out ?_
  refine wpList_store_row rfl 29 (.tmp 2) (.tmp 85) rfl (w.heap.size + 1) V rfl rfl 29 zeroC (by exact E5.out) Hi.out (by rw [HsV.out]; rfl) H1c.out ?_
  go_wp2_with fail
  have hend := E5.out.setRow_ V
  exact bodyPost_ret (v := .agg V) (results_cell_row Try.results20 _ _ (w.heap.size + 1) 29 V (0, 0) _ rfl hend Try.underlying29 rfl Hi.out) rfl ⟨rfl, below_setRow E3.out (by omega) _⟩
theorem own_any (ok : Nat → Prop) (e : Ev) (vg vb : Value) (w : World) (hin : EvIn w ok e vg vb) :
    Calls Try.prog 20 #[.agg (evC e vg vb)] w fun e' w' => e' = .returned (.agg (evC (ownE e) (ownG e vg) (ownB e vb))) ∧ Below w.heap.size w w' := by
  by_cases h1 : e.kind = 1
  · exact own1 ok e vg vb w hin h1
  by_cases h2 : e.kind = 2
  · exact own2 ok e vg vb w hin h2
  by_cases h3 : e.kind = 3
  · exact own3 ok e vg vb w hin h3
  by_cases h4 : e.kind = 4
  · exact own4 ok e vg vb w hin h4
  by_cases h5 : e.kind = 5
  · exact own5 ok e vg vb w hin h5
  by_cases h6 : e.kind = 6
  · exact own6 ok e vg vb w hin h6
  by_cases h7 : e.kind = 7
  · exact own7 ok e vg vb w hin h7
  by_cases h8 : e.kind = 8
  · exact own8 ok e vg vb w hin h8
  exact own9 ok e vg vb w hin (by omega) h3 h4 h5 h6 h7 h8
theorem own_in {ok : Nat → Prop} {e : Ev} {vg vb : Value} {w : World} (hin : EvIn w ok e vg vb) : EvIn w ok (ownE e) (ownG e vg) (ownB e vb) := by
  obtain ⟨⟨h1, h2, h3, h4, h5, h6, h7, h8, h9, h10⟩, hg, hb⟩ := hin
  have z := i64_zero
  have zn : (0 : Nat) < 4294967296 := by omega
  have zl : ([] : List UInt8).length ≤ maxLen := Nat.zero_le _
  have hn := IsL.nil (K := kId) (w := w) (ok := ok)
  unfold ownE ownG ownB
  by_cases k1 : e.kind = 1 ∨ e.kind = 2
  · rw [if_pos k1, if_neg (by omega), if_neg (by omega)]
    exact ⟨⟨h1, h2, h3, h4, ⟨z, zn⟩, h6, h7, z, zl, z⟩, hn, hn⟩
  rw [if_neg k1]
  by_cases k3 : e.kind = 3
  · rw [if_pos k3, if_neg (by omega), if_pos (by omega)]
    exact ⟨⟨h1, h2, h3, h4, h5, ⟨z, zn⟩, zl, h8, h9, z⟩, hn, hb⟩
  rw [if_neg k3]
  by_cases k4 : e.kind = 4
  · rw [if_pos k4, if_neg (by omega), if_pos (by omega)]
    exact ⟨⟨h1, h2, h3, h4, h5, ⟨z, zn⟩, zl, h8, zl, z⟩, hn, hb⟩
  rw [if_neg k4]
  by_cases k5 : e.kind = 5
  · rw [if_pos k5, if_neg (by omega), if_pos (by omega)]
    exact ⟨⟨h1, h2, h3, h4, h5, ⟨z, zn⟩, zl, z, h9, z⟩, hn, hb⟩
  rw [if_neg k5]
  by_cases k6 : e.kind = 6
  · rw [if_pos k6, if_pos (by omega), if_neg (by omega)]
    exact ⟨⟨h1, h2, h3, h4, h5, ⟨z, zn⟩, zl, z, zl, z⟩, hg, hn⟩
  rw [if_neg k6]
  by_cases k7 : e.kind = 7
  · rw [if_pos k7, if_pos (by omega), if_neg (by omega)]
    exact ⟨⟨h1, h2, h3, h4, h5, h6, h7, z, zl, z⟩, hg, hn⟩
  rw [if_neg k7]
  by_cases k8 : e.kind = 8
  · rw [if_pos k8, if_neg (by omega), if_neg (by omega)]
    exact ⟨⟨h1, h2, h3, h4, ⟨z, zn⟩, ⟨z, zn⟩, zl, z, zl, h10⟩, hn, hn⟩
  rw [if_neg k8, if_neg (by omega), if_neg (by omega)]
  exact ⟨⟨h1, h2, h3, h4, ⟨z, zn⟩, ⟨z, zn⟩, zl, z, zl, z⟩, hn, hn⟩
end Go.Proofs.Ytkojoahamoffcaa
