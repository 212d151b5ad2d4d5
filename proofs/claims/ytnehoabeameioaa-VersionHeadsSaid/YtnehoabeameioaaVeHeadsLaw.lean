/-
  The walk of VersionHeads.
-/
import Derived.Test.YtnehoabeameioaaVeLives
import Derived.Test.YtnehoabeameioaaVeHeads
import Derived.Test.YtnehoabeameioaaVeFits
import Derived.Test.YtnehoabeameioaaVeData
import Derived.Test.YtnehoabeameioaaVeGood
import Derived.Test.YtnehoabeameioaaVeRef4
import Derived.Test.YtnehoabeameioaaVeAdd
import Derived.Test.YtnehoabeameioaaVeHeadsMath
import Derived.Test.YtnehoabeameioaaVePlain
import Derived.Test.YtnehoabeameioaaWalk
import Derived.Test.YtnehoabeameioaaVeIds
import Derived.BigFrame
namespace Go.Proofs.Ytnehoabeameioaa
open Go.RowKit
set_option maxRecDepth 100000

/-- A row that is loaded under a guard that says yes, in a plain region. -/
theorem wpList_load_midg {P : Program} {ops : Array Oper} {rest : List Oper} {op : Oper} {a : Act} {w : World} {Q : Exit → Act → World → Prop} (hw : Region.wanted op (yielded ops a.tmps) = true) (ty : TypeId) (x : Operand) (ho : op.op = .load ty x)
    (b o : Nat) (hx : a.eval x = .pointer (some ⟨b, o, none⟩)) (cs : List Value) (d : TypeDesc) (hc : w.rangeAt b o cs)
    (hu : P.underlying ty = some d) (hd : d.isRow = true) (hi : (P.info? ty).map (·.size) = some cs.length)
    (h : wpList P ops Q rest (a.put op.dst (.agg cs.toArray)) w) : wpList P ops Q (op :: rest) a w :=
  BigFrame.wpList_want hw fun _ hK => wp_load_mid ty x ho b o hx cs d hc hu hd hi (hK _ _ h)

def vhG1 (v : Value) (L : List Ver) (s : Nat) (u : Value) (_ : World) : Prop := match s with | 19 => u = .bool true | 20 => u = .bool false | 21 => u = .bool false | 22 => u = v | 23 => ∃ q, u = .bool q ∧ (q = true → FitsV L) | _ => True
def vhG2 (v : Value) (X Y : Ver) (IA IB : Array Value) (g : Nat) (q B1 B2 B3 B4 B5 B6 B7 B8 B9 B10 C2 C3 C4 C5 C6 C7 C8 C9 C10 : Bool) (s : Nat) (u : Value) (_ : World) : Prop := match s with | 19 => u = .bool true | 20 => u = .bool false | 21 => u = .bool false | 22 => u = v | 23 => u = .bool q | 24 => u = .bool B1 | 25 => u = .bool B1 | 26 => u = .bool B1 | 27 => u = (cond B1 undef (.pointer (some ⟨g, 2, none⟩))) | 28 => u = (cond B1 undef (str X.data)) | 29 => u = (cond B1 undef (.int .i64 (X.data.length : Int))) | 30 => u = (cond B1 undef (.bool C2)) | 31 => u = .bool B2 | 32 => u = .bool B2 | 33 => u = (cond B2 undef (.pointer (some ⟨g + 1, 2, none⟩))) | 34 => u = (cond B2 undef (str Y.data)) | 35 => u = (cond B2 undef (.int .i64 (Y.data.length : Int))) | 36 => u = (cond B2 undef (.bool C3)) | 37 => u = .bool B3 | 38 => u = .bool B3 | 39 => u = (cond B3 undef (.pointer (some ⟨g, 0, none⟩))) | 40 => u = (cond B3 undef (.agg IA)) | 41 => u = (cond B3 undef (.pointer (some ⟨g + 1, 0, none⟩))) | 42 => u = (cond B3 undef (.agg IB)) | 43 => u = (cond B3 undef (.bool C4)) | 44 => u = .bool B4 | 45 => u = .bool B4 | 46 => u = (cond B4 undef (.pointer (some ⟨g, 0, none⟩))) | 47 => u = (cond B4 undef (.pointer (some ⟨g, 0, none⟩))) | 48 => u = (cond B4 undef (.int .i64 X.rep)) | 49 => u = (cond B4 undef (.bool C5)) | 50 => u = .bool B5 | 51 => u = .bool B5 | 52 => u = (cond B5 undef (.pointer (some ⟨g, 0, none⟩))) | 53 => u = (cond B5 undef (.pointer (some ⟨g, 0, none⟩))) | 54 => u = (cond B5 undef (.int .i64 X.rep)) | 55 => u = (cond B5 undef (.bool C6)) | 56 => u = .bool B6 | 57 => u = .bool B6 | 58 => u = (cond B6 undef (.pointer (some ⟨g + 1, 0, none⟩))) | 59 => u = (cond B6 undef (.pointer (some ⟨g + 1, 0, none⟩))) | 60 => u = (cond B6 undef (.int .i64 Y.rep)) | 61 => u = (cond B6 undef (.bool C7)) | 62 => u = .bool B7 | 63 => u = .bool B7 | 64 => u = (cond B7 undef (.pointer (some ⟨g + 1, 0, none⟩))) | 65 => u = (cond B7 undef (.pointer (some ⟨g + 1, 0, none⟩))) | 66 => u = (cond B7 undef (.int .i64 Y.rep)) | 67 => u = (cond B7 undef (.bool C8)) | 68 => u = .bool B8 | 69 => u = .bool B8 | 70 => u = (cond B8 undef (.pointer (some ⟨g, 0, none⟩))) | 71 => u = (cond B8 undef (.pointer (some ⟨g, 1, none⟩))) | 72 => u = (cond B8 undef (.int .u32 (X.seq : Int))) | 73 => u = (cond B8 undef (.bool C9)) | 74 => u = .bool B9 | 75 => u = .bool B9 | 76 => u = (cond B9 undef (.pointer (some ⟨g + 1, 0, none⟩))) | 77 => u = (cond B9 undef (.pointer (some ⟨g + 1, 1, none⟩))) | 78 => u = (cond B9 undef (.int .u32 (Y.seq : Int))) | 79 => u = (cond B9 undef (.bool C10)) | 80 => u = .bool B10 | _ => True
def vhG3 (u0 : Value) (X0 : Ver) (C : Array Value) (s : Nat) (u : Value) (x : World) : Prop := match s with | 125 => u = .int .i64 0 | 126 => u = .bool false | 127 => u = .bool false | 128 => u = u0 | 129 => IsL kVer x (fun _ => True) u [X0] | 130 => u = .int .i64 1 | 131 => u = .bool false | 132 => u = .bool false | 133 => u = .bool false | 134 => u = u0 | 135 => IsL kVer x (fun _ => True) u [X0] | 136 => ∃ b off, u = .pointer (some ⟨b, off, none⟩) ∧ x.rangeAt b off C.toList | 137 => u = .agg C | 138 => u = .agg C | 139 => u = .bool false | 140 => u = .bool false | _ => True

set_option maxHeartbeats 4000000 in
theorem versionheads_walk (v : Value) (L : List Ver) (X Y : Ver) (w : World) (hL : IsL kVer w (fun _ => True) v L) (hX : VerOk X) (hY : VerOk Y) :
    Calls Try.prog 6 #[v, .agg (verC X), .agg (verC Y)] w fun e w' => e = .returned (.bool true) ∧ Below w.heap.size w w' := by
  have Hl := Lib.hid fun z => lives11_any z
  obtain ⟨wa, hwa⟩ : ∃ wa, wa = w.alloc (.cells (verC X) 39) := ⟨_, rfl⟩
  have hba : Blk wa w.heap.size 39 (verC X) := by rw [hwa]; exact Blk.new _ _ _
  have hbela : Below w.heap.size w wa := by rw [hwa]; exact (Below.refl _ _).alloc (Nat.le_refl _) _
  have hwas : wa.heap.size = w.heap.size + 1 := by rw [hwa]; simp
  obtain ⟨wb, hwb⟩ : ∃ wb, wb = wa.alloc (.cells (verC Y) 39) := ⟨_, rfl⟩
  have hbb : Blk wb (w.heap.size + 1) 39 (verC Y) := by rw [hwb, ← hwas]; exact Blk.new _ _ _
  have hab : Below wa.heap.size wa wb := by rw [hwb]; exact (Below.refl _ _).alloc (Nat.le_refl _) _
  have hbel : Below w.heap.size w wb := below_call hbela hab
  have hba' := hba.grow hab
  obtain ⟨IA, hIA⟩ : ∃ I, I = idC X.rep X.seq := ⟨_, rfl⟩
  obtain ⟨IB, hIB⟩ : ∃ I, I = idC Y.rep Y.seq := ⟨_, rfl⟩
  have HF := Lib.hid (show ∀ z, Below wb.heap.size wb z → z.cell? ⟨w.heap.size, 2, none⟩ = some (str X.data) ∧ z.cell? ⟨w.heap.size + 1, 2, none⟩ = some (str Y.data) ∧ z.cell? ⟨w.heap.size, 0, none⟩ = some (.int .i64 X.rep) ∧ z.cell? ⟨w.heap.size, 1, none⟩ = some (.int .u32 (X.seq : Int)) ∧ z.cell? ⟨w.heap.size + 1, 0, none⟩ = some (.int .i64 Y.rep) ∧ z.cell? ⟨w.heap.size + 1, 1, none⟩ = some (.int .u32 (Y.seq : Int)) ∧ z.rangeAt w.heap.size 0 IA.toList ∧ z.rangeAt (w.heap.size + 1) 0 IB.toList from fun z hz => by
    have h1 := (hba'.grow hz).ver
    have h2 := (hbb.grow hz).ver
    have d1 := h1.data
    have d2 := h2.data
    rw [Nat.zero_add] at d1 d2
    rw [hIA, hIB]
    exact ⟨d1, d2, h1.id 0 _ rfl, h1.id 1 _ rfl, h2.id 0 _ rfl, h2.id 1 _ rfl, h1.id, h2.id⟩)
  have HinfA := Lib.hid (show (Try.prog.info? 35).map (·.size) = some IA.toList.length by rw [hIA]; exact id_info)
  have HinfB := Lib.hid (show (Try.prog.info? 35).map (·.size) = some IB.toList.length by rw [hIB]; exact id_info)
  have heq := fun z => ideq_run X.rep X.seq Y.rep Y.seq z
  rw [← hIA, ← hIB] at heq
  obtain ⟨e3, he3⟩ : ∃ e, e = sameI X.rep X.seq Y.rep Y.seq := ⟨_, rfl⟩
  rw [← he3] at heq
  have He3 := Lib.hid he3
  have HIA := Lib.hid hIA
  have HIB := Lib.hid hIB
  have HL0 := Lib.hid hL
  have HboxA := Lib.hid hba'
  have HboxB := Lib.hid hbb
  have Hbel := Lib.hid hbel
  have HL := Lib.hid (hL.grow hbel)
  have HW := Lib.hid (show wb = (w.alloc (.cells (verC X) 39)).alloc (.cells (verC Y) 39) by rw [hwb, hwa])
  have HX := Lib.hid hX
  have HY := Lib.hid hY
  obtain ⟨CX, hCX⟩ : ∃ C, C = verC X := ⟨_, rfl⟩
  obtain ⟨CY, hCY⟩ : ∃ C, C = verC Y := ⟨_, rfl⟩
  rw [← hCX, ← hCY] at HW ⊢
  have HCX := Lib.hid hCX
  have HCY := Lib.hid hCY
  clear hba hbela hwas hwa hwb hab hbel hba' hbb hIA hIB hL hX hY hCX hCY he3
  go_enter Try.func6, Try.ntmps6
  refine enter_abs (N := 183) rfl rfl fun a0 hsz0 hde0 hk => ?_
  have f0 : a0.tmps[0]?.getD undef = v := hk 0
  have f1 : a0.tmps[1]?.getD undef = .agg CX := hk 1
  have f2 : a0.tmps[2]?.getD undef = .agg CY := hk 2
  clear hk
  have Heq := Lib.hid heq
  clear heq
  repeat with_reducible refine wp_seq ?_
  refine wp_region_lit ?_
  refine wpList_next rfl hsz0 hde0 4 rfl (by decide) fun K hK => ?_
  go_simp
  refine hK _ _ fun a1 hsz1 hde1 f4 hk => ?_
  clear hK
  replace f0 := (hk 0 (by decide)).trans f0
  replace f1 := (hk 1 (by decide)).trans f1
  replace f2 := (hk 2 (by decide)).trans f2
  replace f4 : a1.tmps[4]?.getD undef = .pointer (some ⟨w.heap.size, 0, none⟩) := f4
  clear hk hsz0 hde0
  refine wpList_next rfl hsz1 hde1 5 rfl (by decide) fun K hK => ?_
  go_simp
  refine hK _ _ fun a2 hsz2 hde2 f5 hk => ?_
  clear hK
  replace f0 := (hk 0 (by decide)).trans f0
  replace f1 := (hk 1 (by decide)).trans f1
  replace f2 := (hk 2 (by decide)).trans f2
  replace f4 := (hk 4 (by decide)).trans f4
  replace f5 : a2.tmps[5]?.getD undef = .pointer (some ⟨w.heap.size + 1, 0, none⟩) := f5
  clear hk hsz1 hde1
  refine wpList_next rfl hsz2 hde2 6 rfl (by decide) fun K hK => ?_
  go_simp
  refine hK _ _ fun a3 hsz3 hde3 f6 hk => ?_
  clear hK
  replace f0 := (hk 0 (by decide)).trans f0
  replace f1 := (hk 1 (by decide)).trans f1
  replace f2 := (hk 2 (by decide)).trans f2
  replace f4 := (hk 4 (by decide)).trans f4
  replace f5 := (hk 5 (by decide)).trans f5
  replace f6 : a3.tmps[6]?.getD undef = .bool false := f6
  clear hk hsz2 hde2
  refine wpList_nil ?_
  clear f1 f2
  rw [← HW.out]
  refine then_go ?_
  repeat with_reducible refine wp_seq ?_
  refine wp_region_seg ?_
  refine wpList_seg 0 5 (vhG1 v L) 183 (by decide) (by decide) (by kernel_rfl) (by kernel_rfl) hsz3.out ?_ ?_ ?_ ?_
  · intro t v7 x' x2 h hb hb'
    unfold vhG1 at *
    split at h <;> first | exact h | exact h.grow hb'
  · intro j hj; omega
  · intro i o hki him hi a x hbx hsame hpre K hK
    rcases (show i = 0 ∨ i = 1 ∨ i = 2 ∨ i = 3 ∨ i = 4 by omega) with rfl | rfl | rfl | rfl | rfl
    all_goals (have ho := Option.some.inj hi; subst ho; clear hi hki him)
    · have hk := Lib.hid (show ∀ v7 x', vhG1 v L 19 v7 x' → Below x.heap.size x x' → K (a.put (some 19) v7) x' from hK)
      have Hbx := Lib.hid hbx
      clear hsame hpre hK hbx
      all_goals (refine step_plain rfl ?_; go_simp; refine (Hl.out _).mono ?_; rintro e7 w7 ⟨rfl, hb7⟩; go_simp; exact hk.out _ _ rfl hb7)
    · have q19 : vhG1 v L 19 (a.tmps[19]?.getD undef) x := hpre 0 (by decide)
      have hk := Lib.hid (show ∀ v7 x', vhG1 v L 20 v7 x' → Below x.heap.size x x' → K (a.put (some 20) v7) x' from hK)
      have Hbx := Lib.hid hbx
      clear hsame hpre hK hbx
      all_goals (refine step_plain rfl ?_; replace q19 : a.tmps[19]?.getD undef = _ := q19; go_simp; exact hk.out _ _ rfl (Below.refl _ _))
    · have q20 : vhG1 v L 20 (a.tmps[20]?.getD undef) x := hpre 1 (by decide)
      have hk := Lib.hid (show ∀ v7 x', vhG1 v L 21 v7 x' → Below x.heap.size x x' → K (a.put (some 21) v7) x' from hK)
      have Hbx := Lib.hid hbx
      clear hsame hpre hK hbx
      all_goals (refine step_plain rfl ?_; replace q20 : a.tmps[20]?.getD undef = _ := q20; go_simp; exact hk.out _ _ rfl (Below.refl _ _))
    · have q0 : a.tmps[0]?.getD undef = v := (hsame 0 (by decide +kernel)).trans f0
      have q21 : vhG1 v L 21 (a.tmps[21]?.getD undef) x := hpre 2 (by decide)
      have hk := Lib.hid (show ∀ v7 x', vhG1 v L 22 v7 x' → Below x.heap.size x x' → K (a.put (some 22) v7) x' from hK)
      have Hbx := Lib.hid hbx
      clear hsame hpre hK hbx
      all_goals first | (refine step_left (not_wanted (j := 2) (t := 21) (b := false) rfl rfl (by first | exact Or.inr q21 | exact Or.inl q21)) ?_; exact hk.out _ _ rfl (Below.refl _ _)) | (refine step_wanted (wanted_of (j := 2) (t := 21) (b := false) rfl rfl q21) ?_; go_simp; exact hk.out _ _ rfl (Below.refl _ _))
    · have q22 : vhG1 v L 22 (a.tmps[22]?.getD undef) x := hpre 3 (by decide)
      have q21 : vhG1 v L 21 (a.tmps[21]?.getD undef) x := hpre 2 (by decide)
      have hk := Lib.hid (show ∀ v7 x', vhG1 v L 23 v7 x' → Below x.heap.size x x' → K (a.put (some 23) v7) x' from hK)
      have Hbx := Lib.hid hbx
      clear hsame hpre hK hbx
      all_goals first | (refine step_left (not_wanted (j := 2) (t := 21) (b := false) rfl rfl (by first | exact Or.inr q21 | exact Or.inl q21)) ?_; exact hk.out _ _ rfl (Below.refl _ _)) | (refine step_wanted (wanted_of (j := 2) (t := 21) (b := false) rfl rfl q21) ?_; replace q22 : a.tmps[22]?.getD undef = _ := q22; go_simp; refine (fits11_any _ _ _ _ (HL.out.grow Hbx.out)).mono ?_; rintro e7 w7 ⟨⟨q7, rfl, hq7⟩, hb7⟩; go_simp; exact hk.out _ _ ⟨_, rfl, hq7⟩ hb7)
  intro a1 x1 hbx1 hsame1 hG1 hsz hde1
  have o0 : a1.tmps[0]?.getD undef = v := (hsame1 0 (by decide +kernel)).trans f0
  have o4 : a1.tmps[4]?.getD undef = .pointer (some ⟨w.heap.size, 0, none⟩) := (hsame1 4 (by decide +kernel)).trans f4
  have o5 : a1.tmps[5]?.getD undef = .pointer (some ⟨w.heap.size + 1, 0, none⟩) := (hsame1 5 (by decide +kernel)).trans f5
  have o6 : a1.tmps[6]?.getD undef = .bool false := (hsame1 6 (by decide +kernel)).trans f6
  have f19 : a1.tmps[19]?.getD undef = .bool true := hG1 0 (by decide)
  have f20 : a1.tmps[20]?.getD undef = .bool false := hG1 1 (by decide)
  have f21 : a1.tmps[21]?.getD undef = .bool false := hG1 2 (by decide)
  have f22 : a1.tmps[22]?.getD undef = v := hG1 3 (by decide)
  obtain ⟨q, f23, hq⟩ : ∃ q, a1.tmps[23]?.getD undef = .bool q ∧ (q = true → FitsV L) := hG1 4 (by decide)
  have Hq := Lib.hid hq
  have Hb1 := Lib.hid hbx1
  have hde : a1.defers = [] := hde1.trans hde3.out
  clear hsame1 hG1 hq hbx1 hde1 f0 f4 f5 f6 hde3 hsz3
  obtain ⟨C2, hC2⟩ : ∃ c, c = decide ((300 : Int) < (X.data.length : Int)) := ⟨_, rfl⟩
  have HC2 := Lib.hid hC2
  replace hC2 := hC2.symm
  obtain ⟨C3, hC3⟩ : ∃ c, c = decide ((300 : Int) < (Y.data.length : Int)) := ⟨_, rfl⟩
  have HC3 := Lib.hid hC3
  replace hC3 := hC3.symm
  obtain ⟨C4, hC4⟩ : ∃ c, c = sameI X.rep X.seq Y.rep Y.seq := ⟨_, rfl⟩
  have HC4 := Lib.hid hC4
  replace hC4 := hC4.symm
  obtain ⟨C5, hC5⟩ : ∃ c, c = decide (X.rep < 1) := ⟨_, rfl⟩
  have HC5 := Lib.hid hC5
  replace hC5 := hC5.symm
  obtain ⟨C6, hC6⟩ : ∃ c, c = decide (8 < X.rep) := ⟨_, rfl⟩
  have HC6 := Lib.hid hC6
  replace hC6 := hC6.symm
  obtain ⟨C7, hC7⟩ : ∃ c, c = decide (Y.rep < 1) := ⟨_, rfl⟩
  have HC7 := Lib.hid hC7
  replace hC7 := hC7.symm
  obtain ⟨C8, hC8⟩ : ∃ c, c = decide (8 < Y.rep) := ⟨_, rfl⟩
  have HC8 := Lib.hid hC8
  replace hC8 := hC8.symm
  obtain ⟨C9, hC9⟩ : ∃ c, c = decide ((X.seq : Int) < 1) := ⟨_, rfl⟩
  have HC9 := Lib.hid hC9
  have kC9 : decide (X.seq = 0) = C9 := by rw [hC9]; exact decide_eq_decide.2 (by omega)
  replace hC9 := hC9.symm
  obtain ⟨C10, hC10⟩ : ∃ c, c = decide ((Y.seq : Int) < 1) := ⟨_, rfl⟩
  have HC10 := Lib.hid hC10
  have kC10 : decide (Y.seq = 0) = C10 := by rw [hC10]; exact decide_eq_decide.2 (by omega)
  replace hC10 := hC10.symm
  have heq := Heq.out
  rw [He3.out, hC4] at heq
  clear Heq
  obtain ⟨B1, hB1⟩ : ∃ c, c = !q := ⟨_, rfl⟩
  have HB1 := Lib.hid hB1
  clear hB1
  obtain ⟨B2, hB2⟩ : ∃ c, c = (B1 || C2) := ⟨_, rfl⟩
  have HB2 := Lib.hid hB2
  clear hB2
  obtain ⟨B3, hB3⟩ : ∃ c, c = (B2 || C3) := ⟨_, rfl⟩
  have HB3 := Lib.hid hB3
  clear hB3
  obtain ⟨B4, hB4⟩ : ∃ c, c = (B3 || C4) := ⟨_, rfl⟩
  have HB4 := Lib.hid hB4
  clear hB4
  obtain ⟨B5, hB5⟩ : ∃ c, c = (B4 || C5) := ⟨_, rfl⟩
  have HB5 := Lib.hid hB5
  clear hB5
  obtain ⟨B6, hB6⟩ : ∃ c, c = (B5 || C6) := ⟨_, rfl⟩
  have HB6 := Lib.hid hB6
  clear hB6
  obtain ⟨B7, hB7⟩ : ∃ c, c = (B6 || C7) := ⟨_, rfl⟩
  have HB7 := Lib.hid hB7
  clear hB7
  obtain ⟨B8, hB8⟩ : ∃ c, c = (B7 || C8) := ⟨_, rfl⟩
  have HB8 := Lib.hid hB8
  clear hB8
  obtain ⟨B9, hB9⟩ : ∃ c, c = (B8 || C9) := ⟨_, rfl⟩
  have HB9 := Lib.hid hB9
  clear hB9
  obtain ⟨B10, hB10⟩ : ∃ c, c = (B9 || C10) := ⟨_, rfl⟩
  have HB10 := Lib.hid hB10
  clear hB10
  refine wpList_seg 5 62 (vhG2 v X Y IA IB w.heap.size q B1 B2 B3 B4 B5 B6 B7 B8 B9 B10 C2 C3 C4 C5 C6 C7 C8 C9 C10) 183 (by decide) (by decide) (by kernel_rfl) (by kernel_rfl) hsz ?_ ?_ ?_ ?_
  · intro t v7 x' x2 h hb hb'
    unfold vhG2 at *
    split at h <;> first | exact h | exact h.grow hb'
  · intro j hj; rcases (show j = 0 ∨ j = 1 ∨ j = 2 ∨ j = 3 ∨ j = 4 by omega) with rfl | rfl | rfl | rfl | rfl <;> first | exact f19 | exact f20 | exact f21 | exact f22 | exact f23
  · intro i o hki him hi a x hbx hsame hpre K hK
    rcases (show i = 5 ∨ i = 6 ∨ i = 7 ∨ i = 8 ∨ i = 9 ∨ i = 10 ∨ i = 11 ∨ i = 12 ∨ i = 13 ∨ i = 14 ∨ i = 15 ∨ i = 16 ∨ i = 17 ∨ i = 18 ∨ i = 19 ∨ i = 20 ∨ i = 21 ∨ i = 22 ∨ i = 23 ∨ i = 24 ∨ i = 25 ∨ i = 26 ∨ i = 27 ∨ i = 28 ∨ i = 29 ∨ i = 30 ∨ i = 31 ∨ i = 32 ∨ i = 33 ∨ i = 34 ∨ i = 35 ∨ i = 36 ∨ i = 37 ∨ i = 38 ∨ i = 39 ∨ i = 40 ∨ i = 41 ∨ i = 42 ∨ i = 43 ∨ i = 44 ∨ i = 45 ∨ i = 46 ∨ i = 47 ∨ i = 48 ∨ i = 49 ∨ i = 50 ∨ i = 51 ∨ i = 52 ∨ i = 53 ∨ i = 54 ∨ i = 55 ∨ i = 56 ∨ i = 57 ∨ i = 58 ∨ i = 59 ∨ i = 60 ∨ i = 61 by omega) with rfl | rfl | rfl | rfl | rfl | rfl | rfl | rfl | rfl | rfl | rfl | rfl | rfl | rfl | rfl | rfl | rfl | rfl | rfl | rfl | rfl | rfl | rfl | rfl | rfl | rfl | rfl | rfl | rfl | rfl | rfl | rfl | rfl | rfl | rfl | rfl | rfl | rfl | rfl | rfl | rfl | rfl | rfl | rfl | rfl | rfl | rfl | rfl | rfl | rfl | rfl | rfl | rfl | rfl | rfl | rfl | rfl
    all_goals (have ho := Option.some.inj hi; subst ho; clear hi hki him)
    · have q23 : vhG2 v X Y IA IB w.heap.size q B1 B2 B3 B4 B5 B6 B7 B8 B9 B10 C2 C3 C4 C5 C6 C7 C8 C9 C10 23 (a.tmps[23]?.getD undef) x := hpre 4 (by decide)
      have q21 : vhG2 v X Y IA IB w.heap.size q B1 B2 B3 B4 B5 B6 B7 B8 B9 B10 C2 C3 C4 C5 C6 C7 C8 C9 C10 21 (a.tmps[21]?.getD undef) x := hpre 2 (by decide)
      have hk := Lib.hid (show ∀ v7 x', vhG2 v X Y IA IB w.heap.size q B1 B2 B3 B4 B5 B6 B7 B8 B9 B10 C2 C3 C4 C5 C6 C7 C8 C9 C10 24 v7 x' → Below x.heap.size x x' → K (a.put (some 24) v7) x' from hK)
      have Hbx := Lib.hid hbx
      clear hsame hpre hK hbx
      all_goals first | (refine step_left (not_wanted (j := 2) (t := 21) (b := false) rfl rfl (by first | exact Or.inr q21 | exact Or.inl q21)) ?_; exact hk.out _ _ rfl (Below.refl _ _)) | (refine step_wanted (wanted_of (j := 2) (t := 21) (b := false) rfl rfl q21) ?_; replace q23 : a.tmps[23]?.getD undef = _ := q23; go_simp; exact hk.out _ _ (by show Value.bool _ = .bool B1; rw [HB1.out]) (Below.refl _ _))
    · have q21 : vhG2 v X Y IA IB w.heap.size q B1 B2 B3 B4 B5 B6 B7 B8 B9 B10 C2 C3 C4 C5 C6 C7 C8 C9 C10 21 (a.tmps[21]?.getD undef) x := hpre 2 (by decide)
      have q24 : vhG2 v X Y IA IB w.heap.size q B1 B2 B3 B4 B5 B6 B7 B8 B9 B10 C2 C3 C4 C5 C6 C7 C8 C9 C10 24 (a.tmps[24]?.getD undef) x := hpre 5 (by decide)
      have hk := Lib.hid (show ∀ v7 x', vhG2 v X Y IA IB w.heap.size q B1 B2 B3 B4 B5 B6 B7 B8 B9 B10 C2 C3 C4 C5 C6 C7 C8 C9 C10 25 v7 x' → Below x.heap.size x x' → K (a.put (some 25) v7) x' from hK)
      have Hbx := Lib.hid hbx
      clear hsame hpre hK hbx
      all_goals (refine step_plain rfl ?_; replace q21 : a.tmps[21]?.getD undef = _ := q21; replace q24 : a.tmps[24]?.getD undef = _ := q24; go_simp; exact hk.out _ _ rfl (Below.refl _ _))
    · have q25 : vhG2 v X Y IA IB w.heap.size q B1 B2 B3 B4 B5 B6 B7 B8 B9 B10 C2 C3 C4 C5 C6 C7 C8 C9 C10 25 (a.tmps[25]?.getD undef) x := hpre 6 (by decide)
      have hk := Lib.hid (show ∀ v7 x', vhG2 v X Y IA IB w.heap.size q B1 B2 B3 B4 B5 B6 B7 B8 B9 B10 C2 C3 C4 C5 C6 C7 C8 C9 C10 26 v7 x' → Below x.heap.size x x' → K (a.put (some 26) v7) x' from hK)
      have Hbx := Lib.hid hbx
      clear hsame hpre hK hbx
      cases B1
      all_goals (refine step_plain rfl ?_; replace q25 : a.tmps[25]?.getD undef = _ := q25; go_simp; exact hk.out _ _ rfl (Below.refl _ _))
    · have q4 : a.tmps[4]?.getD undef = .pointer (some ⟨w.heap.size, 0, none⟩) := (hsame 4 (by decide +kernel)).trans o4
      have q26 : vhG2 v X Y IA IB w.heap.size q B1 B2 B3 B4 B5 B6 B7 B8 B9 B10 C2 C3 C4 C5 C6 C7 C8 C9 C10 26 (a.tmps[26]?.getD undef) x := hpre 7 (by decide)
      have hk := Lib.hid (show ∀ v7 x', vhG2 v X Y IA IB w.heap.size q B1 B2 B3 B4 B5 B6 B7 B8 B9 B10 C2 C3 C4 C5 C6 C7 C8 C9 C10 27 v7 x' → Below x.heap.size x x' → K (a.put (some 27) v7) x' from hK)
      have Hbx := Lib.hid hbx
      clear hsame hpre hK hbx
      cases B1
      all_goals first | (refine step_left (not_wanted (j := 7) (t := 26) (b := false) rfl rfl (by first | exact Or.inr q26 | exact Or.inl q26)) ?_; exact hk.out _ _ rfl (Below.refl _ _)) | (refine step_wanted (wanted_of (j := 7) (t := 26) (b := false) rfl rfl q26) ?_; go_simp; exact hk.out _ _ rfl (Below.refl _ _))
    · have q27 : vhG2 v X Y IA IB w.heap.size q B1 B2 B3 B4 B5 B6 B7 B8 B9 B10 C2 C3 C4 C5 C6 C7 C8 C9 C10 27 (a.tmps[27]?.getD undef) x := hpre 8 (by decide)
      have q26 : vhG2 v X Y IA IB w.heap.size q B1 B2 B3 B4 B5 B6 B7 B8 B9 B10 C2 C3 C4 C5 C6 C7 C8 C9 C10 26 (a.tmps[26]?.getD undef) x := hpre 7 (by decide)
      have hk := Lib.hid (show ∀ v7 x', vhG2 v X Y IA IB w.heap.size q B1 B2 B3 B4 B5 B6 B7 B8 B9 B10 C2 C3 C4 C5 C6 C7 C8 C9 C10 28 v7 x' → Below x.heap.size x x' → K (a.put (some 28) v7) x' from hK)
      have Hbx := Lib.hid hbx
      clear hsame hpre hK hbx
      cases B1
      all_goals first | (refine step_left (not_wanted (j := 7) (t := 26) (b := false) rfl rfl (by first | exact Or.inr q26 | exact Or.inl q26)) ?_; exact hk.out _ _ rfl (Below.refl _ _)) | (refine step_wanted (wanted_of (j := 7) (t := 26) (b := false) rfl rfl q26) ?_; replace q27 : a.tmps[27]?.getD undef = _ := q27; obtain ⟨za, zb, zar, zas, zbr, zbs, RA, RB⟩ := HF.out x (below_call Hb1.out Hbx.out); go_simp; exact hk.out _ _ rfl (Below.refl _ _))
    · have q28 : vhG2 v X Y IA IB w.heap.size q B1 B2 B3 B4 B5 B6 B7 B8 B9 B10 C2 C3 C4 C5 C6 C7 C8 C9 C10 28 (a.tmps[28]?.getD undef) x := hpre 9 (by decide)
      have q26 : vhG2 v X Y IA IB w.heap.size q B1 B2 B3 B4 B5 B6 B7 B8 B9 B10 C2 C3 C4 C5 C6 C7 C8 C9 C10 26 (a.tmps[26]?.getD undef) x := hpre 7 (by decide)
      have hk := Lib.hid (show ∀ v7 x', vhG2 v X Y IA IB w.heap.size q B1 B2 B3 B4 B5 B6 B7 B8 B9 B10 C2 C3 C4 C5 C6 C7 C8 C9 C10 29 v7 x' → Below x.heap.size x x' → K (a.put (some 29) v7) x' from hK)
      have Hbx := Lib.hid hbx
      clear hsame hpre hK hbx
      cases B1
      all_goals first | (refine step_left (not_wanted (j := 7) (t := 26) (b := false) rfl rfl (by first | exact Or.inr q26 | exact Or.inl q26)) ?_; exact hk.out _ _ rfl (Below.refl _ _)) | (refine step_wanted (wanted_of (j := 7) (t := 26) (b := false) rfl rfl q26) ?_; replace q28 : a.tmps[28]?.getD undef = _ := q28; go_simp; exact hk.out _ _ rfl (Below.refl _ _))
    · have q29 : vhG2 v X Y IA IB w.heap.size q B1 B2 B3 B4 B5 B6 B7 B8 B9 B10 C2 C3 C4 C5 C6 C7 C8 C9 C10 29 (a.tmps[29]?.getD undef) x := hpre 10 (by decide)
      have q26 : vhG2 v X Y IA IB w.heap.size q B1 B2 B3 B4 B5 B6 B7 B8 B9 B10 C2 C3 C4 C5 C6 C7 C8 C9 C10 26 (a.tmps[26]?.getD undef) x := hpre 7 (by decide)
      have hk := Lib.hid (show ∀ v7 x', vhG2 v X Y IA IB w.heap.size q B1 B2 B3 B4 B5 B6 B7 B8 B9 B10 C2 C3 C4 C5 C6 C7 C8 C9 C10 30 v7 x' → Below x.heap.size x x' → K (a.put (some 30) v7) x' from hK)
      have Hbx := Lib.hid hbx
      clear hsame hpre hK hbx
      cases B1
      all_goals first | (refine step_left (not_wanted (j := 7) (t := 26) (b := false) rfl rfl (by first | exact Or.inr q26 | exact Or.inl q26)) ?_; exact hk.out _ _ rfl (Below.refl _ _)) | (refine step_wanted (wanted_of (j := 7) (t := 26) (b := false) rfl rfl q26) ?_; replace q29 : a.tmps[29]?.getD undef = _ := q29; go_simp; exact hk.out _ _ rfl (Below.refl _ _))
    · have q26 : vhG2 v X Y IA IB w.heap.size q B1 B2 B3 B4 B5 B6 B7 B8 B9 B10 C2 C3 C4 C5 C6 C7 C8 C9 C10 26 (a.tmps[26]?.getD undef) x := hpre 7 (by decide)
      have q30 : vhG2 v X Y IA IB w.heap.size q B1 B2 B3 B4 B5 B6 B7 B8 B9 B10 C2 C3 C4 C5 C6 C7 C8 C9 C10 30 (a.tmps[30]?.getD undef) x := hpre 11 (by decide)
      have hk := Lib.hid (show ∀ v7 x', vhG2 v X Y IA IB w.heap.size q B1 B2 B3 B4 B5 B6 B7 B8 B9 B10 C2 C3 C4 C5 C6 C7 C8 C9 C10 31 v7 x' → Below x.heap.size x x' → K (a.put (some 31) v7) x' from hK)
      have Hbx := Lib.hid hbx
      clear hsame hpre hK hbx
      cases B1
      all_goals (refine step_plain rfl ?_; replace q26 : a.tmps[26]?.getD undef = _ := q26; replace q30 : a.tmps[30]?.getD undef = _ := q30; go_simp; exact hk.out _ _ (by show Value.bool _ = .bool B2; rw [HB2.out]; rfl) (Below.refl _ _))
    · have q31 : vhG2 v X Y IA IB w.heap.size q B1 B2 B3 B4 B5 B6 B7 B8 B9 B10 C2 C3 C4 C5 C6 C7 C8 C9 C10 31 (a.tmps[31]?.getD undef) x := hpre 12 (by decide)
      have hk := Lib.hid (show ∀ v7 x', vhG2 v X Y IA IB w.heap.size q B1 B2 B3 B4 B5 B6 B7 B8 B9 B10 C2 C3 C4 C5 C6 C7 C8 C9 C10 32 v7 x' → Below x.heap.size x x' → K (a.put (some 32) v7) x' from hK)
      have Hbx := Lib.hid hbx
      clear hsame hpre hK hbx
      cases B2
      all_goals (refine step_plain rfl ?_; replace q31 : a.tmps[31]?.getD undef = _ := q31; go_simp; exact hk.out _ _ rfl (Below.refl _ _))
    · have q5 : a.tmps[5]?.getD undef = .pointer (some ⟨w.heap.size + 1, 0, none⟩) := (hsame 5 (by decide +kernel)).trans o5
      have q32 : vhG2 v X Y IA IB w.heap.size q B1 B2 B3 B4 B5 B6 B7 B8 B9 B10 C2 C3 C4 C5 C6 C7 C8 C9 C10 32 (a.tmps[32]?.getD undef) x := hpre 13 (by decide)
      have hk := Lib.hid (show ∀ v7 x', vhG2 v X Y IA IB w.heap.size q B1 B2 B3 B4 B5 B6 B7 B8 B9 B10 C2 C3 C4 C5 C6 C7 C8 C9 C10 33 v7 x' → Below x.heap.size x x' → K (a.put (some 33) v7) x' from hK)
      have Hbx := Lib.hid hbx
      clear hsame hpre hK hbx
      cases B2
      all_goals first | (refine step_left (not_wanted (j := 13) (t := 32) (b := false) rfl rfl (by first | exact Or.inr q32 | exact Or.inl q32)) ?_; exact hk.out _ _ rfl (Below.refl _ _)) | (refine step_wanted (wanted_of (j := 13) (t := 32) (b := false) rfl rfl q32) ?_; go_simp; exact hk.out _ _ rfl (Below.refl _ _))
    · have q33 : vhG2 v X Y IA IB w.heap.size q B1 B2 B3 B4 B5 B6 B7 B8 B9 B10 C2 C3 C4 C5 C6 C7 C8 C9 C10 33 (a.tmps[33]?.getD undef) x := hpre 14 (by decide)
      have q32 : vhG2 v X Y IA IB w.heap.size q B1 B2 B3 B4 B5 B6 B7 B8 B9 B10 C2 C3 C4 C5 C6 C7 C8 C9 C10 32 (a.tmps[32]?.getD undef) x := hpre 13 (by decide)
      have hk := Lib.hid (show ∀ v7 x', vhG2 v X Y IA IB w.heap.size q B1 B2 B3 B4 B5 B6 B7 B8 B9 B10 C2 C3 C4 C5 C6 C7 C8 C9 C10 34 v7 x' → Below x.heap.size x x' → K (a.put (some 34) v7) x' from hK)
      have Hbx := Lib.hid hbx
      clear hsame hpre hK hbx
      cases B2
      all_goals first | (refine step_left (not_wanted (j := 13) (t := 32) (b := false) rfl rfl (by first | exact Or.inr q32 | exact Or.inl q32)) ?_; exact hk.out _ _ rfl (Below.refl _ _)) | (refine step_wanted (wanted_of (j := 13) (t := 32) (b := false) rfl rfl q32) ?_; replace q33 : a.tmps[33]?.getD undef = _ := q33; obtain ⟨za, zb, zar, zas, zbr, zbs, RA, RB⟩ := HF.out x (below_call Hb1.out Hbx.out); go_simp; exact hk.out _ _ rfl (Below.refl _ _))
    · have q34 : vhG2 v X Y IA IB w.heap.size q B1 B2 B3 B4 B5 B6 B7 B8 B9 B10 C2 C3 C4 C5 C6 C7 C8 C9 C10 34 (a.tmps[34]?.getD undef) x := hpre 15 (by decide)
      have q32 : vhG2 v X Y IA IB w.heap.size q B1 B2 B3 B4 B5 B6 B7 B8 B9 B10 C2 C3 C4 C5 C6 C7 C8 C9 C10 32 (a.tmps[32]?.getD undef) x := hpre 13 (by decide)
      have hk := Lib.hid (show ∀ v7 x', vhG2 v X Y IA IB w.heap.size q B1 B2 B3 B4 B5 B6 B7 B8 B9 B10 C2 C3 C4 C5 C6 C7 C8 C9 C10 35 v7 x' → Below x.heap.size x x' → K (a.put (some 35) v7) x' from hK)
      have Hbx := Lib.hid hbx
      clear hsame hpre hK hbx
      cases B2
      all_goals first | (refine step_left (not_wanted (j := 13) (t := 32) (b := false) rfl rfl (by first | exact Or.inr q32 | exact Or.inl q32)) ?_; exact hk.out _ _ rfl (Below.refl _ _)) | (refine step_wanted (wanted_of (j := 13) (t := 32) (b := false) rfl rfl q32) ?_; replace q34 : a.tmps[34]?.getD undef = _ := q34; go_simp; exact hk.out _ _ rfl (Below.refl _ _))
    · have q35 : vhG2 v X Y IA IB w.heap.size q B1 B2 B3 B4 B5 B6 B7 B8 B9 B10 C2 C3 C4 C5 C6 C7 C8 C9 C10 35 (a.tmps[35]?.getD undef) x := hpre 16 (by decide)
      have q32 : vhG2 v X Y IA IB w.heap.size q B1 B2 B3 B4 B5 B6 B7 B8 B9 B10 C2 C3 C4 C5 C6 C7 C8 C9 C10 32 (a.tmps[32]?.getD undef) x := hpre 13 (by decide)
      have hk := Lib.hid (show ∀ v7 x', vhG2 v X Y IA IB w.heap.size q B1 B2 B3 B4 B5 B6 B7 B8 B9 B10 C2 C3 C4 C5 C6 C7 C8 C9 C10 36 v7 x' → Below x.heap.size x x' → K (a.put (some 36) v7) x' from hK)
      have Hbx := Lib.hid hbx
      clear hsame hpre hK hbx
      cases B2
      all_goals first | (refine step_left (not_wanted (j := 13) (t := 32) (b := false) rfl rfl (by first | exact Or.inr q32 | exact Or.inl q32)) ?_; exact hk.out _ _ rfl (Below.refl _ _)) | (refine step_wanted (wanted_of (j := 13) (t := 32) (b := false) rfl rfl q32) ?_; replace q35 : a.tmps[35]?.getD undef = _ := q35; go_simp; exact hk.out _ _ rfl (Below.refl _ _))
    · have q32 : vhG2 v X Y IA IB w.heap.size q B1 B2 B3 B4 B5 B6 B7 B8 B9 B10 C2 C3 C4 C5 C6 C7 C8 C9 C10 32 (a.tmps[32]?.getD undef) x := hpre 13 (by decide)
      have q36 : vhG2 v X Y IA IB w.heap.size q B1 B2 B3 B4 B5 B6 B7 B8 B9 B10 C2 C3 C4 C5 C6 C7 C8 C9 C10 36 (a.tmps[36]?.getD undef) x := hpre 17 (by decide)
      have hk := Lib.hid (show ∀ v7 x', vhG2 v X Y IA IB w.heap.size q B1 B2 B3 B4 B5 B6 B7 B8 B9 B10 C2 C3 C4 C5 C6 C7 C8 C9 C10 37 v7 x' → Below x.heap.size x x' → K (a.put (some 37) v7) x' from hK)
      have Hbx := Lib.hid hbx
      clear hsame hpre hK hbx
      cases B2
      all_goals (refine step_plain rfl ?_; replace q32 : a.tmps[32]?.getD undef = _ := q32; replace q36 : a.tmps[36]?.getD undef = _ := q36; go_simp; exact hk.out _ _ (by show Value.bool _ = .bool B3; rw [HB3.out]; rfl) (Below.refl _ _))
    · have q37 : vhG2 v X Y IA IB w.heap.size q B1 B2 B3 B4 B5 B6 B7 B8 B9 B10 C2 C3 C4 C5 C6 C7 C8 C9 C10 37 (a.tmps[37]?.getD undef) x := hpre 18 (by decide)
      have hk := Lib.hid (show ∀ v7 x', vhG2 v X Y IA IB w.heap.size q B1 B2 B3 B4 B5 B6 B7 B8 B9 B10 C2 C3 C4 C5 C6 C7 C8 C9 C10 38 v7 x' → Below x.heap.size x x' → K (a.put (some 38) v7) x' from hK)
      have Hbx := Lib.hid hbx
      clear hsame hpre hK hbx
      cases B3
      all_goals (refine step_plain rfl ?_; replace q37 : a.tmps[37]?.getD undef = _ := q37; go_simp; exact hk.out _ _ rfl (Below.refl _ _))
    · have q4 : a.tmps[4]?.getD undef = .pointer (some ⟨w.heap.size, 0, none⟩) := (hsame 4 (by decide +kernel)).trans o4
      have q38 : vhG2 v X Y IA IB w.heap.size q B1 B2 B3 B4 B5 B6 B7 B8 B9 B10 C2 C3 C4 C5 C6 C7 C8 C9 C10 38 (a.tmps[38]?.getD undef) x := hpre 19 (by decide)
      have hk := Lib.hid (show ∀ v7 x', vhG2 v X Y IA IB w.heap.size q B1 B2 B3 B4 B5 B6 B7 B8 B9 B10 C2 C3 C4 C5 C6 C7 C8 C9 C10 39 v7 x' → Below x.heap.size x x' → K (a.put (some 39) v7) x' from hK)
      have Hbx := Lib.hid hbx
      clear hsame hpre hK hbx
      cases B3
      all_goals first | (refine step_left (not_wanted (j := 19) (t := 38) (b := false) rfl rfl (by first | exact Or.inr q38 | exact Or.inl q38)) ?_; exact hk.out _ _ rfl (Below.refl _ _)) | (refine step_wanted (wanted_of (j := 19) (t := 38) (b := false) rfl rfl q38) ?_; go_simp; exact hk.out _ _ rfl (Below.refl _ _))
    · have q39 : vhG2 v X Y IA IB w.heap.size q B1 B2 B3 B4 B5 B6 B7 B8 B9 B10 C2 C3 C4 C5 C6 C7 C8 C9 C10 39 (a.tmps[39]?.getD undef) x := hpre 20 (by decide)
      have q38 : vhG2 v X Y IA IB w.heap.size q B1 B2 B3 B4 B5 B6 B7 B8 B9 B10 C2 C3 C4 C5 C6 C7 C8 C9 C10 38 (a.tmps[38]?.getD undef) x := hpre 19 (by decide)
      have hk := Lib.hid (show ∀ v7 x', vhG2 v X Y IA IB w.heap.size q B1 B2 B3 B4 B5 B6 B7 B8 B9 B10 C2 C3 C4 C5 C6 C7 C8 C9 C10 40 v7 x' → Below x.heap.size x x' → K (a.put (some 40) v7) x' from hK)
      have Hbx := Lib.hid hbx
      clear hsame hpre hK hbx
      cases B3
      all_goals first | (refine step_left (not_wanted (j := 19) (t := 38) (b := false) rfl rfl (by first | exact Or.inr q38 | exact Or.inl q38)) ?_; exact hk.out _ _ rfl (Below.refl _ _)) | (refine step_wanted (wanted_of (j := 19) (t := 38) (b := false) rfl rfl q38) ?_; replace q39 : a.tmps[39]?.getD undef = _ := q39; obtain ⟨za, zb, zar, zas, zbr, zbs, RA, RB⟩ := HF.out x (below_call Hb1.out Hbx.out); refine wp_load_mid 35 (.tmp 39) rfl w.heap.size 0 (eval_at q39) IA.toList _ RA Try.underlying35 rfl HinfA.out ?_; exact hk.out _ _ rfl (Below.refl _ _))
    · have q5 : a.tmps[5]?.getD undef = .pointer (some ⟨w.heap.size + 1, 0, none⟩) := (hsame 5 (by decide +kernel)).trans o5
      have q38 : vhG2 v X Y IA IB w.heap.size q B1 B2 B3 B4 B5 B6 B7 B8 B9 B10 C2 C3 C4 C5 C6 C7 C8 C9 C10 38 (a.tmps[38]?.getD undef) x := hpre 19 (by decide)
      have hk := Lib.hid (show ∀ v7 x', vhG2 v X Y IA IB w.heap.size q B1 B2 B3 B4 B5 B6 B7 B8 B9 B10 C2 C3 C4 C5 C6 C7 C8 C9 C10 41 v7 x' → Below x.heap.size x x' → K (a.put (some 41) v7) x' from hK)
      have Hbx := Lib.hid hbx
      clear hsame hpre hK hbx
      cases B3
      all_goals first | (refine step_left (not_wanted (j := 19) (t := 38) (b := false) rfl rfl (by first | exact Or.inr q38 | exact Or.inl q38)) ?_; exact hk.out _ _ rfl (Below.refl _ _)) | (refine step_wanted (wanted_of (j := 19) (t := 38) (b := false) rfl rfl q38) ?_; go_simp; exact hk.out _ _ rfl (Below.refl _ _))
    · have q41 : vhG2 v X Y IA IB w.heap.size q B1 B2 B3 B4 B5 B6 B7 B8 B9 B10 C2 C3 C4 C5 C6 C7 C8 C9 C10 41 (a.tmps[41]?.getD undef) x := hpre 22 (by decide)
      have q38 : vhG2 v X Y IA IB w.heap.size q B1 B2 B3 B4 B5 B6 B7 B8 B9 B10 C2 C3 C4 C5 C6 C7 C8 C9 C10 38 (a.tmps[38]?.getD undef) x := hpre 19 (by decide)
      have hk := Lib.hid (show ∀ v7 x', vhG2 v X Y IA IB w.heap.size q B1 B2 B3 B4 B5 B6 B7 B8 B9 B10 C2 C3 C4 C5 C6 C7 C8 C9 C10 42 v7 x' → Below x.heap.size x x' → K (a.put (some 42) v7) x' from hK)
      have Hbx := Lib.hid hbx
      clear hsame hpre hK hbx
      cases B3
      all_goals first | (refine step_left (not_wanted (j := 19) (t := 38) (b := false) rfl rfl (by first | exact Or.inr q38 | exact Or.inl q38)) ?_; exact hk.out _ _ rfl (Below.refl _ _)) | (refine step_wanted (wanted_of (j := 19) (t := 38) (b := false) rfl rfl q38) ?_; replace q41 : a.tmps[41]?.getD undef = _ := q41; obtain ⟨za, zb, zar, zas, zbr, zbs, RA, RB⟩ := HF.out x (below_call Hb1.out Hbx.out); refine wp_load_mid 35 (.tmp 41) rfl (w.heap.size + 1) 0 (eval_at q41) IB.toList _ RB Try.underlying35 rfl HinfB.out ?_; exact hk.out _ _ rfl (Below.refl _ _))
    · have q40 : vhG2 v X Y IA IB w.heap.size q B1 B2 B3 B4 B5 B6 B7 B8 B9 B10 C2 C3 C4 C5 C6 C7 C8 C9 C10 40 (a.tmps[40]?.getD undef) x := hpre 21 (by decide)
      have q42 : vhG2 v X Y IA IB w.heap.size q B1 B2 B3 B4 B5 B6 B7 B8 B9 B10 C2 C3 C4 C5 C6 C7 C8 C9 C10 42 (a.tmps[42]?.getD undef) x := hpre 23 (by decide)
      have q38 : vhG2 v X Y IA IB w.heap.size q B1 B2 B3 B4 B5 B6 B7 B8 B9 B10 C2 C3 C4 C5 C6 C7 C8 C9 C10 38 (a.tmps[38]?.getD undef) x := hpre 19 (by decide)
      have hk := Lib.hid (show ∀ v7 x', vhG2 v X Y IA IB w.heap.size q B1 B2 B3 B4 B5 B6 B7 B8 B9 B10 C2 C3 C4 C5 C6 C7 C8 C9 C10 43 v7 x' → Below x.heap.size x x' → K (a.put (some 43) v7) x' from hK)
      have Hbx := Lib.hid hbx
      clear hsame hpre hK hbx
      cases B3
      all_goals first | (refine step_left (not_wanted (j := 19) (t := 38) (b := false) rfl rfl (by first | exact Or.inr q38 | exact Or.inl q38)) ?_; exact hk.out _ _ rfl (Below.refl _ _)) | (refine step_wanted (wanted_of (j := 19) (t := 38) (b := false) rfl rfl q38) ?_; replace q40 : a.tmps[40]?.getD undef = _ := q40; replace q42 : a.tmps[42]?.getD undef = _ := q42; go_simp; exact hk.out _ _ rfl (Below.refl _ _))
    · have q38 : vhG2 v X Y IA IB w.heap.size q B1 B2 B3 B4 B5 B6 B7 B8 B9 B10 C2 C3 C4 C5 C6 C7 C8 C9 C10 38 (a.tmps[38]?.getD undef) x := hpre 19 (by decide)
      have q43 : vhG2 v X Y IA IB w.heap.size q B1 B2 B3 B4 B5 B6 B7 B8 B9 B10 C2 C3 C4 C5 C6 C7 C8 C9 C10 43 (a.tmps[43]?.getD undef) x := hpre 24 (by decide)
      have hk := Lib.hid (show ∀ v7 x', vhG2 v X Y IA IB w.heap.size q B1 B2 B3 B4 B5 B6 B7 B8 B9 B10 C2 C3 C4 C5 C6 C7 C8 C9 C10 44 v7 x' → Below x.heap.size x x' → K (a.put (some 44) v7) x' from hK)
      have Hbx := Lib.hid hbx
      clear hsame hpre hK hbx
      cases B3
      all_goals (refine step_plain rfl ?_; replace q38 : a.tmps[38]?.getD undef = _ := q38; replace q43 : a.tmps[43]?.getD undef = _ := q43; go_simp; exact hk.out _ _ (by show Value.bool _ = .bool B4; rw [HB4.out]; rfl) (Below.refl _ _))
    · have q44 : vhG2 v X Y IA IB w.heap.size q B1 B2 B3 B4 B5 B6 B7 B8 B9 B10 C2 C3 C4 C5 C6 C7 C8 C9 C10 44 (a.tmps[44]?.getD undef) x := hpre 25 (by decide)
      have hk := Lib.hid (show ∀ v7 x', vhG2 v X Y IA IB w.heap.size q B1 B2 B3 B4 B5 B6 B7 B8 B9 B10 C2 C3 C4 C5 C6 C7 C8 C9 C10 45 v7 x' → Below x.heap.size x x' → K (a.put (some 45) v7) x' from hK)
      have Hbx := Lib.hid hbx
      clear hsame hpre hK hbx
      cases B4
      all_goals (refine step_plain rfl ?_; replace q44 : a.tmps[44]?.getD undef = _ := q44; go_simp; exact hk.out _ _ rfl (Below.refl _ _))
    · have q4 : a.tmps[4]?.getD undef = .pointer (some ⟨w.heap.size, 0, none⟩) := (hsame 4 (by decide +kernel)).trans o4
      have q45 : vhG2 v X Y IA IB w.heap.size q B1 B2 B3 B4 B5 B6 B7 B8 B9 B10 C2 C3 C4 C5 C6 C7 C8 C9 C10 45 (a.tmps[45]?.getD undef) x := hpre 26 (by decide)
      have hk := Lib.hid (show ∀ v7 x', vhG2 v X Y IA IB w.heap.size q B1 B2 B3 B4 B5 B6 B7 B8 B9 B10 C2 C3 C4 C5 C6 C7 C8 C9 C10 46 v7 x' → Below x.heap.size x x' → K (a.put (some 46) v7) x' from hK)
      have Hbx := Lib.hid hbx
      clear hsame hpre hK hbx
      cases B4
      all_goals first | (refine step_left (not_wanted (j := 26) (t := 45) (b := false) rfl rfl (by first | exact Or.inr q45 | exact Or.inl q45)) ?_; exact hk.out _ _ rfl (Below.refl _ _)) | (refine step_wanted (wanted_of (j := 26) (t := 45) (b := false) rfl rfl q45) ?_; go_simp; exact hk.out _ _ rfl (Below.refl _ _))
    · have q46 : vhG2 v X Y IA IB w.heap.size q B1 B2 B3 B4 B5 B6 B7 B8 B9 B10 C2 C3 C4 C5 C6 C7 C8 C9 C10 46 (a.tmps[46]?.getD undef) x := hpre 27 (by decide)
      have q45 : vhG2 v X Y IA IB w.heap.size q B1 B2 B3 B4 B5 B6 B7 B8 B9 B10 C2 C3 C4 C5 C6 C7 C8 C9 C10 45 (a.tmps[45]?.getD undef) x := hpre 26 (by decide)
      have hk := Lib.hid (show ∀ v7 x', vhG2 v X Y IA IB w.heap.size q B1 B2 B3 B4 B5 B6 B7 B8 B9 B10 C2 C3 C4 C5 C6 C7 C8 C9 C10 47 v7 x' → Below x.heap.size x x' → K (a.put (some 47) v7) x' from hK)
      have Hbx := Lib.hid hbx
      clear hsame hpre hK hbx
      cases B4
      all_goals first | (refine step_left (not_wanted (j := 26) (t := 45) (b := false) rfl rfl (by first | exact Or.inr q45 | exact Or.inl q45)) ?_; exact hk.out _ _ rfl (Below.refl _ _)) | (refine step_wanted (wanted_of (j := 26) (t := 45) (b := false) rfl rfl q45) ?_; replace q46 : a.tmps[46]?.getD undef = _ := q46; go_simp; exact hk.out _ _ rfl (Below.refl _ _))
    · have q47 : vhG2 v X Y IA IB w.heap.size q B1 B2 B3 B4 B5 B6 B7 B8 B9 B10 C2 C3 C4 C5 C6 C7 C8 C9 C10 47 (a.tmps[47]?.getD undef) x := hpre 28 (by decide)
      have q45 : vhG2 v X Y IA IB w.heap.size q B1 B2 B3 B4 B5 B6 B7 B8 B9 B10 C2 C3 C4 C5 C6 C7 C8 C9 C10 45 (a.tmps[45]?.getD undef) x := hpre 26 (by decide)
      have hk := Lib.hid (show ∀ v7 x', vhG2 v X Y IA IB w.heap.size q B1 B2 B3 B4 B5 B6 B7 B8 B9 B10 C2 C3 C4 C5 C6 C7 C8 C9 C10 48 v7 x' → Below x.heap.size x x' → K (a.put (some 48) v7) x' from hK)
      have Hbx := Lib.hid hbx
      clear hsame hpre hK hbx
      cases B4
      all_goals first | (refine step_left (not_wanted (j := 26) (t := 45) (b := false) rfl rfl (by first | exact Or.inr q45 | exact Or.inl q45)) ?_; exact hk.out _ _ rfl (Below.refl _ _)) | (refine step_wanted (wanted_of (j := 26) (t := 45) (b := false) rfl rfl q45) ?_; replace q47 : a.tmps[47]?.getD undef = _ := q47; obtain ⟨za, zb, zar, zas, zbr, zbs, RA, RB⟩ := HF.out x (below_call Hb1.out Hbx.out); go_simp; exact hk.out _ _ rfl (Below.refl _ _))
    · have q48 : vhG2 v X Y IA IB w.heap.size q B1 B2 B3 B4 B5 B6 B7 B8 B9 B10 C2 C3 C4 C5 C6 C7 C8 C9 C10 48 (a.tmps[48]?.getD undef) x := hpre 29 (by decide)
      have q45 : vhG2 v X Y IA IB w.heap.size q B1 B2 B3 B4 B5 B6 B7 B8 B9 B10 C2 C3 C4 C5 C6 C7 C8 C9 C10 45 (a.tmps[45]?.getD undef) x := hpre 26 (by decide)
      have hk := Lib.hid (show ∀ v7 x', vhG2 v X Y IA IB w.heap.size q B1 B2 B3 B4 B5 B6 B7 B8 B9 B10 C2 C3 C4 C5 C6 C7 C8 C9 C10 49 v7 x' → Below x.heap.size x x' → K (a.put (some 49) v7) x' from hK)
      have Hbx := Lib.hid hbx
      clear hsame hpre hK hbx
      cases B4
      all_goals first | (refine step_left (not_wanted (j := 26) (t := 45) (b := false) rfl rfl (by first | exact Or.inr q45 | exact Or.inl q45)) ?_; exact hk.out _ _ rfl (Below.refl _ _)) | (refine step_wanted (wanted_of (j := 26) (t := 45) (b := false) rfl rfl q45) ?_; replace q48 : a.tmps[48]?.getD undef = _ := q48; go_simp; exact hk.out _ _ rfl (Below.refl _ _))
    · have q45 : vhG2 v X Y IA IB w.heap.size q B1 B2 B3 B4 B5 B6 B7 B8 B9 B10 C2 C3 C4 C5 C6 C7 C8 C9 C10 45 (a.tmps[45]?.getD undef) x := hpre 26 (by decide)
      have q49 : vhG2 v X Y IA IB w.heap.size q B1 B2 B3 B4 B5 B6 B7 B8 B9 B10 C2 C3 C4 C5 C6 C7 C8 C9 C10 49 (a.tmps[49]?.getD undef) x := hpre 30 (by decide)
      have hk := Lib.hid (show ∀ v7 x', vhG2 v X Y IA IB w.heap.size q B1 B2 B3 B4 B5 B6 B7 B8 B9 B10 C2 C3 C4 C5 C6 C7 C8 C9 C10 50 v7 x' → Below x.heap.size x x' → K (a.put (some 50) v7) x' from hK)
      have Hbx := Lib.hid hbx
      clear hsame hpre hK hbx
      cases B4
      all_goals (refine step_plain rfl ?_; replace q45 : a.tmps[45]?.getD undef = _ := q45; replace q49 : a.tmps[49]?.getD undef = _ := q49; go_simp; exact hk.out _ _ (by show Value.bool _ = .bool B5; rw [HB5.out]; rfl) (Below.refl _ _))
    · have q50 : vhG2 v X Y IA IB w.heap.size q B1 B2 B3 B4 B5 B6 B7 B8 B9 B10 C2 C3 C4 C5 C6 C7 C8 C9 C10 50 (a.tmps[50]?.getD undef) x := hpre 31 (by decide)
      have hk := Lib.hid (show ∀ v7 x', vhG2 v X Y IA IB w.heap.size q B1 B2 B3 B4 B5 B6 B7 B8 B9 B10 C2 C3 C4 C5 C6 C7 C8 C9 C10 51 v7 x' → Below x.heap.size x x' → K (a.put (some 51) v7) x' from hK)
      have Hbx := Lib.hid hbx
      clear hsame hpre hK hbx
      cases B5
      all_goals (refine step_plain rfl ?_; replace q50 : a.tmps[50]?.getD undef = _ := q50; go_simp; exact hk.out _ _ rfl (Below.refl _ _))
    · have q4 : a.tmps[4]?.getD undef = .pointer (some ⟨w.heap.size, 0, none⟩) := (hsame 4 (by decide +kernel)).trans o4
      have q51 : vhG2 v X Y IA IB w.heap.size q B1 B2 B3 B4 B5 B6 B7 B8 B9 B10 C2 C3 C4 C5 C6 C7 C8 C9 C10 51 (a.tmps[51]?.getD undef) x := hpre 32 (by decide)
      have hk := Lib.hid (show ∀ v7 x', vhG2 v X Y IA IB w.heap.size q B1 B2 B3 B4 B5 B6 B7 B8 B9 B10 C2 C3 C4 C5 C6 C7 C8 C9 C10 52 v7 x' → Below x.heap.size x x' → K (a.put (some 52) v7) x' from hK)
      have Hbx := Lib.hid hbx
      clear hsame hpre hK hbx
      cases B5
      all_goals first | (refine step_left (not_wanted (j := 32) (t := 51) (b := false) rfl rfl (by first | exact Or.inr q51 | exact Or.inl q51)) ?_; exact hk.out _ _ rfl (Below.refl _ _)) | (refine step_wanted (wanted_of (j := 32) (t := 51) (b := false) rfl rfl q51) ?_; go_simp; exact hk.out _ _ rfl (Below.refl _ _))
    · have q52 : vhG2 v X Y IA IB w.heap.size q B1 B2 B3 B4 B5 B6 B7 B8 B9 B10 C2 C3 C4 C5 C6 C7 C8 C9 C10 52 (a.tmps[52]?.getD undef) x := hpre 33 (by decide)
      have q51 : vhG2 v X Y IA IB w.heap.size q B1 B2 B3 B4 B5 B6 B7 B8 B9 B10 C2 C3 C4 C5 C6 C7 C8 C9 C10 51 (a.tmps[51]?.getD undef) x := hpre 32 (by decide)
      have hk := Lib.hid (show ∀ v7 x', vhG2 v X Y IA IB w.heap.size q B1 B2 B3 B4 B5 B6 B7 B8 B9 B10 C2 C3 C4 C5 C6 C7 C8 C9 C10 53 v7 x' → Below x.heap.size x x' → K (a.put (some 53) v7) x' from hK)
      have Hbx := Lib.hid hbx
      clear hsame hpre hK hbx
      cases B5
      all_goals first | (refine step_left (not_wanted (j := 32) (t := 51) (b := false) rfl rfl (by first | exact Or.inr q51 | exact Or.inl q51)) ?_; exact hk.out _ _ rfl (Below.refl _ _)) | (refine step_wanted (wanted_of (j := 32) (t := 51) (b := false) rfl rfl q51) ?_; replace q52 : a.tmps[52]?.getD undef = _ := q52; go_simp; exact hk.out _ _ rfl (Below.refl _ _))
    · have q53 : vhG2 v X Y IA IB w.heap.size q B1 B2 B3 B4 B5 B6 B7 B8 B9 B10 C2 C3 C4 C5 C6 C7 C8 C9 C10 53 (a.tmps[53]?.getD undef) x := hpre 34 (by decide)
      have q51 : vhG2 v X Y IA IB w.heap.size q B1 B2 B3 B4 B5 B6 B7 B8 B9 B10 C2 C3 C4 C5 C6 C7 C8 C9 C10 51 (a.tmps[51]?.getD undef) x := hpre 32 (by decide)
      have hk := Lib.hid (show ∀ v7 x', vhG2 v X Y IA IB w.heap.size q B1 B2 B3 B4 B5 B6 B7 B8 B9 B10 C2 C3 C4 C5 C6 C7 C8 C9 C10 54 v7 x' → Below x.heap.size x x' → K (a.put (some 54) v7) x' from hK)
      have Hbx := Lib.hid hbx
      clear hsame hpre hK hbx
      cases B5
      all_goals first | (refine step_left (not_wanted (j := 32) (t := 51) (b := false) rfl rfl (by first | exact Or.inr q51 | exact Or.inl q51)) ?_; exact hk.out _ _ rfl (Below.refl _ _)) | (refine step_wanted (wanted_of (j := 32) (t := 51) (b := false) rfl rfl q51) ?_; replace q53 : a.tmps[53]?.getD undef = _ := q53; obtain ⟨za, zb, zar, zas, zbr, zbs, RA, RB⟩ := HF.out x (below_call Hb1.out Hbx.out); go_simp; exact hk.out _ _ rfl (Below.refl _ _))
    · have q54 : vhG2 v X Y IA IB w.heap.size q B1 B2 B3 B4 B5 B6 B7 B8 B9 B10 C2 C3 C4 C5 C6 C7 C8 C9 C10 54 (a.tmps[54]?.getD undef) x := hpre 35 (by decide)
      have q51 : vhG2 v X Y IA IB w.heap.size q B1 B2 B3 B4 B5 B6 B7 B8 B9 B10 C2 C3 C4 C5 C6 C7 C8 C9 C10 51 (a.tmps[51]?.getD undef) x := hpre 32 (by decide)
      have hk := Lib.hid (show ∀ v7 x', vhG2 v X Y IA IB w.heap.size q B1 B2 B3 B4 B5 B6 B7 B8 B9 B10 C2 C3 C4 C5 C6 C7 C8 C9 C10 55 v7 x' → Below x.heap.size x x' → K (a.put (some 55) v7) x' from hK)
      have Hbx := Lib.hid hbx
      clear hsame hpre hK hbx
      cases B5
      all_goals first | (refine step_left (not_wanted (j := 32) (t := 51) (b := false) rfl rfl (by first | exact Or.inr q51 | exact Or.inl q51)) ?_; exact hk.out _ _ rfl (Below.refl _ _)) | (refine step_wanted (wanted_of (j := 32) (t := 51) (b := false) rfl rfl q51) ?_; replace q54 : a.tmps[54]?.getD undef = _ := q54; go_simp; exact hk.out _ _ rfl (Below.refl _ _))
    · have q51 : vhG2 v X Y IA IB w.heap.size q B1 B2 B3 B4 B5 B6 B7 B8 B9 B10 C2 C3 C4 C5 C6 C7 C8 C9 C10 51 (a.tmps[51]?.getD undef) x := hpre 32 (by decide)
      have q55 : vhG2 v X Y IA IB w.heap.size q B1 B2 B3 B4 B5 B6 B7 B8 B9 B10 C2 C3 C4 C5 C6 C7 C8 C9 C10 55 (a.tmps[55]?.getD undef) x := hpre 36 (by decide)
      have hk := Lib.hid (show ∀ v7 x', vhG2 v X Y IA IB w.heap.size q B1 B2 B3 B4 B5 B6 B7 B8 B9 B10 C2 C3 C4 C5 C6 C7 C8 C9 C10 56 v7 x' → Below x.heap.size x x' → K (a.put (some 56) v7) x' from hK)
      have Hbx := Lib.hid hbx
      clear hsame hpre hK hbx
      cases B5
      all_goals (refine step_plain rfl ?_; replace q51 : a.tmps[51]?.getD undef = _ := q51; replace q55 : a.tmps[55]?.getD undef = _ := q55; go_simp; exact hk.out _ _ (by show Value.bool _ = .bool B6; rw [HB6.out]; rfl) (Below.refl _ _))
    · have q56 : vhG2 v X Y IA IB w.heap.size q B1 B2 B3 B4 B5 B6 B7 B8 B9 B10 C2 C3 C4 C5 C6 C7 C8 C9 C10 56 (a.tmps[56]?.getD undef) x := hpre 37 (by decide)
      have hk := Lib.hid (show ∀ v7 x', vhG2 v X Y IA IB w.heap.size q B1 B2 B3 B4 B5 B6 B7 B8 B9 B10 C2 C3 C4 C5 C6 C7 C8 C9 C10 57 v7 x' → Below x.heap.size x x' → K (a.put (some 57) v7) x' from hK)
      have Hbx := Lib.hid hbx
      clear hsame hpre hK hbx
      cases B6
      all_goals (refine step_plain rfl ?_; replace q56 : a.tmps[56]?.getD undef = _ := q56; go_simp; exact hk.out _ _ rfl (Below.refl _ _))
    · have q5 : a.tmps[5]?.getD undef = .pointer (some ⟨w.heap.size + 1, 0, none⟩) := (hsame 5 (by decide +kernel)).trans o5
      have q57 : vhG2 v X Y IA IB w.heap.size q B1 B2 B3 B4 B5 B6 B7 B8 B9 B10 C2 C3 C4 C5 C6 C7 C8 C9 C10 57 (a.tmps[57]?.getD undef) x := hpre 38 (by decide)
      have hk := Lib.hid (show ∀ v7 x', vhG2 v X Y IA IB w.heap.size q B1 B2 B3 B4 B5 B6 B7 B8 B9 B10 C2 C3 C4 C5 C6 C7 C8 C9 C10 58 v7 x' → Below x.heap.size x x' → K (a.put (some 58) v7) x' from hK)
      have Hbx := Lib.hid hbx
      clear hsame hpre hK hbx
      cases B6
      all_goals first | (refine step_left (not_wanted (j := 38) (t := 57) (b := false) rfl rfl (by first | exact Or.inr q57 | exact Or.inl q57)) ?_; exact hk.out _ _ rfl (Below.refl _ _)) | (refine step_wanted (wanted_of (j := 38) (t := 57) (b := false) rfl rfl q57) ?_; go_simp; exact hk.out _ _ rfl (Below.refl _ _))
    · have q58 : vhG2 v X Y IA IB w.heap.size q B1 B2 B3 B4 B5 B6 B7 B8 B9 B10 C2 C3 C4 C5 C6 C7 C8 C9 C10 58 (a.tmps[58]?.getD undef) x := hpre 39 (by decide)
      have q57 : vhG2 v X Y IA IB w.heap.size q B1 B2 B3 B4 B5 B6 B7 B8 B9 B10 C2 C3 C4 C5 C6 C7 C8 C9 C10 57 (a.tmps[57]?.getD undef) x := hpre 38 (by decide)
      have hk := Lib.hid (show ∀ v7 x', vhG2 v X Y IA IB w.heap.size q B1 B2 B3 B4 B5 B6 B7 B8 B9 B10 C2 C3 C4 C5 C6 C7 C8 C9 C10 59 v7 x' → Below x.heap.size x x' → K (a.put (some 59) v7) x' from hK)
      have Hbx := Lib.hid hbx
      clear hsame hpre hK hbx
      cases B6
      all_goals first | (refine step_left (not_wanted (j := 38) (t := 57) (b := false) rfl rfl (by first | exact Or.inr q57 | exact Or.inl q57)) ?_; exact hk.out _ _ rfl (Below.refl _ _)) | (refine step_wanted (wanted_of (j := 38) (t := 57) (b := false) rfl rfl q57) ?_; replace q58 : a.tmps[58]?.getD undef = _ := q58; go_simp; exact hk.out _ _ rfl (Below.refl _ _))
    · have q59 : vhG2 v X Y IA IB w.heap.size q B1 B2 B3 B4 B5 B6 B7 B8 B9 B10 C2 C3 C4 C5 C6 C7 C8 C9 C10 59 (a.tmps[59]?.getD undef) x := hpre 40 (by decide)
      have q57 : vhG2 v X Y IA IB w.heap.size q B1 B2 B3 B4 B5 B6 B7 B8 B9 B10 C2 C3 C4 C5 C6 C7 C8 C9 C10 57 (a.tmps[57]?.getD undef) x := hpre 38 (by decide)
      have hk := Lib.hid (show ∀ v7 x', vhG2 v X Y IA IB w.heap.size q B1 B2 B3 B4 B5 B6 B7 B8 B9 B10 C2 C3 C4 C5 C6 C7 C8 C9 C10 60 v7 x' → Below x.heap.size x x' → K (a.put (some 60) v7) x' from hK)
      have Hbx := Lib.hid hbx
      clear hsame hpre hK hbx
      cases B6
      all_goals first | (refine step_left (not_wanted (j := 38) (t := 57) (b := false) rfl rfl (by first | exact Or.inr q57 | exact Or.inl q57)) ?_; exact hk.out _ _ rfl (Below.refl _ _)) | (refine step_wanted (wanted_of (j := 38) (t := 57) (b := false) rfl rfl q57) ?_; replace q59 : a.tmps[59]?.getD undef = _ := q59; obtain ⟨za, zb, zar, zas, zbr, zbs, RA, RB⟩ := HF.out x (below_call Hb1.out Hbx.out); go_simp; exact hk.out _ _ rfl (Below.refl _ _))
    · have q60 : vhG2 v X Y IA IB w.heap.size q B1 B2 B3 B4 B5 B6 B7 B8 B9 B10 C2 C3 C4 C5 C6 C7 C8 C9 C10 60 (a.tmps[60]?.getD undef) x := hpre 41 (by decide)
      have q57 : vhG2 v X Y IA IB w.heap.size q B1 B2 B3 B4 B5 B6 B7 B8 B9 B10 C2 C3 C4 C5 C6 C7 C8 C9 C10 57 (a.tmps[57]?.getD undef) x := hpre 38 (by decide)
      have hk := Lib.hid (show ∀ v7 x', vhG2 v X Y IA IB w.heap.size q B1 B2 B3 B4 B5 B6 B7 B8 B9 B10 C2 C3 C4 C5 C6 C7 C8 C9 C10 61 v7 x' → Below x.heap.size x x' → K (a.put (some 61) v7) x' from hK)
      have Hbx := Lib.hid hbx
      clear hsame hpre hK hbx
      cases B6
      all_goals first | (refine step_left (not_wanted (j := 38) (t := 57) (b := false) rfl rfl (by first | exact Or.inr q57 | exact Or.inl q57)) ?_; exact hk.out _ _ rfl (Below.refl _ _)) | (refine step_wanted (wanted_of (j := 38) (t := 57) (b := false) rfl rfl q57) ?_; replace q60 : a.tmps[60]?.getD undef = _ := q60; go_simp; exact hk.out _ _ rfl (Below.refl _ _))
    · have q57 : vhG2 v X Y IA IB w.heap.size q B1 B2 B3 B4 B5 B6 B7 B8 B9 B10 C2 C3 C4 C5 C6 C7 C8 C9 C10 57 (a.tmps[57]?.getD undef) x := hpre 38 (by decide)
      have q61 : vhG2 v X Y IA IB w.heap.size q B1 B2 B3 B4 B5 B6 B7 B8 B9 B10 C2 C3 C4 C5 C6 C7 C8 C9 C10 61 (a.tmps[61]?.getD undef) x := hpre 42 (by decide)
      have hk := Lib.hid (show ∀ v7 x', vhG2 v X Y IA IB w.heap.size q B1 B2 B3 B4 B5 B6 B7 B8 B9 B10 C2 C3 C4 C5 C6 C7 C8 C9 C10 62 v7 x' → Below x.heap.size x x' → K (a.put (some 62) v7) x' from hK)
      have Hbx := Lib.hid hbx
      clear hsame hpre hK hbx
      cases B6
      all_goals (refine step_plain rfl ?_; replace q57 : a.tmps[57]?.getD undef = _ := q57; replace q61 : a.tmps[61]?.getD undef = _ := q61; go_simp; exact hk.out _ _ (by show Value.bool _ = .bool B7; rw [HB7.out]; rfl) (Below.refl _ _))
    · have q62 : vhG2 v X Y IA IB w.heap.size q B1 B2 B3 B4 B5 B6 B7 B8 B9 B10 C2 C3 C4 C5 C6 C7 C8 C9 C10 62 (a.tmps[62]?.getD undef) x := hpre 43 (by decide)
      have hk := Lib.hid (show ∀ v7 x', vhG2 v X Y IA IB w.heap.size q B1 B2 B3 B4 B5 B6 B7 B8 B9 B10 C2 C3 C4 C5 C6 C7 C8 C9 C10 63 v7 x' → Below x.heap.size x x' → K (a.put (some 63) v7) x' from hK)
      have Hbx := Lib.hid hbx
      clear hsame hpre hK hbx
      cases B7
      all_goals (refine step_plain rfl ?_; replace q62 : a.tmps[62]?.getD undef = _ := q62; go_simp; exact hk.out _ _ rfl (Below.refl _ _))
    · have q5 : a.tmps[5]?.getD undef = .pointer (some ⟨w.heap.size + 1, 0, none⟩) := (hsame 5 (by decide +kernel)).trans o5
      have q63 : vhG2 v X Y IA IB w.heap.size q B1 B2 B3 B4 B5 B6 B7 B8 B9 B10 C2 C3 C4 C5 C6 C7 C8 C9 C10 63 (a.tmps[63]?.getD undef) x := hpre 44 (by decide)
      have hk := Lib.hid (show ∀ v7 x', vhG2 v X Y IA IB w.heap.size q B1 B2 B3 B4 B5 B6 B7 B8 B9 B10 C2 C3 C4 C5 C6 C7 C8 C9 C10 64 v7 x' → Below x.heap.size x x' → K (a.put (some 64) v7) x' from hK)
      have Hbx := Lib.hid hbx
      clear hsame hpre hK hbx
      cases B7
      all_goals first | (refine step_left (not_wanted (j := 44) (t := 63) (b := false) rfl rfl (by first | exact Or.inr q63 | exact Or.inl q63)) ?_; exact hk.out _ _ rfl (Below.refl _ _)) | (refine step_wanted (wanted_of (j := 44) (t := 63) (b := false) rfl rfl q63) ?_; go_simp; exact hk.out _ _ rfl (Below.refl _ _))
    · have q64 : vhG2 v X Y IA IB w.heap.size q B1 B2 B3 B4 B5 B6 B7 B8 B9 B10 C2 C3 C4 C5 C6 C7 C8 C9 C10 64 (a.tmps[64]?.getD undef) x := hpre 45 (by decide)
      have q63 : vhG2 v X Y IA IB w.heap.size q B1 B2 B3 B4 B5 B6 B7 B8 B9 B10 C2 C3 C4 C5 C6 C7 C8 C9 C10 63 (a.tmps[63]?.getD undef) x := hpre 44 (by decide)
      have hk := Lib.hid (show ∀ v7 x', vhG2 v X Y IA IB w.heap.size q B1 B2 B3 B4 B5 B6 B7 B8 B9 B10 C2 C3 C4 C5 C6 C7 C8 C9 C10 65 v7 x' → Below x.heap.size x x' → K (a.put (some 65) v7) x' from hK)
      have Hbx := Lib.hid hbx
      clear hsame hpre hK hbx
      cases B7
      all_goals first | (refine step_left (not_wanted (j := 44) (t := 63) (b := false) rfl rfl (by first | exact Or.inr q63 | exact Or.inl q63)) ?_; exact hk.out _ _ rfl (Below.refl _ _)) | (refine step_wanted (wanted_of (j := 44) (t := 63) (b := false) rfl rfl q63) ?_; replace q64 : a.tmps[64]?.getD undef = _ := q64; go_simp; exact hk.out _ _ rfl (Below.refl _ _))
    · have q65 : vhG2 v X Y IA IB w.heap.size q B1 B2 B3 B4 B5 B6 B7 B8 B9 B10 C2 C3 C4 C5 C6 C7 C8 C9 C10 65 (a.tmps[65]?.getD undef) x := hpre 46 (by decide)
      have q63 : vhG2 v X Y IA IB w.heap.size q B1 B2 B3 B4 B5 B6 B7 B8 B9 B10 C2 C3 C4 C5 C6 C7 C8 C9 C10 63 (a.tmps[63]?.getD undef) x := hpre 44 (by decide)
      have hk := Lib.hid (show ∀ v7 x', vhG2 v X Y IA IB w.heap.size q B1 B2 B3 B4 B5 B6 B7 B8 B9 B10 C2 C3 C4 C5 C6 C7 C8 C9 C10 66 v7 x' → Below x.heap.size x x' → K (a.put (some 66) v7) x' from hK)
      have Hbx := Lib.hid hbx
      clear hsame hpre hK hbx
      cases B7
      all_goals first | (refine step_left (not_wanted (j := 44) (t := 63) (b := false) rfl rfl (by first | exact Or.inr q63 | exact Or.inl q63)) ?_; exact hk.out _ _ rfl (Below.refl _ _)) | (refine step_wanted (wanted_of (j := 44) (t := 63) (b := false) rfl rfl q63) ?_; replace q65 : a.tmps[65]?.getD undef = _ := q65; obtain ⟨za, zb, zar, zas, zbr, zbs, RA, RB⟩ := HF.out x (below_call Hb1.out Hbx.out); go_simp; exact hk.out _ _ rfl (Below.refl _ _))
    · have q66 : vhG2 v X Y IA IB w.heap.size q B1 B2 B3 B4 B5 B6 B7 B8 B9 B10 C2 C3 C4 C5 C6 C7 C8 C9 C10 66 (a.tmps[66]?.getD undef) x := hpre 47 (by decide)
      have q63 : vhG2 v X Y IA IB w.heap.size q B1 B2 B3 B4 B5 B6 B7 B8 B9 B10 C2 C3 C4 C5 C6 C7 C8 C9 C10 63 (a.tmps[63]?.getD undef) x := hpre 44 (by decide)
      have hk := Lib.hid (show ∀ v7 x', vhG2 v X Y IA IB w.heap.size q B1 B2 B3 B4 B5 B6 B7 B8 B9 B10 C2 C3 C4 C5 C6 C7 C8 C9 C10 67 v7 x' → Below x.heap.size x x' → K (a.put (some 67) v7) x' from hK)
      have Hbx := Lib.hid hbx
      clear hsame hpre hK hbx
      cases B7
      all_goals first | (refine step_left (not_wanted (j := 44) (t := 63) (b := false) rfl rfl (by first | exact Or.inr q63 | exact Or.inl q63)) ?_; exact hk.out _ _ rfl (Below.refl _ _)) | (refine step_wanted (wanted_of (j := 44) (t := 63) (b := false) rfl rfl q63) ?_; replace q66 : a.tmps[66]?.getD undef = _ := q66; go_simp; exact hk.out _ _ rfl (Below.refl _ _))
    · have q63 : vhG2 v X Y IA IB w.heap.size q B1 B2 B3 B4 B5 B6 B7 B8 B9 B10 C2 C3 C4 C5 C6 C7 C8 C9 C10 63 (a.tmps[63]?.getD undef) x := hpre 44 (by decide)
      have q67 : vhG2 v X Y IA IB w.heap.size q B1 B2 B3 B4 B5 B6 B7 B8 B9 B10 C2 C3 C4 C5 C6 C7 C8 C9 C10 67 (a.tmps[67]?.getD undef) x := hpre 48 (by decide)
      have hk := Lib.hid (show ∀ v7 x', vhG2 v X Y IA IB w.heap.size q B1 B2 B3 B4 B5 B6 B7 B8 B9 B10 C2 C3 C4 C5 C6 C7 C8 C9 C10 68 v7 x' → Below x.heap.size x x' → K (a.put (some 68) v7) x' from hK)
      have Hbx := Lib.hid hbx
      clear hsame hpre hK hbx
      cases B7
      all_goals (refine step_plain rfl ?_; replace q63 : a.tmps[63]?.getD undef = _ := q63; replace q67 : a.tmps[67]?.getD undef = _ := q67; go_simp; exact hk.out _ _ (by show Value.bool _ = .bool B8; rw [HB8.out]; rfl) (Below.refl _ _))
    · have q68 : vhG2 v X Y IA IB w.heap.size q B1 B2 B3 B4 B5 B6 B7 B8 B9 B10 C2 C3 C4 C5 C6 C7 C8 C9 C10 68 (a.tmps[68]?.getD undef) x := hpre 49 (by decide)
      have hk := Lib.hid (show ∀ v7 x', vhG2 v X Y IA IB w.heap.size q B1 B2 B3 B4 B5 B6 B7 B8 B9 B10 C2 C3 C4 C5 C6 C7 C8 C9 C10 69 v7 x' → Below x.heap.size x x' → K (a.put (some 69) v7) x' from hK)
      have Hbx := Lib.hid hbx
      clear hsame hpre hK hbx
      cases B8
      all_goals (refine step_plain rfl ?_; replace q68 : a.tmps[68]?.getD undef = _ := q68; go_simp; exact hk.out _ _ rfl (Below.refl _ _))
    · have q4 : a.tmps[4]?.getD undef = .pointer (some ⟨w.heap.size, 0, none⟩) := (hsame 4 (by decide +kernel)).trans o4
      have q69 : vhG2 v X Y IA IB w.heap.size q B1 B2 B3 B4 B5 B6 B7 B8 B9 B10 C2 C3 C4 C5 C6 C7 C8 C9 C10 69 (a.tmps[69]?.getD undef) x := hpre 50 (by decide)
      have hk := Lib.hid (show ∀ v7 x', vhG2 v X Y IA IB w.heap.size q B1 B2 B3 B4 B5 B6 B7 B8 B9 B10 C2 C3 C4 C5 C6 C7 C8 C9 C10 70 v7 x' → Below x.heap.size x x' → K (a.put (some 70) v7) x' from hK)
      have Hbx := Lib.hid hbx
      clear hsame hpre hK hbx
      cases B8
      all_goals first | (refine step_left (not_wanted (j := 50) (t := 69) (b := false) rfl rfl (by first | exact Or.inr q69 | exact Or.inl q69)) ?_; exact hk.out _ _ rfl (Below.refl _ _)) | (refine step_wanted (wanted_of (j := 50) (t := 69) (b := false) rfl rfl q69) ?_; go_simp; exact hk.out _ _ rfl (Below.refl _ _))
    · have q70 : vhG2 v X Y IA IB w.heap.size q B1 B2 B3 B4 B5 B6 B7 B8 B9 B10 C2 C3 C4 C5 C6 C7 C8 C9 C10 70 (a.tmps[70]?.getD undef) x := hpre 51 (by decide)
      have q69 : vhG2 v X Y IA IB w.heap.size q B1 B2 B3 B4 B5 B6 B7 B8 B9 B10 C2 C3 C4 C5 C6 C7 C8 C9 C10 69 (a.tmps[69]?.getD undef) x := hpre 50 (by decide)
      have hk := Lib.hid (show ∀ v7 x', vhG2 v X Y IA IB w.heap.size q B1 B2 B3 B4 B5 B6 B7 B8 B9 B10 C2 C3 C4 C5 C6 C7 C8 C9 C10 71 v7 x' → Below x.heap.size x x' → K (a.put (some 71) v7) x' from hK)
      have Hbx := Lib.hid hbx
      clear hsame hpre hK hbx
      cases B8
      all_goals first | (refine step_left (not_wanted (j := 50) (t := 69) (b := false) rfl rfl (by first | exact Or.inr q69 | exact Or.inl q69)) ?_; exact hk.out _ _ rfl (Below.refl _ _)) | (refine step_wanted (wanted_of (j := 50) (t := 69) (b := false) rfl rfl q69) ?_; replace q70 : a.tmps[70]?.getD undef = _ := q70; go_simp; exact hk.out _ _ rfl (Below.refl _ _))
    · have q71 : vhG2 v X Y IA IB w.heap.size q B1 B2 B3 B4 B5 B6 B7 B8 B9 B10 C2 C3 C4 C5 C6 C7 C8 C9 C10 71 (a.tmps[71]?.getD undef) x := hpre 52 (by decide)
      have q69 : vhG2 v X Y IA IB w.heap.size q B1 B2 B3 B4 B5 B6 B7 B8 B9 B10 C2 C3 C4 C5 C6 C7 C8 C9 C10 69 (a.tmps[69]?.getD undef) x := hpre 50 (by decide)
      have hk := Lib.hid (show ∀ v7 x', vhG2 v X Y IA IB w.heap.size q B1 B2 B3 B4 B5 B6 B7 B8 B9 B10 C2 C3 C4 C5 C6 C7 C8 C9 C10 72 v7 x' → Below x.heap.size x x' → K (a.put (some 72) v7) x' from hK)
      have Hbx := Lib.hid hbx
      clear hsame hpre hK hbx
      cases B8
      all_goals first | (refine step_left (not_wanted (j := 50) (t := 69) (b := false) rfl rfl (by first | exact Or.inr q69 | exact Or.inl q69)) ?_; exact hk.out _ _ rfl (Below.refl _ _)) | (refine step_wanted (wanted_of (j := 50) (t := 69) (b := false) rfl rfl q69) ?_; replace q71 : a.tmps[71]?.getD undef = _ := q71; obtain ⟨za, zb, zar, zas, zbr, zbs, RA, RB⟩ := HF.out x (below_call Hb1.out Hbx.out); go_simp; exact hk.out _ _ rfl (Below.refl _ _))
    · have q72 : vhG2 v X Y IA IB w.heap.size q B1 B2 B3 B4 B5 B6 B7 B8 B9 B10 C2 C3 C4 C5 C6 C7 C8 C9 C10 72 (a.tmps[72]?.getD undef) x := hpre 53 (by decide)
      have q69 : vhG2 v X Y IA IB w.heap.size q B1 B2 B3 B4 B5 B6 B7 B8 B9 B10 C2 C3 C4 C5 C6 C7 C8 C9 C10 69 (a.tmps[69]?.getD undef) x := hpre 50 (by decide)
      have hk := Lib.hid (show ∀ v7 x', vhG2 v X Y IA IB w.heap.size q B1 B2 B3 B4 B5 B6 B7 B8 B9 B10 C2 C3 C4 C5 C6 C7 C8 C9 C10 73 v7 x' → Below x.heap.size x x' → K (a.put (some 73) v7) x' from hK)
      have Hbx := Lib.hid hbx
      clear hsame hpre hK hbx
      cases B8
      all_goals first | (refine step_left (not_wanted (j := 50) (t := 69) (b := false) rfl rfl (by first | exact Or.inr q69 | exact Or.inl q69)) ?_; exact hk.out _ _ rfl (Below.refl _ _)) | (refine step_wanted (wanted_of (j := 50) (t := 69) (b := false) rfl rfl q69) ?_; replace q72 : a.tmps[72]?.getD undef = _ := q72; go_simp; exact hk.out _ _ rfl (Below.refl _ _))
    · have q69 : vhG2 v X Y IA IB w.heap.size q B1 B2 B3 B4 B5 B6 B7 B8 B9 B10 C2 C3 C4 C5 C6 C7 C8 C9 C10 69 (a.tmps[69]?.getD undef) x := hpre 50 (by decide)
      have q73 : vhG2 v X Y IA IB w.heap.size q B1 B2 B3 B4 B5 B6 B7 B8 B9 B10 C2 C3 C4 C5 C6 C7 C8 C9 C10 73 (a.tmps[73]?.getD undef) x := hpre 54 (by decide)
      have hk := Lib.hid (show ∀ v7 x', vhG2 v X Y IA IB w.heap.size q B1 B2 B3 B4 B5 B6 B7 B8 B9 B10 C2 C3 C4 C5 C6 C7 C8 C9 C10 74 v7 x' → Below x.heap.size x x' → K (a.put (some 74) v7) x' from hK)
      have Hbx := Lib.hid hbx
      clear hsame hpre hK hbx
      cases B8
      all_goals (refine step_plain rfl ?_; replace q69 : a.tmps[69]?.getD undef = _ := q69; replace q73 : a.tmps[73]?.getD undef = _ := q73; go_simp; exact hk.out _ _ (by show Value.bool _ = .bool B9; rw [HB9.out]; rfl) (Below.refl _ _))
    · have q74 : vhG2 v X Y IA IB w.heap.size q B1 B2 B3 B4 B5 B6 B7 B8 B9 B10 C2 C3 C4 C5 C6 C7 C8 C9 C10 74 (a.tmps[74]?.getD undef) x := hpre 55 (by decide)
      have hk := Lib.hid (show ∀ v7 x', vhG2 v X Y IA IB w.heap.size q B1 B2 B3 B4 B5 B6 B7 B8 B9 B10 C2 C3 C4 C5 C6 C7 C8 C9 C10 75 v7 x' → Below x.heap.size x x' → K (a.put (some 75) v7) x' from hK)
      have Hbx := Lib.hid hbx
      clear hsame hpre hK hbx
      cases B9
      all_goals (refine step_plain rfl ?_; replace q74 : a.tmps[74]?.getD undef = _ := q74; go_simp; exact hk.out _ _ rfl (Below.refl _ _))
    · have q5 : a.tmps[5]?.getD undef = .pointer (some ⟨w.heap.size + 1, 0, none⟩) := (hsame 5 (by decide +kernel)).trans o5
      have q75 : vhG2 v X Y IA IB w.heap.size q B1 B2 B3 B4 B5 B6 B7 B8 B9 B10 C2 C3 C4 C5 C6 C7 C8 C9 C10 75 (a.tmps[75]?.getD undef) x := hpre 56 (by decide)
      have hk := Lib.hid (show ∀ v7 x', vhG2 v X Y IA IB w.heap.size q B1 B2 B3 B4 B5 B6 B7 B8 B9 B10 C2 C3 C4 C5 C6 C7 C8 C9 C10 76 v7 x' → Below x.heap.size x x' → K (a.put (some 76) v7) x' from hK)
      have Hbx := Lib.hid hbx
      clear hsame hpre hK hbx
      cases B9
      all_goals first | (refine step_left (not_wanted (j := 56) (t := 75) (b := false) rfl rfl (by first | exact Or.inr q75 | exact Or.inl q75)) ?_; exact hk.out _ _ rfl (Below.refl _ _)) | (refine step_wanted (wanted_of (j := 56) (t := 75) (b := false) rfl rfl q75) ?_; go_simp; exact hk.out _ _ rfl (Below.refl _ _))
    · have q76 : vhG2 v X Y IA IB w.heap.size q B1 B2 B3 B4 B5 B6 B7 B8 B9 B10 C2 C3 C4 C5 C6 C7 C8 C9 C10 76 (a.tmps[76]?.getD undef) x := hpre 57 (by decide)
      have q75 : vhG2 v X Y IA IB w.heap.size q B1 B2 B3 B4 B5 B6 B7 B8 B9 B10 C2 C3 C4 C5 C6 C7 C8 C9 C10 75 (a.tmps[75]?.getD undef) x := hpre 56 (by decide)
      have hk := Lib.hid (show ∀ v7 x', vhG2 v X Y IA IB w.heap.size q B1 B2 B3 B4 B5 B6 B7 B8 B9 B10 C2 C3 C4 C5 C6 C7 C8 C9 C10 77 v7 x' → Below x.heap.size x x' → K (a.put (some 77) v7) x' from hK)
      have Hbx := Lib.hid hbx
      clear hsame hpre hK hbx
      cases B9
      all_goals first | (refine step_left (not_wanted (j := 56) (t := 75) (b := false) rfl rfl (by first | exact Or.inr q75 | exact Or.inl q75)) ?_; exact hk.out _ _ rfl (Below.refl _ _)) | (refine step_wanted (wanted_of (j := 56) (t := 75) (b := false) rfl rfl q75) ?_; replace q76 : a.tmps[76]?.getD undef = _ := q76; go_simp; exact hk.out _ _ rfl (Below.refl _ _))
    · have q77 : vhG2 v X Y IA IB w.heap.size q B1 B2 B3 B4 B5 B6 B7 B8 B9 B10 C2 C3 C4 C5 C6 C7 C8 C9 C10 77 (a.tmps[77]?.getD undef) x := hpre 58 (by decide)
      have q75 : vhG2 v X Y IA IB w.heap.size q B1 B2 B3 B4 B5 B6 B7 B8 B9 B10 C2 C3 C4 C5 C6 C7 C8 C9 C10 75 (a.tmps[75]?.getD undef) x := hpre 56 (by decide)
      have hk := Lib.hid (show ∀ v7 x', vhG2 v X Y IA IB w.heap.size q B1 B2 B3 B4 B5 B6 B7 B8 B9 B10 C2 C3 C4 C5 C6 C7 C8 C9 C10 78 v7 x' → Below x.heap.size x x' → K (a.put (some 78) v7) x' from hK)
      have Hbx := Lib.hid hbx
      clear hsame hpre hK hbx
      cases B9
      all_goals first | (refine step_left (not_wanted (j := 56) (t := 75) (b := false) rfl rfl (by first | exact Or.inr q75 | exact Or.inl q75)) ?_; exact hk.out _ _ rfl (Below.refl _ _)) | (refine step_wanted (wanted_of (j := 56) (t := 75) (b := false) rfl rfl q75) ?_; replace q77 : a.tmps[77]?.getD undef = _ := q77; obtain ⟨za, zb, zar, zas, zbr, zbs, RA, RB⟩ := HF.out x (below_call Hb1.out Hbx.out); go_simp; exact hk.out _ _ rfl (Below.refl _ _))
    · have q78 : vhG2 v X Y IA IB w.heap.size q B1 B2 B3 B4 B5 B6 B7 B8 B9 B10 C2 C3 C4 C5 C6 C7 C8 C9 C10 78 (a.tmps[78]?.getD undef) x := hpre 59 (by decide)
      have q75 : vhG2 v X Y IA IB w.heap.size q B1 B2 B3 B4 B5 B6 B7 B8 B9 B10 C2 C3 C4 C5 C6 C7 C8 C9 C10 75 (a.tmps[75]?.getD undef) x := hpre 56 (by decide)
      have hk := Lib.hid (show ∀ v7 x', vhG2 v X Y IA IB w.heap.size q B1 B2 B3 B4 B5 B6 B7 B8 B9 B10 C2 C3 C4 C5 C6 C7 C8 C9 C10 79 v7 x' → Below x.heap.size x x' → K (a.put (some 79) v7) x' from hK)
      have Hbx := Lib.hid hbx
      clear hsame hpre hK hbx
      cases B9
      all_goals first | (refine step_left (not_wanted (j := 56) (t := 75) (b := false) rfl rfl (by first | exact Or.inr q75 | exact Or.inl q75)) ?_; exact hk.out _ _ rfl (Below.refl _ _)) | (refine step_wanted (wanted_of (j := 56) (t := 75) (b := false) rfl rfl q75) ?_; replace q78 : a.tmps[78]?.getD undef = _ := q78; go_simp; exact hk.out _ _ rfl (Below.refl _ _))
    · have q75 : vhG2 v X Y IA IB w.heap.size q B1 B2 B3 B4 B5 B6 B7 B8 B9 B10 C2 C3 C4 C5 C6 C7 C8 C9 C10 75 (a.tmps[75]?.getD undef) x := hpre 56 (by decide)
      have q79 : vhG2 v X Y IA IB w.heap.size q B1 B2 B3 B4 B5 B6 B7 B8 B9 B10 C2 C3 C4 C5 C6 C7 C8 C9 C10 79 (a.tmps[79]?.getD undef) x := hpre 60 (by decide)
      have hk := Lib.hid (show ∀ v7 x', vhG2 v X Y IA IB w.heap.size q B1 B2 B3 B4 B5 B6 B7 B8 B9 B10 C2 C3 C4 C5 C6 C7 C8 C9 C10 80 v7 x' → Below x.heap.size x x' → K (a.put (some 80) v7) x' from hK)
      have Hbx := Lib.hid hbx
      clear hsame hpre hK hbx
      cases B9
      all_goals (refine step_plain rfl ?_; replace q75 : a.tmps[75]?.getD undef = _ := q75; replace q79 : a.tmps[79]?.getD undef = _ := q79; go_simp; exact hk.out _ _ (by show Value.bool _ = .bool B10; rw [HB10.out]; rfl) (Below.refl _ _))
  intro a x hbx hsame hG hsz2 hde2
  have Hx := Lib.hid (below_call Hb1.out hbx)
  have f0 := (hsame 0 (by decide +kernel)).trans o0
  have f4 := (hsame 4 (by decide +kernel)).trans o4
  have f5 := (hsame 5 (by decide +kernel)).trans o5
  have f6 := (hsame 6 (by decide +kernel)).trans o6
  have f80 : a.tmps[80]?.getD undef = .bool B10 := hG 61 (by decide)
  have hde3 : a.defers = [] := hde2.trans hde
  clear hsame hG hbx o0 o4 o5 o6 f19 f20 f21 f22 f23 hde hde2 Hb1 hC2 hC3 hC4 hC5 hC6 hC7 hC8 hC9 hC10 kC9 kC10 heq hsz
  have hsz11 := Lib.hid hsz2
  have hde11 := Lib.hid hde3
  clear hsz2 hde3
  refine seg_end (by rfl) ?_
  refine then_go ?_
  repeat with_reducible refine wp_seq ?_
  cases B10 with
  | true =>
    refine wp_cond_true (eval_at f80) ?_
    clear f80
    repeat with_reducible refine wp_seq ?_
    refine wp_region_lit ?_
    refine wpList_next rfl hsz11 hde11 81 rfl (by decide) fun K hK => ?_
    go_simp
    refine (Hl.out _).mono ?_
    rintro e7 w7 ⟨rfl, hb7⟩
    go_simp
    refine hK _ _ fun a12 hsz12 hde12 f81 hk => ?_
    clear hK
    replace f0 := (hk 0 (by decide)).trans f0
    replace f4 := (hk 4 (by decide)).trans f4
    replace f5 := (hk 5 (by decide)).trans f5
    replace f6 := (hk 6 (by decide)).trans f6
    replace f81 : a12.tmps[81]?.getD undef = .bool true := f81
    clear hk hsz11 hde11
    refine wpList_next rfl hsz12 hde12 6 rfl (by decide) fun K hK => ?_
    go_simp
    refine hK _ _ fun a13 hsz13 hde13 f6 hk => ?_
    clear hK
    replace f0 := (hk 0 (by decide)).trans f0
    replace f4 := (hk 4 (by decide)).trans f4
    replace f5 := (hk 5 (by decide)).trans f5
    replace f6 : a13.tmps[6]?.getD undef = .bool true := f6
    clear hk hsz12 hde12 f81
    refine wpList_nil ?_
    refine then_go ?_
    refine wp_ret ?_
    refine (ret_tmp (R := fun e2 w2 => e2 = .returned (.bool true) ∧ Below w.heap.size w w2) Try.results6 hde13 f6 ?_)
    exact ⟨rfl, below_call (below_call Hbel.out Hx.out) hb7⟩
  | false =>
    obtain ⟨rfl, rfl⟩ := or_no HB10.out
    obtain ⟨rfl, rfl⟩ := or_no HB9.out
    obtain ⟨rfl, rfl⟩ := or_no HB8.out
    obtain ⟨rfl, rfl⟩ := or_no HB7.out
    obtain ⟨rfl, rfl⟩ := or_no HB6.out
    obtain ⟨rfl, rfl⟩ := or_no HB5.out
    obtain ⟨rfl, rfl⟩ := or_no HB4.out
    obtain ⟨rfl, rfl⟩ := or_no HB3.out
    obtain ⟨rfl, rfl⟩ := or_no HB2.out
    obtain rfl : q = true := by
      have := HB1.out
      cases q
      · cases this
      · rfl
    obtain ⟨hsv, hlv, hdv⟩ := Hq.out rfl
    have m2 := of_decide_eq_false HC2.out.symm
    have m3 := of_decide_eq_false HC3.out.symm
    have m5 := of_decide_eq_false HC5.out.symm
    have m6 := of_decide_eq_false HC6.out.symm
    have m7 := of_decide_eq_false HC7.out.symm
    have m8 := of_decide_eq_false HC8.out.symm
    have m9 := of_decide_eq_false HC9.out.symm
    have m10 := of_decide_eq_false HC10.out.symm
    have Hfit := Lib.hid (show X.data.length ≤ 300 ∧ Y.data.length ≤ 300 ∧ 1 ≤ X.rep ∧ X.rep ≤ 8 ∧ 1 ≤ Y.rep ∧ Y.rep ≤ 8 ∧ 1 ≤ X.seq ∧ 1 ≤ Y.seq by omega)
    have Hne := Lib.hid (show sameI X.rep X.seq Y.rep Y.seq = false from HC4.out.symm)
    have Hsv := Lib.hid hsv
    have Hlv := Lib.hid hlv
    have Hdv := Lib.hid (show ∀ x ∈ L, x.data.length ≤ 1000 from fun x hx => Nat.le_trans (hdv x hx) (by omega))
    clear m2 m3 m5 m6 m7 m8 m9 m10 hsv hlv hdv HB1 HB2 HB3 HB4 HB5 HB6 HB7 HB8 HB9 HB10 HC2 HC3 HC4 HC5 HC6 HC7 HC8 HC9 HC10 Hq He3 HF
    obtain ⟨X0, hX0⟩ : ∃ z : Ver, z = { X with by_ := zeroV } := ⟨_, rfl⟩
    obtain ⟨Y0, hY0⟩ : ∃ z : Ver, z = { Y with by_ := zeroV } := ⟨_, rfl⟩
    obtain ⟨Z, hZ⟩ : ∃ Z, Z = av zeroV := ⟨_, rfl⟩
    obtain ⟨thX, bX⟩ := zero_by (HboxA.out.grow Hx.out)
    have bY0 : Blk (x.setCells w.heap.size 3 (av zeroV).toList) (w.heap.size + 1) 39 (verC Y) := (HboxB.out.grow Hx.out).keep (heap_setCells _ _ _ _ _ (by omega))
    obtain ⟨thY, bY⟩ := zero_by bY0
    have bX2 := bX.keep (heap_setCells (w.heap.size + 1) (av zeroV).toList 3 (x.setCells w.heap.size 3 (av zeroV).toList) w.heap.size (by omega))
    have hbl0 : Below w.heap.size w x := below_call Hbel.out Hx.out
    have hbl1 : Below w.heap.size w (x.setCells w.heap.size 3 (av zeroV).toList) := below_setCells hbl0 (Nat.le_refl _) hbl0.size _ _
    have hbl2 : Below w.heap.size w ((x.setCells w.heap.size 3 (av zeroV).toList).setCells (w.heap.size + 1) 3 (av zeroV).toList) := below_setCells hbl1 (by omega) hbl1.size _ _
    rw [← hX0] at bX2
    rw [← hY0] at bY
    rw [← hZ] at thY bX2 bY hbl2
    have ThX := Lib.hid thX
    have ThY := Lib.hid thY
    have HZ := Lib.hid (show Z = #[.int .u32 0, .int .u32 0, .int .u32 0, .int .u32 0, .int .u32 0, .int .u32 0, .int .u32 0, .int .u32 0] by rw [hZ]; rfl)
    have HinfZ := Lib.hid (show (Try.prog.info? 37).map (·.size) = some Z.size by rw [hZ]; exact vec_info)
    have HoneZ := Lib.hid (show Z.all (·.oneCell') = true by rw [hZ]; exact av_one _)
    have HsZ := Lib.hid (show Z.size = 8 by rw [hZ]; rfl)
    obtain ⟨y, hy⟩ : ∃ y, y = (x.setCells w.heap.size 3 Z.toList).setCells (w.heap.size + 1) 3 Z.toList := ⟨_, rfl⟩
    rw [← hy] at bX2 bY hbl2
    have BX := Lib.hid bX2
    have BY := Lib.hid bY
    have Hy := Lib.hid hbl2
    have HYe := Lib.hid hy
    have HXok := Lib.hid (show VerOk X0 by rw [hX0]; exact ⟨HX.out.rep, HX.out.seq, HX.out.data, okV_zero⟩)
    have HYok := Lib.hid (show VerOk Y0 by rw [hY0]; exact ⟨HY.out.rep, HY.out.seq, HY.out.data, okV_zero⟩)
    have HX0 := Lib.hid (show X0.rep = X.rep ∧ X0.seq = X.seq ∧ X0.data = X.data ∧ headV X0 = true by rw [hX0]; exact ⟨rfl, rfl, rfl, eqV_iff.2 fun _ _ => rfl⟩)
    have HY0 := Lib.hid (show Y0.rep = Y.rep ∧ Y0.seq = Y.seq ∧ Y0.data = Y.data ∧ headV Y0 = true by rw [hY0]; exact ⟨rfl, rfl, rfl, eqV_iff.2 fun _ _ => rfl⟩)
    clear thX bX bY0 thY bX2 bY hbl0 hbl1 hbl2 hX0 hY0 hZ hy
    refine wp_cond_false (eval_at f80) ?_
    refine wp_skip ?_
    refine then_go ?_
    clear f80
    repeat with_reducible refine wp_seq ?_
    refine wp_region_lit ?_
    refine wpList_next rfl hsz11 hde11 82 rfl (by decide) fun K hK => ?_
    go_simp
    refine hK _ _ fun a12 hsz12 hde12 f82 hk => ?_
    clear hK
    replace f0 := (hk 0 (by decide)).trans f0
    replace f4 := (hk 4 (by decide)).trans f4
    replace f5 := (hk 5 (by decide)).trans f5
    replace f6 := (hk 6 (by decide)).trans f6
    clear hk hsz11 hde11
    replace f82 : a12.tmps[82]?.getD undef = .agg Z := by rw [HZ.out]; exact f82
    refine wpList_next rfl hsz12 hde12 83 rfl (by decide) fun K hK => ?_
    go_simp
    refine hK _ _ fun a13 hsz13 hde13 f83 hk => ?_
    clear hK
    replace f0 := (hk 0 (by decide)).trans f0
    replace f4 := (hk 4 (by decide)).trans f4
    replace f5 := (hk 5 (by decide)).trans f5
    replace f6 := (hk 6 (by decide)).trans f6
    replace f82 := (hk 82 (by decide)).trans f82
    clear hk hsz12 hde12
    replace f83 : a13.tmps[83]?.getD undef = .agg Z := by rw [HZ.out]; exact f83
    refine wpList_next rfl hsz13 hde13 84 rfl (by decide) fun K hK => ?_
    go_simp
    refine hK _ _ fun a14 hsz14 hde14 f84 hk => ?_
    clear hK
    replace f0 := (hk 0 (by decide)).trans f0
    replace f4 := (hk 4 (by decide)).trans f4
    replace f5 := (hk 5 (by decide)).trans f5
    replace f6 := (hk 6 (by decide)).trans f6
    replace f82 := (hk 82 (by decide)).trans f82
    replace f83 := (hk 83 (by decide)).trans f83
    replace f84 : a14.tmps[84]?.getD undef = .pointer (some ⟨w.heap.size, 3, none⟩) := f84
    clear hk hsz13 hde13
    refine wpList_next0 rfl rfl fun K hK => ?_
    refine wp_store_mid 37 (.tmp 84) (.tmp 82) rfl (w.heap.size) 3 Z (eval_at f84) (eval_at f82) (by rw [HsZ.out]; exact ThX.out) HinfZ.out HoneZ.out ?_
    refine hK _ _ ?_
    clear hK
    refine wpList_next rfl hsz14 hde14 85 rfl (by decide) fun K hK => ?_
    go_simp
    refine hK _ _ fun a15 hsz15 hde15 f85 hk => ?_
    clear hK
    replace f0 := (hk 0 (by decide)).trans f0
    replace f4 := (hk 4 (by decide)).trans f4
    replace f5 := (hk 5 (by decide)).trans f5
    replace f6 := (hk 6 (by decide)).trans f6
    replace f83 := (hk 83 (by decide)).trans f83
    replace f85 : a15.tmps[85]?.getD undef = .pointer (some ⟨w.heap.size + 1, 3, none⟩) := f85
    clear hk hsz14 hde14 f82 f84
    refine wpList_next0 rfl rfl fun K hK => ?_
    refine wp_store_mid 37 (.tmp 85) (.tmp 83) rfl (w.heap.size + 1) 3 Z (eval_at f85) (eval_at f83) (by rw [HsZ.out]; exact ThY.out) HinfZ.out HoneZ.out ?_
    refine hK _ _ ?_
    clear hK
    clear f83 f85
    refine wpList_nil ?_
    rw [← HYe.out]
    have HLy := Lib.hid (HL0.out.grow Hy.out)
    clear ThX ThY HZ HinfZ HoneZ HsZ HYe Hx
    obtain ⟨A, c, hve, hc1, hc2, hE⟩ := ver_at HLy.out
    subst hve
    have Hel := Lib.hid hE
    obtain ⟨n, hn⟩ : ∃ n, n = L.length := ⟨_, rfl⟩
    rw [← hn] at hc1 HL HL0 HLy f0
    have Hn := Lib.hid hn
    have hm : maxLen ≤ 9223372036854775807 := by decide
    clear hE hn
    obtain ⟨CX0, hCX0⟩ : ∃ C, C = verC X0 := ⟨_, rfl⟩
    obtain ⟨CY0, hCY0⟩ : ∃ C, C = verC Y0 := ⟨_, rfl⟩
    have RX := Lib.hid (show ∀ z, Below y.heap.size y z → z.rangeAt w.heap.size 0 IA.toList from fun z hz => by
      have := (BX.out.grow hz).ver.id
      rw [HX0.out.1, HX0.out.2.1, ← HIA.out] at this; exact this)
    have RY := Lib.hid (show ∀ z, Below y.heap.size y z → z.rangeAt (w.heap.size + 1) 0 IB.toList from fun z hz => by
      have := (BY.out.grow hz).ver.id
      rw [HY0.out.1, HY0.out.2.1, ← HIB.out] at this; exact this)
    rw [← hCX0] at BX
    rw [← hCY0] at BY
    have HCX0 := Lib.hid hCX0
    have HCY0 := Lib.hid hCY0
    clear hCX0 hCY0
    refine then_go ?_
    repeat with_reducible refine wp_seq ?_
    refine wp_region_lit ?_
    refine wpList_next rfl hsz15 hde15 86 rfl (by decide) fun K hK => ?_
    go_simp
    refine hK _ _ fun a16 hsz16 hde16 f86 hk => ?_
    clear hK
    replace f0 := (hk 0 (by decide)).trans f0
    replace f4 := (hk 4 (by decide)).trans f4
    replace f5 := (hk 5 (by decide)).trans f5
    replace f6 := (hk 6 (by decide)).trans f6
    replace f86 : a16.tmps[86]?.getD undef = .slice A n c := f86
    clear hk hsz15 hde15
    refine wpList_next rfl hsz16 hde16 87 rfl (by decide) fun K hK => ?_
    go_simp
    refine hK _ _ fun a17 hsz17 hde17 f87 hk => ?_
    clear hK
    replace f0 := (hk 0 (by decide)).trans f0
    replace f4 := (hk 4 (by decide)).trans f4
    replace f5 := (hk 5 (by decide)).trans f5
    replace f6 := (hk 6 (by decide)).trans f6
    replace f86 := (hk 86 (by decide)).trans f86
    replace f87 : a17.tmps[87]?.getD undef = .int .i64 (n : Int) := f87
    clear hk hsz16 hde16
    refine wpList_next rfl hsz17 hde17 88 rfl (by decide) fun K hK => ?_
    go_simp
    refine hK _ _ fun a18 hsz18 hde18 f88 hk => ?_
    clear hK
    replace f0 := (hk 0 (by decide)).trans f0
    replace f4 := (hk 4 (by decide)).trans f4
    replace f5 := (hk 5 (by decide)).trans f5
    replace f6 := (hk 6 (by decide)).trans f6
    replace f86 := (hk 86 (by decide)).trans f86
    replace f87 := (hk 87 (by decide)).trans f87
    replace f88 : a18.tmps[88]?.getD undef = .int .i64 ((0 : Nat) : Int) := f88
    clear hk hsz17 hde17
    refine wpList_nil ?_
    refine then_go ?_
    repeat with_reducible refine wp_seq ?_
    refine wp_block ?_
    refine wp_loop (fun a wr => ∃ k : Nat, k ≤ n ∧ Hid (a.tmps.size = 183) ∧ Hid (a.defers = []) ∧ a.tmps[88]?.getD undef = .int .i64 (k : Int) ∧ a.tmps[0]?.getD undef = .slice A n c ∧ a.tmps[4]?.getD undef = .pointer (some ⟨w.heap.size, 0, none⟩) ∧ a.tmps[5]?.getD undef = .pointer (some ⟨w.heap.size + 1, 0, none⟩) ∧ a.tmps[6]?.getD undef = .bool false ∧ a.tmps[86]?.getD undef = .slice A n c ∧ a.tmps[87]?.getD undef = .int .i64 (n : Int) ∧ Hid (∀ j (hj : j < L.length), j < k → sameI L[j].rep L[j].seq X.rep X.seq = false ∧ sameI L[j].rep L[j].seq Y.rep Y.seq = false) ∧ Hid (Below y.heap.size y wr)) (fun a _ => n - (intOf (a.tmps[88]?.getD undef)).toNat) ?_ ?_
    · exact ⟨0, by omega, hsz18, hde18, f88, f0, f4, f5, f6, f86, f87, Lib.hid (fun j _ h => by omega), Lib.hid (Below.refl _ _)⟩
    clear hsz18 hde18 f0 f4 f5 f6 f86 f87 f88
    intro a19 wr hI
    obtain ⟨k, hk, hsz19, hde19, f88, f0, f4, f5, f6, f86, f87, Hall, Hbw⟩ := hI
    have F88o := Lib.hid f88
    repeat with_reducible refine wp_seq ?_
    by_cases hlt : k < n
    · have hdk : decide ((k : Int) < (n : Int)) = true := decide_eq_true (by omega)
      have hkl : k < L.length := by rw [← Hn.out]; exact hlt
      obtain ⟨b, off, rfl, _, hxc⟩ := ver_here Hel.out hkl Hbw.out
      have e1i := fun z => ideq_run L[k].rep L[k].seq X.rep X.seq z
      have e2i := fun z => ideq_run L[k].rep L[k].seq Y.rep Y.seq z
      obtain ⟨e1, he1⟩ : ∃ e, e = sameI L[k].rep L[k].seq X.rep X.seq := ⟨_, rfl⟩
      obtain ⟨e2, he2⟩ : ∃ e, e = sameI L[k].rep L[k].seq Y.rep Y.seq := ⟨_, rfl⟩
      rw [← he1, ← HIA.out] at e1i
      rw [← he2, ← HIB.out] at e2i
      have He1 := Lib.hid he1
      have He2 := Lib.hid he2
      obtain ⟨x5, hx5⟩ : ∃ x5, x5 = L[k] := ⟨_, rfl⟩
      rw [← hx5] at hxc e1i e2i
      have hra := hxc.all
      obtain ⟨C, hC⟩ : ∃ C, C = verC x5 := ⟨_, rfl⟩
      obtain ⟨IC, hIC⟩ : ∃ I, I = idC x5.rep x5.seq := ⟨_, rfl⟩
      rw [← hIC] at e1i e2i
      have hsz : C.size = 11 := by rw [hC]; rfl
      have HinfL := Lib.hid (show (Try.prog.info? 39).map (·.size) = some C.toList.length by rw [hC]; exact ver_info)
      have Hinf := Lib.hid (show (Try.prog.info? 39).map (·.size) = some C.size by rw [hC]; exact ver_info)
      have Hone := Lib.hid (show C.all (·.oneCell') = true by rw [hC]; exact verC_one x5)
      have HinfC := Lib.hid (show (Try.prog.info? 35).map (·.size) = some IC.toList.length by rw [hIC]; exact id_info)
      have RC := Lib.hid (show (wr.alloc (.cells C 39)).rangeAt wr.heap.size 0 IC.toList by rw [hC, hIC]; exact (Blk.new wr 39 (verC x5)).ver.id)
      have Hbl := Lib.hid (Hbw.out.alloc Hbw.out.size (.cells C 39))
      have RX1 := Lib.hid (RX.out _ Hbl.out)
      have RY1 := Lib.hid (RY.out _ Hbl.out)
      rw [← hC] at hra
      have R := Lib.hid hra
      clear hxc hx5 hra hC hIC he1 he2 Hel
      refine wp_region_lit ?_
      refine wpList_next rfl hsz19 hde19 89 rfl (by decide) fun K hK => ?_
      go_simp
      refine hK _ _ fun a20 hsz20 hde20 f89 hk => ?_
      clear hK
      replace f88 := (hk 88 (by decide)).trans f88
      replace f0 := (hk 0 (by decide)).trans f0
      replace f4 := (hk 4 (by decide)).trans f4
      replace f5 := (hk 5 (by decide)).trans f5
      replace f6 := (hk 6 (by decide)).trans f6
      replace f86 := (hk 86 (by decide)).trans f86
      replace f87 := (hk 87 (by decide)).trans f87
      clear hk hsz19 hde19
      replace f89 : a20.tmps[89]?.getD undef = .bool true := f89.trans (by first | rfl | simp [hlt])
      refine wpList_nil ?_
      refine then_go ?_
      repeat with_reducible refine wp_seq ?_
      refine wp_cond_true (eval_at f89) ?_
      refine wp_skip ?_
      refine then_go ?_
      clear f89
      repeat with_reducible refine wp_seq ?_
      refine wp_block ?_
      repeat with_reducible refine wp_seq ?_
      refine wp_region_lit ?_
      refine wpList_next rfl hsz20 hde20 90 rfl (by decide) fun K hK => ?_
      go_simp
      refine hK _ _ fun a21 hsz21 hde21 f90 hk => ?_
      clear hK
      replace f88 := (hk 88 (by decide)).trans f88
      replace f0 := (hk 0 (by decide)).trans f0
      replace f4 := (hk 4 (by decide)).trans f4
      replace f5 := (hk 5 (by decide)).trans f5
      replace f6 := (hk 6 (by decide)).trans f6
      replace f86 := (hk 86 (by decide)).trans f86
      replace f87 := (hk 87 (by decide)).trans f87
      replace f90 : a21.tmps[90]?.getD undef = .pointer (some ⟨b, off + k * 11, none⟩) := f90
      clear hk hsz20 hde20
      refine wpList_next rfl hsz21 hde21 91 rfl (by decide) fun K hK => ?_
      refine wp_load_mid 39 (.tmp 90) rfl b (off + k * 11) (eval_at f90) C.toList _ R.out Try.underlying39 rfl HinfL.out ?_
      refine hK _ _ fun a22 hsz22 hde22 f91 hk => ?_
      clear hK
      replace f88 := (hk 88 (by decide)).trans f88
      replace f0 := (hk 0 (by decide)).trans f0
      replace f4 := (hk 4 (by decide)).trans f4
      replace f5 := (hk 5 (by decide)).trans f5
      replace f6 := (hk 6 (by decide)).trans f6
      replace f86 := (hk 86 (by decide)).trans f86
      replace f87 := (hk 87 (by decide)).trans f87
      replace f91 : a22.tmps[91]?.getD undef = .agg C := f91
      clear hk hsz21 hde21 f90
      refine wpList_next rfl hsz22 hde22 8 rfl (by decide) fun K hK => ?_
      go_simp
      refine hK _ _ fun a23 hsz23 hde23 f8 hk => ?_
      clear hK
      replace f88 := (hk 88 (by decide)).trans f88
      replace f0 := (hk 0 (by decide)).trans f0
      replace f4 := (hk 4 (by decide)).trans f4
      replace f5 := (hk 5 (by decide)).trans f5
      replace f6 := (hk 6 (by decide)).trans f6
      replace f86 := (hk 86 (by decide)).trans f86
      replace f87 := (hk 87 (by decide)).trans f87
      replace f91 := (hk 91 (by decide)).trans f91
      replace f8 : a23.tmps[8]?.getD undef = .pointer (some ⟨wr.heap.size, 0, none⟩) := f8
      clear hk hsz22 hde22
      refine wpList_next0 rfl rfl fun K hK => ?_
      refine wp_store_new 39 (.tmp 8) (.tmp 91) rfl zeroC C (eval_at f8) (eval_at f91) Hinf.out (by rw [hsz]; rfl) Hone.out ?_
      refine hK _ _ ?_
      clear hK
      clear f91
      refine wpList_nil ?_
      refine then_go ?_
      repeat with_reducible refine wp_seq ?_
      cases e1 with
      | true =>
        refine wp_region_lit ?_
        refine wpList_next rfl hsz23 hde23 92 rfl (by decide) fun K hK => ?_
        go_simp
        refine hK _ _ fun a24 hsz24 hde24 f92 hk => ?_
        clear hK
        replace f88 := (hk 88 (by decide)).trans f88
        replace f0 := (hk 0 (by decide)).trans f0
        replace f4 := (hk 4 (by decide)).trans f4
        replace f5 := (hk 5 (by decide)).trans f5
        replace f6 := (hk 6 (by decide)).trans f6
        replace f86 := (hk 86 (by decide)).trans f86
        replace f87 := (hk 87 (by decide)).trans f87
        replace f8 := (hk 8 (by decide)).trans f8
        replace f92 : a24.tmps[92]?.getD undef = .pointer (some ⟨wr.heap.size, 0, none⟩) := f92
        clear hk hsz23 hde23
        refine wpList_next rfl hsz24 hde24 93 rfl (by decide) fun K hK => ?_
        refine wp_load_mid 35 (.tmp 92) rfl wr.heap.size 0 (eval_at f92) IC.toList _ RC.out Try.underlying35 rfl HinfC.out ?_
        refine hK _ _ fun a25 hsz25 hde25 f93 hk => ?_
        clear hK
        replace f88 := (hk 88 (by decide)).trans f88
        replace f0 := (hk 0 (by decide)).trans f0
        replace f4 := (hk 4 (by decide)).trans f4
        replace f5 := (hk 5 (by decide)).trans f5
        replace f6 := (hk 6 (by decide)).trans f6
        replace f86 := (hk 86 (by decide)).trans f86
        replace f87 := (hk 87 (by decide)).trans f87
        replace f8 := (hk 8 (by decide)).trans f8
        replace f93 : a25.tmps[93]?.getD undef = .agg IC := f93
        clear hk hsz24 hde24 f92
        refine wpList_next rfl hsz25 hde25 94 rfl (by decide) fun K hK => ?_
        go_simp
        refine hK _ _ fun a26 hsz26 hde26 f94 hk => ?_
        clear hK
        replace f88 := (hk 88 (by decide)).trans f88
        replace f0 := (hk 0 (by decide)).trans f0
        replace f4 := (hk 4 (by decide)).trans f4
        replace f5 := (hk 5 (by decide)).trans f5
        replace f6 := (hk 6 (by decide)).trans f6
        replace f86 := (hk 86 (by decide)).trans f86
        replace f87 := (hk 87 (by decide)).trans f87
        replace f8 := (hk 8 (by decide)).trans f8
        replace f93 := (hk 93 (by decide)).trans f93
        replace f94 : a26.tmps[94]?.getD undef = .pointer (some ⟨w.heap.size, 0, none⟩) := f94
        clear hk hsz25 hde25
        refine wpList_next rfl hsz26 hde26 95 rfl (by decide) fun K hK => ?_
        refine wp_load_mid 35 (.tmp 94) rfl w.heap.size 0 (eval_at f94) IA.toList _ RX1.out Try.underlying35 rfl HinfA.out ?_
        refine hK _ _ fun a27 hsz27 hde27 f95 hk => ?_
        clear hK
        replace f88 := (hk 88 (by decide)).trans f88
        replace f0 := (hk 0 (by decide)).trans f0
        replace f4 := (hk 4 (by decide)).trans f4
        replace f5 := (hk 5 (by decide)).trans f5
        replace f6 := (hk 6 (by decide)).trans f6
        replace f86 := (hk 86 (by decide)).trans f86
        replace f87 := (hk 87 (by decide)).trans f87
        replace f8 := (hk 8 (by decide)).trans f8
        replace f93 := (hk 93 (by decide)).trans f93
        replace f95 : a27.tmps[95]?.getD undef = .agg IA := f95
        clear hk hsz26 hde26 f94
        refine wpList_next rfl hsz27 hde27 96 rfl (by decide) fun K hK => ?_
        go_simp
        refine hK _ _ fun a28 hsz28 hde28 f96 hk => ?_
        clear hK
        replace f88 := (hk 88 (by decide)).trans f88
        replace f0 := (hk 0 (by decide)).trans f0
        replace f4 := (hk 4 (by decide)).trans f4
        replace f5 := (hk 5 (by decide)).trans f5
        replace f6 := (hk 6 (by decide)).trans f6
        replace f86 := (hk 86 (by decide)).trans f86
        replace f87 := (hk 87 (by decide)).trans f87
        replace f8 := (hk 8 (by decide)).trans f8
        replace f96 : a28.tmps[96]?.getD undef = .bool true := f96
        clear hk hsz27 hde27 f93 f95
        refine wpList_next rfl hsz28 hde28 97 rfl (by decide) fun K hK => ?_
        go_simp
        refine hK _ _ fun a29 hsz29 hde29 f97 hk => ?_
        clear hK
        replace f88 := (hk 88 (by decide)).trans f88
        replace f0 := (hk 0 (by decide)).trans f0
        replace f4 := (hk 4 (by decide)).trans f4
        replace f5 := (hk 5 (by decide)).trans f5
        replace f6 := (hk 6 (by decide)).trans f6
        replace f86 := (hk 86 (by decide)).trans f86
        replace f87 := (hk 87 (by decide)).trans f87
        replace f8 := (hk 8 (by decide)).trans f8
        replace f97 : a29.tmps[97]?.getD undef = .bool true := f97
        clear hk hsz28 hde28 f96
        refine wpList_leave (not_wanted (j := 5) (t := 97) (b := false) rfl rfl (.inr f97)) hsz29 hde29 98 rfl (by decide) fun a30 hsz30 hde30 f98 hk => ?_
        replace f88 := (hk 88 (by decide)).trans f88
        replace f0 := (hk 0 (by decide)).trans f0
        replace f4 := (hk 4 (by decide)).trans f4
        replace f5 := (hk 5 (by decide)).trans f5
        replace f6 := (hk 6 (by decide)).trans f6
        replace f86 := (hk 86 (by decide)).trans f86
        replace f87 := (hk 87 (by decide)).trans f87
        replace f8 := (hk 8 (by decide)).trans f8
        replace f97 := (hk 97 (by decide)).trans f97
        clear hk hsz29 hde29
        refine wpList_leave (not_wanted (j := 5) (t := 97) (b := false) rfl rfl (.inr f97)) hsz30 hde30 99 rfl (by decide) fun a31 hsz31 hde31 f99 hk => ?_
        replace f88 := (hk 88 (by decide)).trans f88
        replace f0 := (hk 0 (by decide)).trans f0
        replace f4 := (hk 4 (by decide)).trans f4
        replace f5 := (hk 5 (by decide)).trans f5
        replace f6 := (hk 6 (by decide)).trans f6
        replace f86 := (hk 86 (by decide)).trans f86
        replace f87 := (hk 87 (by decide)).trans f87
        replace f8 := (hk 8 (by decide)).trans f8
        replace f97 := (hk 97 (by decide)).trans f97
        clear hk hsz30 hde30 f98
        refine wpList_leave (not_wanted (j := 5) (t := 97) (b := false) rfl rfl (.inr f97)) hsz31 hde31 100 rfl (by decide) fun a32 hsz32 hde32 f100 hk => ?_
        replace f88 := (hk 88 (by decide)).trans f88
        replace f0 := (hk 0 (by decide)).trans f0
        replace f4 := (hk 4 (by decide)).trans f4
        replace f5 := (hk 5 (by decide)).trans f5
        replace f6 := (hk 6 (by decide)).trans f6
        replace f86 := (hk 86 (by decide)).trans f86
        replace f87 := (hk 87 (by decide)).trans f87
        replace f8 := (hk 8 (by decide)).trans f8
        replace f97 := (hk 97 (by decide)).trans f97
        replace f99 := (hk 99 (by decide)).trans f99
        clear hk hsz31 hde31
        refine wpList_leave (not_wanted (j := 5) (t := 97) (b := false) rfl rfl (.inr f97)) hsz32 hde32 101 rfl (by decide) fun a33 hsz33 hde33 f101 hk => ?_
        replace f88 := (hk 88 (by decide)).trans f88
        replace f0 := (hk 0 (by decide)).trans f0
        replace f4 := (hk 4 (by decide)).trans f4
        replace f5 := (hk 5 (by decide)).trans f5
        replace f6 := (hk 6 (by decide)).trans f6
        replace f86 := (hk 86 (by decide)).trans f86
        replace f87 := (hk 87 (by decide)).trans f87
        replace f8 := (hk 8 (by decide)).trans f8
        replace f97 := (hk 97 (by decide)).trans f97
        replace f99 := (hk 99 (by decide)).trans f99
        clear hk hsz32 hde32 f100
        refine wpList_leave (not_wanted (j := 5) (t := 97) (b := false) rfl rfl (.inr f97)) hsz33 hde33 102 rfl (by decide) fun a34 hsz34 hde34 f102 hk => ?_
        replace f88 := (hk 88 (by decide)).trans f88
        replace f0 := (hk 0 (by decide)).trans f0
        replace f4 := (hk 4 (by decide)).trans f4
        replace f5 := (hk 5 (by decide)).trans f5
        replace f6 := (hk 6 (by decide)).trans f6
        replace f86 := (hk 86 (by decide)).trans f86
        replace f87 := (hk 87 (by decide)).trans f87
        replace f8 := (hk 8 (by decide)).trans f8
        replace f97 := (hk 97 (by decide)).trans f97
        clear hk hsz33 hde33 f99 f101
        refine wpList_next rfl hsz34 hde34 103 rfl (by decide) fun K hK => ?_
        go_simp
        refine hK _ _ fun a35 hsz35 hde35 f103 hk => ?_
        clear hK
        replace f88 := (hk 88 (by decide)).trans f88
        replace f0 := (hk 0 (by decide)).trans f0
        replace f4 := (hk 4 (by decide)).trans f4
        replace f5 := (hk 5 (by decide)).trans f5
        replace f6 := (hk 6 (by decide)).trans f6
        replace f86 := (hk 86 (by decide)).trans f86
        replace f87 := (hk 87 (by decide)).trans f87
        replace f8 := (hk 8 (by decide)).trans f8
        replace f103 : a35.tmps[103]?.getD undef = .bool true := f103
        clear hk hsz34 hde34 f97 f102
        refine wpList_nil ?_
        refine wp_cond_true (eval_at f103) ?_
        repeat with_reducible refine wp_seq ?_
        refine wp_region_lit ?_
        refine wpList_next rfl hsz35 hde35 6 rfl (by decide) fun K hK => ?_
        go_simp
        refine hK _ _ fun a36 hsz36 hde36 f6 hk => ?_
        clear hK
        replace f88 := (hk 88 (by decide)).trans f88
        replace f0 := (hk 0 (by decide)).trans f0
        replace f4 := (hk 4 (by decide)).trans f4
        replace f5 := (hk 5 (by decide)).trans f5
        replace f86 := (hk 86 (by decide)).trans f86
        replace f87 := (hk 87 (by decide)).trans f87
        replace f8 := (hk 8 (by decide)).trans f8
        replace f103 := (hk 103 (by decide)).trans f103
        replace f6 : a36.tmps[6]?.getD undef = .bool true := f6
        clear hk hsz35 hde35
        refine wpList_nil ?_
        refine then_go ?_
        refine wp_ret ?_
        refine (ret_tmp (R := fun e2 w2 => e2 = .returned (.bool true) ∧ Below w.heap.size w w2) Try.results6 hde36 f6 ?_)
        exact ⟨rfl, below_call Hy.out Hbl.out⟩
      | false =>
        cases e2 with
        | true =>
          refine wp_region_lit ?_
          refine wpList_next rfl hsz23 hde23 92 rfl (by decide) fun K hK => ?_
          go_simp
          refine hK _ _ fun a24 hsz24 hde24 f92 hk => ?_
          clear hK
          replace f88 := (hk 88 (by decide)).trans f88
          replace f0 := (hk 0 (by decide)).trans f0
          replace f4 := (hk 4 (by decide)).trans f4
          replace f5 := (hk 5 (by decide)).trans f5
          replace f6 := (hk 6 (by decide)).trans f6
          replace f86 := (hk 86 (by decide)).trans f86
          replace f87 := (hk 87 (by decide)).trans f87
          replace f8 := (hk 8 (by decide)).trans f8
          replace f92 : a24.tmps[92]?.getD undef = .pointer (some ⟨wr.heap.size, 0, none⟩) := f92
          clear hk hsz23 hde23
          refine wpList_next rfl hsz24 hde24 93 rfl (by decide) fun K hK => ?_
          refine wp_load_mid 35 (.tmp 92) rfl wr.heap.size 0 (eval_at f92) IC.toList _ RC.out Try.underlying35 rfl HinfC.out ?_
          refine hK _ _ fun a25 hsz25 hde25 f93 hk => ?_
          clear hK
          replace f88 := (hk 88 (by decide)).trans f88
          replace f0 := (hk 0 (by decide)).trans f0
          replace f4 := (hk 4 (by decide)).trans f4
          replace f5 := (hk 5 (by decide)).trans f5
          replace f6 := (hk 6 (by decide)).trans f6
          replace f86 := (hk 86 (by decide)).trans f86
          replace f87 := (hk 87 (by decide)).trans f87
          replace f8 := (hk 8 (by decide)).trans f8
          replace f93 : a25.tmps[93]?.getD undef = .agg IC := f93
          clear hk hsz24 hde24 f92
          refine wpList_next rfl hsz25 hde25 94 rfl (by decide) fun K hK => ?_
          go_simp
          refine hK _ _ fun a26 hsz26 hde26 f94 hk => ?_
          clear hK
          replace f88 := (hk 88 (by decide)).trans f88
          replace f0 := (hk 0 (by decide)).trans f0
          replace f4 := (hk 4 (by decide)).trans f4
          replace f5 := (hk 5 (by decide)).trans f5
          replace f6 := (hk 6 (by decide)).trans f6
          replace f86 := (hk 86 (by decide)).trans f86
          replace f87 := (hk 87 (by decide)).trans f87
          replace f8 := (hk 8 (by decide)).trans f8
          replace f93 := (hk 93 (by decide)).trans f93
          replace f94 : a26.tmps[94]?.getD undef = .pointer (some ⟨w.heap.size, 0, none⟩) := f94
          clear hk hsz25 hde25
          refine wpList_next rfl hsz26 hde26 95 rfl (by decide) fun K hK => ?_
          refine wp_load_mid 35 (.tmp 94) rfl w.heap.size 0 (eval_at f94) IA.toList _ RX1.out Try.underlying35 rfl HinfA.out ?_
          refine hK _ _ fun a27 hsz27 hde27 f95 hk => ?_
          clear hK
          replace f88 := (hk 88 (by decide)).trans f88
          replace f0 := (hk 0 (by decide)).trans f0
          replace f4 := (hk 4 (by decide)).trans f4
          replace f5 := (hk 5 (by decide)).trans f5
          replace f6 := (hk 6 (by decide)).trans f6
          replace f86 := (hk 86 (by decide)).trans f86
          replace f87 := (hk 87 (by decide)).trans f87
          replace f8 := (hk 8 (by decide)).trans f8
          replace f93 := (hk 93 (by decide)).trans f93
          replace f95 : a27.tmps[95]?.getD undef = .agg IA := f95
          clear hk hsz26 hde26 f94
          refine wpList_next rfl hsz27 hde27 96 rfl (by decide) fun K hK => ?_
          go_simp
          refine hK _ _ fun a28 hsz28 hde28 f96 hk => ?_
          clear hK
          replace f88 := (hk 88 (by decide)).trans f88
          replace f0 := (hk 0 (by decide)).trans f0
          replace f4 := (hk 4 (by decide)).trans f4
          replace f5 := (hk 5 (by decide)).trans f5
          replace f6 := (hk 6 (by decide)).trans f6
          replace f86 := (hk 86 (by decide)).trans f86
          replace f87 := (hk 87 (by decide)).trans f87
          replace f8 := (hk 8 (by decide)).trans f8
          replace f96 : a28.tmps[96]?.getD undef = .bool false := f96
          clear hk hsz27 hde27 f93 f95
          refine wpList_next rfl hsz28 hde28 97 rfl (by decide) fun K hK => ?_
          go_simp
          refine hK _ _ fun a29 hsz29 hde29 f97 hk => ?_
          clear hK
          replace f88 := (hk 88 (by decide)).trans f88
          replace f0 := (hk 0 (by decide)).trans f0
          replace f4 := (hk 4 (by decide)).trans f4
          replace f5 := (hk 5 (by decide)).trans f5
          replace f6 := (hk 6 (by decide)).trans f6
          replace f86 := (hk 86 (by decide)).trans f86
          replace f87 := (hk 87 (by decide)).trans f87
          replace f8 := (hk 8 (by decide)).trans f8
          replace f97 : a29.tmps[97]?.getD undef = .bool false := f97
          clear hk hsz28 hde28 f96
          refine wpList_nextg (wanted_of (j := 5) (t := 97) (b := false) rfl rfl f97) hsz29 hde29 98 rfl (by decide) fun K hK => ?_
          go_simp
          refine hK _ _ fun a30 hsz30 hde30 f98 hk => ?_
          clear hK
          replace f88 := (hk 88 (by decide)).trans f88
          replace f0 := (hk 0 (by decide)).trans f0
          replace f4 := (hk 4 (by decide)).trans f4
          replace f5 := (hk 5 (by decide)).trans f5
          replace f6 := (hk 6 (by decide)).trans f6
          replace f86 := (hk 86 (by decide)).trans f86
          replace f87 := (hk 87 (by decide)).trans f87
          replace f8 := (hk 8 (by decide)).trans f8
          replace f97 := (hk 97 (by decide)).trans f97
          replace f98 : a30.tmps[98]?.getD undef = .pointer (some ⟨wr.heap.size, 0, none⟩) := f98
          clear hk hsz29 hde29
          refine wpList_nextg (wanted_of (j := 5) (t := 97) (b := false) rfl rfl f97) hsz30 hde30 99 rfl (by decide) fun K hK => ?_
          refine wp_load_mid 35 (.tmp 98) rfl wr.heap.size 0 (eval_at f98) IC.toList _ RC.out Try.underlying35 rfl HinfC.out ?_
          refine hK _ _ fun a31 hsz31 hde31 f99 hk => ?_
          clear hK
          replace f88 := (hk 88 (by decide)).trans f88
          replace f0 := (hk 0 (by decide)).trans f0
          replace f4 := (hk 4 (by decide)).trans f4
          replace f5 := (hk 5 (by decide)).trans f5
          replace f6 := (hk 6 (by decide)).trans f6
          replace f86 := (hk 86 (by decide)).trans f86
          replace f87 := (hk 87 (by decide)).trans f87
          replace f8 := (hk 8 (by decide)).trans f8
          replace f97 := (hk 97 (by decide)).trans f97
          replace f99 : a31.tmps[99]?.getD undef = .agg IC := f99
          clear hk hsz30 hde30 f98
          refine wpList_nextg (wanted_of (j := 5) (t := 97) (b := false) rfl rfl f97) hsz31 hde31 100 rfl (by decide) fun K hK => ?_
          go_simp
          refine hK _ _ fun a32 hsz32 hde32 f100 hk => ?_
          clear hK
          replace f88 := (hk 88 (by decide)).trans f88
          replace f0 := (hk 0 (by decide)).trans f0
          replace f4 := (hk 4 (by decide)).trans f4
          replace f5 := (hk 5 (by decide)).trans f5
          replace f6 := (hk 6 (by decide)).trans f6
          replace f86 := (hk 86 (by decide)).trans f86
          replace f87 := (hk 87 (by decide)).trans f87
          replace f8 := (hk 8 (by decide)).trans f8
          replace f97 := (hk 97 (by decide)).trans f97
          replace f99 := (hk 99 (by decide)).trans f99
          replace f100 : a32.tmps[100]?.getD undef = .pointer (some ⟨w.heap.size + 1, 0, none⟩) := f100
          clear hk hsz31 hde31
          refine wpList_nextg (wanted_of (j := 5) (t := 97) (b := false) rfl rfl f97) hsz32 hde32 101 rfl (by decide) fun K hK => ?_
          refine wp_load_mid 35 (.tmp 100) rfl (w.heap.size + 1) 0 (eval_at f100) IB.toList _ RY1.out Try.underlying35 rfl HinfB.out ?_
          refine hK _ _ fun a33 hsz33 hde33 f101 hk => ?_
          clear hK
          replace f88 := (hk 88 (by decide)).trans f88
          replace f0 := (hk 0 (by decide)).trans f0
          replace f4 := (hk 4 (by decide)).trans f4
          replace f5 := (hk 5 (by decide)).trans f5
          replace f6 := (hk 6 (by decide)).trans f6
          replace f86 := (hk 86 (by decide)).trans f86
          replace f87 := (hk 87 (by decide)).trans f87
          replace f8 := (hk 8 (by decide)).trans f8
          replace f97 := (hk 97 (by decide)).trans f97
          replace f99 := (hk 99 (by decide)).trans f99
          replace f101 : a33.tmps[101]?.getD undef = .agg IB := f101
          clear hk hsz32 hde32 f100
          refine wpList_nextg (wanted_of (j := 5) (t := 97) (b := false) rfl rfl f97) hsz33 hde33 102 rfl (by decide) fun K hK => ?_
          go_simp
          refine hK _ _ fun a34 hsz34 hde34 f102 hk => ?_
          clear hK
          replace f88 := (hk 88 (by decide)).trans f88
          replace f0 := (hk 0 (by decide)).trans f0
          replace f4 := (hk 4 (by decide)).trans f4
          replace f5 := (hk 5 (by decide)).trans f5
          replace f6 := (hk 6 (by decide)).trans f6
          replace f86 := (hk 86 (by decide)).trans f86
          replace f87 := (hk 87 (by decide)).trans f87
          replace f8 := (hk 8 (by decide)).trans f8
          replace f97 := (hk 97 (by decide)).trans f97
          replace f102 : a34.tmps[102]?.getD undef = .bool true := f102
          clear hk hsz33 hde33 f99 f101
          refine wpList_next rfl hsz34 hde34 103 rfl (by decide) fun K hK => ?_
          go_simp
          refine hK _ _ fun a35 hsz35 hde35 f103 hk => ?_
          clear hK
          replace f88 := (hk 88 (by decide)).trans f88
          replace f0 := (hk 0 (by decide)).trans f0
          replace f4 := (hk 4 (by decide)).trans f4
          replace f5 := (hk 5 (by decide)).trans f5
          replace f6 := (hk 6 (by decide)).trans f6
          replace f86 := (hk 86 (by decide)).trans f86
          replace f87 := (hk 87 (by decide)).trans f87
          replace f8 := (hk 8 (by decide)).trans f8
          replace f103 : a35.tmps[103]?.getD undef = .bool true := f103
          clear hk hsz34 hde34 f97 f102
          refine wpList_nil ?_
          refine wp_cond_true (eval_at f103) ?_
          repeat with_reducible refine wp_seq ?_
          refine wp_region_lit ?_
          refine wpList_next rfl hsz35 hde35 6 rfl (by decide) fun K hK => ?_
          go_simp
          refine hK _ _ fun a36 hsz36 hde36 f6 hk => ?_
          clear hK
          replace f88 := (hk 88 (by decide)).trans f88
          replace f0 := (hk 0 (by decide)).trans f0
          replace f4 := (hk 4 (by decide)).trans f4
          replace f5 := (hk 5 (by decide)).trans f5
          replace f86 := (hk 86 (by decide)).trans f86
          replace f87 := (hk 87 (by decide)).trans f87
          replace f8 := (hk 8 (by decide)).trans f8
          replace f103 := (hk 103 (by decide)).trans f103
          replace f6 : a36.tmps[6]?.getD undef = .bool true := f6
          clear hk hsz35 hde35
          refine wpList_nil ?_
          refine then_go ?_
          refine wp_ret ?_
          refine (ret_tmp (R := fun e2 w2 => e2 = .returned (.bool true) ∧ Below w.heap.size w w2) Try.results6 hde36 f6 ?_)
          exact ⟨rfl, below_call Hy.out Hbl.out⟩
        | false =>
          refine wp_region_lit ?_
          refine wpList_next rfl hsz23 hde23 92 rfl (by decide) fun K hK => ?_
          go_simp
          refine hK _ _ fun a24 hsz24 hde24 f92 hk => ?_
          clear hK
          replace f88 := (hk 88 (by decide)).trans f88
          replace f0 := (hk 0 (by decide)).trans f0
          replace f4 := (hk 4 (by decide)).trans f4
          replace f5 := (hk 5 (by decide)).trans f5
          replace f6 := (hk 6 (by decide)).trans f6
          replace f86 := (hk 86 (by decide)).trans f86
          replace f87 := (hk 87 (by decide)).trans f87
          replace f8 := (hk 8 (by decide)).trans f8
          replace f92 : a24.tmps[92]?.getD undef = .pointer (some ⟨wr.heap.size, 0, none⟩) := f92
          clear hk hsz23 hde23
          refine wpList_next rfl hsz24 hde24 93 rfl (by decide) fun K hK => ?_
          refine wp_load_mid 35 (.tmp 92) rfl wr.heap.size 0 (eval_at f92) IC.toList _ RC.out Try.underlying35 rfl HinfC.out ?_
          refine hK _ _ fun a25 hsz25 hde25 f93 hk => ?_
          clear hK
          replace f88 := (hk 88 (by decide)).trans f88
          replace f0 := (hk 0 (by decide)).trans f0
          replace f4 := (hk 4 (by decide)).trans f4
          replace f5 := (hk 5 (by decide)).trans f5
          replace f6 := (hk 6 (by decide)).trans f6
          replace f86 := (hk 86 (by decide)).trans f86
          replace f87 := (hk 87 (by decide)).trans f87
          replace f8 := (hk 8 (by decide)).trans f8
          replace f93 : a25.tmps[93]?.getD undef = .agg IC := f93
          clear hk hsz24 hde24 f92
          refine wpList_next rfl hsz25 hde25 94 rfl (by decide) fun K hK => ?_
          go_simp
          refine hK _ _ fun a26 hsz26 hde26 f94 hk => ?_
          clear hK
          replace f88 := (hk 88 (by decide)).trans f88
          replace f0 := (hk 0 (by decide)).trans f0
          replace f4 := (hk 4 (by decide)).trans f4
          replace f5 := (hk 5 (by decide)).trans f5
          replace f6 := (hk 6 (by decide)).trans f6
          replace f86 := (hk 86 (by decide)).trans f86
          replace f87 := (hk 87 (by decide)).trans f87
          replace f8 := (hk 8 (by decide)).trans f8
          replace f93 := (hk 93 (by decide)).trans f93
          replace f94 : a26.tmps[94]?.getD undef = .pointer (some ⟨w.heap.size, 0, none⟩) := f94
          clear hk hsz25 hde25
          refine wpList_next rfl hsz26 hde26 95 rfl (by decide) fun K hK => ?_
          refine wp_load_mid 35 (.tmp 94) rfl w.heap.size 0 (eval_at f94) IA.toList _ RX1.out Try.underlying35 rfl HinfA.out ?_
          refine hK _ _ fun a27 hsz27 hde27 f95 hk => ?_
          clear hK
          replace f88 := (hk 88 (by decide)).trans f88
          replace f0 := (hk 0 (by decide)).trans f0
          replace f4 := (hk 4 (by decide)).trans f4
          replace f5 := (hk 5 (by decide)).trans f5
          replace f6 := (hk 6 (by decide)).trans f6
          replace f86 := (hk 86 (by decide)).trans f86
          replace f87 := (hk 87 (by decide)).trans f87
          replace f8 := (hk 8 (by decide)).trans f8
          replace f93 := (hk 93 (by decide)).trans f93
          replace f95 : a27.tmps[95]?.getD undef = .agg IA := f95
          clear hk hsz26 hde26 f94
          refine wpList_next rfl hsz27 hde27 96 rfl (by decide) fun K hK => ?_
          go_simp
          refine hK _ _ fun a28 hsz28 hde28 f96 hk => ?_
          clear hK
          replace f88 := (hk 88 (by decide)).trans f88
          replace f0 := (hk 0 (by decide)).trans f0
          replace f4 := (hk 4 (by decide)).trans f4
          replace f5 := (hk 5 (by decide)).trans f5
          replace f6 := (hk 6 (by decide)).trans f6
          replace f86 := (hk 86 (by decide)).trans f86
          replace f87 := (hk 87 (by decide)).trans f87
          replace f8 := (hk 8 (by decide)).trans f8
          replace f96 : a28.tmps[96]?.getD undef = .bool false := f96
          clear hk hsz27 hde27 f93 f95
          refine wpList_next rfl hsz28 hde28 97 rfl (by decide) fun K hK => ?_
          go_simp
          refine hK _ _ fun a29 hsz29 hde29 f97 hk => ?_
          clear hK
          replace f88 := (hk 88 (by decide)).trans f88
          replace f0 := (hk 0 (by decide)).trans f0
          replace f4 := (hk 4 (by decide)).trans f4
          replace f5 := (hk 5 (by decide)).trans f5
          replace f6 := (hk 6 (by decide)).trans f6
          replace f86 := (hk 86 (by decide)).trans f86
          replace f87 := (hk 87 (by decide)).trans f87
          replace f8 := (hk 8 (by decide)).trans f8
          replace f97 : a29.tmps[97]?.getD undef = .bool false := f97
          clear hk hsz28 hde28 f96
          refine wpList_nextg (wanted_of (j := 5) (t := 97) (b := false) rfl rfl f97) hsz29 hde29 98 rfl (by decide) fun K hK => ?_
          go_simp
          refine hK _ _ fun a30 hsz30 hde30 f98 hk => ?_
          clear hK
          replace f88 := (hk 88 (by decide)).trans f88
          replace f0 := (hk 0 (by decide)).trans f0
          replace f4 := (hk 4 (by decide)).trans f4
          replace f5 := (hk 5 (by decide)).trans f5
          replace f6 := (hk 6 (by decide)).trans f6
          replace f86 := (hk 86 (by decide)).trans f86
          replace f87 := (hk 87 (by decide)).trans f87
          replace f8 := (hk 8 (by decide)).trans f8
          replace f97 := (hk 97 (by decide)).trans f97
          replace f98 : a30.tmps[98]?.getD undef = .pointer (some ⟨wr.heap.size, 0, none⟩) := f98
          clear hk hsz29 hde29
          refine wpList_nextg (wanted_of (j := 5) (t := 97) (b := false) rfl rfl f97) hsz30 hde30 99 rfl (by decide) fun K hK => ?_
          refine wp_load_mid 35 (.tmp 98) rfl wr.heap.size 0 (eval_at f98) IC.toList _ RC.out Try.underlying35 rfl HinfC.out ?_
          refine hK _ _ fun a31 hsz31 hde31 f99 hk => ?_
          clear hK
          replace f88 := (hk 88 (by decide)).trans f88
          replace f0 := (hk 0 (by decide)).trans f0
          replace f4 := (hk 4 (by decide)).trans f4
          replace f5 := (hk 5 (by decide)).trans f5
          replace f6 := (hk 6 (by decide)).trans f6
          replace f86 := (hk 86 (by decide)).trans f86
          replace f87 := (hk 87 (by decide)).trans f87
          replace f8 := (hk 8 (by decide)).trans f8
          replace f97 := (hk 97 (by decide)).trans f97
          replace f99 : a31.tmps[99]?.getD undef = .agg IC := f99
          clear hk hsz30 hde30 f98
          refine wpList_nextg (wanted_of (j := 5) (t := 97) (b := false) rfl rfl f97) hsz31 hde31 100 rfl (by decide) fun K hK => ?_
          go_simp
          refine hK _ _ fun a32 hsz32 hde32 f100 hk => ?_
          clear hK
          replace f88 := (hk 88 (by decide)).trans f88
          replace f0 := (hk 0 (by decide)).trans f0
          replace f4 := (hk 4 (by decide)).trans f4
          replace f5 := (hk 5 (by decide)).trans f5
          replace f6 := (hk 6 (by decide)).trans f6
          replace f86 := (hk 86 (by decide)).trans f86
          replace f87 := (hk 87 (by decide)).trans f87
          replace f8 := (hk 8 (by decide)).trans f8
          replace f97 := (hk 97 (by decide)).trans f97
          replace f99 := (hk 99 (by decide)).trans f99
          replace f100 : a32.tmps[100]?.getD undef = .pointer (some ⟨w.heap.size + 1, 0, none⟩) := f100
          clear hk hsz31 hde31
          refine wpList_nextg (wanted_of (j := 5) (t := 97) (b := false) rfl rfl f97) hsz32 hde32 101 rfl (by decide) fun K hK => ?_
          refine wp_load_mid 35 (.tmp 100) rfl (w.heap.size + 1) 0 (eval_at f100) IB.toList _ RY1.out Try.underlying35 rfl HinfB.out ?_
          refine hK _ _ fun a33 hsz33 hde33 f101 hk => ?_
          clear hK
          replace f88 := (hk 88 (by decide)).trans f88
          replace f0 := (hk 0 (by decide)).trans f0
          replace f4 := (hk 4 (by decide)).trans f4
          replace f5 := (hk 5 (by decide)).trans f5
          replace f6 := (hk 6 (by decide)).trans f6
          replace f86 := (hk 86 (by decide)).trans f86
          replace f87 := (hk 87 (by decide)).trans f87
          replace f8 := (hk 8 (by decide)).trans f8
          replace f97 := (hk 97 (by decide)).trans f97
          replace f99 := (hk 99 (by decide)).trans f99
          replace f101 : a33.tmps[101]?.getD undef = .agg IB := f101
          clear hk hsz32 hde32 f100
          refine wpList_nextg (wanted_of (j := 5) (t := 97) (b := false) rfl rfl f97) hsz33 hde33 102 rfl (by decide) fun K hK => ?_
          go_simp
          refine hK _ _ fun a34 hsz34 hde34 f102 hk => ?_
          clear hK
          replace f88 := (hk 88 (by decide)).trans f88
          replace f0 := (hk 0 (by decide)).trans f0
          replace f4 := (hk 4 (by decide)).trans f4
          replace f5 := (hk 5 (by decide)).trans f5
          replace f6 := (hk 6 (by decide)).trans f6
          replace f86 := (hk 86 (by decide)).trans f86
          replace f87 := (hk 87 (by decide)).trans f87
          replace f8 := (hk 8 (by decide)).trans f8
          replace f97 := (hk 97 (by decide)).trans f97
          replace f102 : a34.tmps[102]?.getD undef = .bool false := f102
          clear hk hsz33 hde33 f99 f101
          refine wpList_next rfl hsz34 hde34 103 rfl (by decide) fun K hK => ?_
          go_simp
          refine hK _ _ fun a35 hsz35 hde35 f103 hk => ?_
          clear hK
          replace f88 := (hk 88 (by decide)).trans f88
          replace f0 := (hk 0 (by decide)).trans f0
          replace f4 := (hk 4 (by decide)).trans f4
          replace f5 := (hk 5 (by decide)).trans f5
          replace f6 := (hk 6 (by decide)).trans f6
          replace f86 := (hk 86 (by decide)).trans f86
          replace f87 := (hk 87 (by decide)).trans f87
          replace f8 := (hk 8 (by decide)).trans f8
          replace f103 : a35.tmps[103]?.getD undef = .bool false := f103
          clear hk hsz34 hde34 f97 f102
          refine wpList_nil ?_
          refine wp_cond_false (eval_at f103) ?_
          refine wp_skip ?_
          refine block_go ?_
          refine then_go ?_
          clear f103 f8
          refine wp_region_lit ?_
          refine wpList_next rfl hsz35 hde35 104 rfl (by decide) fun K hK => ?_
          go_simp
          refine hK _ _ fun a36 hsz36 hde36 f104 hk => ?_
          clear hK
          replace f88 := (hk 88 (by decide)).trans f88
          replace f0 := (hk 0 (by decide)).trans f0
          replace f4 := (hk 4 (by decide)).trans f4
          replace f5 := (hk 5 (by decide)).trans f5
          replace f6 := (hk 6 (by decide)).trans f6
          replace f86 := (hk 86 (by decide)).trans f86
          replace f87 := (hk 87 (by decide)).trans f87
          clear hk hsz35 hde35
          replace f104 : a36.tmps[104]?.getD undef = .int .i64 ((k + 1 : Nat) : Int) := f104.trans (by congr 1; rw [IntKind.wrap_i64] <;> omega)
          refine wpList_next rfl hsz36 hde36 88 rfl (by decide) fun K hK => ?_
          go_simp
          refine hK _ _ fun a37 hsz37 hde37 f88 hk => ?_
          clear hK
          replace f0 := (hk 0 (by decide)).trans f0
          replace f4 := (hk 4 (by decide)).trans f4
          replace f5 := (hk 5 (by decide)).trans f5
          replace f6 := (hk 6 (by decide)).trans f6
          replace f86 := (hk 86 (by decide)).trans f86
          replace f87 := (hk 87 (by decide)).trans f87
          replace f88 : a37.tmps[88]?.getD undef = .int .i64 ((k + 1 : Nat) : Int) := f88
          clear hk hsz36 hde36 f104
          refine wpList_nil ?_
          refine then_go ?_
          have Hall2 := Lib.hid (show ∀ j (hj : j < L.length), j < k + 1 → sameI L[j].rep L[j].seq X.rep X.seq = false ∧ sameI L[j].rep L[j].seq Y.rep Y.seq = false from fun j hj hjk => by
            by_cases e : j = k
            · subst e; exact ⟨He1.out.symm, He2.out.symm⟩
            · exact Hall.out j hj (by omega))
          exact ⟨⟨k + 1, by omega, hsz37, hde37, f88, f0, f4, f5, f6, f86, f87, Hall2, Hbl⟩, by rw [f88, F88o.out]; show n - ((k + 1 : Nat) : Int).toNat < n - ((k : Nat) : Int).toNat; omega⟩
    · have hkn : ¬ k < n := hlt
      obtain rfl : k = n := by omega
      have hlt2 : decide ((k : Int) < (k : Int)) = false := decide_eq_false (by omega)
      refine wp_region_lit ?_
      refine wpList_next rfl hsz19 hde19 89 rfl (by decide) fun K hK => ?_
      go_simp
      refine hK _ _ fun a20 hsz20 hde20 f89 hk => ?_
      clear hK
      replace f88 := (hk 88 (by decide)).trans f88
      replace f0 := (hk 0 (by decide)).trans f0
      replace f4 := (hk 4 (by decide)).trans f4
      replace f5 := (hk 5 (by decide)).trans f5
      replace f6 := (hk 6 (by decide)).trans f6
      replace f86 := (hk 86 (by decide)).trans f86
      replace f87 := (hk 87 (by decide)).trans f87
      clear hk hsz19 hde19
      replace f89 : a20.tmps[89]?.getD undef = .bool false := f89.trans (by first | rfl | simp)
      refine wpList_nil ?_
      refine then_go ?_
      repeat with_reducible refine wp_seq ?_
      refine wp_cond_false (eval_at f89) ?_
      refine wp_exit ?_
      repeat with_reducible refine then_exit ?_
      refine block_exit ?_
      refine then_go ?_
      clear f89 f86 f87 f88
      have HtX := Lib.hid (show thereV L X.rep X.seq = false by
        unfold thereV
        rw [List.any_eq_false]
        intro z hz
        obtain ⟨j, hj, rfl⟩ := List.getElem_of_mem hz
        rw [(Hall.out j hj (by rw [← Hn.out] at hj; omega)).1]; simp)
      have HtY := Lib.hid (show thereV L Y.rep Y.seq = false by
        unfold thereV
        rw [List.any_eq_false]
        intro z hz
        obtain ⟨j, hj, rfl⟩ := List.getElem_of_mem hz
        rw [(Hall.out j hj (by rw [← Hn.out] at hj; omega)).2]; simp)
      clear F88o hlt hlt2 hkn Hall
      obtain ⟨wq, hwq⟩ : ∃ x, x = wr := ⟨wr, rfl⟩
      rw [← hwq] at Hbw ⊢
      clear hwq
      repeat with_reducible refine wp_seq ?_
      have HLq := Lib.hid (HLy.out.grow Hbw.out)
      have Hl31 := Lib.hid (show k ≤ 30 by rw [Hn.out]; exact Hlv.out)
      have hl31 := Hl31.out
      have HH := Lib.hid (heads_any _ (.slice A k c) L wq HLq.out Hdv.out (by rw [← Hn.out]; omega))
      obtain ⟨H, hH⟩ : ∃ H, H = L.filter headV := ⟨_, rfl⟩
      rw [← hH] at HH
      have HHe := Lib.hid hH
      have Hm := Lib.hid (show H.length ≤ 30 by rw [hH]; exact Nat.le_trans (List.length_filter_le _ _) (by rw [← Hn.out]; exact hl31))
      clear hH
      refine wp_region_lit ?_
      refine wpList_next rfl hsz20 hde20 9 rfl (by decide) fun K hK => ?_
      go_simp
      refine hK _ _ fun a21 hsz21 hde21 f9 hk => ?_
      clear hK
      replace f0 := (hk 0 (by decide)).trans f0
      replace f4 := (hk 4 (by decide)).trans f4
      replace f5 := (hk 5 (by decide)).trans f5
      replace f6 := (hk 6 (by decide)).trans f6
      replace f9 : a21.tmps[9]?.getD undef = .slice none 0 0 := f9
      clear hk hsz20 hde20
      refine wpList_nil ?_
      refine then_go ?_
      repeat with_reducible refine wp_seq ?_
      refine wp_region_lit ?_
      refine wpList_next rfl hsz21 hde21 105 rfl (by decide) fun K hK => ?_
      go_simp
      refine hK _ _ fun a22 hsz22 hde22 f105 hk => ?_
      clear hK
      replace f0 := (hk 0 (by decide)).trans f0
      replace f4 := (hk 4 (by decide)).trans f4
      replace f5 := (hk 5 (by decide)).trans f5
      replace f6 := (hk 6 (by decide)).trans f6
      replace f9 := (hk 9 (by decide)).trans f9
      replace f105 : a22.tmps[105]?.getD undef = .slice A k c := f105
      clear hk hsz21 hde21
      refine wpList_next rfl hsz22 hde22 106 rfl (by decide) fun K hK => ?_
      go_simp
      refine HH.out.mono ?_
      rintro e7 w7 ⟨⟨u7, rfl, hown7⟩, hb7⟩
      obtain ⟨A7, c7, hu7, hc71, hc72, hE7⟩ := ver_at hown7.isL
      subst hu7
      go_simp
      refine hK _ _ fun a23 hsz23 hde23 f106 hk => ?_
      clear hK
      replace f0 := (hk 0 (by decide)).trans f0
      replace f4 := (hk 4 (by decide)).trans f4
      replace f5 := (hk 5 (by decide)).trans f5
      replace f6 := (hk 6 (by decide)).trans f6
      replace f9 := (hk 9 (by decide)).trans f9
      replace f106 : a23.tmps[106]?.getD undef = .slice A7 H.length c7 := f106
      clear hk hsz22 hde22 f105
      refine wpList_next rfl hsz23 hde23 107 rfl (by decide) fun K hK => ?_
      go_simp
      refine hK _ _ fun a24 hsz24 hde24 f107 hk => ?_
      clear hK
      replace f0 := (hk 0 (by decide)).trans f0
      replace f4 := (hk 4 (by decide)).trans f4
      replace f5 := (hk 5 (by decide)).trans f5
      replace f6 := (hk 6 (by decide)).trans f6
      replace f9 := (hk 9 (by decide)).trans f9
      replace f106 := (hk 106 (by decide)).trans f106
      replace f107 : a24.tmps[107]?.getD undef = .int .i64 (H.length : Int) := f107
      clear hk hsz23 hde23
      refine wpList_next rfl hsz24 hde24 108 rfl (by decide) fun K hK => ?_
      go_simp
      refine hK _ _ fun a25 hsz25 hde25 f108 hk => ?_
      clear hK
      replace f0 := (hk 0 (by decide)).trans f0
      replace f4 := (hk 4 (by decide)).trans f4
      replace f5 := (hk 5 (by decide)).trans f5
      replace f6 := (hk 6 (by decide)).trans f6
      replace f9 := (hk 9 (by decide)).trans f9
      replace f106 := (hk 106 (by decide)).trans f106
      replace f107 := (hk 107 (by decide)).trans f107
      replace f108 : a25.tmps[108]?.getD undef = .int .i64 ((0 : Nat) : Int) := f108
      clear hk hsz24 hde24
      refine wpList_nil ?_
      have Hel7 := Lib.hid hE7
      have Hok7 := Lib.hid hown7.2
      have Hb7 := Lib.hid (Hbw.out.trans (hb7.mono Hbw.out.size))
      have HL7 := Lib.hid (HLq.out.grow hb7)
      clear hE7 hb7 HLq HLy HL HH hown7
      obtain ⟨m, hm2⟩ : ∃ m, m = H.length := ⟨_, rfl⟩
      rw [← hm2] at f106 f107 hc71 Hm
      have Hm2 := Lib.hid hm2
      have hm30 := Hm.out
      clear hm2
      obtain ⟨ids, hids⟩ : ∃ l, l = idsH L := ⟨_, rfl⟩
      have Hids := Lib.hid (show ids = H.map fun x => (x.rep, x.seq) by rw [hids, HHe.out]; rfl)
      have Hids2 := Lib.hid hids
      clear hids
      refine then_go ?_
      repeat with_reducible refine wp_seq ?_
      refine wp_block ?_
      refine wp_loop (fun a wr => ∃ j : Nat, ∃ s9 : Value, j ≤ m ∧ Hid (a.tmps.size = 183) ∧ Hid (a.defers = []) ∧ a.tmps[108]?.getD undef = .int .i64 (j : Int) ∧ a.tmps[9]?.getD undef = s9 ∧ a.tmps[0]?.getD undef = .slice A k c ∧ a.tmps[4]?.getD undef = .pointer (some ⟨w.heap.size, 0, none⟩) ∧ a.tmps[5]?.getD undef = .pointer (some ⟨w.heap.size + 1, 0, none⟩) ∧ a.tmps[6]?.getD undef = .bool false ∧ a.tmps[106]?.getD undef = .slice A7 m c7 ∧ a.tmps[107]?.getD undef = .int .i64 (m : Int) ∧ Hid (OwnI wr w7.heap.size s9 (ids.take j)) ∧ Hid (Below w7.heap.size w7 wr)) (fun a _ => m - (intOf (a.tmps[108]?.getD undef)).toNat) ?_ ?_
      · exact ⟨0, _, by omega, hsz25, hde25, f108, f9, f0, f4, f5, f6, f106, f107, Lib.hid (by rw [List.take_zero]; exact OwnI.nil _ _), Lib.hid (Below.refl _ _)⟩
      clear hsz25 hde25 f0 f4 f5 f6 f9 f106 f107 f108
      intro a26 wr hI
      obtain ⟨j, s9, hj, hsz26, hde26, f108, f9, f0, f4, f5, f6, f106, f107, Hown, Hbj⟩ := hI
      have F108o := Lib.hid f108
      repeat with_reducible refine wp_seq ?_
      by_cases hlt : j < m
      · have hdj : decide ((j : Int) < (m : Int)) = true := decide_eq_true (by omega)
        have hjl : j < H.length := by rw [← Hm2.out]; exact hlt
        obtain ⟨b, off, rfl, hxok, hxc⟩ := ver_here Hel7.out hjl Hbj.out
        have Hid1 := Lib.hid (show okP (H[j].rep, H[j].seq) from ⟨hxok.rep, hxok.seq⟩)
        have Htk := Lib.hid (show ids.take (j + 1) = ids.take j ++ [(H[j].rep, H[j].seq)] by
          rw [List.take_succ_eq_append_getElem (by rw [Hids.out, List.length_map]; exact hjl)]
          congr 2
          simp [Hids.out])
        have Htl := Lib.hid (show (ids.take j).length ≤ 100000 by rw [List.length_take]; omega)
        obtain ⟨x5, hx5⟩ : ∃ x5, x5 = H[j] := ⟨_, rfl⟩
        rw [← hx5] at hxc Hid1 Htk
        have hra := hxc.all
        obtain ⟨C, hC⟩ : ∃ C, C = verC x5 := ⟨_, rfl⟩
        obtain ⟨IC, hIC⟩ : ∃ I, I = idC x5.rep x5.seq := ⟨_, rfl⟩
        have hsz : C.size = 11 := by rw [hC]; rfl
        have HinfL := Lib.hid (show (Try.prog.info? 39).map (·.size) = some C.toList.length by rw [hC]; exact ver_info)
        have Hinf := Lib.hid (show (Try.prog.info? 39).map (·.size) = some C.size by rw [hC]; exact ver_info)
        have Hone := Lib.hid (show C.all (·.oneCell') = true by rw [hC]; exact verC_one x5)
        have HinfC := Lib.hid (show (Try.prog.info? 35).map (·.size) = some IC.toList.length by rw [hIC]; exact id_info)
        have RC := Lib.hid (show (wr.alloc (.cells C 39)).rangeAt wr.heap.size 0 IC.toList by rw [hC, hIC]; exact (Blk.new wr 39 (verC x5)).ver.id)
        have Hws := Lib.hid Hbj.out.size
        have Hbl := Lib.hid (Hbj.out.alloc Hbj.out.size (.cells C 39))
        have Hown1 := Lib.hid (show OwnI (wr.alloc (.cells C 39)) w7.heap.size s9 (ids.take j) from ⟨OwnK.alloc Hown.out.1 _, Hown.out.2⟩)
        have hfold := fold_id x5.rep x5.seq
        rw [← hIC] at hfold
        have Hfold := Lib.hid hfold
        have HIC := Lib.hid hIC
        have hICs : IC.size = 2 := by rw [hIC]; rfl
        rw [← hC] at hra
        have R := Lib.hid hra
        clear hxc hxok hx5 hra hC hIC hfold Hel7 Hown
        refine wp_region_lit ?_
        refine wpList_next rfl hsz26 hde26 109 rfl (by decide) fun K hK => ?_
        go_simp
        refine hK _ _ fun a27 hsz27 hde27 f109 hk => ?_
        clear hK
        replace f108 := (hk 108 (by decide)).trans f108
        replace f9 := (hk 9 (by decide)).trans f9
        replace f0 := (hk 0 (by decide)).trans f0
        replace f4 := (hk 4 (by decide)).trans f4
        replace f5 := (hk 5 (by decide)).trans f5
        replace f6 := (hk 6 (by decide)).trans f6
        replace f106 := (hk 106 (by decide)).trans f106
        replace f107 := (hk 107 (by decide)).trans f107
        clear hk hsz26 hde26
        replace f109 : a27.tmps[109]?.getD undef = .bool true := f109.trans (by first | rfl | simp [hlt])
        refine wpList_nil ?_
        refine then_go ?_
        repeat with_reducible refine wp_seq ?_
        refine wp_cond_true (eval_at f109) ?_
        refine wp_skip ?_
        refine then_go ?_
        clear f109
        repeat with_reducible refine wp_seq ?_
        refine wp_block ?_
        repeat with_reducible refine wp_seq ?_
        refine wp_region_lit ?_
        refine wpList_next rfl hsz27 hde27 110 rfl (by decide) fun K hK => ?_
        go_simp
        refine hK _ _ fun a28 hsz28 hde28 f110 hk => ?_
        clear hK
        replace f108 := (hk 108 (by decide)).trans f108
        replace f9 := (hk 9 (by decide)).trans f9
        replace f0 := (hk 0 (by decide)).trans f0
        replace f4 := (hk 4 (by decide)).trans f4
        replace f5 := (hk 5 (by decide)).trans f5
        replace f6 := (hk 6 (by decide)).trans f6
        replace f106 := (hk 106 (by decide)).trans f106
        replace f107 := (hk 107 (by decide)).trans f107
        replace f110 : a28.tmps[110]?.getD undef = .pointer (some ⟨b, off + j * 11, none⟩) := f110
        clear hk hsz27 hde27
        refine wpList_next rfl hsz28 hde28 111 rfl (by decide) fun K hK => ?_
        refine wp_load_mid 39 (.tmp 110) rfl b (off + j * 11) (eval_at f110) C.toList _ R.out Try.underlying39 rfl HinfL.out ?_
        refine hK _ _ fun a29 hsz29 hde29 f111 hk => ?_
        clear hK
        replace f108 := (hk 108 (by decide)).trans f108
        replace f9 := (hk 9 (by decide)).trans f9
        replace f0 := (hk 0 (by decide)).trans f0
        replace f4 := (hk 4 (by decide)).trans f4
        replace f5 := (hk 5 (by decide)).trans f5
        replace f6 := (hk 6 (by decide)).trans f6
        replace f106 := (hk 106 (by decide)).trans f106
        replace f107 := (hk 107 (by decide)).trans f107
        replace f111 : a29.tmps[111]?.getD undef = .agg C := f111
        clear hk hsz28 hde28 f110
        refine wpList_next rfl hsz29 hde29 11 rfl (by decide) fun K hK => ?_
        go_simp
        refine hK _ _ fun a30 hsz30 hde30 f11 hk => ?_
        clear hK
        replace f108 := (hk 108 (by decide)).trans f108
        replace f9 := (hk 9 (by decide)).trans f9
        replace f0 := (hk 0 (by decide)).trans f0
        replace f4 := (hk 4 (by decide)).trans f4
        replace f5 := (hk 5 (by decide)).trans f5
        replace f6 := (hk 6 (by decide)).trans f6
        replace f106 := (hk 106 (by decide)).trans f106
        replace f107 := (hk 107 (by decide)).trans f107
        replace f111 := (hk 111 (by decide)).trans f111
        replace f11 : a30.tmps[11]?.getD undef = .pointer (some ⟨wr.heap.size, 0, none⟩) := f11
        clear hk hsz29 hde29
        refine wpList_next0 rfl rfl fun K hK => ?_
        refine wp_store_new 39 (.tmp 11) (.tmp 111) rfl zeroC C (eval_at f11) (eval_at f111) Hinf.out (by rw [hsz]; rfl) Hone.out ?_
        refine hK _ _ ?_
        clear hK
        clear f111
        refine wpList_nil ?_
        obtain ⟨wa, hwa⟩ : ∃ wa, wa = wr.alloc (.cells C 39) := ⟨_, rfl⟩
        rw [← hwa] at RC Hbl Hown1 ⊢
        have Hwa := Lib.hid hwa
        clear hwa
        refine then_go ?_
        repeat with_reducible refine wp_seq ?_
        refine wp_region_lit ?_
        refine wpList_next rfl hsz30 hde30 112 rfl (by decide) fun K hK => ?_
        go_simp
        refine hK _ _ fun a31 hsz31 hde31 f112 hk => ?_
        clear hK
        replace f108 := (hk 108 (by decide)).trans f108
        replace f9 := (hk 9 (by decide)).trans f9
        replace f0 := (hk 0 (by decide)).trans f0
        replace f4 := (hk 4 (by decide)).trans f4
        replace f5 := (hk 5 (by decide)).trans f5
        replace f6 := (hk 6 (by decide)).trans f6
        replace f106 := (hk 106 (by decide)).trans f106
        replace f107 := (hk 107 (by decide)).trans f107
        replace f11 := (hk 11 (by decide)).trans f11
        replace f112 : a31.tmps[112]?.getD undef = s9 := f112
        clear hk hsz30 hde30
        refine wpList_next rfl hsz31 hde31 113 rfl (by decide) fun K hK => ?_
        go_simp
        refine hK _ _ fun a32 hsz32 hde32 f113 hk => ?_
        clear hK
        replace f108 := (hk 108 (by decide)).trans f108
        replace f9 := (hk 9 (by decide)).trans f9
        replace f0 := (hk 0 (by decide)).trans f0
        replace f4 := (hk 4 (by decide)).trans f4
        replace f5 := (hk 5 (by decide)).trans f5
        replace f6 := (hk 6 (by decide)).trans f6
        replace f106 := (hk 106 (by decide)).trans f106
        replace f107 := (hk 107 (by decide)).trans f107
        replace f11 := (hk 11 (by decide)).trans f11
        replace f112 := (hk 112 (by decide)).trans f112
        replace f113 : a32.tmps[113]?.getD undef = .pointer (some ⟨wr.heap.size, 0, none⟩) := f113
        clear hk hsz31 hde31
        refine wpList_next rfl hsz32 hde32 114 rfl (by decide) fun K hK => ?_
        refine wp_load_mid 35 (.tmp 113) rfl wr.heap.size 0 (eval_at f113) IC.toList _ RC.out Try.underlying35 rfl HinfC.out ?_
        refine hK _ _ fun a33 hsz33 hde33 f114 hk => ?_
        clear hK
        replace f108 := (hk 108 (by decide)).trans f108
        replace f9 := (hk 9 (by decide)).trans f9
        replace f0 := (hk 0 (by decide)).trans f0
        replace f4 := (hk 4 (by decide)).trans f4
        replace f5 := (hk 5 (by decide)).trans f5
        replace f6 := (hk 6 (by decide)).trans f6
        replace f106 := (hk 106 (by decide)).trans f106
        replace f107 := (hk 107 (by decide)).trans f107
        replace f11 := (hk 11 (by decide)).trans f11
        replace f112 := (hk 112 (by decide)).trans f112
        replace f114 : a33.tmps[114]?.getD undef = .agg IC := f114
        clear hk hsz32 hde32 f113
        refine wpList_next rfl hsz33 hde33 115 rfl (by decide) fun K hK => ?_
        go_simp
        refine hK _ _ fun a34 hsz34 hde34 f115 hk => ?_
        clear hK
        replace f108 := (hk 108 (by decide)).trans f108
        replace f9 := (hk 9 (by decide)).trans f9
        replace f0 := (hk 0 (by decide)).trans f0
        replace f4 := (hk 4 (by decide)).trans f4
        replace f5 := (hk 5 (by decide)).trans f5
        replace f6 := (hk 6 (by decide)).trans f6
        replace f106 := (hk 106 (by decide)).trans f106
        replace f107 := (hk 107 (by decide)).trans f107
        replace f11 := (hk 11 (by decide)).trans f11
        replace f112 := (hk 112 (by decide)).trans f112
        replace f115 : a34.tmps[115]?.getD undef = .slice (some ⟨wa.heap.size, 0, none⟩) 1 1 := f115
        clear hk hsz33 hde33 f114
        refine wpList_next rfl hsz34 hde34 116 rfl (by decide) fun K hK => ?_
        rw [Hfold.out]
        refine wp_app_id wa (.tmp 112) (.tmp 115) rfl w7.heap.size s9 (ids.take j) (eval_at f112) Hown1.out IC _ HIC.out Hid1.out _ (eval_at f115) Htl.out Hbl.out.size ?_
        intro v9 w9 hown9 hg9
        have Hown9 := Lib.hid hown9
        have Hg9 := Lib.hid hg9
        clear hown9 hg9
        refine hK _ _ fun a35 hsz35 hde35 f116 hk => ?_
        clear hK
        replace f108 := (hk 108 (by decide)).trans f108
        replace f9 := (hk 9 (by decide)).trans f9
        replace f0 := (hk 0 (by decide)).trans f0
        replace f4 := (hk 4 (by decide)).trans f4
        replace f5 := (hk 5 (by decide)).trans f5
        replace f6 := (hk 6 (by decide)).trans f6
        replace f106 := (hk 106 (by decide)).trans f106
        replace f107 := (hk 107 (by decide)).trans f107
        replace f11 := (hk 11 (by decide)).trans f11
        clear hk hsz34 hde34 f112 f115
        refine wpList_next rfl hsz35 hde35 9 rfl (by decide) fun K hK => ?_
        go_simp
        refine hK _ _ fun a36 hsz36 hde36 f9 hk => ?_
        clear hK
        replace f108 := (hk 108 (by decide)).trans f108
        replace f0 := (hk 0 (by decide)).trans f0
        replace f4 := (hk 4 (by decide)).trans f4
        replace f5 := (hk 5 (by decide)).trans f5
        replace f6 := (hk 6 (by decide)).trans f6
        replace f106 := (hk 106 (by decide)).trans f106
        replace f107 := (hk 107 (by decide)).trans f107
        replace f11 := (hk 11 (by decide)).trans f11
        clear hk hsz35 hde35 f116
        refine wpList_nil ?_
        refine block_go ?_
        refine then_go ?_
        clear f11
        refine wp_region_lit ?_
        refine wpList_next rfl hsz36 hde36 117 rfl (by decide) fun K hK => ?_
        go_simp
        refine hK _ _ fun a37 hsz37 hde37 f117 hk => ?_
        clear hK
        replace f108 := (hk 108 (by decide)).trans f108
        replace f0 := (hk 0 (by decide)).trans f0
        replace f4 := (hk 4 (by decide)).trans f4
        replace f5 := (hk 5 (by decide)).trans f5
        replace f6 := (hk 6 (by decide)).trans f6
        replace f106 := (hk 106 (by decide)).trans f106
        replace f107 := (hk 107 (by decide)).trans f107
        replace f9 := (hk 9 (by decide)).trans f9
        clear hk hsz36 hde36
        replace f117 : a37.tmps[117]?.getD undef = .int .i64 ((j + 1 : Nat) : Int) := f117.trans (by congr 1; rw [IntKind.wrap_i64] <;> omega)
        refine wpList_next rfl hsz37 hde37 108 rfl (by decide) fun K hK => ?_
        go_simp
        refine hK _ _ fun a38 hsz38 hde38 f108 hk => ?_
        clear hK
        replace f0 := (hk 0 (by decide)).trans f0
        replace f4 := (hk 4 (by decide)).trans f4
        replace f5 := (hk 5 (by decide)).trans f5
        replace f6 := (hk 6 (by decide)).trans f6
        replace f106 := (hk 106 (by decide)).trans f106
        replace f107 := (hk 107 (by decide)).trans f107
        replace f9 := (hk 9 (by decide)).trans f9
        replace f108 : a38.tmps[108]?.getD undef = .int .i64 ((j + 1 : Nat) : Int) := f108
        clear hk hsz37 hde37 f117
        refine wpList_nil ?_
        refine then_go ?_
        exact ⟨⟨j + 1, _, by omega, hsz38, hde38, f108, f9, f0, f4, f5, f6, f106, f107, (Lib.hid (by rw [Htk.out]; exact Hown9.out)), (Lib.hid (Hbl.out.trans (Hown1.out.1.below_of Hg9.out Hbl.out.size (Nat.le_refl _))))⟩, by rw [f108, F108o.out]; show m - ((j + 1 : Nat) : Int).toNat < m - ((j : Nat) : Int).toNat; omega⟩
      · have hjm : ¬ j < m := hlt
        obtain rfl : j = m := by omega
        have hlt2 : decide ((j : Int) < (j : Int)) = false := decide_eq_false (by omega)
        refine wp_region_lit ?_
        refine wpList_next rfl hsz26 hde26 109 rfl (by decide) fun K hK => ?_
        go_simp
        refine hK _ _ fun a27 hsz27 hde27 f109 hk => ?_
        clear hK
        replace f108 := (hk 108 (by decide)).trans f108
        replace f9 := (hk 9 (by decide)).trans f9
        replace f0 := (hk 0 (by decide)).trans f0
        replace f4 := (hk 4 (by decide)).trans f4
        replace f5 := (hk 5 (by decide)).trans f5
        replace f6 := (hk 6 (by decide)).trans f6
        replace f106 := (hk 106 (by decide)).trans f106
        replace f107 := (hk 107 (by decide)).trans f107
        clear hk hsz26 hde26
        replace f109 : a27.tmps[109]?.getD undef = .bool false := f109.trans (by first | rfl | simp)
        refine wpList_nil ?_
        refine then_go ?_
        repeat with_reducible refine wp_seq ?_
        refine wp_cond_false (eval_at f109) ?_
        refine wp_exit ?_
        repeat with_reducible refine then_exit ?_
        refine block_exit ?_
        refine then_go ?_
        clear f109 f106 f107 f108
        clear F108o hlt hlt2 hjm
        have Hown9 := Lib.hid (show OwnI wr w7.heap.size s9 ids by
          have := Hown.out
          rwa [List.take_of_length_le (by rw [Hids.out, List.length_map, Hm2.out]; exact Nat.le_refl _)] at this)
        clear Hown
        obtain ⟨w8, hw8⟩ : ∃ x, x = wr := ⟨wr, rfl⟩
        rw [← hw8] at Hbj Hown9 ⊢
        clear hw8
        repeat with_reducible refine wp_seq ?_
        have Hb8 := Lib.hid (Hb7.out.trans (Hbj.out.mono Hb7.out.size))
        have HL8 := Lib.hid (HL7.out.grow Hbj.out)
        have HI8 := Lib.hid Hown9.out.isL
        have hXe := HX0.out
        have hYe := HY0.out
        have hall : (ids.all fun p => thereV L p.1 p.2) = true := by rw [Hids2.out]; exact ids_there L
        have hA : thereV L X0.rep X0.seq = false := by rw [hXe.1, hXe.2.1]; exact HtX.out
        have hB : thereV L Y0.rep Y0.seq = false := by rw [hYe.1, hYe.2.1]; exact HtY.out
        have hne : sameI X0.rep X0.seq Y0.rep Y0.seq = false := by rw [hXe.1, hXe.2.1, hYe.1, hYe.2.1]; exact Hne.out
        have hne' : sameI Y0.rep Y0.seq X0.rep X0.seq = false := by
          rw [← Bool.not_eq_true, sameI_eq] at hne ⊢
          exact fun h => hne ⟨h.1.symm, h.2.symm⟩
        obtain ⟨M1, hM1⟩ : ∃ M, M = putV L ids X0 := ⟨_, rfl⟩
        obtain ⟨N1, hN1⟩ : ∃ M, M = putV L ids Y0 := ⟨_, rfl⟩
        obtain ⟨M2, hM2⟩ : ∃ M, M = putV M1 ids Y0 := ⟨_, rfl⟩
        have hM2b : putV N1 ids X0 = M2 := by rw [hM2, hM1, hN1]; exact (two_either Hsv.out hall hA hB hne).symm
        have a1 := add_new hall hA
        have a2 := add_new hall hB
        have hB1 : thereV M1 Y0.rep Y0.seq = false := by rw [hM1, one_there, hne, hB]; rfl
        have hA1 : thereV N1 X0.rep X0.seq = false := by rw [hN1, one_there, hne', hA]; rfl
        have a3 := add_new (H := ids) (by rw [hM1]; exact both_there hall) hB1
        have a4 := add_new (H := ids) (by rw [hN1]; exact both_there hall) hA1
        rw [← hM1] at a1
        rw [← hN1] at a2
        rw [← hM2] at a3
        rw [hM2b] at a4
        have sM1 : SortedV M1 := by rw [hM1]; exact one_sorted Hsv.out hA
        have sN1 : SortedV N1 := by rw [hN1]; exact one_sorted Hsv.out hB
        have lM1 : M1.length ≤ 31 := by rw [hM1, one_length, ← Hn.out]; omega
        have lN1 : N1.length ≤ 31 := by rw [hN1, one_length, ← Hn.out]; omega
        have lM2 : M2.length ≤ 32 := by rw [hM2, one_length]; omega
        have hfit := Hfit.out
        have dX : X0.data.length ≤ 1000 := by rw [hXe.2.2.1]; omega
        have dY : Y0.data.length ≤ 1000 := by rw [hYe.2.2.1]; omega
        have dM1 : ∀ x ∈ M1, x.data.length ≤ 1000 := by rw [hM1]; exact put_data Hdv.out dX
        have dN1 : ∀ x ∈ N1, x.data.length ≤ 1000 := by rw [hN1]; exact put_data Hdv.out dY
        have dM2 : ∀ x ∈ M2, x.data.length ≤ 1000 := by rw [hM2]; exact put_data dM1 dY
        have rX : repV X0.rep = true := by rw [hXe.1]; exact repV_iff.2 ⟨hfit.2.2.1, hfit.2.2.2.1⟩
        have rY : repV Y0.rep = true := by rw [hYe.1]; exact repV_iff.2 ⟨hfit.2.2.2.2.1, hfit.2.2.2.2.2.1⟩
        have sX : 1 ≤ X0.seq := by rw [hXe.2.1]; exact hfit.2.2.2.2.2.2.1
        have sY : 1 ≤ Y0.seq := by rw [hYe.2.1]; exact hfit.2.2.2.2.2.2.2
        have hh1 : M1.filter headV = [X0] := by rw [hM1, Hids2.out]; exact one_heads rX sX hXe.2.2.2
        have hh2 : (M2.filter headV).length = 2 := by rw [hM2, hM1, Hids2.out]; exact two_heads rX sX hXe.2.2.2 hYe.2.2.2 rY sY hA
        have HA1 := Lib.hid (show ∀ z : World, Below w8.heap.size w8 z → Calls Try.prog 14 #[.slice A k c, s9, .agg CX0] z fun e w' => (∃ u, e = .returned (.tuple #[u, .int .i64 0]) ∧ OwnV w' z.heap.size u M1) ∧ Below z.heap.size z w' from fun z hz => by
          have := add_any _ _ (.slice A k c) s9 L ids X0 z (HL8.out.grow hz) (HI8.out.grow hz) (by rw [← Hn.out]; omega) Hdv.out dX Hsv.out HXok.out
          rw [a1, ← HCX0.out] at this; exact this)
        have HA3 := Lib.hid (show ∀ z : World, Below w8.heap.size w8 z → Calls Try.prog 14 #[.slice A k c, s9, .agg CY0] z fun e w' => (∃ u, e = .returned (.tuple #[u, .int .i64 0]) ∧ OwnV w' z.heap.size u N1) ∧ Below z.heap.size z w' from fun z hz => by
          have := add_any _ _ (.slice A k c) s9 L ids Y0 z (HL8.out.grow hz) (HI8.out.grow hz) (by rw [← Hn.out]; omega) Hdv.out dY Hsv.out HYok.out
          rw [a2, ← HCY0.out] at this; exact this)
        have HA2 := Lib.hid (show ∀ (u : Value) (z : World), Below w8.heap.size w8 z → IsL kVer z (fun _ => True) u M1 → Calls Try.prog 14 #[u, s9, .agg CY0] z fun e w' => (∃ u, e = .returned (.tuple #[u, .int .i64 0]) ∧ OwnV w' z.heap.size u M2) ∧ Below z.heap.size z w' from fun u z hz hu => by
          have := add_any _ _ u s9 M1 ids Y0 z hu (HI8.out.grow hz) (by omega) dM1 dY sM1 HYok.out
          rw [a3, ← HCY0.out] at this; exact this)
        have HA4 := Lib.hid (show ∀ (u : Value) (z : World), Below w8.heap.size w8 z → IsL kVer z (fun _ => True) u N1 → Calls Try.prog 14 #[u, s9, .agg CX0] z fun e w' => (∃ u, e = .returned (.tuple #[u, .int .i64 0]) ∧ OwnV w' z.heap.size u M2) ∧ Below z.heap.size z w' from fun u z hz hu => by
          have := add_any _ _ u s9 N1 ids X0 z hu (HI8.out.grow hz) (by omega) dN1 dX sN1 HXok.out
          rw [a4, ← HCX0.out] at this; exact this)
        have HH1 := Lib.hid (show ∀ (u : Value) (z : World), IsL kVer z (fun _ => True) u M1 → Calls Try.prog 19 #[u] z fun e w' => (∃ u, e = .returned u ∧ OwnV w' z.heap.size u [X0]) ∧ Below z.heap.size z w' from fun u z hu => by
          have := heads_any _ u M1 z hu dM1 (by omega)
          rw [hh1] at this; exact this)
        have HH2 := Lib.hid (show ∀ (u : Value) (z : World), IsL kVer z (fun _ => True) u M2 → Calls Try.prog 19 #[u] z fun e w' => (∃ A9 c9, e = .returned (.slice A9 2 c9)) ∧ Below z.heap.size z w' from fun u z hu => by
          refine (heads_any _ u M2 z hu dM2 (by omega)).mono ?_
          rintro e7 w7 ⟨⟨u7, rfl, hown7⟩, hb7⟩
          obtain ⟨A9, c9, hu9, _⟩ := ver_at hown7.isL
          rw [hh2] at hu9
          exact ⟨⟨A9, c9, by rw [hu9]⟩, hb7⟩)
        have HRX := Lib.hid (show ∀ z, Below w8.heap.size w8 z → z.rangeAt w.heap.size 0 CX0.toList from fun z hz => (BX.out.grow (below_call Hb8.out hz)).range 0 CX0.toList fun j u hu => by rw [Nat.zero_add, ← Array.getElem?_toList]; exact hu)
        have HRY := Lib.hid (show ∀ z, Below w8.heap.size w8 z → z.rangeAt (w.heap.size + 1) 0 CY0.toList from fun z hz => (BY.out.grow (below_call Hb8.out hz)).range 0 CY0.toList fun j u hu => by rw [Nat.zero_add, ← Array.getElem?_toList]; exact hu)
        have HinfX := Lib.hid (show (Try.prog.info? 39).map (·.size) = some CX0.toList.length by rw [HCX0.out]; exact ver_info)
        have HinfY := Lib.hid (show (Try.prog.info? 39).map (·.size) = some CY0.toList.length by rw [HCY0.out]; exact ver_info)
        have hneq := fun z => ver_neq_self X0 z
        rw [← HCX0.out] at hneq
        have Hneq := Lib.hid hneq
        have Hfin := Lib.hid (show ∀ z, Below w8.heap.size w8 z → Below w.heap.size w z from fun z hz => below_call Hy.out (Hb8.out.trans (hz.mono Hb8.out.size)))
        clear hXe hYe hall hA hB hne hne' hM1 hN1 hM2 hM2b a1 a2 hB1 hA1 a3 a4 sM1 sN1 lM1 lN1 lM2 hfit dX dY dM1 dN1 dM2 rX rY sX sY hh1 hh2 hneq Hb7 HL7 Hbj Hown9 HX HY HX0 HY0 Hfit Hne HtX HtY Hids Hids2 Hsv Hdv HI8 HL8 Hel7 Hok7 RX RY Hel Hl Hbel HW HCX HCY HIA HIB HboxA HboxB BX BY HinfA HinfB hl31 hm30
        refine wp_region_lit ?_
        refine wpList_next rfl hsz27 hde27 119 rfl (by decide) fun K hK => ?_
        go_simp
        refine hK _ _ fun a28 hsz28 hde28 f119 hk => ?_
        clear hK
        replace f9 := (hk 9 (by decide)).trans f9
        replace f0 := (hk 0 (by decide)).trans f0
        replace f4 := (hk 4 (by decide)).trans f4
        replace f5 := (hk 5 (by decide)).trans f5
        replace f6 := (hk 6 (by decide)).trans f6
        clear hk hsz27 hde27
        refine wpList_next rfl hsz28 hde28 120 rfl (by decide) fun K hK => ?_
        go_simp
        refine hK _ _ fun a29 hsz29 hde29 f120 hk => ?_
        clear hK
        replace f9 := (hk 9 (by decide)).trans f9
        replace f0 := (hk 0 (by decide)).trans f0
        replace f4 := (hk 4 (by decide)).trans f4
        replace f5 := (hk 5 (by decide)).trans f5
        replace f6 := (hk 6 (by decide)).trans f6
        replace f119 := (hk 119 (by decide)).trans f119
        clear hk hsz28 hde28
        refine wpList_next rfl hsz29 hde29 121 rfl (by decide) fun K hK => ?_
        refine wp_load_mid 39 (.tmp 4) rfl w.heap.size 0 (eval_at f4) CX0.toList _ (HRX.out _ (Below.refl _ _)) Try.underlying39 rfl HinfX.out ?_
        refine hK _ _ fun a30 hsz30 hde30 f121 hk => ?_
        clear hK
        replace f9 := (hk 9 (by decide)).trans f9
        replace f0 := (hk 0 (by decide)).trans f0
        replace f4 := (hk 4 (by decide)).trans f4
        replace f5 := (hk 5 (by decide)).trans f5
        replace f6 := (hk 6 (by decide)).trans f6
        replace f119 := (hk 119 (by decide)).trans f119
        replace f120 := (hk 120 (by decide)).trans f120
        replace f121 : a30.tmps[121]?.getD undef = .agg CX0 := f121
        clear hk hsz29 hde29
        refine wpList_next rfl hsz30 hde30 122 rfl (by decide) fun K hK => ?_
        go_simp
        refine (HA1.out _ (Below.refl _ _)).mono ?_
        rintro e7 wu12 ⟨⟨u12, rfl, hownu12⟩, hbu12⟩
        go_simp
        refine hK _ _ fun a31 hsz31 hde31 f122 hk => ?_
        clear hK
        replace f9 := (hk 9 (by decide)).trans f9
        replace f0 := (hk 0 (by decide)).trans f0
        replace f4 := (hk 4 (by decide)).trans f4
        replace f5 := (hk 5 (by decide)).trans f5
        replace f6 := (hk 6 (by decide)).trans f6
        replace f122 : a31.tmps[122]?.getD undef = .tuple #[u12, .int .i64 0] := f122
        clear hk hsz30 hde30 f119 f120 f121
        refine wpList_next rfl hsz31 hde31 118 rfl (by decide) fun K hK => ?_
        go_simp
        refine hK _ _ fun a32 hsz32 hde32 f118 hk => ?_
        clear hK
        replace f9 := (hk 9 (by decide)).trans f9
        replace f0 := (hk 0 (by decide)).trans f0
        replace f4 := (hk 4 (by decide)).trans f4
        replace f5 := (hk 5 (by decide)).trans f5
        replace f6 := (hk 6 (by decide)).trans f6
        replace f118 : a32.tmps[118]?.getD undef = .tuple #[u12, .int .i64 0] := f118
        clear hk hsz31 hde31 f122
        refine wpList_next rfl hsz32 hde32 123 rfl (by decide) fun K hK => ?_
        go_simp
        refine hK _ _ fun a33 hsz33 hde33 f123 hk => ?_
        clear hK
        replace f9 := (hk 9 (by decide)).trans f9
        replace f0 := (hk 0 (by decide)).trans f0
        replace f4 := (hk 4 (by decide)).trans f4
        replace f5 := (hk 5 (by decide)).trans f5
        replace f6 := (hk 6 (by decide)).trans f6
        replace f118 := (hk 118 (by decide)).trans f118
        replace f123 : a33.tmps[123]?.getD undef = u12 := f123
        clear hk hsz32 hde32
        refine wpList_next rfl hsz33 hde33 124 rfl (by decide) fun K hK => ?_
        go_simp
        refine hK _ _ fun a34 hsz34 hde34 f124 hk => ?_
        clear hK
        replace f9 := (hk 9 (by decide)).trans f9
        replace f0 := (hk 0 (by decide)).trans f0
        replace f4 := (hk 4 (by decide)).trans f4
        replace f5 := (hk 5 (by decide)).trans f5
        replace f6 := (hk 6 (by decide)).trans f6
        replace f123 := (hk 123 (by decide)).trans f123
        replace f124 : a34.tmps[124]?.getD undef = .int .i64 0 := f124
        clear hk hsz33 hde33 f118
        refine wpList_next rfl hsz34 hde34 12 rfl (by decide) fun K hK => ?_
        go_simp
        refine hK _ _ fun a35 hsz35 hde35 f12 hk => ?_
        clear hK
        replace f9 := (hk 9 (by decide)).trans f9
        replace f0 := (hk 0 (by decide)).trans f0
        replace f4 := (hk 4 (by decide)).trans f4
        replace f5 := (hk 5 (by decide)).trans f5
        replace f6 := (hk 6 (by decide)).trans f6
        replace f124 := (hk 124 (by decide)).trans f124
        replace f12 : a35.tmps[12]?.getD undef = u12 := f12
        clear hk hsz34 hde34 f123
        refine wpList_next rfl hsz35 hde35 13 rfl (by decide) fun K hK => ?_
        go_simp
        refine hK _ _ fun a36 hsz36 hde36 f13 hk => ?_
        clear hK
        replace f9 := (hk 9 (by decide)).trans f9
        replace f0 := (hk 0 (by decide)).trans f0
        replace f4 := (hk 4 (by decide)).trans f4
        replace f5 := (hk 5 (by decide)).trans f5
        replace f6 := (hk 6 (by decide)).trans f6
        replace f12 := (hk 12 (by decide)).trans f12
        replace f13 : a36.tmps[13]?.getD undef = .int .i64 0 := f13
        clear hk hsz35 hde35 f124
        refine wpList_nil ?_
        have Howu12 := Lib.hid (hownu12.isL.weaken (ok' := fun _ => True) fun _ _ => trivial)
        have Hbbu12 := Lib.hid hbu12
        clear hownu12 hbu12
        refine then_go ?_
        repeat with_reducible refine wp_seq ?_
        refine wp_region_goodg (vhG3 u12 X0 CX0) 183 (by kernel_rfl) (by kernel_rfl) (by kernel_rfl) (by kernel_rfl) hsz36.out ?_ ?_ ?_
        · intro t v7 x x' h hb hb'
          unfold vhG3 at *
          split at h <;> first | exact h | exact h.grow hb' | (obtain ⟨b9, o9, e9, h9⟩ := h; exact ⟨b9, o9, e9, range_ext h9 hb'⟩)
        · intro i o hi a x hbx hsame hpre K hK
          have hlt : i < 16 := (Array.getElem?_eq_some_iff.1 hi).1
          rcases (show i = 0 ∨ i = 1 ∨ i = 2 ∨ i = 3 ∨ i = 4 ∨ i = 5 ∨ i = 6 ∨ i = 7 ∨ i = 8 ∨ i = 9 ∨ i = 10 ∨ i = 11 ∨ i = 12 ∨ i = 13 ∨ i = 14 ∨ i = 15 by omega) with rfl | rfl | rfl | rfl | rfl | rfl | rfl | rfl | rfl | rfl | rfl | rfl | rfl | rfl | rfl | rfl
          all_goals (have ho := Option.some.inj hi; subst ho; clear hi hlt)
          · have q13 : a.tmps[13]?.getD undef = .int .i64 0 := (hsame 13 (by decide +kernel)).trans f13
            refine step_plain rfl ?_
            have hk := Lib.hid (show ∀ v7 x', vhG3 u12 X0 CX0 125 v7 x' → Below x.heap.size x x' → K (a.put (some 125) v7) x' from hK)
            have Hbx := Lib.hid hbx
            clear hsame hpre hK hbx
            go_simp
            exact hk.out _ _ rfl (Below.refl _ _)
          · have q125 : a.tmps[125]?.getD undef = .int .i64 0 := hpre ⟨0, .data⟩ (by simp) rfl (by decide)
            refine step_plain rfl ?_
            have hk := Lib.hid (show ∀ v7 x', vhG3 u12 X0 CX0 126 v7 x' → Below x.heap.size x x' → K (a.put (some 126) v7) x' from hK)
            have Hbx := Lib.hid hbx
            clear hsame hpre hK hbx
            go_simp
            exact hk.out _ _ rfl (Below.refl _ _)
          · have q126 : a.tmps[126]?.getD undef = .bool false := hpre ⟨1, .data⟩ (by simp) rfl (by decide)
            refine step_plain rfl ?_
            have hk := Lib.hid (show ∀ v7 x', vhG3 u12 X0 CX0 127 v7 x' → Below x.heap.size x x' → K (a.put (some 127) v7) x' from hK)
            have Hbx := Lib.hid hbx
            clear hsame hpre hK hbx
            go_simp
            exact hk.out _ _ rfl (Below.refl _ _)
          · have q12 : a.tmps[12]?.getD undef = u12 := (hsame 12 (by decide +kernel)).trans f12
            have w127 : a.tmps[127]?.getD undef = .bool false := hpre ⟨2, .guard⟩ (by simp) rfl (by decide)
            refine step_wanted (wanted_of (j := 2) (t := 127) (b := false) rfl rfl w127) ?_
            have hk := Lib.hid (show ∀ v7 x', vhG3 u12 X0 CX0 128 v7 x' → Below x.heap.size x x' → K (a.put (some 128) v7) x' from hK)
            have Hbx := Lib.hid hbx
            clear hsame hpre hK hbx w127
            go_simp
            exact hk.out _ _ rfl (Below.refl _ _)
          · have q128 : a.tmps[128]?.getD undef = u12 := hpre ⟨3, .data⟩ (by simp) rfl (by decide)
            have w127 : a.tmps[127]?.getD undef = .bool false := hpre ⟨2, .guard⟩ (by simp) rfl (by decide)
            refine step_wanted (wanted_of (j := 2) (t := 127) (b := false) rfl rfl w127) ?_
            have hk := Lib.hid (show ∀ v7 x', vhG3 u12 X0 CX0 129 v7 x' → Below x.heap.size x x' → K (a.put (some 129) v7) x' from hK)
            have Hbx := Lib.hid hbx
            clear hsame hpre hK hbx w127
            go_simp
            refine (HH1.out u12 x (Howu12.out.grow Hbx.out)).mono ?_
            rintro e7 w7 ⟨⟨u7, rfl, hown7⟩, hb7⟩
            go_simp
            exact hk.out _ _ (hown7.isL.weaken fun _ _ => trivial) hb7
          · have q129 : vhG3 u12 X0 CX0 129 (a.tmps[129]?.getD undef) x := hpre ⟨4, .data⟩ (by simp) rfl (by decide)
            have w127 : a.tmps[127]?.getD undef = .bool false := hpre ⟨2, .guard⟩ (by simp) rfl (by decide)
            refine step_wanted (wanted_of (j := 2) (t := 127) (b := false) rfl rfl w127) ?_
            have hk := Lib.hid (show ∀ v7 x', vhG3 u12 X0 CX0 130 v7 x' → Below x.heap.size x x' → K (a.put (some 130) v7) x' from hK)
            have Hbx := Lib.hid hbx
            clear hsame hpre hK hbx w127
            have q129b : IsL kVer x (fun _ => True) (a.tmps[129]?.getD undef) [X0] := q129
            obtain ⟨A9, c9, hu9, _, _, _⟩ := ver_at q129b
            have hu9b : a.tmps[129]?.getD undef = .slice A9 1 c9 := hu9
            clear q129 q129b hu9
            go_simp
            exact hk.out _ _ rfl (Below.refl _ _)
          · have q130 : a.tmps[130]?.getD undef = .int .i64 1 := hpre ⟨5, .data⟩ (by simp) rfl (by decide)
            have w127 : a.tmps[127]?.getD undef = .bool false := hpre ⟨2, .guard⟩ (by simp) rfl (by decide)
            refine step_wanted (wanted_of (j := 2) (t := 127) (b := false) rfl rfl w127) ?_
            have hk := Lib.hid (show ∀ v7 x', vhG3 u12 X0 CX0 131 v7 x' → Below x.heap.size x x' → K (a.put (some 131) v7) x' from hK)
            have Hbx := Lib.hid hbx
            clear hsame hpre hK hbx w127
            go_simp
            exact hk.out _ _ rfl (Below.refl _ _)
          · have q127 : a.tmps[127]?.getD undef = .bool false := hpre ⟨2, .data⟩ (by simp) rfl (by decide)
            have q131 : a.tmps[131]?.getD undef = .bool false := hpre ⟨6, .data⟩ (by simp) rfl (by decide)
            refine step_plain rfl ?_
            have hk := Lib.hid (show ∀ v7 x', vhG3 u12 X0 CX0 132 v7 x' → Below x.heap.size x x' → K (a.put (some 132) v7) x' from hK)
            have Hbx := Lib.hid hbx
            clear hsame hpre hK hbx
            go_simp
            exact hk.out _ _ rfl (Below.refl _ _)
          · have q132 : a.tmps[132]?.getD undef = .bool false := hpre ⟨7, .data⟩ (by simp) rfl (by decide)
            refine step_plain rfl ?_
            have hk := Lib.hid (show ∀ v7 x', vhG3 u12 X0 CX0 133 v7 x' → Below x.heap.size x x' → K (a.put (some 133) v7) x' from hK)
            have Hbx := Lib.hid hbx
            clear hsame hpre hK hbx
            go_simp
            exact hk.out _ _ rfl (Below.refl _ _)
          · have q12 : a.tmps[12]?.getD undef = u12 := (hsame 12 (by decide +kernel)).trans f12
            have w133 : a.tmps[133]?.getD undef = .bool false := hpre ⟨8, .guard⟩ (by simp) rfl (by decide)
            refine step_wanted (wanted_of (j := 8) (t := 133) (b := false) rfl rfl w133) ?_
            have hk := Lib.hid (show ∀ v7 x', vhG3 u12 X0 CX0 134 v7 x' → Below x.heap.size x x' → K (a.put (some 134) v7) x' from hK)
            have Hbx := Lib.hid hbx
            clear hsame hpre hK hbx w133
            go_simp
            exact hk.out _ _ rfl (Below.refl _ _)
          · have q134 : a.tmps[134]?.getD undef = u12 := hpre ⟨9, .data⟩ (by simp) rfl (by decide)
            have w133 : a.tmps[133]?.getD undef = .bool false := hpre ⟨8, .guard⟩ (by simp) rfl (by decide)
            refine step_wanted (wanted_of (j := 8) (t := 133) (b := false) rfl rfl w133) ?_
            have hk := Lib.hid (show ∀ v7 x', vhG3 u12 X0 CX0 135 v7 x' → Below x.heap.size x x' → K (a.put (some 135) v7) x' from hK)
            have Hbx := Lib.hid hbx
            clear hsame hpre hK hbx w133
            go_simp
            refine (HH1.out u12 x (Howu12.out.grow Hbx.out)).mono ?_
            rintro e7 w7 ⟨⟨u7, rfl, hown7⟩, hb7⟩
            go_simp
            exact hk.out _ _ (hown7.isL.weaken fun _ _ => trivial) hb7
          · have q135 : vhG3 u12 X0 CX0 135 (a.tmps[135]?.getD undef) x := hpre ⟨10, .data⟩ (by simp) rfl (by decide)
            have w133 : a.tmps[133]?.getD undef = .bool false := hpre ⟨8, .guard⟩ (by simp) rfl (by decide)
            refine step_wanted (wanted_of (j := 8) (t := 133) (b := false) rfl rfl w133) ?_
            have hk := Lib.hid (show ∀ v7 x', vhG3 u12 X0 CX0 136 v7 x' → Below x.heap.size x x' → K (a.put (some 136) v7) x' from hK)
            have Hbx := Lib.hid hbx
            clear hsame hpre hK hbx w133
            have q135b : IsL kVer x (fun _ => True) (a.tmps[135]?.getD undef) [X0] := q135
            obtain ⟨A9, c9, hu9, hc9, _, hE9⟩ := ver_at q135b
            obtain ⟨b9, off9, rfl, _, _, hel9⟩ := hE9 (by simp)
            have hr9 := Lib.hid (hel9 0 (by simp)).1
            have hu9b : a.tmps[135]?.getD undef = .slice (some ⟨b9, off9, none⟩) 1 c9 := hu9
            clear q135 q135b hu9 hE9 hel9 hc9
            go_simp
            exact hk.out _ _ ⟨b9, off9, rfl, by rw [HCX0.out]; exact hr9.out⟩ (Below.refl _ _)
          · have q136 : vhG3 u12 X0 CX0 136 (a.tmps[136]?.getD undef) x := hpre ⟨11, .data⟩ (by simp) rfl (by decide)
            have w133 : a.tmps[133]?.getD undef = .bool false := hpre ⟨8, .guard⟩ (by simp) rfl (by decide)
            refine step_wanted (wanted_of (j := 8) (t := 133) (b := false) rfl rfl w133) ?_
            have hk := Lib.hid (show ∀ v7 x', vhG3 u12 X0 CX0 137 v7 x' → Below x.heap.size x x' → K (a.put (some 137) v7) x' from hK)
            have Hbx := Lib.hid hbx
            clear hsame hpre hK hbx w133
            obtain ⟨b9, off9, h9, hr9⟩ := q136
            refine wp_load_mid 39 (.tmp 136) rfl b9 off9 (eval_at h9) CX0.toList _ hr9 Try.underlying39 rfl HinfX.out ?_
            exact hk.out _ _ rfl (Below.refl _ _)
          · have q4 : a.tmps[4]?.getD undef = .pointer (some ⟨w.heap.size, 0, none⟩) := (hsame 4 (by decide +kernel)).trans f4
            have w133 : a.tmps[133]?.getD undef = .bool false := hpre ⟨8, .guard⟩ (by simp) rfl (by decide)
            refine step_wanted (wanted_of (j := 8) (t := 133) (b := false) rfl rfl w133) ?_
            have hk := Lib.hid (show ∀ v7 x', vhG3 u12 X0 CX0 138 v7 x' → Below x.heap.size x x' → K (a.put (some 138) v7) x' from hK)
            have Hbx := Lib.hid hbx
            clear hsame hpre hK hbx w133
            refine wp_load_mid 39 (.tmp 4) rfl w.heap.size 0 (eval_at q4) CX0.toList _ (HRX.out x (below_call Hbbu12.out Hbx.out)) Try.underlying39 rfl HinfX.out ?_
            exact hk.out _ _ rfl (Below.refl _ _)
          · have q137 : a.tmps[137]?.getD undef = .agg CX0 := hpre ⟨12, .data⟩ (by simp) rfl (by decide)
            have q138 : a.tmps[138]?.getD undef = .agg CX0 := hpre ⟨13, .data⟩ (by simp) rfl (by decide)
            have w133 : a.tmps[133]?.getD undef = .bool false := hpre ⟨8, .guard⟩ (by simp) rfl (by decide)
            refine step_wanted (wanted_of (j := 8) (t := 133) (b := false) rfl rfl w133) ?_
            have hk := Lib.hid (show ∀ v7 x', vhG3 u12 X0 CX0 139 v7 x' → Below x.heap.size x x' → K (a.put (some 139) v7) x' from hK)
            have Hbx := Lib.hid hbx
            clear hsame hpre hK hbx w133
            have hne9 := Hneq.out
            go_simp
            exact hk.out _ _ rfl (Below.refl _ _)
          · have q133 : a.tmps[133]?.getD undef = .bool false := hpre ⟨8, .data⟩ (by simp) rfl (by decide)
            have q139 : a.tmps[139]?.getD undef = .bool false := hpre ⟨14, .data⟩ (by simp) rfl (by decide)
            refine step_plain rfl ?_
            have hk := Lib.hid (show ∀ v7 x', vhG3 u12 X0 CX0 140 v7 x' → Below x.heap.size x x' → K (a.put (some 140) v7) x' from hK)
            have Hbx := Lib.hid hbx
            clear hsame hpre hK hbx
            go_simp
            exact hk.out _ _ rfl (Below.refl _ _)
        intro a37 x37 hbx hsame hG hsz37 hde37
        replace f9 := (hsame 9 (by decide +kernel)).trans f9
        replace f0 := (hsame 0 (by decide +kernel)).trans f0
        replace f4 := (hsame 4 (by decide +kernel)).trans f4
        replace f5 := (hsame 5 (by decide +kernel)).trans f5
        replace f6 := (hsame 6 (by decide +kernel)).trans f6
        replace f12 := (hsame 12 (by decide +kernel)).trans f12
        replace f13 := (hsame 13 (by decide +kernel)).trans f13
        have f140 : a37.tmps[140]?.getD undef = .bool false := hG 15 (by decide)
        have Hbx37 := Lib.hid hbx
        have hsz37h := Lib.hid hsz37
        have hde37h := Lib.hid (hde37.trans hde36.out)
        clear hsame hG hbx hsz37 hde37 hsz36 hde36
        have Hz17 := Lib.hid (below_call Hbbu12.out Hbx37.out)
        have How12b := Lib.hid (Howu12.out.grow Hbx37.out)
        refine then_go ?_
        repeat with_reducible refine wp_seq ?_
        refine wp_cond_false (eval_at f140) ?_
        refine wp_skip ?_
        refine then_go ?_
        clear f140
        repeat with_reducible refine wp_seq ?_
        refine wp_region_lit ?_
        refine wpList_next rfl hsz37h hde37h 142 rfl (by decide) fun K hK => ?_
        go_simp
        refine hK _ _ fun a38 hsz38 hde38 f142 hk => ?_
        clear hK
        replace f9 := (hk 9 (by decide)).trans f9
        replace f0 := (hk 0 (by decide)).trans f0
        replace f4 := (hk 4 (by decide)).trans f4
        replace f5 := (hk 5 (by decide)).trans f5
        replace f6 := (hk 6 (by decide)).trans f6
        replace f12 := (hk 12 (by decide)).trans f12
        replace f13 := (hk 13 (by decide)).trans f13
        clear hk hsz37h hde37h
        refine wpList_next rfl hsz38 hde38 143 rfl (by decide) fun K hK => ?_
        go_simp
        refine hK _ _ fun a39 hsz39 hde39 f143 hk => ?_
        clear hK
        replace f9 := (hk 9 (by decide)).trans f9
        replace f0 := (hk 0 (by decide)).trans f0
        replace f4 := (hk 4 (by decide)).trans f4
        replace f5 := (hk 5 (by decide)).trans f5
        replace f6 := (hk 6 (by decide)).trans f6
        replace f12 := (hk 12 (by decide)).trans f12
        replace f13 := (hk 13 (by decide)).trans f13
        replace f142 := (hk 142 (by decide)).trans f142
        clear hk hsz38 hde38
        refine wpList_next rfl hsz39 hde39 144 rfl (by decide) fun K hK => ?_
        refine wp_load_mid 39 (.tmp 5) rfl (w.heap.size + 1) 0 (eval_at f5) CY0.toList _ (HRY.out _ (Hz17.out)) Try.underlying39 rfl HinfY.out ?_
        refine hK _ _ fun a40 hsz40 hde40 f144 hk => ?_
        clear hK
        replace f9 := (hk 9 (by decide)).trans f9
        replace f0 := (hk 0 (by decide)).trans f0
        replace f4 := (hk 4 (by decide)).trans f4
        replace f5 := (hk 5 (by decide)).trans f5
        replace f6 := (hk 6 (by decide)).trans f6
        replace f12 := (hk 12 (by decide)).trans f12
        replace f13 := (hk 13 (by decide)).trans f13
        replace f142 := (hk 142 (by decide)).trans f142
        replace f143 := (hk 143 (by decide)).trans f143
        replace f144 : a40.tmps[144]?.getD undef = .agg CY0 := f144
        clear hk hsz39 hde39
        refine wpList_next rfl hsz40 hde40 145 rfl (by decide) fun K hK => ?_
        go_simp
        refine (HA2.out u12 _ Hz17.out How12b.out).mono ?_
        rintro e7 wu14 ⟨⟨u14, rfl, hownu14⟩, hbu14⟩
        go_simp
        refine hK _ _ fun a41 hsz41 hde41 f145 hk => ?_
        clear hK
        replace f9 := (hk 9 (by decide)).trans f9
        replace f0 := (hk 0 (by decide)).trans f0
        replace f4 := (hk 4 (by decide)).trans f4
        replace f5 := (hk 5 (by decide)).trans f5
        replace f6 := (hk 6 (by decide)).trans f6
        replace f12 := (hk 12 (by decide)).trans f12
        replace f13 := (hk 13 (by decide)).trans f13
        replace f145 : a41.tmps[145]?.getD undef = .tuple #[u14, .int .i64 0] := f145
        clear hk hsz40 hde40 f142 f143 f144
        refine wpList_next rfl hsz41 hde41 141 rfl (by decide) fun K hK => ?_
        go_simp
        refine hK _ _ fun a42 hsz42 hde42 f141 hk => ?_
        clear hK
        replace f9 := (hk 9 (by decide)).trans f9
        replace f0 := (hk 0 (by decide)).trans f0
        replace f4 := (hk 4 (by decide)).trans f4
        replace f5 := (hk 5 (by decide)).trans f5
        replace f6 := (hk 6 (by decide)).trans f6
        replace f12 := (hk 12 (by decide)).trans f12
        replace f13 := (hk 13 (by decide)).trans f13
        replace f141 : a42.tmps[141]?.getD undef = .tuple #[u14, .int .i64 0] := f141
        clear hk hsz41 hde41 f145
        refine wpList_next rfl hsz42 hde42 146 rfl (by decide) fun K hK => ?_
        go_simp
        refine hK _ _ fun a43 hsz43 hde43 f146 hk => ?_
        clear hK
        replace f9 := (hk 9 (by decide)).trans f9
        replace f0 := (hk 0 (by decide)).trans f0
        replace f4 := (hk 4 (by decide)).trans f4
        replace f5 := (hk 5 (by decide)).trans f5
        replace f6 := (hk 6 (by decide)).trans f6
        replace f12 := (hk 12 (by decide)).trans f12
        replace f13 := (hk 13 (by decide)).trans f13
        replace f141 := (hk 141 (by decide)).trans f141
        replace f146 : a43.tmps[146]?.getD undef = u14 := f146
        clear hk hsz42 hde42
        refine wpList_next rfl hsz43 hde43 147 rfl (by decide) fun K hK => ?_
        go_simp
        refine hK _ _ fun a44 hsz44 hde44 f147 hk => ?_
        clear hK
        replace f9 := (hk 9 (by decide)).trans f9
        replace f0 := (hk 0 (by decide)).trans f0
        replace f4 := (hk 4 (by decide)).trans f4
        replace f5 := (hk 5 (by decide)).trans f5
        replace f6 := (hk 6 (by decide)).trans f6
        replace f12 := (hk 12 (by decide)).trans f12
        replace f13 := (hk 13 (by decide)).trans f13
        replace f146 := (hk 146 (by decide)).trans f146
        replace f147 : a44.tmps[147]?.getD undef = .int .i64 0 := f147
        clear hk hsz43 hde43 f141
        refine wpList_next rfl hsz44 hde44 14 rfl (by decide) fun K hK => ?_
        go_simp
        refine hK _ _ fun a45 hsz45 hde45 f14 hk => ?_
        clear hK
        replace f9 := (hk 9 (by decide)).trans f9
        replace f0 := (hk 0 (by decide)).trans f0
        replace f4 := (hk 4 (by decide)).trans f4
        replace f5 := (hk 5 (by decide)).trans f5
        replace f6 := (hk 6 (by decide)).trans f6
        replace f12 := (hk 12 (by decide)).trans f12
        replace f13 := (hk 13 (by decide)).trans f13
        replace f147 := (hk 147 (by decide)).trans f147
        replace f14 : a45.tmps[14]?.getD undef = u14 := f14
        clear hk hsz44 hde44 f146
        refine wpList_next rfl hsz45 hde45 13 rfl (by decide) fun K hK => ?_
        go_simp
        refine hK _ _ fun a46 hsz46 hde46 f13 hk => ?_
        clear hK
        replace f9 := (hk 9 (by decide)).trans f9
        replace f0 := (hk 0 (by decide)).trans f0
        replace f4 := (hk 4 (by decide)).trans f4
        replace f5 := (hk 5 (by decide)).trans f5
        replace f6 := (hk 6 (by decide)).trans f6
        replace f12 := (hk 12 (by decide)).trans f12
        replace f14 := (hk 14 (by decide)).trans f14
        replace f13 : a46.tmps[13]?.getD undef = .int .i64 0 := f13
        clear hk hsz45 hde45 f147
        refine wpList_nil ?_
        have Howu14 := Lib.hid (hownu14.isL.weaken (ok' := fun _ => True) fun _ _ => trivial)
        have Hbbu14 := Lib.hid hbu14
        clear hownu14 hbu14
        have Hz19 := Lib.hid (below_call Hz17.out Hbbu14.out)
        refine then_go ?_
        repeat with_reducible refine wp_seq ?_
        clear f12
        refine wp_region_lit ?_
        refine wpList_next rfl hsz46 hde46 149 rfl (by decide) fun K hK => ?_
        go_simp
        refine hK _ _ fun a47 hsz47 hde47 f149 hk => ?_
        clear hK
        replace f9 := (hk 9 (by decide)).trans f9
        replace f0 := (hk 0 (by decide)).trans f0
        replace f4 := (hk 4 (by decide)).trans f4
        replace f5 := (hk 5 (by decide)).trans f5
        replace f6 := (hk 6 (by decide)).trans f6
        replace f14 := (hk 14 (by decide)).trans f14
        replace f13 := (hk 13 (by decide)).trans f13
        clear hk hsz46 hde46
        refine wpList_next rfl hsz47 hde47 150 rfl (by decide) fun K hK => ?_
        go_simp
        refine hK _ _ fun a48 hsz48 hde48 f150 hk => ?_
        clear hK
        replace f9 := (hk 9 (by decide)).trans f9
        replace f0 := (hk 0 (by decide)).trans f0
        replace f4 := (hk 4 (by decide)).trans f4
        replace f5 := (hk 5 (by decide)).trans f5
        replace f6 := (hk 6 (by decide)).trans f6
        replace f14 := (hk 14 (by decide)).trans f14
        replace f13 := (hk 13 (by decide)).trans f13
        replace f149 := (hk 149 (by decide)).trans f149
        clear hk hsz47 hde47
        refine wpList_next rfl hsz48 hde48 151 rfl (by decide) fun K hK => ?_
        refine wp_load_mid 39 (.tmp 5) rfl (w.heap.size + 1) 0 (eval_at f5) CY0.toList _ (HRY.out _ (Hz19.out)) Try.underlying39 rfl HinfY.out ?_
        refine hK _ _ fun a49 hsz49 hde49 f151 hk => ?_
        clear hK
        replace f9 := (hk 9 (by decide)).trans f9
        replace f0 := (hk 0 (by decide)).trans f0
        replace f4 := (hk 4 (by decide)).trans f4
        replace f5 := (hk 5 (by decide)).trans f5
        replace f6 := (hk 6 (by decide)).trans f6
        replace f14 := (hk 14 (by decide)).trans f14
        replace f13 := (hk 13 (by decide)).trans f13
        replace f149 := (hk 149 (by decide)).trans f149
        replace f150 := (hk 150 (by decide)).trans f150
        replace f151 : a49.tmps[151]?.getD undef = .agg CY0 := f151
        clear hk hsz48 hde48
        refine wpList_next rfl hsz49 hde49 152 rfl (by decide) fun K hK => ?_
        go_simp
        refine (HA3.out _ Hz19.out).mono ?_
        rintro e7 wu15 ⟨⟨u15, rfl, hownu15⟩, hbu15⟩
        go_simp
        refine hK _ _ fun a50 hsz50 hde50 f152 hk => ?_
        clear hK
        replace f9 := (hk 9 (by decide)).trans f9
        replace f0 := (hk 0 (by decide)).trans f0
        replace f4 := (hk 4 (by decide)).trans f4
        replace f5 := (hk 5 (by decide)).trans f5
        replace f6 := (hk 6 (by decide)).trans f6
        replace f14 := (hk 14 (by decide)).trans f14
        replace f13 := (hk 13 (by decide)).trans f13
        replace f152 : a50.tmps[152]?.getD undef = .tuple #[u15, .int .i64 0] := f152
        clear hk hsz49 hde49 f149 f150 f151
        refine wpList_next rfl hsz50 hde50 148 rfl (by decide) fun K hK => ?_
        go_simp
        refine hK _ _ fun a51 hsz51 hde51 f148 hk => ?_
        clear hK
        replace f9 := (hk 9 (by decide)).trans f9
        replace f0 := (hk 0 (by decide)).trans f0
        replace f4 := (hk 4 (by decide)).trans f4
        replace f5 := (hk 5 (by decide)).trans f5
        replace f6 := (hk 6 (by decide)).trans f6
        replace f14 := (hk 14 (by decide)).trans f14
        replace f13 := (hk 13 (by decide)).trans f13
        replace f148 : a51.tmps[148]?.getD undef = .tuple #[u15, .int .i64 0] := f148
        clear hk hsz50 hde50 f152
        refine wpList_next rfl hsz51 hde51 153 rfl (by decide) fun K hK => ?_
        go_simp
        refine hK _ _ fun a52 hsz52 hde52 f153 hk => ?_
        clear hK
        replace f9 := (hk 9 (by decide)).trans f9
        replace f0 := (hk 0 (by decide)).trans f0
        replace f4 := (hk 4 (by decide)).trans f4
        replace f5 := (hk 5 (by decide)).trans f5
        replace f6 := (hk 6 (by decide)).trans f6
        replace f14 := (hk 14 (by decide)).trans f14
        replace f13 := (hk 13 (by decide)).trans f13
        replace f148 := (hk 148 (by decide)).trans f148
        replace f153 : a52.tmps[153]?.getD undef = u15 := f153
        clear hk hsz51 hde51
        refine wpList_next rfl hsz52 hde52 154 rfl (by decide) fun K hK => ?_
        go_simp
        refine hK _ _ fun a53 hsz53 hde53 f154 hk => ?_
        clear hK
        replace f9 := (hk 9 (by decide)).trans f9
        replace f0 := (hk 0 (by decide)).trans f0
        replace f4 := (hk 4 (by decide)).trans f4
        replace f5 := (hk 5 (by decide)).trans f5
        replace f6 := (hk 6 (by decide)).trans f6
        replace f14 := (hk 14 (by decide)).trans f14
        replace f13 := (hk 13 (by decide)).trans f13
        replace f153 := (hk 153 (by decide)).trans f153
        replace f154 : a53.tmps[154]?.getD undef = .int .i64 0 := f154
        clear hk hsz52 hde52 f148
        refine wpList_next rfl hsz53 hde53 15 rfl (by decide) fun K hK => ?_
        go_simp
        refine hK _ _ fun a54 hsz54 hde54 f15 hk => ?_
        clear hK
        replace f9 := (hk 9 (by decide)).trans f9
        replace f0 := (hk 0 (by decide)).trans f0
        replace f4 := (hk 4 (by decide)).trans f4
        replace f5 := (hk 5 (by decide)).trans f5
        replace f6 := (hk 6 (by decide)).trans f6
        replace f14 := (hk 14 (by decide)).trans f14
        replace f13 := (hk 13 (by decide)).trans f13
        replace f154 := (hk 154 (by decide)).trans f154
        replace f15 : a54.tmps[15]?.getD undef = u15 := f15
        clear hk hsz53 hde53 f153
        refine wpList_next rfl hsz54 hde54 16 rfl (by decide) fun K hK => ?_
        go_simp
        refine hK _ _ fun a55 hsz55 hde55 f16 hk => ?_
        clear hK
        replace f9 := (hk 9 (by decide)).trans f9
        replace f0 := (hk 0 (by decide)).trans f0
        replace f4 := (hk 4 (by decide)).trans f4
        replace f5 := (hk 5 (by decide)).trans f5
        replace f6 := (hk 6 (by decide)).trans f6
        replace f14 := (hk 14 (by decide)).trans f14
        replace f13 := (hk 13 (by decide)).trans f13
        replace f15 := (hk 15 (by decide)).trans f15
        replace f16 : a55.tmps[16]?.getD undef = .int .i64 0 := f16
        clear hk hsz54 hde54 f154
        refine wpList_nil ?_
        have Howu15 := Lib.hid (hownu15.isL.weaken (ok' := fun _ => True) fun _ _ => trivial)
        have Hbbu15 := Lib.hid hbu15
        clear hownu15 hbu15
        have Hz20 := Lib.hid (below_call Hz19.out Hbbu15.out)
        have How14b := Lib.hid (Howu14.out.grow Hbbu15.out)
        refine then_go ?_
        repeat with_reducible refine wp_seq ?_
        refine wp_region_lit ?_
        refine wpList_next rfl hsz55 hde55 156 rfl (by decide) fun K hK => ?_
        go_simp
        refine hK _ _ fun a56 hsz56 hde56 f156 hk => ?_
        clear hK
        replace f9 := (hk 9 (by decide)).trans f9
        replace f0 := (hk 0 (by decide)).trans f0
        replace f4 := (hk 4 (by decide)).trans f4
        replace f5 := (hk 5 (by decide)).trans f5
        replace f6 := (hk 6 (by decide)).trans f6
        replace f14 := (hk 14 (by decide)).trans f14
        replace f13 := (hk 13 (by decide)).trans f13
        replace f15 := (hk 15 (by decide)).trans f15
        replace f16 := (hk 16 (by decide)).trans f16
        clear hk hsz55 hde55
        refine wpList_next rfl hsz56 hde56 157 rfl (by decide) fun K hK => ?_
        go_simp
        refine hK _ _ fun a57 hsz57 hde57 f157 hk => ?_
        clear hK
        replace f9 := (hk 9 (by decide)).trans f9
        replace f0 := (hk 0 (by decide)).trans f0
        replace f4 := (hk 4 (by decide)).trans f4
        replace f5 := (hk 5 (by decide)).trans f5
        replace f6 := (hk 6 (by decide)).trans f6
        replace f14 := (hk 14 (by decide)).trans f14
        replace f13 := (hk 13 (by decide)).trans f13
        replace f15 := (hk 15 (by decide)).trans f15
        replace f16 := (hk 16 (by decide)).trans f16
        replace f156 := (hk 156 (by decide)).trans f156
        clear hk hsz56 hde56
        refine wpList_next rfl hsz57 hde57 158 rfl (by decide) fun K hK => ?_
        refine wp_load_mid 39 (.tmp 4) rfl w.heap.size 0 (eval_at f4) CX0.toList _ (HRX.out _ (Hz20.out)) Try.underlying39 rfl HinfX.out ?_
        refine hK _ _ fun a58 hsz58 hde58 f158 hk => ?_
        clear hK
        replace f9 := (hk 9 (by decide)).trans f9
        replace f0 := (hk 0 (by decide)).trans f0
        replace f4 := (hk 4 (by decide)).trans f4
        replace f5 := (hk 5 (by decide)).trans f5
        replace f6 := (hk 6 (by decide)).trans f6
        replace f14 := (hk 14 (by decide)).trans f14
        replace f13 := (hk 13 (by decide)).trans f13
        replace f15 := (hk 15 (by decide)).trans f15
        replace f16 := (hk 16 (by decide)).trans f16
        replace f156 := (hk 156 (by decide)).trans f156
        replace f157 := (hk 157 (by decide)).trans f157
        replace f158 : a58.tmps[158]?.getD undef = .agg CX0 := f158
        clear hk hsz57 hde57
        refine wpList_next rfl hsz58 hde58 159 rfl (by decide) fun K hK => ?_
        go_simp
        refine (HA4.out u15 _ Hz20.out Howu15.out).mono ?_
        rintro e7 wu17 ⟨⟨u17, rfl, hownu17⟩, hbu17⟩
        go_simp
        refine hK _ _ fun a59 hsz59 hde59 f159 hk => ?_
        clear hK
        replace f9 := (hk 9 (by decide)).trans f9
        replace f0 := (hk 0 (by decide)).trans f0
        replace f4 := (hk 4 (by decide)).trans f4
        replace f5 := (hk 5 (by decide)).trans f5
        replace f6 := (hk 6 (by decide)).trans f6
        replace f14 := (hk 14 (by decide)).trans f14
        replace f13 := (hk 13 (by decide)).trans f13
        replace f15 := (hk 15 (by decide)).trans f15
        replace f16 := (hk 16 (by decide)).trans f16
        replace f159 : a59.tmps[159]?.getD undef = .tuple #[u17, .int .i64 0] := f159
        clear hk hsz58 hde58 f156 f157 f158
        refine wpList_next rfl hsz59 hde59 155 rfl (by decide) fun K hK => ?_
        go_simp
        refine hK _ _ fun a60 hsz60 hde60 f155 hk => ?_
        clear hK
        replace f9 := (hk 9 (by decide)).trans f9
        replace f0 := (hk 0 (by decide)).trans f0
        replace f4 := (hk 4 (by decide)).trans f4
        replace f5 := (hk 5 (by decide)).trans f5
        replace f6 := (hk 6 (by decide)).trans f6
        replace f14 := (hk 14 (by decide)).trans f14
        replace f13 := (hk 13 (by decide)).trans f13
        replace f15 := (hk 15 (by decide)).trans f15
        replace f16 := (hk 16 (by decide)).trans f16
        replace f155 : a60.tmps[155]?.getD undef = .tuple #[u17, .int .i64 0] := f155
        clear hk hsz59 hde59 f159
        refine wpList_next rfl hsz60 hde60 160 rfl (by decide) fun K hK => ?_
        go_simp
        refine hK _ _ fun a61 hsz61 hde61 f160 hk => ?_
        clear hK
        replace f9 := (hk 9 (by decide)).trans f9
        replace f0 := (hk 0 (by decide)).trans f0
        replace f4 := (hk 4 (by decide)).trans f4
        replace f5 := (hk 5 (by decide)).trans f5
        replace f6 := (hk 6 (by decide)).trans f6
        replace f14 := (hk 14 (by decide)).trans f14
        replace f13 := (hk 13 (by decide)).trans f13
        replace f15 := (hk 15 (by decide)).trans f15
        replace f16 := (hk 16 (by decide)).trans f16
        replace f155 := (hk 155 (by decide)).trans f155
        replace f160 : a61.tmps[160]?.getD undef = u17 := f160
        clear hk hsz60 hde60
        refine wpList_next rfl hsz61 hde61 161 rfl (by decide) fun K hK => ?_
        go_simp
        refine hK _ _ fun a62 hsz62 hde62 f161 hk => ?_
        clear hK
        replace f9 := (hk 9 (by decide)).trans f9
        replace f0 := (hk 0 (by decide)).trans f0
        replace f4 := (hk 4 (by decide)).trans f4
        replace f5 := (hk 5 (by decide)).trans f5
        replace f6 := (hk 6 (by decide)).trans f6
        replace f14 := (hk 14 (by decide)).trans f14
        replace f13 := (hk 13 (by decide)).trans f13
        replace f15 := (hk 15 (by decide)).trans f15
        replace f16 := (hk 16 (by decide)).trans f16
        replace f160 := (hk 160 (by decide)).trans f160
        replace f161 : a62.tmps[161]?.getD undef = .int .i64 0 := f161
        clear hk hsz61 hde61 f155
        refine wpList_next rfl hsz62 hde62 17 rfl (by decide) fun K hK => ?_
        go_simp
        refine hK _ _ fun a63 hsz63 hde63 f17 hk => ?_
        clear hK
        replace f9 := (hk 9 (by decide)).trans f9
        replace f0 := (hk 0 (by decide)).trans f0
        replace f4 := (hk 4 (by decide)).trans f4
        replace f5 := (hk 5 (by decide)).trans f5
        replace f6 := (hk 6 (by decide)).trans f6
        replace f14 := (hk 14 (by decide)).trans f14
        replace f13 := (hk 13 (by decide)).trans f13
        replace f15 := (hk 15 (by decide)).trans f15
        replace f16 := (hk 16 (by decide)).trans f16
        replace f161 := (hk 161 (by decide)).trans f161
        replace f17 : a63.tmps[17]?.getD undef = u17 := f17
        clear hk hsz62 hde62 f160
        refine wpList_next rfl hsz63 hde63 18 rfl (by decide) fun K hK => ?_
        go_simp
        refine hK _ _ fun a64 hsz64 hde64 f18 hk => ?_
        clear hK
        replace f9 := (hk 9 (by decide)).trans f9
        replace f0 := (hk 0 (by decide)).trans f0
        replace f4 := (hk 4 (by decide)).trans f4
        replace f5 := (hk 5 (by decide)).trans f5
        replace f6 := (hk 6 (by decide)).trans f6
        replace f14 := (hk 14 (by decide)).trans f14
        replace f13 := (hk 13 (by decide)).trans f13
        replace f15 := (hk 15 (by decide)).trans f15
        replace f16 := (hk 16 (by decide)).trans f16
        replace f17 := (hk 17 (by decide)).trans f17
        replace f18 : a64.tmps[18]?.getD undef = .int .i64 0 := f18
        clear hk hsz63 hde63 f161
        refine wpList_nil ?_
        have Howu17 := Lib.hid (hownu17.isL.weaken (ok' := fun _ => True) fun _ _ => trivial)
        have Hbbu17 := Lib.hid hbu17
        clear hownu17 hbu17
        have Hz21 := Lib.hid (below_call Hz20.out Hbbu17.out)
        have How14c := Lib.hid (How14b.out.grow Hbbu17.out)
        refine then_go ?_
        repeat with_reducible refine wp_seq ?_
        refine wp_region_lit ?_
        refine wpList_next rfl hsz64 hde64 162 rfl (by decide) fun K hK => ?_
        go_simp
        refine hK _ _ fun a65 hsz65 hde65 f162 hk => ?_
        clear hK
        replace f9 := (hk 9 (by decide)).trans f9
        replace f0 := (hk 0 (by decide)).trans f0
        replace f4 := (hk 4 (by decide)).trans f4
        replace f5 := (hk 5 (by decide)).trans f5
        replace f6 := (hk 6 (by decide)).trans f6
        replace f14 := (hk 14 (by decide)).trans f14
        replace f13 := (hk 13 (by decide)).trans f13
        replace f15 := (hk 15 (by decide)).trans f15
        replace f16 := (hk 16 (by decide)).trans f16
        replace f17 := (hk 17 (by decide)).trans f17
        replace f18 := (hk 18 (by decide)).trans f18
        replace f162 : a65.tmps[162]?.getD undef = .int .i64 0 := f162
        clear hk hsz64 hde64
        refine wpList_next rfl hsz65 hde65 163 rfl (by decide) fun K hK => ?_
        go_simp
        refine hK _ _ fun a66 hsz66 hde66 f163 hk => ?_
        clear hK
        replace f9 := (hk 9 (by decide)).trans f9
        replace f0 := (hk 0 (by decide)).trans f0
        replace f4 := (hk 4 (by decide)).trans f4
        replace f5 := (hk 5 (by decide)).trans f5
        replace f6 := (hk 6 (by decide)).trans f6
        replace f14 := (hk 14 (by decide)).trans f14
        replace f13 := (hk 13 (by decide)).trans f13
        replace f15 := (hk 15 (by decide)).trans f15
        replace f16 := (hk 16 (by decide)).trans f16
        replace f17 := (hk 17 (by decide)).trans f17
        replace f18 := (hk 18 (by decide)).trans f18
        replace f163 : a66.tmps[163]?.getD undef = .bool true := f163
        clear hk hsz65 hde65 f162
        refine wpList_next rfl hsz66 hde66 164 rfl (by decide) fun K hK => ?_
        go_simp
        refine hK _ _ fun a67 hsz67 hde67 f164 hk => ?_
        clear hK
        replace f9 := (hk 9 (by decide)).trans f9
        replace f0 := (hk 0 (by decide)).trans f0
        replace f4 := (hk 4 (by decide)).trans f4
        replace f5 := (hk 5 (by decide)).trans f5
        replace f6 := (hk 6 (by decide)).trans f6
        replace f14 := (hk 14 (by decide)).trans f14
        replace f13 := (hk 13 (by decide)).trans f13
        replace f15 := (hk 15 (by decide)).trans f15
        replace f16 := (hk 16 (by decide)).trans f16
        replace f17 := (hk 17 (by decide)).trans f17
        replace f18 := (hk 18 (by decide)).trans f18
        replace f164 : a67.tmps[164]?.getD undef = .bool true := f164
        clear hk hsz66 hde66 f163
        refine wpList_nextg (wanted_of (j := 2) (t := 164) (b := true) rfl rfl f164) hsz67 hde67 165 rfl (by decide) fun K hK => ?_
        go_simp
        refine hK _ _ fun a68 hsz68 hde68 f165 hk => ?_
        clear hK
        replace f9 := (hk 9 (by decide)).trans f9
        replace f0 := (hk 0 (by decide)).trans f0
        replace f4 := (hk 4 (by decide)).trans f4
        replace f5 := (hk 5 (by decide)).trans f5
        replace f6 := (hk 6 (by decide)).trans f6
        replace f14 := (hk 14 (by decide)).trans f14
        replace f13 := (hk 13 (by decide)).trans f13
        replace f15 := (hk 15 (by decide)).trans f15
        replace f16 := (hk 16 (by decide)).trans f16
        replace f17 := (hk 17 (by decide)).trans f17
        replace f18 := (hk 18 (by decide)).trans f18
        replace f164 := (hk 164 (by decide)).trans f164
        replace f165 : a68.tmps[165]?.getD undef = .int .i64 0 := f165
        clear hk hsz67 hde67
        refine wpList_nextg (wanted_of (j := 2) (t := 164) (b := true) rfl rfl f164) hsz68 hde68 166 rfl (by decide) fun K hK => ?_
        go_simp
        refine hK _ _ fun a69 hsz69 hde69 f166 hk => ?_
        clear hK
        replace f9 := (hk 9 (by decide)).trans f9
        replace f0 := (hk 0 (by decide)).trans f0
        replace f4 := (hk 4 (by decide)).trans f4
        replace f5 := (hk 5 (by decide)).trans f5
        replace f6 := (hk 6 (by decide)).trans f6
        replace f14 := (hk 14 (by decide)).trans f14
        replace f13 := (hk 13 (by decide)).trans f13
        replace f15 := (hk 15 (by decide)).trans f15
        replace f16 := (hk 16 (by decide)).trans f16
        replace f17 := (hk 17 (by decide)).trans f17
        replace f18 := (hk 18 (by decide)).trans f18
        replace f164 := (hk 164 (by decide)).trans f164
        replace f166 : a69.tmps[166]?.getD undef = .bool true := f166
        clear hk hsz68 hde68 f165
        refine wpList_next rfl hsz69 hde69 167 rfl (by decide) fun K hK => ?_
        go_simp
        refine hK _ _ fun a70 hsz70 hde70 f167 hk => ?_
        clear hK
        replace f9 := (hk 9 (by decide)).trans f9
        replace f0 := (hk 0 (by decide)).trans f0
        replace f4 := (hk 4 (by decide)).trans f4
        replace f5 := (hk 5 (by decide)).trans f5
        replace f6 := (hk 6 (by decide)).trans f6
        replace f14 := (hk 14 (by decide)).trans f14
        replace f13 := (hk 13 (by decide)).trans f13
        replace f15 := (hk 15 (by decide)).trans f15
        replace f16 := (hk 16 (by decide)).trans f16
        replace f17 := (hk 17 (by decide)).trans f17
        replace f18 := (hk 18 (by decide)).trans f18
        replace f167 : a70.tmps[167]?.getD undef = .bool true := f167
        clear hk hsz69 hde69 f164 f166
        refine wpList_next rfl hsz70 hde70 168 rfl (by decide) fun K hK => ?_
        go_simp
        refine hK _ _ fun a71 hsz71 hde71 f168 hk => ?_
        clear hK
        replace f9 := (hk 9 (by decide)).trans f9
        replace f0 := (hk 0 (by decide)).trans f0
        replace f4 := (hk 4 (by decide)).trans f4
        replace f5 := (hk 5 (by decide)).trans f5
        replace f6 := (hk 6 (by decide)).trans f6
        replace f14 := (hk 14 (by decide)).trans f14
        replace f13 := (hk 13 (by decide)).trans f13
        replace f15 := (hk 15 (by decide)).trans f15
        replace f16 := (hk 16 (by decide)).trans f16
        replace f17 := (hk 17 (by decide)).trans f17
        replace f18 := (hk 18 (by decide)).trans f18
        replace f168 : a71.tmps[168]?.getD undef = .bool true := f168
        clear hk hsz70 hde70 f167
        refine wpList_nextg (wanted_of (j := 6) (t := 168) (b := true) rfl rfl f168) hsz71 hde71 169 rfl (by decide) fun K hK => ?_
        go_simp
        refine hK _ _ fun a72 hsz72 hde72 f169 hk => ?_
        clear hK
        replace f9 := (hk 9 (by decide)).trans f9
        replace f0 := (hk 0 (by decide)).trans f0
        replace f4 := (hk 4 (by decide)).trans f4
        replace f5 := (hk 5 (by decide)).trans f5
        replace f6 := (hk 6 (by decide)).trans f6
        replace f14 := (hk 14 (by decide)).trans f14
        replace f13 := (hk 13 (by decide)).trans f13
        replace f15 := (hk 15 (by decide)).trans f15
        replace f16 := (hk 16 (by decide)).trans f16
        replace f17 := (hk 17 (by decide)).trans f17
        replace f18 := (hk 18 (by decide)).trans f18
        replace f168 := (hk 168 (by decide)).trans f168
        replace f169 : a72.tmps[169]?.getD undef = .int .i64 0 := f169
        clear hk hsz71 hde71
        refine wpList_nextg (wanted_of (j := 6) (t := 168) (b := true) rfl rfl f168) hsz72 hde72 170 rfl (by decide) fun K hK => ?_
        go_simp
        refine hK _ _ fun a73 hsz73 hde73 f170 hk => ?_
        clear hK
        replace f9 := (hk 9 (by decide)).trans f9
        replace f0 := (hk 0 (by decide)).trans f0
        replace f4 := (hk 4 (by decide)).trans f4
        replace f5 := (hk 5 (by decide)).trans f5
        replace f6 := (hk 6 (by decide)).trans f6
        replace f14 := (hk 14 (by decide)).trans f14
        replace f13 := (hk 13 (by decide)).trans f13
        replace f15 := (hk 15 (by decide)).trans f15
        replace f16 := (hk 16 (by decide)).trans f16
        replace f17 := (hk 17 (by decide)).trans f17
        replace f18 := (hk 18 (by decide)).trans f18
        replace f168 := (hk 168 (by decide)).trans f168
        replace f170 : a73.tmps[170]?.getD undef = .bool true := f170
        clear hk hsz72 hde72 f169
        refine wpList_next rfl hsz73 hde73 171 rfl (by decide) fun K hK => ?_
        go_simp
        refine hK _ _ fun a74 hsz74 hde74 f171 hk => ?_
        clear hK
        replace f9 := (hk 9 (by decide)).trans f9
        replace f0 := (hk 0 (by decide)).trans f0
        replace f4 := (hk 4 (by decide)).trans f4
        replace f5 := (hk 5 (by decide)).trans f5
        replace f6 := (hk 6 (by decide)).trans f6
        replace f14 := (hk 14 (by decide)).trans f14
        replace f13 := (hk 13 (by decide)).trans f13
        replace f15 := (hk 15 (by decide)).trans f15
        replace f16 := (hk 16 (by decide)).trans f16
        replace f17 := (hk 17 (by decide)).trans f17
        replace f18 := (hk 18 (by decide)).trans f18
        replace f171 : a74.tmps[171]?.getD undef = .bool true := f171
        clear hk hsz73 hde73 f168 f170
        refine wpList_next rfl hsz74 hde74 172 rfl (by decide) fun K hK => ?_
        go_simp
        refine hK _ _ fun a75 hsz75 hde75 f172 hk => ?_
        clear hK
        replace f9 := (hk 9 (by decide)).trans f9
        replace f0 := (hk 0 (by decide)).trans f0
        replace f4 := (hk 4 (by decide)).trans f4
        replace f5 := (hk 5 (by decide)).trans f5
        replace f6 := (hk 6 (by decide)).trans f6
        replace f14 := (hk 14 (by decide)).trans f14
        replace f13 := (hk 13 (by decide)).trans f13
        replace f15 := (hk 15 (by decide)).trans f15
        replace f16 := (hk 16 (by decide)).trans f16
        replace f17 := (hk 17 (by decide)).trans f17
        replace f18 := (hk 18 (by decide)).trans f18
        replace f172 : a75.tmps[172]?.getD undef = .bool true := f172
        clear hk hsz74 hde74 f171
        refine wpList_nextg (wanted_of (j := 10) (t := 172) (b := true) rfl rfl f172) hsz75 hde75 173 rfl (by decide) fun K hK => ?_
        go_simp
        refine hK _ _ fun a76 hsz76 hde76 f173 hk => ?_
        clear hK
        replace f9 := (hk 9 (by decide)).trans f9
        replace f0 := (hk 0 (by decide)).trans f0
        replace f4 := (hk 4 (by decide)).trans f4
        replace f5 := (hk 5 (by decide)).trans f5
        replace f6 := (hk 6 (by decide)).trans f6
        replace f14 := (hk 14 (by decide)).trans f14
        replace f13 := (hk 13 (by decide)).trans f13
        replace f15 := (hk 15 (by decide)).trans f15
        replace f16 := (hk 16 (by decide)).trans f16
        replace f17 := (hk 17 (by decide)).trans f17
        replace f18 := (hk 18 (by decide)).trans f18
        replace f172 := (hk 172 (by decide)).trans f172
        replace f173 : a76.tmps[173]?.getD undef = u14 := f173
        clear hk hsz75 hde75
        refine wpList_nextg (wanted_of (j := 10) (t := 172) (b := true) rfl rfl f172) hsz76 hde76 174 rfl (by decide) fun K hK => ?_
        go_simp
        refine (HH2.out u14 _ How14c.out).mono ?_
        rintro e7 w9 ⟨⟨A9, c9, rfl⟩, hb9⟩
        go_simp
        refine hK _ _ fun a77 hsz77 hde77 f174 hk => ?_
        clear hK
        replace f9 := (hk 9 (by decide)).trans f9
        replace f0 := (hk 0 (by decide)).trans f0
        replace f4 := (hk 4 (by decide)).trans f4
        replace f5 := (hk 5 (by decide)).trans f5
        replace f6 := (hk 6 (by decide)).trans f6
        replace f14 := (hk 14 (by decide)).trans f14
        replace f13 := (hk 13 (by decide)).trans f13
        replace f15 := (hk 15 (by decide)).trans f15
        replace f16 := (hk 16 (by decide)).trans f16
        replace f17 := (hk 17 (by decide)).trans f17
        replace f18 := (hk 18 (by decide)).trans f18
        replace f172 := (hk 172 (by decide)).trans f172
        replace f174 : a77.tmps[174]?.getD undef = .slice A9 2 c9 := f174
        clear hk hsz76 hde76 f173
        refine wpList_nextg (wanted_of (j := 10) (t := 172) (b := true) rfl rfl f172) hsz77 hde77 175 rfl (by decide) fun K hK => ?_
        go_simp
        refine hK _ _ fun a78 hsz78 hde78 f175 hk => ?_
        clear hK
        replace f9 := (hk 9 (by decide)).trans f9
        replace f0 := (hk 0 (by decide)).trans f0
        replace f4 := (hk 4 (by decide)).trans f4
        replace f5 := (hk 5 (by decide)).trans f5
        replace f6 := (hk 6 (by decide)).trans f6
        replace f14 := (hk 14 (by decide)).trans f14
        replace f13 := (hk 13 (by decide)).trans f13
        replace f15 := (hk 15 (by decide)).trans f15
        replace f16 := (hk 16 (by decide)).trans f16
        replace f17 := (hk 17 (by decide)).trans f17
        replace f18 := (hk 18 (by decide)).trans f18
        replace f172 := (hk 172 (by decide)).trans f172
        replace f175 : a78.tmps[175]?.getD undef = .int .i64 2 := f175
        clear hk hsz77 hde77 f174
        refine wpList_nextg (wanted_of (j := 10) (t := 172) (b := true) rfl rfl f172) hsz78 hde78 176 rfl (by decide) fun K hK => ?_
        go_simp
        refine hK _ _ fun a79 hsz79 hde79 f176 hk => ?_
        clear hK
        replace f9 := (hk 9 (by decide)).trans f9
        replace f0 := (hk 0 (by decide)).trans f0
        replace f4 := (hk 4 (by decide)).trans f4
        replace f5 := (hk 5 (by decide)).trans f5
        replace f6 := (hk 6 (by decide)).trans f6
        replace f14 := (hk 14 (by decide)).trans f14
        replace f13 := (hk 13 (by decide)).trans f13
        replace f15 := (hk 15 (by decide)).trans f15
        replace f16 := (hk 16 (by decide)).trans f16
        replace f17 := (hk 17 (by decide)).trans f17
        replace f18 := (hk 18 (by decide)).trans f18
        replace f172 := (hk 172 (by decide)).trans f172
        replace f176 : a79.tmps[176]?.getD undef = .bool true := f176
        clear hk hsz78 hde78 f175
        refine wpList_next rfl hsz79 hde79 177 rfl (by decide) fun K hK => ?_
        go_simp
        refine hK _ _ fun a80 hsz80 hde80 f177 hk => ?_
        clear hK
        replace f9 := (hk 9 (by decide)).trans f9
        replace f0 := (hk 0 (by decide)).trans f0
        replace f4 := (hk 4 (by decide)).trans f4
        replace f5 := (hk 5 (by decide)).trans f5
        replace f6 := (hk 6 (by decide)).trans f6
        replace f14 := (hk 14 (by decide)).trans f14
        replace f13 := (hk 13 (by decide)).trans f13
        replace f15 := (hk 15 (by decide)).trans f15
        replace f16 := (hk 16 (by decide)).trans f16
        replace f17 := (hk 17 (by decide)).trans f17
        replace f18 := (hk 18 (by decide)).trans f18
        replace f177 : a80.tmps[177]?.getD undef = .bool true := f177
        clear hk hsz79 hde79 f172 f176
        refine wpList_next rfl hsz80 hde80 178 rfl (by decide) fun K hK => ?_
        go_simp
        refine hK _ _ fun a81 hsz81 hde81 f178 hk => ?_
        clear hK
        replace f9 := (hk 9 (by decide)).trans f9
        replace f0 := (hk 0 (by decide)).trans f0
        replace f4 := (hk 4 (by decide)).trans f4
        replace f5 := (hk 5 (by decide)).trans f5
        replace f6 := (hk 6 (by decide)).trans f6
        replace f14 := (hk 14 (by decide)).trans f14
        replace f13 := (hk 13 (by decide)).trans f13
        replace f15 := (hk 15 (by decide)).trans f15
        replace f16 := (hk 16 (by decide)).trans f16
        replace f17 := (hk 17 (by decide)).trans f17
        replace f18 := (hk 18 (by decide)).trans f18
        replace f178 : a81.tmps[178]?.getD undef = .bool true := f178
        clear hk hsz80 hde80 f177
        refine wpList_nextg (wanted_of (j := 16) (t := 178) (b := true) rfl rfl f178) hsz81 hde81 179 rfl (by decide) fun K hK => ?_
        go_simp
        refine hK _ _ fun a82 hsz82 hde82 f179 hk => ?_
        clear hK
        replace f9 := (hk 9 (by decide)).trans f9
        replace f0 := (hk 0 (by decide)).trans f0
        replace f4 := (hk 4 (by decide)).trans f4
        replace f5 := (hk 5 (by decide)).trans f5
        replace f6 := (hk 6 (by decide)).trans f6
        replace f14 := (hk 14 (by decide)).trans f14
        replace f13 := (hk 13 (by decide)).trans f13
        replace f15 := (hk 15 (by decide)).trans f15
        replace f16 := (hk 16 (by decide)).trans f16
        replace f17 := (hk 17 (by decide)).trans f17
        replace f18 := (hk 18 (by decide)).trans f18
        replace f178 := (hk 178 (by decide)).trans f178
        replace f179 : a82.tmps[179]?.getD undef = u14 := f179
        clear hk hsz81 hde81
        refine wpList_nextg (wanted_of (j := 16) (t := 178) (b := true) rfl rfl f178) hsz82 hde82 180 rfl (by decide) fun K hK => ?_
        go_simp
        refine hK _ _ fun a83 hsz83 hde83 f180 hk => ?_
        clear hK
        replace f9 := (hk 9 (by decide)).trans f9
        replace f0 := (hk 0 (by decide)).trans f0
        replace f4 := (hk 4 (by decide)).trans f4
        replace f5 := (hk 5 (by decide)).trans f5
        replace f6 := (hk 6 (by decide)).trans f6
        replace f14 := (hk 14 (by decide)).trans f14
        replace f13 := (hk 13 (by decide)).trans f13
        replace f15 := (hk 15 (by decide)).trans f15
        replace f16 := (hk 16 (by decide)).trans f16
        replace f17 := (hk 17 (by decide)).trans f17
        replace f18 := (hk 18 (by decide)).trans f18
        replace f178 := (hk 178 (by decide)).trans f178
        replace f179 := (hk 179 (by decide)).trans f179
        replace f180 : a83.tmps[180]?.getD undef = u17 := f180
        clear hk hsz82 hde82
        refine wpList_nextg (wanted_of (j := 16) (t := 178) (b := true) rfl rfl f178) hsz83 hde83 181 rfl (by decide) fun K hK => ?_
        go_simp
        refine (refsame_any _ _ u14 u17 M2 _ (How14c.out.grow hb9) (Howu17.out.grow hb9)).mono ?_
        rintro e7 w10 ⟨rfl, hb10⟩
        go_simp
        refine hK _ _ fun a84 hsz84 hde84 f181 hk => ?_
        clear hK
        replace f9 := (hk 9 (by decide)).trans f9
        replace f0 := (hk 0 (by decide)).trans f0
        replace f4 := (hk 4 (by decide)).trans f4
        replace f5 := (hk 5 (by decide)).trans f5
        replace f6 := (hk 6 (by decide)).trans f6
        replace f14 := (hk 14 (by decide)).trans f14
        replace f13 := (hk 13 (by decide)).trans f13
        replace f15 := (hk 15 (by decide)).trans f15
        replace f16 := (hk 16 (by decide)).trans f16
        replace f17 := (hk 17 (by decide)).trans f17
        replace f18 := (hk 18 (by decide)).trans f18
        replace f178 := (hk 178 (by decide)).trans f178
        replace f181 : a84.tmps[181]?.getD undef = .bool true := f181
        clear hk hsz83 hde83 f179 f180
        refine wpList_next rfl hsz84 hde84 182 rfl (by decide) fun K hK => ?_
        go_simp
        refine hK _ _ fun a85 hsz85 hde85 f182 hk => ?_
        clear hK
        replace f9 := (hk 9 (by decide)).trans f9
        replace f0 := (hk 0 (by decide)).trans f0
        replace f4 := (hk 4 (by decide)).trans f4
        replace f5 := (hk 5 (by decide)).trans f5
        replace f6 := (hk 6 (by decide)).trans f6
        replace f14 := (hk 14 (by decide)).trans f14
        replace f13 := (hk 13 (by decide)).trans f13
        replace f15 := (hk 15 (by decide)).trans f15
        replace f16 := (hk 16 (by decide)).trans f16
        replace f17 := (hk 17 (by decide)).trans f17
        replace f18 := (hk 18 (by decide)).trans f18
        replace f182 : a85.tmps[182]?.getD undef = .bool true := f182
        clear hk hsz84 hde84 f178 f181
        refine wpList_next rfl hsz85 hde85 6 rfl (by decide) fun K hK => ?_
        go_simp
        refine hK _ _ fun a86 hsz86 hde86 f6 hk => ?_
        clear hK
        replace f9 := (hk 9 (by decide)).trans f9
        replace f0 := (hk 0 (by decide)).trans f0
        replace f4 := (hk 4 (by decide)).trans f4
        replace f5 := (hk 5 (by decide)).trans f5
        replace f14 := (hk 14 (by decide)).trans f14
        replace f13 := (hk 13 (by decide)).trans f13
        replace f15 := (hk 15 (by decide)).trans f15
        replace f16 := (hk 16 (by decide)).trans f16
        replace f17 := (hk 17 (by decide)).trans f17
        replace f18 := (hk 18 (by decide)).trans f18
        replace f6 : a86.tmps[6]?.getD undef = .bool true := f6
        clear hk hsz85 hde85 f182
        refine wpList_nil ?_
        refine then_go ?_
        refine wp_ret ?_
        refine (ret_tmp (R := fun e2 w2 => e2 = .returned (.bool true) ∧ Below w.heap.size w w2) Try.results6 hde86 f6 ?_)
        exact ⟨rfl, Hfin.out _ (below_call (below_call Hz21.out hb9) hb10)⟩
end Go.Proofs.Ytnehoabeameioaa
