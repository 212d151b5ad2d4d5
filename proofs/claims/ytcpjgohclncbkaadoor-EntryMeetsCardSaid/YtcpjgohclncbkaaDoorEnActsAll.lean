/-
  Acts among the arguments: their cells, lists of them, how they are opened.
  do: an act done to entries.
  fair: acts whose entries come with no one to have deleted them, each number with one entry.
-/
import Derived.Test.YtcpjgohclncbkaaDoorEnMeetMaths
import Derived.Test.YtcpjgohclncbkaaDoorEnCard
import Derived.Test.YtcpjgohclncbkaaDoorEnAdd
import Derived.Test.YtcpjgohclncbkaaDoorWalk
import Derived.Test.YtcpjgohclncbkaaDoorEnFine
import Derived.Test.YtcpjgohclncbkaaDoorEnJoins
import Derived.Deep.LoopGhost
namespace Go.Proofs.YtcpjgohclncbkaaDoor
open Go.ChangeShapes Go.WideShapes Go.ChangeAt Go.RowKit
set_option maxRecDepth 100000

def actC (x : EAct) : Array Value := entC x.e ++ #[.bool x.goes, .int .i64 x.rep, .int .u32 (x.seq : Int)]
structure ActOk (x : EAct) : Prop where
  e : EntOk x.e
  rep : I64 x.rep
  seq : x.seq < 4294967296
theorem actC_list (x : EAct) : (actC x).toList = (entC x.e).toList ++ (.bool x.goes :: (idC x.rep x.seq).toList) := by unfold actC; rw [Array.toList_append]; rfl
theorem actC_size (x : EAct) : (actC x).size = 18 := rfl
theorem actC_one (x : EAct) : (actC x).all (·.oneCell') = true := by simp [actC, entC, Value.oneCell']
theorem act_info : (Tryd.prog.info? 53).map (·.size) = some 18 := by kernel_rfl
def zeroAct : Array Value := #[.int .i64 0, .int .u32 0, .int .i64 0, .int .u32 0, .string ⟨#[]⟩, .int .i64 0, .int .u32 0, .int .u32 0, .int .u32 0, .int .u32 0, .int .u32 0, .int .u32 0, .int .u32 0, .int .u32 0, .int .u32 0, .bool false, .int .i64 0, .int .u32 0]
def kAct : Kind EAct where
  size := 18
  R _ _ cs v := cs = (actC v).toList ∧ ActOk v
  len h := by rw [h.1]; rfl
  move h _ := h
def kActT := kPair kEnt (kPair kBool kId)
theorem opens_act : Opens Tryd.prog 53 kAct := fun h => by
  obtain ⟨x, c0, d0, rfl, ⟨h0, o0⟩, c1, d1, rfl, h1, h2⟩ := (Opens.struct (K := kActT) Tryd.underlying53 (by kernel_rfl) (OpenFs.cons rfl (by kernel_rfl) opens_ent (OpenFs.cons rfl (by kernel_rfl) (Opens.bool Tryd.underlying4) (OpenFs.one rfl (by kernel_rfl) opens_id)))) h
  obtain ⟨h2, o2⟩ := kId_cells.1 h2
  have h1' : c1 = [.bool x.2.1] := h1
  subst h0 h1' h2
  exact ⟨⟨x.1, x.2.1, x.2.2.1, x.2.2.2⟩, by rw [actC_list]; rfl, ⟨o0, o2.1, o2.2⟩⟩
theorem opens_acts : Opens Tryd.prog 50 (kSlice kAct) := Opens.slice Tryd.underlying50 opens_act (by kernel_rfl)
section
variable {H : Type} {enc : TypeId × Value → H} {w : World} {r : Reach} {b0 base : Nat} {sp : Nat → Bool} {held : Bool} {v : Value} {d : DataW H} {ps : List MemPlace}
theorem open_acts (hval : Value.okWide Tryd.prog w r b0 50 v) (hd : DataW.Trod enc Tryd.prog w base sp held 50 v d ps) : ∃ L, IsL kAct w (fun _ => True) v L := by
  obtain ⟨fuel, hf⟩ := hd
  obtain ⟨a, len, cap, rfl⟩ := okWide_slice Tryd.underlying50 hval
  obtain ⟨L, hL⟩ := opens_acts hf
  exact ⟨L, kSlice_iff.1 hL⟩
end
theorem act_at {w : World} {ok : Nat → Prop} {v : Value} {L : List EAct} (h : IsL kAct w ok v L) :
    ∃ A c, v = .slice A L.length c ∧ L.length ≤ c ∧ c ≤ maxLen ∧ (L ≠ [] → ∃ b off, A = some ⟨b, off, none⟩ ∧ ok b ∧ b < w.heap.size ∧
      ∀ (i : Nat) (hi : i < L.length), w.rangeAt b (off + i * 18) (actC L[i]).toList ∧ ActOk L[i]) := by
  obtain ⟨A, c, e, h1, h2, h3⟩ := h.elem (by show 0 < 18; omega)
  refine ⟨A, c, e, h1, h2, fun hn => ?_⟩
  obtain ⟨b, off, hA, ho, hlt, hc⟩ := h3 hn
  refine ⟨b, off, hA, ho, hlt, fun i hi => ?_⟩
  obtain ⟨cs, ⟨rfl, hok⟩, hcs⟩ := hc i hi
  refine ⟨fun j u hu => ?_, hok⟩
  obtain ⟨hj, e⟩ := List.getElem?_eq_some_iff.1 hu
  have := hcs j hj
  rw [e] at this
  rw [← this]
  congr 2
  show off + i * 18 + j = off + (i * 18 + j)
  omega
/-- The parts of an act that lies there. -/
structure ActCells (W : World) (g o : Nat) (x : EAct) : Prop where
  ent : W.rangeAt g o (entC x.e).toList
  goes : W.cell? ⟨g, o + 15, none⟩ = some (.bool x.goes)
  id : W.rangeAt g (o + 16) (idC x.rep x.seq).toList
  all : W.rangeAt g o (actC x).toList
theorem actCells {W : World} {g o : Nat} {x : EAct} (h : W.rangeAt g o (actC x).toList) : ActCells W g o x := by
  refine ⟨fun j u hu => ?_, ?_, fun j u hu => ?_, h⟩
  · refine h j u ?_
    rw [actC_list, List.getElem?_append_left (List.getElem?_eq_some_iff.1 hu).1]
    exact hu
  · refine h 15 _ ?_
    rw [actC_list]
    rfl
  · rw [Nat.add_assoc]
    refine h (16 + j) u ?_
    rw [actC_list, List.getElem?_append_right (by show 15 ≤ 16 + j; omega)]
    show (Value.bool x.goes :: (idC x.rep x.seq).toList)[16 + j - 15]? = some u
    rw [show 16 + j - 15 = j + 1 by omega]
    exact hu
theorem Blk.act {W : World} {g : Nat} {t : TypeId} {x : EAct} (h : Blk W g t (actC x)) : ActCells W g 0 x := actCells (h.range _ _ fun j u hu => by rw [Nat.zero_add, ← Array.getElem?_toList]; exact hu)
/-- Vectors compared. -/
theorem vneq_run (A B : Nat → Nat) (w : World) : (binOp .neq 27 (.agg (av A)) (.agg (av B))).run Tryd.prog w = .ok (.bool (!eqV A B)) w := by
  have h := eql_run A B w
  unfold vv at h
  rw [run_eql_struct] at h
  rw [run_neq_struct]
  show ((Op.equalIn 10000 27 (.agg (av A)) (.agg (av B))).run Tryd.prog w).andThen _ = _
  cases hq : (Op.equalIn 10000 27 (.agg (av A)) (.agg (av B))).run Tryd.prog w with
  | ok b w' =>
    rw [hq] at h
    simp only [Result.andThen_ok] at h ⊢
    injection h with h1 h2
    injection h1 with h1
    subst h1 h2
    rfl
  | halt x w' => rw [hq] at h; cases h
theorem ent_zero {x : Ent} (h : eqV x.by_ zeroV = true) : entC { x with by_ := zeroV } = entC x := by
  have h' := eqV_iff.1 h
  unfold entC
  dsimp only
  rw [h' 0 (by omega), h' 1 (by omega), h' 2 (by omega), h' 3 (by omega), h' 4 (by omega), h' 5 (by omega), h' 6 (by omega), h' 7 (by omega)]
/-- The acts, with what none has set to zero. -/
def cleanA (x : EAct) : EAct := { x with e := { x.e with by_ := zeroV } }
theorem clean_cells {x : EAct} (h : eqV x.e.by_ zeroV = true) : actC (cleanA x) = actC x := by
  unfold actC cleanA
  dsimp only
  rw [ent_zero h]
theorem clean_ok {x : EAct} (h : ActOk x) : ActOk (cleanA x) := ⟨⟨h.e.rep, h.e.seq, h.e.drep, h.e.dseq, h.e.data, h.e.orep, h.e.oseq, fun _ _ => by show 0 < 4294967296; decide⟩, h.rep, h.seq⟩
/-- What fair acts are. -/
def FairA (A : List EAct) : Prop := A.length ≤ 30 ∧ (∀ x ∈ A, x.e.data.length ≤ 40 ∧ eqV x.e.by_ zeroV = true) ∧ AlikeA A
end Go.Proofs.YtcpjgohclncbkaaDoor

namespace Go.Proofs.YtcpjgohclncbkaaDoor
open Go.RowKit
set_option maxRecDepth 100000

set_option maxHeartbeats 8000000 in
theorem do_any (ok : Nat → Prop) (v : Value) (L : List Ent) (X : EAct) (w : World) (hL : IsL kEnt w ok v L) (hl : L.length ≤ 800) (hd : ∀ x ∈ L, x.data.length ≤ 1000) (hXd : X.e.data.length ≤ 1000) (hs : SortedE L) (hX : ActOk X) :
    Calls Tryd.prog 32 #[v, .agg (actC X)] w fun e w' => (∃ u, e = .returned u ∧ IsL kEnt w' (fun _ => True) u (doE L X)) ∧ Below w.heap.size w w' := by
  obtain ⟨C, hC⟩ : ∃ C, C = actC X := ⟨_, rfl⟩
  obtain ⟨wb, hwb⟩ : ∃ wb, wb = w.alloc (.cells C 53) := ⟨_, rfl⟩
  have hbox : Blk wb w.heap.size 53 (actC X) := by rw [hwb, ← hC]; exact Blk.new w _ _
  have Hbel := Lib.hid (show Below w.heap.size w wb by rw [hwb]; exact (Below.refl _ w).alloc (Nat.le_refl _) _)
  have HW := Lib.hid hwb
  have Hadd := Lib.hid (eadd_any ok v L X.e wb (hL.grow Hbel.out) (by omega) hd hXd hs hX.e)
  have Hkill := Lib.hid fun (u : Value) (z : World) (hu : OwnE z wb.heap.size u (addE L X.e)) => kill_any _ u (addE L X.e) X.e.rep X.e.seq X.rep X.seq z hu.isL (by have := add_length L X.e; omega) (add_data hd hXd) (sorted_add hs X.e) hX.seq
  obtain ⟨DX, hDX⟩ : ∃ C, C = entC X.e := ⟨_, rfl⟩
  obtain ⟨IX, hIX⟩ : ∃ C, C = idC X.e.rep X.e.seq := ⟨_, rfl⟩
  obtain ⟨IB, hIB⟩ : ∃ C, C = idC X.rep X.seq := ⟨_, rfl⟩
  have HrD := Lib.hid (show ∀ z, Below wb.heap.size wb z → z.rangeAt w.heap.size 0 DX.toList from fun z hz => by rw [hDX]; exact range_ext hbox.act.ent hz)
  have HrI := Lib.hid (show ∀ z, Below wb.heap.size wb z → z.rangeAt w.heap.size 0 IX.toList from fun z hz => by rw [hIX]; exact range_ext (entCells hbox.act.ent).id hz)
  have HrB := Lib.hid (show ∀ z, Below wb.heap.size wb z → z.rangeAt w.heap.size 16 IB.toList from fun z hz => by have h := range_ext hbox.act.id hz; rw [Nat.zero_add] at h; rw [hIB]; exact h)
  have Hg := Lib.hid (show ∀ z, Below wb.heap.size wb z → z.cell? ⟨w.heap.size, 15, none⟩ = some (.bool X.goes) from fun z hz => by have h := (hbox.grow hz).act.goes; rw [Nat.zero_add] at h; exact h)
  have HfD := Lib.hid (show (Tryd.prog.info? 29).map (·.size) = some DX.toList.length by rw [hDX]; exact ent_info)
  have HfI := Lib.hid (show (Tryd.prog.info? 25).map (·.size) = some IX.toList.length by rw [hIX]; exact id_info)
  have HfB := Lib.hid (show (Tryd.prog.info? 25).map (·.size) = some IB.toList.length by rw [hIB]; exact id_info)
  rw [← hDX] at Hadd
  rw [← hIX, ← hIB] at Hkill
  obtain ⟨LR, hLR⟩ : ∃ N, N = doE L X := ⟨_, rfl⟩
  rw [← hLR, ← hC]
  unfold doE at hLR
  obtain ⟨LA, hLA⟩ : ∃ N, N = addE L X.e := ⟨_, rfl⟩
  rw [← hLA] at Hadd Hkill hLR
  obtain ⟨LK, hLK⟩ : ∃ N, N = killE LA X.e.rep X.e.seq X.rep X.seq := ⟨_, rfl⟩
  rw [← hLK] at Hkill hLR
  obtain ⟨g, hg⟩ : ∃ g, g = X.goes := ⟨_, rfl⟩
  rw [← hg] at Hg hLR
  have HLR := Lib.hid hLR
  clear hL hd hXd hs hX hbox hwb hDX hIX hIB hLR hLA hLK hg hl hC
  go_enter Tryd.func32, Tryd.ntmps32
  refine enter_abs (N := 19) rfl rfl fun a0 hsz0 hde0 hk => ?_
  have f0 : a0.tmps[0]?.getD undef = v := hk 0
  have f1 : a0.tmps[1]?.getD undef = .agg C := hk 1
  clear hk
  repeat with_reducible refine wp_seq ?_
  refine wp_region_lit ?_
  refine wpList_next rfl hsz0 hde0 3 rfl (by decide) fun K hK => ?_
  go_simp
  refine hK _ _ fun a1 hsz1 hde1 f3 hk => ?_
  clear hK K
  replace f0 := (hk 0 (by decide)).trans f0
  replace f1 := (hk 1 (by decide)).trans f1
  replace f3 : a1.tmps[3]?.getD undef = .pointer (some ⟨w.heap.size, 0, none⟩) := f3
  clear hk hsz0 hde0
  refine wpList_next rfl hsz1 hde1 4 rfl (by decide) fun K hK => ?_
  go_simp
  refine hK _ _ fun a2 hsz2 hde2 f4 hk => ?_
  clear hK K
  replace f0 := (hk 0 (by decide)).trans f0
  replace f1 := (hk 1 (by decide)).trans f1
  replace f3 := (hk 3 (by decide)).trans f3
  replace f4 : a2.tmps[4]?.getD undef = .slice none 0 0 := f4
  clear hk hsz1 hde1
  refine wpList_nil ?_
  clear f1 f4
  rw [← HW.out]
  refine then_go ?_
  repeat with_reducible refine wp_seq ?_
  refine wp_region_lit ?_
  refine wpList_next rfl hsz2 hde2 5 rfl (by decide) fun K hK => ?_
  go_simp
  refine hK _ _ fun a3 hsz3 hde3 f5 hk => ?_
  clear hK K
  replace f0 := (hk 0 (by decide)).trans f0
  replace f3 := (hk 3 (by decide)).trans f3
  replace f5 : a3.tmps[5]?.getD undef = v := f5
  clear hk hsz2 hde2
  refine wpList_next rfl hsz3 hde3 6 rfl (by decide) fun K hK => ?_
  go_simp
  refine hK _ _ fun a4 hsz4 hde4 f6 hk => ?_
  clear hK K
  replace f0 := (hk 0 (by decide)).trans f0
  replace f3 := (hk 3 (by decide)).trans f3
  replace f5 := (hk 5 (by decide)).trans f5
  replace f6 : a4.tmps[6]?.getD undef = .pointer (some ⟨w.heap.size, 0, none⟩) := f6
  clear hk hsz3 hde3
  refine wpList_next rfl hsz4 hde4 7 rfl (by decide) fun K hK => ?_
  refine wp_load_mid 29 (.tmp 6) rfl w.heap.size 0 (eval_at f6) DX.toList _ (HrD.out _ (Below.refl _ _)) Tryd.underlying29 rfl HfD.out ?_
  refine hK _ _ fun a5 hsz5 hde5 f7 hk => ?_
  clear hK K
  replace f0 := (hk 0 (by decide)).trans f0
  replace f3 := (hk 3 (by decide)).trans f3
  replace f5 := (hk 5 (by decide)).trans f5
  replace f7 : a5.tmps[7]?.getD undef = .agg DX := f7
  clear hk hsz4 hde4 f6
  refine wpList_next rfl hsz5 hde5 8 rfl (by decide) fun K hK => ?_
  go_simp
  refine (Hadd.out).mono ?_
  rintro e1 w1 ⟨⟨u1, rfl, hown1⟩, hb1⟩
  go_simp
  refine hK _ _ fun a6 hsz6 hde6 f8 hk => ?_
  clear hK K
  replace f0 := (hk 0 (by decide)).trans f0
  replace f3 := (hk 3 (by decide)).trans f3
  replace f8 : a6.tmps[8]?.getD undef = u1 := f8
  clear hk hsz5 hde5 f5 f7
  refine wpList_next rfl hsz6 hde6 0 rfl (by decide) fun K hK => ?_
  go_simp
  refine hK _ _ fun a7 hsz7 hde7 f0 hk => ?_
  clear hK K
  replace f3 := (hk 3 (by decide)).trans f3
  replace f0 : a7.tmps[0]?.getD undef = u1 := f0
  clear hk hsz6 hde6 f8
  refine wpList_nil ?_
  have Hown1 := Lib.hid hown1
  have Hb1 := Lib.hid hb1
  clear hown1 hb1
  refine then_go ?_
  repeat with_reducible refine wp_seq ?_
  refine wp_region_lit ?_
  refine wpList_next rfl hsz7 hde7 9 rfl (by decide) fun K hK => ?_
  go_simp
  refine hK _ _ fun a8 hsz8 hde8 f9 hk => ?_
  clear hK K
  replace f3 := (hk 3 (by decide)).trans f3
  replace f0 := (hk 0 (by decide)).trans f0
  replace f9 : a8.tmps[9]?.getD undef = .pointer (some ⟨w.heap.size, 15, none⟩) := f9
  clear hk hsz7 hde7
  refine wpList_next rfl hsz8 hde8 10 rfl (by decide) fun K hK => ?_
  have hgc := Hg.out _ Hb1.out
  go_simp
  refine hK _ _ fun a9 hsz9 hde9 f10 hk => ?_
  clear hK K
  replace f3 := (hk 3 (by decide)).trans f3
  replace f0 := (hk 0 (by decide)).trans f0
  replace f10 : a9.tmps[10]?.getD undef = .bool g := f10
  clear hk hsz8 hde8 f9
  clear hgc
  refine wpList_nil ?_
  refine then_go ?_
  repeat with_reducible refine wp_seq ?_
  cases g with
  | false =>
    refine wp_cond_false (eval_at f10) ?_
    refine wp_skip ?_
    refine then_go ?_
    clear f10
    repeat with_reducible refine wp_seq ?_
    refine wp_region_lit ?_
    refine wpList_next rfl hsz9 hde9 18 rfl (by decide) fun K hK => ?_
    go_simp
    refine hK _ _ fun a10 hsz10 hde10 f18 hk => ?_
    clear hK K
    replace f3 := (hk 3 (by decide)).trans f3
    replace f0 := (hk 0 (by decide)).trans f0
    replace f18 : a10.tmps[18]?.getD undef = u1 := f18
    clear hk hsz9 hde9
    refine wpList_next rfl hsz10 hde10 4 rfl (by decide) fun K hK => ?_
    go_simp
    refine hK _ _ fun a11 hsz11 hde11 f4 hk => ?_
    clear hK K
    replace f3 := (hk 3 (by decide)).trans f3
    replace f0 := (hk 0 (by decide)).trans f0
    replace f4 : a11.tmps[4]?.getD undef = u1 := f4
    clear hk hsz10 hde10 f18
    refine wpList_nil ?_
    refine then_go ?_
    have hfin := Hown1.out.isL
    have hLR := HLR.out
    rw [if_neg (by simp)] at hLR
    rw [← hLR] at hfin
    refine wp_ret ?_
    repeat first | with_reducible refine then_ret ?_ | with_reducible refine block_ret ?_
    refine ret_tmp Tryd.results32 hde11 f4 ?_
    exact ⟨⟨_, rfl, hfin.weaken fun _ _ => trivial⟩, below_call Hbel.out Hb1.out⟩
  | true =>
    refine wp_cond_true (eval_at f10) ?_
    clear f10
    refine wp_region_lit ?_
    refine wpList_next rfl hsz9 hde9 11 rfl (by decide) fun K hK => ?_
    go_simp
    refine hK _ _ fun a10 hsz10 hde10 f11 hk => ?_
    clear hK K
    replace f3 := (hk 3 (by decide)).trans f3
    replace f0 := (hk 0 (by decide)).trans f0
    replace f11 : a10.tmps[11]?.getD undef = u1 := f11
    clear hk hsz9 hde9
    refine wpList_next rfl hsz10 hde10 12 rfl (by decide) fun K hK => ?_
    go_simp
    refine hK _ _ fun a11 hsz11 hde11 f12 hk => ?_
    clear hK K
    replace f3 := (hk 3 (by decide)).trans f3
    replace f0 := (hk 0 (by decide)).trans f0
    replace f11 := (hk 11 (by decide)).trans f11
    replace f12 : a11.tmps[12]?.getD undef = .pointer (some ⟨w.heap.size, 0, none⟩) := f12
    clear hk hsz10 hde10
    refine wpList_next rfl hsz11 hde11 13 rfl (by decide) fun K hK => ?_
    go_simp
    refine hK _ _ fun a12 hsz12 hde12 f13 hk => ?_
    clear hK K
    replace f3 := (hk 3 (by decide)).trans f3
    replace f0 := (hk 0 (by decide)).trans f0
    replace f11 := (hk 11 (by decide)).trans f11
    replace f13 : a12.tmps[13]?.getD undef = .pointer (some ⟨w.heap.size, 0, none⟩) := f13
    clear hk hsz11 hde11 f12
    refine wpList_next rfl hsz12 hde12 14 rfl (by decide) fun K hK => ?_
    refine wp_load_mid 25 (.tmp 13) rfl w.heap.size 0 (eval_at f13) IX.toList _ (HrI.out _ Hb1.out) Tryd.underlying25 rfl HfI.out ?_
    refine hK _ _ fun a13 hsz13 hde13 f14 hk => ?_
    clear hK K
    replace f3 := (hk 3 (by decide)).trans f3
    replace f0 := (hk 0 (by decide)).trans f0
    replace f11 := (hk 11 (by decide)).trans f11
    replace f14 : a13.tmps[14]?.getD undef = .agg IX := f14
    clear hk hsz12 hde12 f13
    refine wpList_next rfl hsz13 hde13 15 rfl (by decide) fun K hK => ?_
    go_simp
    refine hK _ _ fun a14 hsz14 hde14 f15 hk => ?_
    clear hK K
    replace f3 := (hk 3 (by decide)).trans f3
    replace f0 := (hk 0 (by decide)).trans f0
    replace f11 := (hk 11 (by decide)).trans f11
    replace f14 := (hk 14 (by decide)).trans f14
    replace f15 : a14.tmps[15]?.getD undef = .pointer (some ⟨w.heap.size, 16, none⟩) := f15
    clear hk hsz13 hde13
    refine wpList_next rfl hsz14 hde14 16 rfl (by decide) fun K hK => ?_
    refine wp_load_mid 25 (.tmp 15) rfl w.heap.size 16 (eval_at f15) IB.toList _ (HrB.out _ Hb1.out) Tryd.underlying25 rfl HfB.out ?_
    refine hK _ _ fun a15 hsz15 hde15 f16 hk => ?_
    clear hK K
    replace f3 := (hk 3 (by decide)).trans f3
    replace f0 := (hk 0 (by decide)).trans f0
    replace f11 := (hk 11 (by decide)).trans f11
    replace f14 := (hk 14 (by decide)).trans f14
    replace f16 : a15.tmps[16]?.getD undef = .agg IB := f16
    clear hk hsz14 hde14 f15
    refine wpList_next rfl hsz15 hde15 17 rfl (by decide) fun K hK => ?_
    go_simp
    refine (Hkill.out u1 w1 Hown1.out).mono ?_
    rintro e2 w2 ⟨⟨u2, rfl, hown2⟩, hb2⟩
    go_simp
    refine hK _ _ fun a16 hsz16 hde16 f17 hk => ?_
    clear hK K
    replace f3 := (hk 3 (by decide)).trans f3
    replace f0 := (hk 0 (by decide)).trans f0
    replace f17 : a16.tmps[17]?.getD undef = u2 := f17
    clear hk hsz15 hde15 f11 f14 f16
    refine wpList_next rfl hsz16 hde16 0 rfl (by decide) fun K hK => ?_
    go_simp
    refine hK _ _ fun a17 hsz17 hde17 f0 hk => ?_
    clear hK K
    replace f3 := (hk 3 (by decide)).trans f3
    replace f0 : a17.tmps[0]?.getD undef = u2 := f0
    clear hk hsz16 hde16 f17
    refine wpList_nil ?_
    refine then_go ?_
    repeat with_reducible refine wp_seq ?_
    refine wp_region_lit ?_
    refine wpList_next rfl hsz17 hde17 18 rfl (by decide) fun K hK => ?_
    go_simp
    refine hK _ _ fun a18 hsz18 hde18 f18 hk => ?_
    clear hK K
    replace f3 := (hk 3 (by decide)).trans f3
    replace f0 := (hk 0 (by decide)).trans f0
    replace f18 : a18.tmps[18]?.getD undef = u2 := f18
    clear hk hsz17 hde17
    refine wpList_next rfl hsz18 hde18 4 rfl (by decide) fun K hK => ?_
    go_simp
    refine hK _ _ fun a19 hsz19 hde19 f4 hk => ?_
    clear hK K
    replace f3 := (hk 3 (by decide)).trans f3
    replace f0 := (hk 0 (by decide)).trans f0
    replace f4 : a19.tmps[4]?.getD undef = u2 := f4
    clear hk hsz18 hde18 f18
    refine wpList_nil ?_
    refine then_go ?_
    have hfin := hown2.isL
    have hLR := HLR.out
    rw [if_pos rfl] at hLR
    rw [← hLR] at hfin
    refine wp_ret ?_
    repeat first | with_reducible refine then_ret ?_ | with_reducible refine block_ret ?_
    refine ret_tmp Tryd.results32 hde19 f4 ?_
    exact ⟨⟨_, rfl, hfin.weaken fun _ _ => trivial⟩, below_call (below_call Hbel.out Hb1.out) hb2⟩
end Go.Proofs.YtcpjgohclncbkaaDoor

namespace Go.Proofs.YtcpjgohclncbkaaDoor
open Go.RowKit
set_option maxRecDepth 100000

theorem ahead_run {b off n c i : Nat} (hi : i ≤ n) (hn : n ≤ c) (h0 : 0 < n) (W : World) : (Instr.sliceAt 50 (.slice (some ⟨b, off, none⟩) n c) none (some (.int .i64 ((i : Nat) : Int))) none).run Tryd.prog W = .ok (.slice (some ⟨b, off, none⟩) i c) W := by
  have h2 : ((i : Nat) : Int) ≤ (c : Int) := by omega
  rw [run_sliceAt_slice (h := Tryd.underlying50), run_slice_h (ht := Tryd.underlying50) (h0 := by omega) (h2 := h2)]
  have hs : (sizeOf (Tryd.prog.elem 50)).run Tryd.prog W = .ok 18 W := by kernel_rfl
  rw [hs]
  show Result.ok (sliced (some ⟨b, off, none⟩) 0 ((i : Nat) : Int).toNat c 18) W = _
  unfold sliced
  rw [if_neg (by omega), Int.toNat_natCast]
  rfl
/-- A slice cut at its end, as an operation of a walk. -/
theorem wp_ahead {P : Program} {Q : Exit → Act → World → Prop} {o : Oper} {a : Act} {w : World} {K : Act → World → Prop} {t : TypeId} {v v' h : Value} (x y : Operand)
    (ho : o.op = .slice t x none (some y) none) (hx : a.eval x = v) (hy : a.eval y = h) (hrun : ∀ W : World, (Instr.sliceAt t v none (some h) none).run P W = .ok v' W) (hk : K (a.put o.dst v') w) : o.wp P a w K Q := by
  unfold Oper.wp execOp
  simp only [ho, Option.map, Act.eval, Sem.run_bind, Sem.run_pure] at hx hy ⊢
  rw [hx, hy, hrun]
  exact hk
def FairTo (G : List EAct) (i : Nat) : Prop := (∀ p (hp : p < G.length), p < i → G[p].e.data.length ≤ 40 ∧ eqV G[p].e.by_ zeroV = true) ∧ ∀ p q (hp : p < G.length) (hq : q < G.length), q < p → p < i → sameI G[p].e.rep G[p].e.seq G[q].e.rep G[q].e.seq = true → AlikeX G[p].e G[q].e
def FaInv2 (wc : World) (u : Value) (m : Nat) (G : List EAct) (n : Nat) (a : Act) (x : World) : Prop :=
  ∃ (i : Nat), Hid (a.tmps.size = 53) ∧ Hid (a.defers = []) ∧ a.tmps[0]?.getD undef = u ∧ a.tmps[10]?.getD undef = u ∧ a.tmps[11]?.getD undef = .int .i64 ((m : Nat) : Int) ∧ a.tmps[12]?.getD undef = .int .i64 ((i : Nat) : Int) ∧ Hid (i ≤ m) ∧ Hid (Below wc.heap.size wc x) ∧ Hid (FairTo G i) ∧ n = m - i
def FaInv3 (wc : World) (u s : Value) (m i g : Nat) (X : EAct) (G : List EAct) (n : Nat) (a : Act) (x : World) : Prop :=
  ∃ (j : Nat), Hid (a.tmps.size = 53) ∧ Hid (a.defers = []) ∧ a.tmps[0]?.getD undef = u ∧ a.tmps[10]?.getD undef = u ∧ a.tmps[11]?.getD undef = .int .i64 ((m : Nat) : Int) ∧ a.tmps[12]?.getD undef = .int .i64 ((i : Nat) : Int) ∧ a.tmps[4]?.getD undef = .pointer (some ⟨g, 0, none⟩) ∧ a.tmps[31]?.getD undef = s ∧ a.tmps[32]?.getD undef = .int .i64 ((i : Nat) : Int) ∧ a.tmps[33]?.getD undef = .int .i64 ((j : Nat) : Int) ∧ Hid (j ≤ i) ∧ Hid (Below wc.heap.size wc x) ∧ Hid (Blk x g 53 (actC X)) ∧ Hid (∀ q (hq : q < G.length), q < j → sameI X.e.rep X.e.seq G[q].e.rep G[q].e.seq = true → AlikeX X.e G[q].e) ∧ n = i - j

set_option maxHeartbeats 8000000 in
theorem fair_any (ok : Nat → Prop) (v : Value) (G : List EAct) (w : World) (hG : IsL kAct w ok v G) :
    Calls Tryd.prog 31 #[v] w fun e w' => (∃ q, e = .returned (.bool q) ∧ (q = true → FairA G)) ∧ Below w.heap.size w w' := by
  obtain ⟨A, c, rfl, hc1, hc2, hE⟩ := act_at hG
  have Hel := Lib.hid hE
  obtain ⟨n, hn⟩ : ∃ n, n = G.length := ⟨_, rfl⟩
  rw [← hn] at hc1 ⊢
  have Hn := Lib.hid hn
  have hmx : maxLen ≤ 9223372036854775807 := by decide
  clear hG hE hn
  go_enter Tryd.func31, Tryd.ntmps31
  refine enter_abs (N := 53) rfl rfl fun a0 hsz0 hde0 hk => ?_
  have f0 : a0.tmps[0]?.getD undef = .slice A n c := hk 0
  clear hk
  repeat with_reducible refine wp_seq ?_
  refine wp_region_lit ?_
  refine wpList_next rfl hsz0 hde0 2 rfl (by decide) fun K hK => ?_
  go_simp
  refine hK _ _ fun a1 hsz1 hde1 f2 hk => ?_
  clear hK K
  replace f0 := (hk 0 (by decide)).trans f0
  replace f2 : a1.tmps[2]?.getD undef = .bool false := f2
  clear hk hsz0 hde0
  refine wpList_nil ?_
  clear f2
  refine then_go ?_
  repeat with_reducible refine wp_seq ?_
  by_cases h30 : 30 < n
  · skip
    refine wp_region_lit ?_
    refine wpList_next rfl hsz1 hde1 7 rfl (by decide) fun K hK => ?_
    go_simp
    refine hK _ _ fun a2 hsz2 hde2 f7 hk => ?_
    clear hK K
    replace f0 := (hk 0 (by decide)).trans f0
    replace f7 : a2.tmps[7]?.getD undef = .slice A n c := f7
    clear hk hsz1 hde1
    refine wpList_next rfl hsz2 hde2 8 rfl (by decide) fun K hK => ?_
    go_simp
    refine hK _ _ fun a3 hsz3 hde3 f8 hk => ?_
    clear hK K
    replace f0 := (hk 0 (by decide)).trans f0
    replace f8 : a3.tmps[8]?.getD undef = .int .i64 ((n : Nat) : Int) := f8
    clear hk hsz2 hde2 f7
    refine wpList_next rfl hsz3 hde3 9 rfl (by decide) fun K hK => ?_
    go_simp
    refine hK _ _ fun a4 hsz4 hde4 f9 hk => ?_
    clear hK K
    replace f0 := (hk 0 (by decide)).trans f0
    clear hk hsz3 hde3 f8
    replace f9 : a4.tmps[9]?.getD undef = .bool true := f9.trans (by first | rfl | (congr 1; first | exact decide_eq_true (by omega) | exact decide_eq_false (by omega)))
    refine wpList_nil ?_
    refine then_go ?_
    repeat with_reducible refine wp_seq ?_
    refine wp_cond_true (eval_at f9) ?_
    clear f9
    repeat with_reducible refine wp_seq ?_
    refine wp_region_lit ?_
    refine wpList_next rfl hsz4 hde4 2 rfl (by decide) fun K hK => ?_
    go_simp
    refine hK _ _ fun a5 hsz5 hde5 f2 hk => ?_
    clear hK K
    replace f0 := (hk 0 (by decide)).trans f0
    replace f2 : a5.tmps[2]?.getD undef = .bool false := f2
    clear hk hsz4 hde4
    refine wpList_nil ?_
    refine then_go ?_
    refine wp_ret ?_
    repeat first | with_reducible refine then_ret ?_ | with_reducible refine block_ret ?_
    refine ret_tmp Tryd.results31 hde5 f2 ?_
    exact ⟨⟨_, rfl, fun h => by cases h⟩, Below.refl _ _⟩
  refine wp_region_lit ?_
  refine wpList_next rfl hsz1 hde1 7 rfl (by decide) fun K hK => ?_
  go_simp
  refine hK _ _ fun a2 hsz2 hde2 f7 hk => ?_
  clear hK K
  replace f0 := (hk 0 (by decide)).trans f0
  replace f7 : a2.tmps[7]?.getD undef = .slice A n c := f7
  clear hk hsz1 hde1
  refine wpList_next rfl hsz2 hde2 8 rfl (by decide) fun K hK => ?_
  go_simp
  refine hK _ _ fun a3 hsz3 hde3 f8 hk => ?_
  clear hK K
  replace f0 := (hk 0 (by decide)).trans f0
  replace f8 : a3.tmps[8]?.getD undef = .int .i64 ((n : Nat) : Int) := f8
  clear hk hsz2 hde2 f7
  refine wpList_next rfl hsz3 hde3 9 rfl (by decide) fun K hK => ?_
  go_simp
  refine hK _ _ fun a4 hsz4 hde4 f9 hk => ?_
  clear hK K
  replace f0 := (hk 0 (by decide)).trans f0
  clear hk hsz3 hde3 f8
  replace f9 : a4.tmps[9]?.getD undef = .bool false := f9.trans (by first | rfl | (congr 1; first | exact decide_eq_true (by omega) | exact decide_eq_false (by omega)))
  refine wpList_nil ?_
  refine then_go ?_
  repeat with_reducible refine wp_seq ?_
  refine wp_cond_false (eval_at f9) ?_
  refine wp_skip ?_
  refine then_go ?_
  clear f9
  repeat with_reducible refine wp_seq ?_
  have hn30 : n ≤ 30 := by omega
  clear h30
  obtain ⟨wc, hwc⟩ : ∃ wc, wc = w := ⟨_, rfl⟩
  refine wp_region_lit ?_
  refine wpList_next rfl hsz4 hde4 10 rfl (by decide) fun K hK => ?_
  go_simp
  refine hK _ _ fun a5 hsz5 hde5 f10 hk => ?_
  clear hK K
  replace f0 := (hk 0 (by decide)).trans f0
  replace f10 : a5.tmps[10]?.getD undef = .slice A n c := f10
  clear hk hsz4 hde4
  refine wpList_next rfl hsz5 hde5 11 rfl (by decide) fun K hK => ?_
  go_simp
  refine hK _ _ fun a6 hsz6 hde6 f11 hk => ?_
  clear hK K
  replace f0 := (hk 0 (by decide)).trans f0
  replace f10 := (hk 10 (by decide)).trans f10
  replace f11 : a6.tmps[11]?.getD undef = .int .i64 ((n : Nat) : Int) := f11
  clear hk hsz5 hde5
  refine wpList_next rfl hsz6 hde6 12 rfl (by decide) fun K hK => ?_
  go_simp
  refine hK _ _ fun a7 hsz7 hde7 f12 hk => ?_
  clear hK K
  replace f0 := (hk 0 (by decide)).trans f0
  replace f10 := (hk 10 (by decide)).trans f10
  replace f11 := (hk 11 (by decide)).trans f11
  replace f12 : a7.tmps[12]?.getD undef = .int .i64 ((0 : Nat) : Int) := f12
  clear hk hsz6 hde6
  refine wpList_nil ?_
  refine then_go ?_
  repeat with_reducible refine wp_seq ?_
  refine wp_block ?_
  refine wp_loop_ghost (FaInv2 w (.slice A n c) n G) (n - 0) ?_ ?_
  · exact ⟨0, hsz7, hde7, f0, f10, f11, f12, Lib.hid (by omega), Lib.hid (Below.refl _ _), Lib.hid ⟨fun p _ h => by omega, fun p q _ _ _ h => by omega⟩, rfl⟩
  rw [← hwc] at Hel ⊢
  clear hwc
  clear hsz7 hde7 f0 f10 f11 f12
  intro n2 a19 wr2 hI
  obtain ⟨i, hsz19, hde19, f0, f10, f11, f12, Hi, Hbi, Hall, hn2⟩ := hI
  have Hn2 := Lib.hid hn2
  clear hn2
  repeat with_reducible refine wp_seq ?_
  by_cases hlt : i < n
  · skip
    refine wp_region_lit ?_
    refine wpList_next rfl hsz19 hde19 13 rfl (by decide) fun K hK => ?_
    go_simp
    refine hK _ _ fun a20 hsz20 hde20 f13 hk => ?_
    clear hK K
    replace f0 := (hk 0 (by decide)).trans f0
    replace f10 := (hk 10 (by decide)).trans f10
    replace f11 := (hk 11 (by decide)).trans f11
    replace f12 := (hk 12 (by decide)).trans f12
    clear hk hsz19 hde19
    replace f13 : a20.tmps[13]?.getD undef = .bool true := f13.trans (by first | rfl | (congr 1; first | exact decide_eq_true (by omega) | exact decide_eq_false (by omega)))
    refine wpList_nil ?_
    refine then_go ?_
    repeat with_reducible refine wp_seq ?_
    refine wp_cond_true (eval_at f13) ?_
    refine wp_skip ?_
    refine then_go ?_
    clear f13
    repeat with_reducible refine wp_seq ?_
    refine wp_block ?_
    repeat with_reducible refine wp_seq ?_
    have hil : i < G.length := by rw [← Hn.out]; exact hlt
    obtain ⟨b, off, rfl, _, _, hel⟩ := Hel.out (by intro e; subst e; simp at hil)
    have Hrow := Lib.hid (show ∀ j (hj : j < G.length) z, Below wc.heap.size wc z → z.rangeAt b (off + j * 18) (actC G[j]).toList from fun j hj z hz => range_ext (hel j hj).1 hz)
    obtain ⟨X, hX⟩ : ∃ X, X = G[i] := ⟨_, rfl⟩
    have HX := Lib.hid hX
    obtain ⟨CX, hCX⟩ : ∃ C, C = actC X := ⟨_, rfl⟩
    have HrX := Lib.hid (show ∀ z, Below wc.heap.size wc z → z.rangeAt b (off + i * 18) CX.toList from fun z hz => by rw [hCX, hX]; exact Hrow.out i hil z hz)
    have HinfX := Lib.hid (show (Tryd.prog.info? 53).map (·.size) = some CX.toList.length by rw [hCX]; exact act_info)
    have HinfXs := Lib.hid (show (Tryd.prog.info? 53).map (·.size) = some CX.size by rw [hCX]; exact act_info)
    have HoneX := Lib.hid (show CX.all (·.oneCell') = true by rw [hCX]; exact actC_one X)
    have hCXs : CX.size = 18 := by rw [hCX]; rfl
    have hi0 : (0 : Int) ≤ (i : Int) := by omega
    have hin : (i : Int) < (n : Int) := by omega
    have HCX := Lib.hid hCX
    have Hhr := Lib.hid (ahead_run (b := b) (off := off) (Nat.le_of_lt hlt) hc1 (by omega))
    clear hel hX hCX
    refine wp_region_lit ?_
    refine wpList_next rfl hsz20 hde20 14 rfl (by decide) fun K hK => ?_
    go_simp
    refine hK _ _ fun a21 hsz21 hde21 f14 hk => ?_
    clear hK K
    replace f0 := (hk 0 (by decide)).trans f0
    replace f10 := (hk 10 (by decide)).trans f10
    replace f11 := (hk 11 (by decide)).trans f11
    replace f12 := (hk 12 (by decide)).trans f12
    replace f14 : a21.tmps[14]?.getD undef = .int .i64 ((i : Nat) : Int) := f14
    clear hk hsz20 hde20
    refine wpList_next rfl hsz21 hde21 15 rfl (by decide) fun K hK => ?_
    go_simp
    refine hK _ _ fun a22 hsz22 hde22 f15 hk => ?_
    clear hK K
    replace f0 := (hk 0 (by decide)).trans f0
    replace f10 := (hk 10 (by decide)).trans f10
    replace f11 := (hk 11 (by decide)).trans f11
    replace f12 := (hk 12 (by decide)).trans f12
    replace f14 := (hk 14 (by decide)).trans f14
    replace f15 : a22.tmps[15]?.getD undef = .pointer (some ⟨b, off + i * 18, none⟩) := f15
    clear hk hsz21 hde21
    refine wpList_next rfl hsz22 hde22 16 rfl (by decide) fun K hK => ?_
    refine wp_load_mid 53 (.tmp 15) rfl b (off + i * 18) (eval_at f15) CX.toList _ (HrX.out _ Hbi.out) Tryd.underlying53 rfl HinfX.out ?_
    refine hK _ _ fun a23 hsz23 hde23 f16 hk => ?_
    clear hK K
    replace f0 := (hk 0 (by decide)).trans f0
    replace f10 := (hk 10 (by decide)).trans f10
    replace f11 := (hk 11 (by decide)).trans f11
    replace f12 := (hk 12 (by decide)).trans f12
    replace f14 := (hk 14 (by decide)).trans f14
    replace f16 : a23.tmps[16]?.getD undef = .agg CX := f16
    clear hk hsz22 hde22 f15
    refine wpList_next rfl hsz23 hde23 4 rfl (by decide) fun K hK => ?_
    go_simp
    refine hK _ _ fun a24 hsz24 hde24 f4 hk => ?_
    clear hK K
    replace f0 := (hk 0 (by decide)).trans f0
    replace f10 := (hk 10 (by decide)).trans f10
    replace f11 := (hk 11 (by decide)).trans f11
    replace f12 := (hk 12 (by decide)).trans f12
    replace f14 := (hk 14 (by decide)).trans f14
    replace f16 := (hk 16 (by decide)).trans f16
    replace f4 : a24.tmps[4]?.getD undef = .pointer (some ⟨wr2.heap.size, 0, none⟩) := f4
    clear hk hsz23 hde23
    refine wpList_next rfl hsz24 hde24 3 rfl (by decide) fun K hK => ?_
    go_simp
    refine hK _ _ fun a25 hsz25 hde25 f3 hk => ?_
    clear hK K
    replace f0 := (hk 0 (by decide)).trans f0
    replace f10 := (hk 10 (by decide)).trans f10
    replace f11 := (hk 11 (by decide)).trans f11
    replace f12 := (hk 12 (by decide)).trans f12
    replace f16 := (hk 16 (by decide)).trans f16
    replace f4 := (hk 4 (by decide)).trans f4
    replace f3 : a25.tmps[3]?.getD undef = .int .i64 ((i : Nat) : Int) := f3
    clear hk hsz24 hde24 f14
    refine wpList_next0 rfl rfl fun K hK => ?_
    refine wp_store_new 53 (.tmp 4) (.tmp 16) rfl zeroAct CX (eval_at f4) (eval_at f16) HinfXs.out (by rw [hCXs]; rfl) HoneX.out ?_
    refine hK undef _ ?_
    clear hK K
    clear f16
    refine wpList_nil ?_
    obtain ⟨p, hp⟩ : ∃ p, p = wr2.heap.size := ⟨_, rfl⟩
    obtain ⟨wa, hwa⟩ : ∃ wa, wa = wr2.alloc (.cells CX 53) := ⟨_, rfl⟩
    have HPb := Lib.hid (show Blk wa p 53 (actC X) by rw [hwa, hp, HCX.out]; exact Blk.new _ _ _)
    have HPl := Lib.hid (show Below wc.heap.size wc wa by rw [hwa]; exact Hbi.out.alloc Hbi.out.size _)
    rw [← hwa]
    rw [← hp] at f4
    clear hwa hp
    refine then_go ?_
    repeat with_reducible refine wp_seq ?_
    have hdat : wa.cell? ⟨p, 4, none⟩ = some (str X.e.data) := by have h := (entCells HPb.out.act.ent).data; rw [Nat.zero_add] at h; exact h
    obtain ⟨AV, hAV⟩ : ∃ A, A = av X.e.by_ := ⟨_, rfl⟩
    have HAV := Lib.hid (show wa.rangeAt p 7 AV.toList by have h := (entCells HPb.out.act.ent).by_; rw [Nat.zero_add] at h; rw [hAV]; exact h)
    have HinfV := Lib.hid (show (Tryd.prog.info? 27).map (·.size) = some AV.toList.length by rw [hAV]; exact vec_info)
    have hneq := fun z => vneq_run X.e.by_ zeroV z
    rw [← hAV, zero_av] at hneq
    obtain ⟨q, hq⟩ : ∃ q, q = eqV X.e.by_ zeroV := ⟨_, rfl⟩
    rw [← hq] at hneq
    have Hneq := Lib.hid hneq
    have Hq := Lib.hid hq
    clear hAV hneq hq
    obtain ⟨m, hm⟩ : ∃ m, m = X.e.data.length := ⟨_, rfl⟩
    have Hm := Lib.hid hm
    have hmI : m ≤ maxLen := by rw [hm, HX.out]; obtain ⟨_, _, _, _, _, h9⟩ := (show _ from Hel.out (by intro e; subst e; simp at hil)); exact (h9 i hil).2.e.data
    clear hm
    by_cases h40 : 40 < m
    · skip
      refine wp_region_lit ?_
      refine wpList_next rfl hsz25 hde25 17 rfl (by decide) fun K hK => ?_
      go_simp
      refine hK _ _ fun a26 hsz26 hde26 f17 hk => ?_
      clear hK K
      replace f0 := (hk 0 (by decide)).trans f0
      replace f10 := (hk 10 (by decide)).trans f10
      replace f11 := (hk 11 (by decide)).trans f11
      replace f12 := (hk 12 (by decide)).trans f12
      replace f4 := (hk 4 (by decide)).trans f4
      replace f3 := (hk 3 (by decide)).trans f3
      replace f17 : a26.tmps[17]?.getD undef = .pointer (some ⟨p, 0, none⟩) := f17
      clear hk hsz25 hde25
      refine wpList_next rfl hsz26 hde26 18 rfl (by decide) fun K hK => ?_
      go_simp
      refine hK _ _ fun a27 hsz27 hde27 f18 hk => ?_
      clear hK K
      replace f0 := (hk 0 (by decide)).trans f0
      replace f10 := (hk 10 (by decide)).trans f10
      replace f11 := (hk 11 (by decide)).trans f11
      replace f12 := (hk 12 (by decide)).trans f12
      replace f4 := (hk 4 (by decide)).trans f4
      replace f3 := (hk 3 (by decide)).trans f3
      replace f18 : a27.tmps[18]?.getD undef = .pointer (some ⟨p, 4, none⟩) := f18
      clear hk hsz26 hde26 f17
      refine wpList_next rfl hsz27 hde27 19 rfl (by decide) fun K hK => ?_
      go_simp
      refine hK _ _ fun a28 hsz28 hde28 f19 hk => ?_
      clear hK K
      replace f0 := (hk 0 (by decide)).trans f0
      replace f10 := (hk 10 (by decide)).trans f10
      replace f11 := (hk 11 (by decide)).trans f11
      replace f12 := (hk 12 (by decide)).trans f12
      replace f4 := (hk 4 (by decide)).trans f4
      replace f3 := (hk 3 (by decide)).trans f3
      replace f19 : a28.tmps[19]?.getD undef = str X.e.data := f19
      clear hk hsz27 hde27 f18
      refine wpList_next rfl hsz28 hde28 20 rfl (by decide) fun K hK => ?_
      go_simp
      refine hK _ _ fun a29 hsz29 hde29 f20 hk => ?_
      clear hK K
      replace f0 := (hk 0 (by decide)).trans f0
      replace f10 := (hk 10 (by decide)).trans f10
      replace f11 := (hk 11 (by decide)).trans f11
      replace f12 := (hk 12 (by decide)).trans f12
      replace f4 := (hk 4 (by decide)).trans f4
      replace f3 := (hk 3 (by decide)).trans f3
      clear hk hsz28 hde28 f19
      replace f20 : a29.tmps[20]?.getD undef = .int .i64 (m : Int) := f20.trans (by rw [Hm.out])
      refine wpList_next rfl hsz29 hde29 21 rfl (by decide) fun K hK => ?_
      go_simp
      refine hK _ _ fun a30 hsz30 hde30 f21 hk => ?_
      clear hK K
      replace f0 := (hk 0 (by decide)).trans f0
      replace f10 := (hk 10 (by decide)).trans f10
      replace f11 := (hk 11 (by decide)).trans f11
      replace f12 := (hk 12 (by decide)).trans f12
      replace f4 := (hk 4 (by decide)).trans f4
      replace f3 := (hk 3 (by decide)).trans f3
      clear hk hsz29 hde29 f20
      replace f21 : a30.tmps[21]?.getD undef = .bool true := f21.trans (by first | rfl | (congr 1; first | exact decide_eq_true (by omega) | exact decide_eq_false (by omega)))
      refine wpList_next rfl hsz30 hde30 22 rfl (by decide) fun K hK => ?_
      go_simp
      refine hK _ _ fun a31 hsz31 hde31 f22 hk => ?_
      clear hK K
      replace f0 := (hk 0 (by decide)).trans f0
      replace f10 := (hk 10 (by decide)).trans f10
      replace f11 := (hk 11 (by decide)).trans f11
      replace f12 := (hk 12 (by decide)).trans f12
      replace f4 := (hk 4 (by decide)).trans f4
      replace f3 := (hk 3 (by decide)).trans f3
      replace f22 : a31.tmps[22]?.getD undef = .bool true := f22
      clear hk hsz30 hde30 f21
      refine wpList_leave (not_wanted (j := 5) (t := 22) (b := false) rfl rfl (.inr f22)) hsz31 hde31 23 rfl (by decide) fun a32 hsz32 hde32 f23 hk => ?_
      replace f0 := (hk 0 (by decide)).trans f0
      replace f10 := (hk 10 (by decide)).trans f10
      replace f11 := (hk 11 (by decide)).trans f11
      replace f12 := (hk 12 (by decide)).trans f12
      replace f4 := (hk 4 (by decide)).trans f4
      replace f3 := (hk 3 (by decide)).trans f3
      replace f22 := (hk 22 (by decide)).trans f22
      clear hk hsz31 hde31
      refine wpList_leave (not_wanted (j := 5) (t := 22) (b := false) rfl rfl (.inr f22)) hsz32 hde32 24 rfl (by decide) fun a33 hsz33 hde33 f24 hk => ?_
      replace f0 := (hk 0 (by decide)).trans f0
      replace f10 := (hk 10 (by decide)).trans f10
      replace f11 := (hk 11 (by decide)).trans f11
      replace f12 := (hk 12 (by decide)).trans f12
      replace f4 := (hk 4 (by decide)).trans f4
      replace f3 := (hk 3 (by decide)).trans f3
      replace f22 := (hk 22 (by decide)).trans f22
      clear hk hsz32 hde32 f23
      refine wpList_leave (not_wanted (j := 5) (t := 22) (b := false) rfl rfl (.inr f22)) hsz33 hde33 25 rfl (by decide) fun a34 hsz34 hde34 f25 hk => ?_
      replace f0 := (hk 0 (by decide)).trans f0
      replace f10 := (hk 10 (by decide)).trans f10
      replace f11 := (hk 11 (by decide)).trans f11
      replace f12 := (hk 12 (by decide)).trans f12
      replace f4 := (hk 4 (by decide)).trans f4
      replace f3 := (hk 3 (by decide)).trans f3
      replace f22 := (hk 22 (by decide)).trans f22
      clear hk hsz33 hde33 f24
      refine wpList_leave (not_wanted (j := 5) (t := 22) (b := false) rfl rfl (.inr f22)) hsz34 hde34 26 rfl (by decide) fun a35 hsz35 hde35 f26 hk => ?_
      replace f0 := (hk 0 (by decide)).trans f0
      replace f10 := (hk 10 (by decide)).trans f10
      replace f11 := (hk 11 (by decide)).trans f11
      replace f12 := (hk 12 (by decide)).trans f12
      replace f4 := (hk 4 (by decide)).trans f4
      replace f3 := (hk 3 (by decide)).trans f3
      replace f22 := (hk 22 (by decide)).trans f22
      replace f25 := (hk 25 (by decide)).trans f25
      clear hk hsz34 hde34
      refine wpList_leave (not_wanted (j := 5) (t := 22) (b := false) rfl rfl (.inr f22)) hsz35 hde35 27 rfl (by decide) fun a36 hsz36 hde36 f27 hk => ?_
      replace f0 := (hk 0 (by decide)).trans f0
      replace f10 := (hk 10 (by decide)).trans f10
      replace f11 := (hk 11 (by decide)).trans f11
      replace f12 := (hk 12 (by decide)).trans f12
      replace f4 := (hk 4 (by decide)).trans f4
      replace f3 := (hk 3 (by decide)).trans f3
      replace f22 := (hk 22 (by decide)).trans f22
      clear hk hsz35 hde35 f25 f26
      refine wpList_next rfl hsz36 hde36 28 rfl (by decide) fun K hK => ?_
      go_simp
      refine hK _ _ fun a37 hsz37 hde37 f28 hk => ?_
      clear hK K
      replace f0 := (hk 0 (by decide)).trans f0
      replace f10 := (hk 10 (by decide)).trans f10
      replace f11 := (hk 11 (by decide)).trans f11
      replace f12 := (hk 12 (by decide)).trans f12
      replace f4 := (hk 4 (by decide)).trans f4
      replace f3 := (hk 3 (by decide)).trans f3
      replace f28 : a37.tmps[28]?.getD undef = .bool true := f28
      clear hk hsz36 hde36 f22 f27
      refine wpList_nil ?_
      refine then_go ?_
      repeat with_reducible refine wp_seq ?_
      refine wp_cond_true (eval_at f28) ?_
      clear f28
      repeat with_reducible refine wp_seq ?_
      refine wp_region_lit ?_
      refine wpList_next rfl hsz37 hde37 2 rfl (by decide) fun K hK => ?_
      go_simp
      refine hK _ _ fun a38 hsz38 hde38 f2 hk => ?_
      clear hK K
      replace f0 := (hk 0 (by decide)).trans f0
      replace f10 := (hk 10 (by decide)).trans f10
      replace f11 := (hk 11 (by decide)).trans f11
      replace f12 := (hk 12 (by decide)).trans f12
      replace f4 := (hk 4 (by decide)).trans f4
      replace f3 := (hk 3 (by decide)).trans f3
      replace f2 : a38.tmps[2]?.getD undef = .bool false := f2
      clear hk hsz37 hde37
      refine wpList_nil ?_
      refine then_go ?_
      refine wp_ret ?_
      repeat first | with_reducible refine then_ret ?_ | with_reducible refine block_ret ?_
      refine ret_tmp Tryd.results31 hde38 f2 ?_
      exact ⟨⟨_, rfl, fun h => by cases h⟩, HPl.out⟩
    refine wp_region_lit ?_
    refine wpList_next rfl hsz25 hde25 17 rfl (by decide) fun K hK => ?_
    go_simp
    refine hK _ _ fun a26 hsz26 hde26 f17 hk => ?_
    clear hK K
    replace f0 := (hk 0 (by decide)).trans f0
    replace f10 := (hk 10 (by decide)).trans f10
    replace f11 := (hk 11 (by decide)).trans f11
    replace f12 := (hk 12 (by decide)).trans f12
    replace f4 := (hk 4 (by decide)).trans f4
    replace f3 := (hk 3 (by decide)).trans f3
    replace f17 : a26.tmps[17]?.getD undef = .pointer (some ⟨p, 0, none⟩) := f17
    clear hk hsz25 hde25
    refine wpList_next rfl hsz26 hde26 18 rfl (by decide) fun K hK => ?_
    go_simp
    refine hK _ _ fun a27 hsz27 hde27 f18 hk => ?_
    clear hK K
    replace f0 := (hk 0 (by decide)).trans f0
    replace f10 := (hk 10 (by decide)).trans f10
    replace f11 := (hk 11 (by decide)).trans f11
    replace f12 := (hk 12 (by decide)).trans f12
    replace f4 := (hk 4 (by decide)).trans f4
    replace f3 := (hk 3 (by decide)).trans f3
    replace f18 : a27.tmps[18]?.getD undef = .pointer (some ⟨p, 4, none⟩) := f18
    clear hk hsz26 hde26 f17
    refine wpList_next rfl hsz27 hde27 19 rfl (by decide) fun K hK => ?_
    go_simp
    refine hK _ _ fun a28 hsz28 hde28 f19 hk => ?_
    clear hK K
    replace f0 := (hk 0 (by decide)).trans f0
    replace f10 := (hk 10 (by decide)).trans f10
    replace f11 := (hk 11 (by decide)).trans f11
    replace f12 := (hk 12 (by decide)).trans f12
    replace f4 := (hk 4 (by decide)).trans f4
    replace f3 := (hk 3 (by decide)).trans f3
    replace f19 : a28.tmps[19]?.getD undef = str X.e.data := f19
    clear hk hsz27 hde27 f18
    refine wpList_next rfl hsz28 hde28 20 rfl (by decide) fun K hK => ?_
    go_simp
    refine hK _ _ fun a29 hsz29 hde29 f20 hk => ?_
    clear hK K
    replace f0 := (hk 0 (by decide)).trans f0
    replace f10 := (hk 10 (by decide)).trans f10
    replace f11 := (hk 11 (by decide)).trans f11
    replace f12 := (hk 12 (by decide)).trans f12
    replace f4 := (hk 4 (by decide)).trans f4
    replace f3 := (hk 3 (by decide)).trans f3
    clear hk hsz28 hde28 f19
    replace f20 : a29.tmps[20]?.getD undef = .int .i64 (m : Int) := f20.trans (by rw [Hm.out])
    refine wpList_next rfl hsz29 hde29 21 rfl (by decide) fun K hK => ?_
    go_simp
    refine hK _ _ fun a30 hsz30 hde30 f21 hk => ?_
    clear hK K
    replace f0 := (hk 0 (by decide)).trans f0
    replace f10 := (hk 10 (by decide)).trans f10
    replace f11 := (hk 11 (by decide)).trans f11
    replace f12 := (hk 12 (by decide)).trans f12
    replace f4 := (hk 4 (by decide)).trans f4
    replace f3 := (hk 3 (by decide)).trans f3
    clear hk hsz29 hde29 f20
    replace f21 : a30.tmps[21]?.getD undef = .bool false := f21.trans (by first | rfl | (congr 1; first | exact decide_eq_true (by omega) | exact decide_eq_false (by omega)))
    refine wpList_next rfl hsz30 hde30 22 rfl (by decide) fun K hK => ?_
    go_simp
    refine hK _ _ fun a31 hsz31 hde31 f22 hk => ?_
    clear hK K
    replace f0 := (hk 0 (by decide)).trans f0
    replace f10 := (hk 10 (by decide)).trans f10
    replace f11 := (hk 11 (by decide)).trans f11
    replace f12 := (hk 12 (by decide)).trans f12
    replace f4 := (hk 4 (by decide)).trans f4
    replace f3 := (hk 3 (by decide)).trans f3
    replace f22 : a31.tmps[22]?.getD undef = .bool false := f22
    clear hk hsz30 hde30 f21
    clear hdat
    refine wpList_nextg (wanted_of (j := 5) (t := 22) (b := false) rfl rfl f22) hsz31 hde31 23 rfl (by decide) fun K hK => ?_
    go_simp
    refine hK _ _ fun a32 hsz32 hde32 f23 hk => ?_
    clear hK K
    replace f0 := (hk 0 (by decide)).trans f0
    replace f10 := (hk 10 (by decide)).trans f10
    replace f11 := (hk 11 (by decide)).trans f11
    replace f12 := (hk 12 (by decide)).trans f12
    replace f4 := (hk 4 (by decide)).trans f4
    replace f3 := (hk 3 (by decide)).trans f3
    replace f22 := (hk 22 (by decide)).trans f22
    replace f23 : a32.tmps[23]?.getD undef = .pointer (some ⟨p, 0, none⟩) := f23
    clear hk hsz31 hde31
    refine wpList_nextg (wanted_of (j := 5) (t := 22) (b := false) rfl rfl f22) hsz32 hde32 24 rfl (by decide) fun K hK => ?_
    go_simp
    refine hK _ _ fun a33 hsz33 hde33 f24 hk => ?_
    clear hK K
    replace f0 := (hk 0 (by decide)).trans f0
    replace f10 := (hk 10 (by decide)).trans f10
    replace f11 := (hk 11 (by decide)).trans f11
    replace f12 := (hk 12 (by decide)).trans f12
    replace f4 := (hk 4 (by decide)).trans f4
    replace f3 := (hk 3 (by decide)).trans f3
    replace f22 := (hk 22 (by decide)).trans f22
    replace f24 : a33.tmps[24]?.getD undef = .pointer (some ⟨p, 7, none⟩) := f24
    clear hk hsz32 hde32 f23
    refine wpList_nextg (wanted_of (j := 5) (t := 22) (b := false) rfl rfl f22) hsz33 hde33 25 rfl (by decide) fun K hK => ?_
    refine wp_load_mid 27 (.tmp 24) rfl p 7 (eval_at f24) AV.toList _ HAV.out Tryd.underlying27 rfl HinfV.out ?_
    refine hK _ _ fun a34 hsz34 hde34 f25 hk => ?_
    clear hK K
    replace f0 := (hk 0 (by decide)).trans f0
    replace f10 := (hk 10 (by decide)).trans f10
    replace f11 := (hk 11 (by decide)).trans f11
    replace f12 := (hk 12 (by decide)).trans f12
    replace f4 := (hk 4 (by decide)).trans f4
    replace f3 := (hk 3 (by decide)).trans f3
    replace f22 := (hk 22 (by decide)).trans f22
    replace f25 : a34.tmps[25]?.getD undef = .agg AV := f25
    clear hk hsz33 hde33 f24
    refine wpList_nextg (wanted_of (j := 5) (t := 22) (b := false) rfl rfl f22) hsz34 hde34 26 rfl (by decide) fun K hK => ?_
    go_simp
    refine hK _ _ fun a35 hsz35 hde35 f26 hk => ?_
    clear hK K
    replace f0 := (hk 0 (by decide)).trans f0
    replace f10 := (hk 10 (by decide)).trans f10
    replace f11 := (hk 11 (by decide)).trans f11
    replace f12 := (hk 12 (by decide)).trans f12
    replace f4 := (hk 4 (by decide)).trans f4
    replace f3 := (hk 3 (by decide)).trans f3
    replace f22 := (hk 22 (by decide)).trans f22
    replace f25 := (hk 25 (by decide)).trans f25
    clear hk hsz34 hde34
    refine wpList_nextg (wanted_of (j := 5) (t := 22) (b := false) rfl rfl f22) hsz35 hde35 27 rfl (by decide) fun K hK => ?_
    have hneq := Hneq.out
    go_simp
    refine hK _ _ fun a36 hsz36 hde36 f27 hk => ?_
    clear hK K
    replace f0 := (hk 0 (by decide)).trans f0
    replace f10 := (hk 10 (by decide)).trans f10
    replace f11 := (hk 11 (by decide)).trans f11
    replace f12 := (hk 12 (by decide)).trans f12
    replace f4 := (hk 4 (by decide)).trans f4
    replace f3 := (hk 3 (by decide)).trans f3
    replace f22 := (hk 22 (by decide)).trans f22
    replace f27 : a36.tmps[27]?.getD undef = .bool (!q) := f27
    clear hk hsz35 hde35 f25 f26
    clear hneq
    cases q with
    | false =>
      replace f27 : a36.tmps[27]?.getD undef = .bool true := f27
      refine wpList_next rfl hsz36 hde36 28 rfl (by decide) fun K hK => ?_
      go_simp
      refine hK _ _ fun a37 hsz37 hde37 f28 hk => ?_
      clear hK K
      replace f0 := (hk 0 (by decide)).trans f0
      replace f10 := (hk 10 (by decide)).trans f10
      replace f11 := (hk 11 (by decide)).trans f11
      replace f12 := (hk 12 (by decide)).trans f12
      replace f4 := (hk 4 (by decide)).trans f4
      replace f3 := (hk 3 (by decide)).trans f3
      replace f28 : a37.tmps[28]?.getD undef = .bool true := f28
      clear hk hsz36 hde36 f22 f27
      refine wpList_nil ?_
      refine then_go ?_
      repeat with_reducible refine wp_seq ?_
      refine wp_cond_true (eval_at f28) ?_
      clear f28
      repeat with_reducible refine wp_seq ?_
      refine wp_region_lit ?_
      refine wpList_next rfl hsz37 hde37 2 rfl (by decide) fun K hK => ?_
      go_simp
      refine hK _ _ fun a38 hsz38 hde38 f2 hk => ?_
      clear hK K
      replace f0 := (hk 0 (by decide)).trans f0
      replace f10 := (hk 10 (by decide)).trans f10
      replace f11 := (hk 11 (by decide)).trans f11
      replace f12 := (hk 12 (by decide)).trans f12
      replace f4 := (hk 4 (by decide)).trans f4
      replace f3 := (hk 3 (by decide)).trans f3
      replace f2 : a38.tmps[2]?.getD undef = .bool false := f2
      clear hk hsz37 hde37
      refine wpList_nil ?_
      refine then_go ?_
      refine wp_ret ?_
      repeat first | with_reducible refine then_ret ?_ | with_reducible refine block_ret ?_
      refine ret_tmp Tryd.results31 hde38 f2 ?_
      exact ⟨⟨_, rfl, fun h => by cases h⟩, HPl.out⟩
    | true =>
      replace f27 : a36.tmps[27]?.getD undef = .bool false := f27
      refine wpList_next rfl hsz36 hde36 28 rfl (by decide) fun K hK => ?_
      go_simp
      refine hK _ _ fun a37 hsz37 hde37 f28 hk => ?_
      clear hK K
      replace f0 := (hk 0 (by decide)).trans f0
      replace f10 := (hk 10 (by decide)).trans f10
      replace f11 := (hk 11 (by decide)).trans f11
      replace f12 := (hk 12 (by decide)).trans f12
      replace f4 := (hk 4 (by decide)).trans f4
      replace f3 := (hk 3 (by decide)).trans f3
      replace f28 : a37.tmps[28]?.getD undef = .bool false := f28
      clear hk hsz36 hde36 f22 f27
      refine wpList_nil ?_
      refine then_go ?_
      repeat with_reducible refine wp_seq ?_
      refine wp_cond_false (eval_at f28) ?_
      refine wp_skip ?_
      refine then_go ?_
      clear f28
      repeat with_reducible refine wp_seq ?_
      have HXf := Lib.hid (show X.e.data.length ≤ 40 ∧ eqV X.e.by_ zeroV = true from ⟨by rw [← Hm.out]; omega, Hq.out.symm⟩)
      clear h40 hmI Hm m Hneq HinfV HAV AV Hq
      refine wp_region_lit ?_
      refine wpList_next rfl hsz37 hde37 29 rfl (by decide) fun K hK => ?_
      go_simp
      refine hK _ _ fun a38 hsz38 hde38 f29 hk => ?_
      clear hK K
      replace f0 := (hk 0 (by decide)).trans f0
      replace f10 := (hk 10 (by decide)).trans f10
      replace f11 := (hk 11 (by decide)).trans f11
      replace f12 := (hk 12 (by decide)).trans f12
      replace f4 := (hk 4 (by decide)).trans f4
      replace f3 := (hk 3 (by decide)).trans f3
      replace f29 : a38.tmps[29]?.getD undef = .slice (some ⟨b, off, none⟩) n c := f29
      clear hk hsz37 hde37
      refine wpList_next rfl hsz38 hde38 30 rfl (by decide) fun K hK => ?_
      go_simp
      refine hK _ _ fun a39 hsz39 hde39 f30 hk => ?_
      clear hK K
      replace f0 := (hk 0 (by decide)).trans f0
      replace f10 := (hk 10 (by decide)).trans f10
      replace f11 := (hk 11 (by decide)).trans f11
      replace f12 := (hk 12 (by decide)).trans f12
      replace f4 := (hk 4 (by decide)).trans f4
      replace f3 := (hk 3 (by decide)).trans f3
      replace f29 := (hk 29 (by decide)).trans f29
      replace f30 : a39.tmps[30]?.getD undef = .int .i64 ((i : Nat) : Int) := f30
      clear hk hsz38 hde38
      refine wpList_next rfl hsz39 hde39 31 rfl (by decide) fun K hK => ?_
      refine wp_ahead (.tmp 29) (.tmp 30) rfl (eval_at f29) (eval_at f30) Hhr.out ?_
      refine hK _ _ fun a40 hsz40 hde40 f31 hk => ?_
      clear hK K
      replace f0 := (hk 0 (by decide)).trans f0
      replace f10 := (hk 10 (by decide)).trans f10
      replace f11 := (hk 11 (by decide)).trans f11
      replace f12 := (hk 12 (by decide)).trans f12
      replace f4 := (hk 4 (by decide)).trans f4
      replace f3 := (hk 3 (by decide)).trans f3
      replace f31 : a40.tmps[31]?.getD undef = .slice (some ⟨b, off, none⟩) i c := f31
      clear hk hsz39 hde39 f29 f30
      refine wpList_next rfl hsz40 hde40 32 rfl (by decide) fun K hK => ?_
      go_simp
      refine hK _ _ fun a41 hsz41 hde41 f32 hk => ?_
      clear hK K
      replace f0 := (hk 0 (by decide)).trans f0
      replace f10 := (hk 10 (by decide)).trans f10
      replace f11 := (hk 11 (by decide)).trans f11
      replace f12 := (hk 12 (by decide)).trans f12
      replace f4 := (hk 4 (by decide)).trans f4
      replace f3 := (hk 3 (by decide)).trans f3
      replace f31 := (hk 31 (by decide)).trans f31
      replace f32 : a41.tmps[32]?.getD undef = .int .i64 ((i : Nat) : Int) := f32
      clear hk hsz40 hde40
      refine wpList_next rfl hsz41 hde41 33 rfl (by decide) fun K hK => ?_
      go_simp
      refine hK _ _ fun a42 hsz42 hde42 f33 hk => ?_
      clear hK K
      replace f0 := (hk 0 (by decide)).trans f0
      replace f10 := (hk 10 (by decide)).trans f10
      replace f11 := (hk 11 (by decide)).trans f11
      replace f12 := (hk 12 (by decide)).trans f12
      replace f4 := (hk 4 (by decide)).trans f4
      replace f3 := (hk 3 (by decide)).trans f3
      replace f31 := (hk 31 (by decide)).trans f31
      replace f32 := (hk 32 (by decide)).trans f32
      replace f33 : a42.tmps[33]?.getD undef = .int .i64 ((0 : Nat) : Int) := f33
      clear hk hsz41 hde41
      refine wpList_nil ?_
      clear f3
      refine then_go ?_
      repeat with_reducible refine wp_seq ?_
      refine wp_block ?_
      refine wp_loop_ghost (FaInv3 wc (.slice (some ⟨b, off, none⟩) n c) (.slice (some ⟨b, off, none⟩) i c) n i p X G) (i - 0) ?_ ?_
      · exact ⟨0, hsz42, hde42, f0, f10, f11, f12, f4, f31, f32, f33, Lib.hid (by omega), HPl, HPb, Lib.hid (fun q _ h => by omega), rfl⟩
      clear hsz42 hde42 f0 f10 f11 f12 f4 f31 f32 f33 HPb HPl
      intro n3 a29 wr3 hI
      obtain ⟨j, hsz29, hde29, f0, f10, f11, f12, f4, f31, f32, f33, Hj, Hbj, HPb, Hallj, hn3⟩ := hI
      have Hn3 := Lib.hid hn3
      clear hn3
      repeat with_reducible refine wp_seq ?_
      by_cases hjt : j < i
      · skip
        refine wp_region_lit ?_
        refine wpList_next rfl hsz29 hde29 34 rfl (by decide) fun K hK => ?_
        go_simp
        refine hK _ _ fun a30 hsz30 hde30 f34 hk => ?_
        clear hK K
        replace f0 := (hk 0 (by decide)).trans f0
        replace f10 := (hk 10 (by decide)).trans f10
        replace f11 := (hk 11 (by decide)).trans f11
        replace f12 := (hk 12 (by decide)).trans f12
        replace f4 := (hk 4 (by decide)).trans f4
        replace f31 := (hk 31 (by decide)).trans f31
        replace f32 := (hk 32 (by decide)).trans f32
        replace f33 := (hk 33 (by decide)).trans f33
        clear hk hsz29 hde29
        replace f34 : a30.tmps[34]?.getD undef = .bool true := f34.trans (by first | rfl | (congr 1; first | exact decide_eq_true (by omega) | exact decide_eq_false (by omega)))
        refine wpList_nil ?_
        refine then_go ?_
        repeat with_reducible refine wp_seq ?_
        refine wp_cond_true (eval_at f34) ?_
        refine wp_skip ?_
        refine then_go ?_
        clear f34
        repeat with_reducible refine wp_seq ?_
        refine wp_block ?_
        repeat with_reducible refine wp_seq ?_
        have hjl : j < G.length := by omega
        obtain ⟨Y, hY⟩ : ∃ Y, Y = G[j] := ⟨_, rfl⟩
        have HY := Lib.hid hY
        obtain ⟨CY, hCY⟩ : ∃ C, C = actC Y := ⟨_, rfl⟩
        have HrY := Lib.hid (show wr3.rangeAt b (off + j * 18) CY.toList by rw [hCY, hY]; exact Hrow.out j hjl wr3 Hbj.out)
        have HinfY := Lib.hid (show (Tryd.prog.info? 53).map (·.size) = some CY.toList.length by rw [hCY]; exact act_info)
        have HinfYs := Lib.hid (show (Tryd.prog.info? 53).map (·.size) = some CY.size by rw [hCY]; exact act_info)
        have HoneY := Lib.hid (show CY.all (·.oneCell') = true by rw [hCY]; exact actC_one Y)
        have hCYs : CY.size = 18 := by rw [hCY]; rfl
        have HCY := Lib.hid hCY
        have hj0 : (0 : Int) ≤ (j : Int) := by omega
        have hji : (j : Int) < (i : Int) := by omega
        have HYf := Lib.hid (show eqV Y.e.by_ zeroV = true by rw [hY]; exact (Hall.out.1 j hjl hjt).2)
        clear hY hCY
        refine wp_region_lit ?_
        refine wpList_next rfl hsz30 hde30 35 rfl (by decide) fun K hK => ?_
        go_simp
        refine hK _ _ fun a31 hsz31 hde31 f35 hk => ?_
        clear hK K
        replace f0 := (hk 0 (by decide)).trans f0
        replace f10 := (hk 10 (by decide)).trans f10
        replace f11 := (hk 11 (by decide)).trans f11
        replace f12 := (hk 12 (by decide)).trans f12
        replace f4 := (hk 4 (by decide)).trans f4
        replace f31 := (hk 31 (by decide)).trans f31
        replace f32 := (hk 32 (by decide)).trans f32
        replace f33 := (hk 33 (by decide)).trans f33
        replace f35 : a31.tmps[35]?.getD undef = .pointer (some ⟨b, off + j * 18, none⟩) := f35
        clear hk hsz30 hde30
        refine wpList_next rfl hsz31 hde31 36 rfl (by decide) fun K hK => ?_
        refine wp_load_mid 53 (.tmp 35) rfl b (off + j * 18) (eval_at f35) CY.toList _ HrY.out Tryd.underlying53 rfl HinfY.out ?_
        refine hK _ _ fun a32 hsz32 hde32 f36 hk => ?_
        clear hK K
        replace f0 := (hk 0 (by decide)).trans f0
        replace f10 := (hk 10 (by decide)).trans f10
        replace f11 := (hk 11 (by decide)).trans f11
        replace f12 := (hk 12 (by decide)).trans f12
        replace f4 := (hk 4 (by decide)).trans f4
        replace f31 := (hk 31 (by decide)).trans f31
        replace f32 := (hk 32 (by decide)).trans f32
        replace f33 := (hk 33 (by decide)).trans f33
        replace f36 : a32.tmps[36]?.getD undef = .agg CY := f36
        clear hk hsz31 hde31 f35
        refine wpList_next rfl hsz32 hde32 6 rfl (by decide) fun K hK => ?_
        go_simp
        refine hK _ _ fun a33 hsz33 hde33 f6 hk => ?_
        clear hK K
        replace f0 := (hk 0 (by decide)).trans f0
        replace f10 := (hk 10 (by decide)).trans f10
        replace f11 := (hk 11 (by decide)).trans f11
        replace f12 := (hk 12 (by decide)).trans f12
        replace f4 := (hk 4 (by decide)).trans f4
        replace f31 := (hk 31 (by decide)).trans f31
        replace f32 := (hk 32 (by decide)).trans f32
        replace f33 := (hk 33 (by decide)).trans f33
        replace f36 := (hk 36 (by decide)).trans f36
        replace f6 : a33.tmps[6]?.getD undef = .pointer (some ⟨wr3.heap.size, 0, none⟩) := f6
        clear hk hsz32 hde32
        refine wpList_next0 rfl rfl fun K hK => ?_
        refine wp_store_new 53 (.tmp 6) (.tmp 36) rfl zeroAct CY (eval_at f6) (eval_at f36) HinfYs.out (by rw [hCYs]; rfl) HoneY.out ?_
        refine hK undef _ ?_
        clear hK K
        clear f36
        refine wpList_nil ?_
        obtain ⟨r, hr⟩ : ∃ r, r = wr3.heap.size := ⟨_, rfl⟩
        obtain ⟨wf, hwf⟩ : ∃ wd, wd = wr3.alloc (.cells CY 53) := ⟨_, rfl⟩
        have HRb := Lib.hid (show Blk wf r 53 (actC Y) by rw [hwf, hr, HCY.out]; exact Blk.new _ _ _)
        have HPb4 := Lib.hid (show Blk wf p 53 (actC X) by rw [hwf]; exact HPb.out.alloc _)
        have HPl4 := Lib.hid (show Below wc.heap.size wc wf by rw [hwf]; exact Hbj.out.alloc Hbj.out.size _)
        rw [← hwf]
        rw [← hr] at f6
        clear hwf hr
        refine then_go ?_
        repeat with_reducible refine wp_seq ?_
        obtain ⟨IX, hIX⟩ : ∃ C, C = idC X.e.rep X.e.seq := ⟨_, rfl⟩
        obtain ⟨IY, hIY⟩ : ∃ C, C = idC Y.e.rep Y.e.seq := ⟨_, rfl⟩
        obtain ⟨DX, hDX⟩ : ∃ C, C = entC X.e := ⟨_, rfl⟩
        obtain ⟨DY, hDY⟩ : ∃ C, C = entC Y.e := ⟨_, rfl⟩
        have HiX := Lib.hid (show wf.rangeAt p 0 IX.toList by rw [hIX]; exact (entCells HPb4.out.act.ent).id)
        have HiY := Lib.hid (show wf.rangeAt r 0 IY.toList by rw [hIY]; exact (entCells HRb.out.act.ent).id)
        have HdX := Lib.hid (show wf.rangeAt p 0 DX.toList by rw [hDX]; exact HPb4.out.act.ent)
        have HdY := Lib.hid (show wf.rangeAt r 0 DY.toList by rw [hDY]; exact HRb.out.act.ent)
        have HfIX := Lib.hid (show (Tryd.prog.info? 25).map (·.size) = some IX.toList.length by rw [hIX]; exact id_info)
        have HfIY := Lib.hid (show (Tryd.prog.info? 25).map (·.size) = some IY.toList.length by rw [hIY]; exact id_info)
        have HfDX := Lib.hid (show (Tryd.prog.info? 29).map (·.size) = some DX.toList.length by rw [hDX]; exact ent_info)
        have HfDY := Lib.hid (show (Tryd.prog.info? 29).map (·.size) = some DY.toList.length by rw [hDY]; exact ent_info)
        have heq := fun z => ideq_run Y.e.rep Y.e.seq X.e.rep X.e.seq z
        have hne := fun z => ent_neq_zero Y.e X.e z
        rw [ent_zero HXf.out.2, ent_zero HYf.out] at hne
        rw [← hIX, ← hIY] at heq
        rw [← hDX, ← hDY] at hne
        obtain ⟨q, hq⟩ : ∃ q, q = sameI Y.e.rep Y.e.seq X.e.rep X.e.seq := ⟨_, rfl⟩
        obtain ⟨m, hm⟩ : ∃ m, m = (!decide (AlikeX Y.e X.e)) := ⟨_, rfl⟩
        rw [← hq] at heq
        rw [← hm] at hne
        have Heq := Lib.hid heq
        have Hne := Lib.hid hne
        have Hq := Lib.hid hq
        have Hm := Lib.hid hm
        clear hIX hIY hDX hDY heq hne hq hm HRb
        refine wp_region_lit ?_
        refine wpList_next rfl hsz33 hde33 37 rfl (by decide) fun K hK => ?_
        go_simp
        refine hK _ _ fun a34 hsz34 hde34 f37 hk => ?_
        clear hK K
        replace f0 := (hk 0 (by decide)).trans f0
        replace f10 := (hk 10 (by decide)).trans f10
        replace f11 := (hk 11 (by decide)).trans f11
        replace f12 := (hk 12 (by decide)).trans f12
        replace f4 := (hk 4 (by decide)).trans f4
        replace f31 := (hk 31 (by decide)).trans f31
        replace f32 := (hk 32 (by decide)).trans f32
        replace f33 := (hk 33 (by decide)).trans f33
        replace f6 := (hk 6 (by decide)).trans f6
        replace f37 : a34.tmps[37]?.getD undef = .pointer (some ⟨r, 0, none⟩) := f37
        clear hk hsz33 hde33
        refine wpList_next rfl hsz34 hde34 38 rfl (by decide) fun K hK => ?_
        go_simp
        refine hK _ _ fun a35 hsz35 hde35 f38 hk => ?_
        clear hK K
        replace f0 := (hk 0 (by decide)).trans f0
        replace f10 := (hk 10 (by decide)).trans f10
        replace f11 := (hk 11 (by decide)).trans f11
        replace f12 := (hk 12 (by decide)).trans f12
        replace f4 := (hk 4 (by decide)).trans f4
        replace f31 := (hk 31 (by decide)).trans f31
        replace f32 := (hk 32 (by decide)).trans f32
        replace f33 := (hk 33 (by decide)).trans f33
        replace f6 := (hk 6 (by decide)).trans f6
        replace f38 : a35.tmps[38]?.getD undef = .pointer (some ⟨r, 0, none⟩) := f38
        clear hk hsz34 hde34 f37
        refine wpList_next rfl hsz35 hde35 39 rfl (by decide) fun K hK => ?_
        refine wp_load_mid 25 (.tmp 38) rfl r 0 (eval_at f38) IY.toList _ HiY.out Tryd.underlying25 rfl HfIY.out ?_
        refine hK _ _ fun a36 hsz36 hde36 f39 hk => ?_
        clear hK K
        replace f0 := (hk 0 (by decide)).trans f0
        replace f10 := (hk 10 (by decide)).trans f10
        replace f11 := (hk 11 (by decide)).trans f11
        replace f12 := (hk 12 (by decide)).trans f12
        replace f4 := (hk 4 (by decide)).trans f4
        replace f31 := (hk 31 (by decide)).trans f31
        replace f32 := (hk 32 (by decide)).trans f32
        replace f33 := (hk 33 (by decide)).trans f33
        replace f6 := (hk 6 (by decide)).trans f6
        replace f39 : a36.tmps[39]?.getD undef = .agg IY := f39
        clear hk hsz35 hde35 f38
        refine wpList_next rfl hsz36 hde36 40 rfl (by decide) fun K hK => ?_
        go_simp
        refine hK _ _ fun a37 hsz37 hde37 f40 hk => ?_
        clear hK K
        replace f0 := (hk 0 (by decide)).trans f0
        replace f10 := (hk 10 (by decide)).trans f10
        replace f11 := (hk 11 (by decide)).trans f11
        replace f12 := (hk 12 (by decide)).trans f12
        replace f4 := (hk 4 (by decide)).trans f4
        replace f31 := (hk 31 (by decide)).trans f31
        replace f32 := (hk 32 (by decide)).trans f32
        replace f33 := (hk 33 (by decide)).trans f33
        replace f6 := (hk 6 (by decide)).trans f6
        replace f39 := (hk 39 (by decide)).trans f39
        replace f40 : a37.tmps[40]?.getD undef = .pointer (some ⟨p, 0, none⟩) := f40
        clear hk hsz36 hde36
        refine wpList_next rfl hsz37 hde37 41 rfl (by decide) fun K hK => ?_
        go_simp
        refine hK _ _ fun a38 hsz38 hde38 f41 hk => ?_
        clear hK K
        replace f0 := (hk 0 (by decide)).trans f0
        replace f10 := (hk 10 (by decide)).trans f10
        replace f11 := (hk 11 (by decide)).trans f11
        replace f12 := (hk 12 (by decide)).trans f12
        replace f4 := (hk 4 (by decide)).trans f4
        replace f31 := (hk 31 (by decide)).trans f31
        replace f32 := (hk 32 (by decide)).trans f32
        replace f33 := (hk 33 (by decide)).trans f33
        replace f6 := (hk 6 (by decide)).trans f6
        replace f39 := (hk 39 (by decide)).trans f39
        replace f41 : a38.tmps[41]?.getD undef = .pointer (some ⟨p, 0, none⟩) := f41
        clear hk hsz37 hde37 f40
        refine wpList_next rfl hsz38 hde38 42 rfl (by decide) fun K hK => ?_
        refine wp_load_mid 25 (.tmp 41) rfl p 0 (eval_at f41) IX.toList _ HiX.out Tryd.underlying25 rfl HfIX.out ?_
        refine hK _ _ fun a39 hsz39 hde39 f42 hk => ?_
        clear hK K
        replace f0 := (hk 0 (by decide)).trans f0
        replace f10 := (hk 10 (by decide)).trans f10
        replace f11 := (hk 11 (by decide)).trans f11
        replace f12 := (hk 12 (by decide)).trans f12
        replace f4 := (hk 4 (by decide)).trans f4
        replace f31 := (hk 31 (by decide)).trans f31
        replace f32 := (hk 32 (by decide)).trans f32
        replace f33 := (hk 33 (by decide)).trans f33
        replace f6 := (hk 6 (by decide)).trans f6
        replace f39 := (hk 39 (by decide)).trans f39
        replace f42 : a39.tmps[42]?.getD undef = .agg IX := f42
        clear hk hsz38 hde38 f41
        refine wpList_next rfl hsz39 hde39 43 rfl (by decide) fun K hK => ?_
        have heq := Heq.out
        go_simp
        refine hK _ _ fun a40 hsz40 hde40 f43 hk => ?_
        clear hK K
        replace f0 := (hk 0 (by decide)).trans f0
        replace f10 := (hk 10 (by decide)).trans f10
        replace f11 := (hk 11 (by decide)).trans f11
        replace f12 := (hk 12 (by decide)).trans f12
        replace f4 := (hk 4 (by decide)).trans f4
        replace f31 := (hk 31 (by decide)).trans f31
        replace f32 := (hk 32 (by decide)).trans f32
        replace f33 := (hk 33 (by decide)).trans f33
        replace f6 := (hk 6 (by decide)).trans f6
        replace f43 : a40.tmps[43]?.getD undef = .bool q := f43
        clear hk hsz39 hde39 f39 f42
        clear heq
        refine wpList_next rfl hsz40 hde40 44 rfl (by decide) fun K hK => ?_
        go_simp
        refine hK _ _ fun a41 hsz41 hde41 f44 hk => ?_
        clear hK K
        replace f0 := (hk 0 (by decide)).trans f0
        replace f10 := (hk 10 (by decide)).trans f10
        replace f11 := (hk 11 (by decide)).trans f11
        replace f12 := (hk 12 (by decide)).trans f12
        replace f4 := (hk 4 (by decide)).trans f4
        replace f31 := (hk 31 (by decide)).trans f31
        replace f32 := (hk 32 (by decide)).trans f32
        replace f33 := (hk 33 (by decide)).trans f33
        replace f6 := (hk 6 (by decide)).trans f6
        replace f44 : a41.tmps[44]?.getD undef = .bool q := f44
        clear hk hsz40 hde40 f43
        cases q with
        | false =>
          refine wpList_leave (not_wanted (j := 7) (t := 44) (b := true) rfl rfl (.inr f44)) hsz41 hde41 45 rfl (by decide) fun a42 hsz42 hde42 f45 hk => ?_
          replace f0 := (hk 0 (by decide)).trans f0
          replace f10 := (hk 10 (by decide)).trans f10
          replace f11 := (hk 11 (by decide)).trans f11
          replace f12 := (hk 12 (by decide)).trans f12
          replace f4 := (hk 4 (by decide)).trans f4
          replace f31 := (hk 31 (by decide)).trans f31
          replace f32 := (hk 32 (by decide)).trans f32
          replace f33 := (hk 33 (by decide)).trans f33
          replace f6 := (hk 6 (by decide)).trans f6
          replace f44 := (hk 44 (by decide)).trans f44
          clear hk hsz41 hde41
          refine wpList_leave (not_wanted (j := 7) (t := 44) (b := true) rfl rfl (.inr f44)) hsz42 hde42 46 rfl (by decide) fun a43 hsz43 hde43 f46 hk => ?_
          replace f0 := (hk 0 (by decide)).trans f0
          replace f10 := (hk 10 (by decide)).trans f10
          replace f11 := (hk 11 (by decide)).trans f11
          replace f12 := (hk 12 (by decide)).trans f12
          replace f4 := (hk 4 (by decide)).trans f4
          replace f31 := (hk 31 (by decide)).trans f31
          replace f32 := (hk 32 (by decide)).trans f32
          replace f33 := (hk 33 (by decide)).trans f33
          replace f6 := (hk 6 (by decide)).trans f6
          replace f44 := (hk 44 (by decide)).trans f44
          clear hk hsz42 hde42 f45
          refine wpList_leave (not_wanted (j := 7) (t := 44) (b := true) rfl rfl (.inr f44)) hsz43 hde43 47 rfl (by decide) fun a44 hsz44 hde44 f47 hk => ?_
          replace f0 := (hk 0 (by decide)).trans f0
          replace f10 := (hk 10 (by decide)).trans f10
          replace f11 := (hk 11 (by decide)).trans f11
          replace f12 := (hk 12 (by decide)).trans f12
          replace f4 := (hk 4 (by decide)).trans f4
          replace f31 := (hk 31 (by decide)).trans f31
          replace f32 := (hk 32 (by decide)).trans f32
          replace f33 := (hk 33 (by decide)).trans f33
          replace f6 := (hk 6 (by decide)).trans f6
          replace f44 := (hk 44 (by decide)).trans f44
          replace f46 := (hk 46 (by decide)).trans f46
          clear hk hsz43 hde43
          refine wpList_leave (not_wanted (j := 7) (t := 44) (b := true) rfl rfl (.inr f44)) hsz44 hde44 48 rfl (by decide) fun a45 hsz45 hde45 f48 hk => ?_
          replace f0 := (hk 0 (by decide)).trans f0
          replace f10 := (hk 10 (by decide)).trans f10
          replace f11 := (hk 11 (by decide)).trans f11
          replace f12 := (hk 12 (by decide)).trans f12
          replace f4 := (hk 4 (by decide)).trans f4
          replace f31 := (hk 31 (by decide)).trans f31
          replace f32 := (hk 32 (by decide)).trans f32
          replace f33 := (hk 33 (by decide)).trans f33
          replace f6 := (hk 6 (by decide)).trans f6
          replace f44 := (hk 44 (by decide)).trans f44
          replace f46 := (hk 46 (by decide)).trans f46
          clear hk hsz44 hde44 f47
          refine wpList_leave (not_wanted (j := 7) (t := 44) (b := true) rfl rfl (.inr f44)) hsz45 hde45 49 rfl (by decide) fun a46 hsz46 hde46 f49 hk => ?_
          replace f0 := (hk 0 (by decide)).trans f0
          replace f10 := (hk 10 (by decide)).trans f10
          replace f11 := (hk 11 (by decide)).trans f11
          replace f12 := (hk 12 (by decide)).trans f12
          replace f4 := (hk 4 (by decide)).trans f4
          replace f31 := (hk 31 (by decide)).trans f31
          replace f32 := (hk 32 (by decide)).trans f32
          replace f33 := (hk 33 (by decide)).trans f33
          replace f6 := (hk 6 (by decide)).trans f6
          replace f44 := (hk 44 (by decide)).trans f44
          clear hk hsz45 hde45 f46 f48
          refine wpList_next rfl hsz46 hde46 50 rfl (by decide) fun K hK => ?_
          go_simp
          refine hK _ _ fun a47 hsz47 hde47 f50 hk => ?_
          clear hK K
          replace f0 := (hk 0 (by decide)).trans f0
          replace f10 := (hk 10 (by decide)).trans f10
          replace f11 := (hk 11 (by decide)).trans f11
          replace f12 := (hk 12 (by decide)).trans f12
          replace f4 := (hk 4 (by decide)).trans f4
          replace f31 := (hk 31 (by decide)).trans f31
          replace f32 := (hk 32 (by decide)).trans f32
          replace f33 := (hk 33 (by decide)).trans f33
          replace f6 := (hk 6 (by decide)).trans f6
          replace f50 : a47.tmps[50]?.getD undef = .bool false := f50
          clear hk hsz46 hde46 f44 f49
          refine wpList_nil ?_
          refine then_go ?_
          repeat with_reducible refine wp_seq ?_
          refine wp_cond_false (eval_at f50) ?_
          refine wp_skip ?_
          refine block_go ?_
          refine then_go ?_
          clear f50 f6
          repeat with_reducible refine wp_seq ?_
          refine wp_region_lit ?_
          refine wpList_next rfl hsz47 hde47 51 rfl (by decide) fun K hK => ?_
          go_simp
          refine hK _ _ fun a48 hsz48 hde48 f51 hk => ?_
          clear hK K
          replace f0 := (hk 0 (by decide)).trans f0
          replace f10 := (hk 10 (by decide)).trans f10
          replace f11 := (hk 11 (by decide)).trans f11
          replace f12 := (hk 12 (by decide)).trans f12
          replace f4 := (hk 4 (by decide)).trans f4
          replace f31 := (hk 31 (by decide)).trans f31
          replace f32 := (hk 32 (by decide)).trans f32
          replace f33 := (hk 33 (by decide)).trans f33
          clear hk hsz47 hde47
          replace f51 : a48.tmps[51]?.getD undef = .int .i64 ((j + 1 : Nat) : Int) := f51.trans (by first | (congr 1; done) | (congr 1; rw [IntKind.wrap_i64] <;> omega))
          refine wpList_next rfl hsz48 hde48 33 rfl (by decide) fun K hK => ?_
          go_simp
          refine hK _ _ fun a49 hsz49 hde49 f33 hk => ?_
          clear hK K
          replace f0 := (hk 0 (by decide)).trans f0
          replace f10 := (hk 10 (by decide)).trans f10
          replace f11 := (hk 11 (by decide)).trans f11
          replace f12 := (hk 12 (by decide)).trans f12
          replace f4 := (hk 4 (by decide)).trans f4
          replace f31 := (hk 31 (by decide)).trans f31
          replace f32 := (hk 32 (by decide)).trans f32
          replace f33 : a49.tmps[33]?.getD undef = .int .i64 ((j + 1 : Nat) : Int) := f33
          clear hk hsz48 hde48 f51
          refine wpList_nil ?_
          refine then_go ?_
          exact ⟨i - (j + 1), by rw [Hn3.out]; omega, j + 1, hsz49, hde49, f0, f10, f11, f12, f4, f31, f32, f33, Lib.hid (by omega), HPl4, HPb4, Lib.hid (fun q7 hq7 hlt7 hs7 => by
            by_cases e7 : q7 = j
            · subst e7; rw [← HY.out] at hs7 ⊢; exact absurd (sameI_eq.2 ⟨(sameI_eq.1 hs7).1.symm, (sameI_eq.1 hs7).2.symm⟩) (by rw [← Hq.out]; simp)
            · exact Hallj.out q7 hq7 (by omega) hs7), rfl⟩
        | true =>
          refine wpList_nextg (wanted_of (j := 7) (t := 44) (b := true) rfl rfl f44) hsz41 hde41 45 rfl (by decide) fun K hK => ?_
          go_simp
          refine hK _ _ fun a42 hsz42 hde42 f45 hk => ?_
          clear hK K
          replace f0 := (hk 0 (by decide)).trans f0
          replace f10 := (hk 10 (by decide)).trans f10
          replace f11 := (hk 11 (by decide)).trans f11
          replace f12 := (hk 12 (by decide)).trans f12
          replace f4 := (hk 4 (by decide)).trans f4
          replace f31 := (hk 31 (by decide)).trans f31
          replace f32 := (hk 32 (by decide)).trans f32
          replace f33 := (hk 33 (by decide)).trans f33
          replace f6 := (hk 6 (by decide)).trans f6
          replace f44 := (hk 44 (by decide)).trans f44
          replace f45 : a42.tmps[45]?.getD undef = .pointer (some ⟨r, 0, none⟩) := f45
          clear hk hsz41 hde41
          refine wpList_nextg (wanted_of (j := 7) (t := 44) (b := true) rfl rfl f44) hsz42 hde42 46 rfl (by decide) fun K hK => ?_
          refine wp_load_mid 29 (.tmp 45) rfl r 0 (eval_at f45) DY.toList _ HdY.out Tryd.underlying29 rfl HfDY.out ?_
          refine hK _ _ fun a43 hsz43 hde43 f46 hk => ?_
          clear hK K
          replace f0 := (hk 0 (by decide)).trans f0
          replace f10 := (hk 10 (by decide)).trans f10
          replace f11 := (hk 11 (by decide)).trans f11
          replace f12 := (hk 12 (by decide)).trans f12
          replace f4 := (hk 4 (by decide)).trans f4
          replace f31 := (hk 31 (by decide)).trans f31
          replace f32 := (hk 32 (by decide)).trans f32
          replace f33 := (hk 33 (by decide)).trans f33
          replace f6 := (hk 6 (by decide)).trans f6
          replace f44 := (hk 44 (by decide)).trans f44
          replace f46 : a43.tmps[46]?.getD undef = .agg DY := f46
          clear hk hsz42 hde42 f45
          refine wpList_nextg (wanted_of (j := 7) (t := 44) (b := true) rfl rfl f44) hsz43 hde43 47 rfl (by decide) fun K hK => ?_
          go_simp
          refine hK _ _ fun a44 hsz44 hde44 f47 hk => ?_
          clear hK K
          replace f0 := (hk 0 (by decide)).trans f0
          replace f10 := (hk 10 (by decide)).trans f10
          replace f11 := (hk 11 (by decide)).trans f11
          replace f12 := (hk 12 (by decide)).trans f12
          replace f4 := (hk 4 (by decide)).trans f4
          replace f31 := (hk 31 (by decide)).trans f31
          replace f32 := (hk 32 (by decide)).trans f32
          replace f33 := (hk 33 (by decide)).trans f33
          replace f6 := (hk 6 (by decide)).trans f6
          replace f44 := (hk 44 (by decide)).trans f44
          replace f46 := (hk 46 (by decide)).trans f46
          replace f47 : a44.tmps[47]?.getD undef = .pointer (some ⟨p, 0, none⟩) := f47
          clear hk hsz43 hde43
          refine wpList_nextg (wanted_of (j := 7) (t := 44) (b := true) rfl rfl f44) hsz44 hde44 48 rfl (by decide) fun K hK => ?_
          refine wp_load_mid 29 (.tmp 47) rfl p 0 (eval_at f47) DX.toList _ HdX.out Tryd.underlying29 rfl HfDX.out ?_
          refine hK _ _ fun a45 hsz45 hde45 f48 hk => ?_
          clear hK K
          replace f0 := (hk 0 (by decide)).trans f0
          replace f10 := (hk 10 (by decide)).trans f10
          replace f11 := (hk 11 (by decide)).trans f11
          replace f12 := (hk 12 (by decide)).trans f12
          replace f4 := (hk 4 (by decide)).trans f4
          replace f31 := (hk 31 (by decide)).trans f31
          replace f32 := (hk 32 (by decide)).trans f32
          replace f33 := (hk 33 (by decide)).trans f33
          replace f6 := (hk 6 (by decide)).trans f6
          replace f44 := (hk 44 (by decide)).trans f44
          replace f46 := (hk 46 (by decide)).trans f46
          replace f48 : a45.tmps[48]?.getD undef = .agg DX := f48
          clear hk hsz44 hde44 f47
          refine wpList_nextg (wanted_of (j := 7) (t := 44) (b := true) rfl rfl f44) hsz45 hde45 49 rfl (by decide) fun K hK => ?_
          have hne := Hne.out
          go_simp
          refine hK _ _ fun a46 hsz46 hde46 f49 hk => ?_
          clear hK K
          replace f0 := (hk 0 (by decide)).trans f0
          replace f10 := (hk 10 (by decide)).trans f10
          replace f11 := (hk 11 (by decide)).trans f11
          replace f12 := (hk 12 (by decide)).trans f12
          replace f4 := (hk 4 (by decide)).trans f4
          replace f31 := (hk 31 (by decide)).trans f31
          replace f32 := (hk 32 (by decide)).trans f32
          replace f33 := (hk 33 (by decide)).trans f33
          replace f6 := (hk 6 (by decide)).trans f6
          replace f44 := (hk 44 (by decide)).trans f44
          replace f49 : a46.tmps[49]?.getD undef = .bool m := f49
          clear hk hsz45 hde45 f46 f48
          clear hne
          cases m with
          | false =>
            refine wpList_next rfl hsz46 hde46 50 rfl (by decide) fun K hK => ?_
            go_simp
            refine hK _ _ fun a47 hsz47 hde47 f50 hk => ?_
            clear hK K
            replace f0 := (hk 0 (by decide)).trans f0
            replace f10 := (hk 10 (by decide)).trans f10
            replace f11 := (hk 11 (by decide)).trans f11
            replace f12 := (hk 12 (by decide)).trans f12
            replace f4 := (hk 4 (by decide)).trans f4
            replace f31 := (hk 31 (by decide)).trans f31
            replace f32 := (hk 32 (by decide)).trans f32
            replace f33 := (hk 33 (by decide)).trans f33
            replace f6 := (hk 6 (by decide)).trans f6
            replace f50 : a47.tmps[50]?.getD undef = .bool false := f50
            clear hk hsz46 hde46 f44 f49
            refine wpList_nil ?_
            refine then_go ?_
            repeat with_reducible refine wp_seq ?_
            refine wp_cond_false (eval_at f50) ?_
            refine wp_skip ?_
            refine block_go ?_
            refine then_go ?_
            clear f50 f6
            repeat with_reducible refine wp_seq ?_
            refine wp_region_lit ?_
            refine wpList_next rfl hsz47 hde47 51 rfl (by decide) fun K hK => ?_
            go_simp
            refine hK _ _ fun a48 hsz48 hde48 f51 hk => ?_
            clear hK K
            replace f0 := (hk 0 (by decide)).trans f0
            replace f10 := (hk 10 (by decide)).trans f10
            replace f11 := (hk 11 (by decide)).trans f11
            replace f12 := (hk 12 (by decide)).trans f12
            replace f4 := (hk 4 (by decide)).trans f4
            replace f31 := (hk 31 (by decide)).trans f31
            replace f32 := (hk 32 (by decide)).trans f32
            replace f33 := (hk 33 (by decide)).trans f33
            clear hk hsz47 hde47
            replace f51 : a48.tmps[51]?.getD undef = .int .i64 ((j + 1 : Nat) : Int) := f51.trans (by first | (congr 1; done) | (congr 1; rw [IntKind.wrap_i64] <;> omega))
            refine wpList_next rfl hsz48 hde48 33 rfl (by decide) fun K hK => ?_
            go_simp
            refine hK _ _ fun a49 hsz49 hde49 f33 hk => ?_
            clear hK K
            replace f0 := (hk 0 (by decide)).trans f0
            replace f10 := (hk 10 (by decide)).trans f10
            replace f11 := (hk 11 (by decide)).trans f11
            replace f12 := (hk 12 (by decide)).trans f12
            replace f4 := (hk 4 (by decide)).trans f4
            replace f31 := (hk 31 (by decide)).trans f31
            replace f32 := (hk 32 (by decide)).trans f32
            replace f33 : a49.tmps[33]?.getD undef = .int .i64 ((j + 1 : Nat) : Int) := f33
            clear hk hsz48 hde48 f51
            refine wpList_nil ?_
            refine then_go ?_
            exact ⟨i - (j + 1), by rw [Hn3.out]; omega, j + 1, hsz49, hde49, f0, f10, f11, f12, f4, f31, f32, f33, Lib.hid (by omega), HPl4, HPb4, Lib.hid (fun q7 hq7 hlt7 hs7 => by
              by_cases e7 : q7 = j
              · subst e7; rw [← HY.out] at hs7 ⊢; have h7 := Hm.out; exact AlikeX.swap (by simpa using h7)
              · exact Hallj.out q7 hq7 (by omega) hs7), rfl⟩
          | true =>
            refine wpList_next rfl hsz46 hde46 50 rfl (by decide) fun K hK => ?_
            go_simp
            refine hK _ _ fun a47 hsz47 hde47 f50 hk => ?_
            clear hK K
            replace f0 := (hk 0 (by decide)).trans f0
            replace f10 := (hk 10 (by decide)).trans f10
            replace f11 := (hk 11 (by decide)).trans f11
            replace f12 := (hk 12 (by decide)).trans f12
            replace f4 := (hk 4 (by decide)).trans f4
            replace f31 := (hk 31 (by decide)).trans f31
            replace f32 := (hk 32 (by decide)).trans f32
            replace f33 := (hk 33 (by decide)).trans f33
            replace f6 := (hk 6 (by decide)).trans f6
            replace f50 : a47.tmps[50]?.getD undef = .bool true := f50
            clear hk hsz46 hde46 f44 f49
            refine wpList_nil ?_
            refine then_go ?_
            repeat with_reducible refine wp_seq ?_
            refine wp_cond_true (eval_at f50) ?_
            clear f50
            repeat with_reducible refine wp_seq ?_
            refine wp_region_lit ?_
            refine wpList_next rfl hsz47 hde47 2 rfl (by decide) fun K hK => ?_
            go_simp
            refine hK _ _ fun a48 hsz48 hde48 f2 hk => ?_
            clear hK K
            replace f0 := (hk 0 (by decide)).trans f0
            replace f10 := (hk 10 (by decide)).trans f10
            replace f11 := (hk 11 (by decide)).trans f11
            replace f12 := (hk 12 (by decide)).trans f12
            replace f4 := (hk 4 (by decide)).trans f4
            replace f31 := (hk 31 (by decide)).trans f31
            replace f32 := (hk 32 (by decide)).trans f32
            replace f33 := (hk 33 (by decide)).trans f33
            replace f6 := (hk 6 (by decide)).trans f6
            replace f2 : a48.tmps[2]?.getD undef = .bool false := f2
            clear hk hsz47 hde47
            refine wpList_nil ?_
            refine then_go ?_
            refine wp_ret ?_
            repeat first | with_reducible refine then_ret ?_ | with_reducible refine block_ret ?_
            refine ret_tmp Tryd.results31 hde48 f2 ?_
            exact ⟨⟨_, rfl, fun h => by cases h⟩, HPl4.out⟩
      refine wp_region_lit ?_
      refine wpList_next rfl hsz29 hde29 34 rfl (by decide) fun K hK => ?_
      go_simp
      refine hK _ _ fun a30 hsz30 hde30 f34 hk => ?_
      clear hK K
      replace f0 := (hk 0 (by decide)).trans f0
      replace f10 := (hk 10 (by decide)).trans f10
      replace f11 := (hk 11 (by decide)).trans f11
      replace f12 := (hk 12 (by decide)).trans f12
      replace f4 := (hk 4 (by decide)).trans f4
      replace f31 := (hk 31 (by decide)).trans f31
      replace f32 := (hk 32 (by decide)).trans f32
      replace f33 := (hk 33 (by decide)).trans f33
      clear hk hsz29 hde29
      replace f34 : a30.tmps[34]?.getD undef = .bool false := f34.trans (by first | rfl | (congr 1; first | exact decide_eq_true (by omega) | exact decide_eq_false (by omega)))
      refine wpList_nil ?_
      refine then_go ?_
      repeat with_reducible refine wp_seq ?_
      refine wp_cond_false (eval_at f34) ?_
      refine wp_exit ?_
      repeat with_reducible refine then_exit ?_
      refine block_exit ?_
      repeat first | with_reducible refine block_go ?_ | with_reducible refine then_go ?_
      clear f34 f4 f31 f32 f33
      repeat with_reducible refine wp_seq ?_
      refine wp_region_lit ?_
      refine wpList_next rfl hsz30 hde30 52 rfl (by decide) fun K hK => ?_
      go_simp
      refine hK _ _ fun a31 hsz31 hde31 f52 hk => ?_
      clear hK K
      replace f0 := (hk 0 (by decide)).trans f0
      replace f10 := (hk 10 (by decide)).trans f10
      replace f11 := (hk 11 (by decide)).trans f11
      replace f12 := (hk 12 (by decide)).trans f12
      clear hk hsz30 hde30
      replace f52 : a31.tmps[52]?.getD undef = .int .i64 ((i + 1 : Nat) : Int) := f52.trans (by first | (congr 1; done) | (congr 1; rw [IntKind.wrap_i64] <;> omega))
      refine wpList_next rfl hsz31 hde31 12 rfl (by decide) fun K hK => ?_
      go_simp
      refine hK _ _ fun a32 hsz32 hde32 f12 hk => ?_
      clear hK K
      replace f0 := (hk 0 (by decide)).trans f0
      replace f10 := (hk 10 (by decide)).trans f10
      replace f11 := (hk 11 (by decide)).trans f11
      replace f12 : a32.tmps[12]?.getD undef = .int .i64 ((i + 1 : Nat) : Int) := f12
      clear hk hsz31 hde31 f52
      refine wpList_nil ?_
      refine then_go ?_
      exact ⟨n - (i + 1), by rw [Hn2.out]; omega, i + 1, hsz32, hde32, f0, f10, f11, f12, Lib.hid (by omega), Hbj, Lib.hid ⟨fun p7 hp7 hpi => by
        by_cases e7 : p7 = i
        · subst e7; rw [← HX.out]; exact HXf.out
        · exact Hall.out.1 p7 hp7 (by omega), fun p7 q7 hp7 hq7 hqp hpi hs7 => by
        by_cases e7 : p7 = i
        · subst e7; rw [← HX.out] at hs7 ⊢; exact Hallj.out q7 hq7 (by omega) hs7
        · exact Hall.out.2 p7 q7 hp7 hq7 hqp (by omega) hs7⟩, rfl⟩
  refine wp_region_lit ?_
  refine wpList_next rfl hsz19 hde19 13 rfl (by decide) fun K hK => ?_
  go_simp
  refine hK _ _ fun a20 hsz20 hde20 f13 hk => ?_
  clear hK K
  replace f0 := (hk 0 (by decide)).trans f0
  replace f10 := (hk 10 (by decide)).trans f10
  replace f11 := (hk 11 (by decide)).trans f11
  replace f12 := (hk 12 (by decide)).trans f12
  clear hk hsz19 hde19
  replace f13 : a20.tmps[13]?.getD undef = .bool false := f13.trans (by first | rfl | (congr 1; first | exact decide_eq_true (by omega) | exact decide_eq_false (by omega)))
  refine wpList_nil ?_
  refine then_go ?_
  repeat with_reducible refine wp_seq ?_
  refine wp_cond_false (eval_at f13) ?_
  refine wp_exit ?_
  repeat with_reducible refine then_exit ?_
  refine block_exit ?_
  refine then_go ?_
  clear f13 f10 f11 f12
  repeat with_reducible refine wp_seq ?_
  refine wp_region_lit ?_
  refine wpList_next rfl hsz20 hde20 2 rfl (by decide) fun K hK => ?_
  go_simp
  refine hK _ _ fun a21 hsz21 hde21 f2 hk => ?_
  clear hK K
  replace f0 := (hk 0 (by decide)).trans f0
  replace f2 : a21.tmps[2]?.getD undef = .bool true := f2
  clear hk hsz20 hde20
  refine wpList_nil ?_
  refine then_go ?_
  have Hfin := Lib.hid (show FairA G by
    have hn7 := Hn.out
    refine ⟨by omega, fun x hx => ?_, fun x hx y hy hs => ?_⟩
    · obtain ⟨p7, hp7, rfl⟩ := List.getElem_of_mem hx
      exact Hall.out.1 p7 hp7 (by omega)
    obtain ⟨p7, hp7, rfl⟩ := List.getElem_of_mem hx
    obtain ⟨q7, hq7, rfl⟩ := List.getElem_of_mem hy
    rcases Nat.lt_trichotomy q7 p7 with h7 | h7 | h7
    · exact Hall.out.2 p7 q7 hp7 hq7 h7 (by omega) hs
    · subst h7; exact ⟨rfl, rfl, rfl, rfl, rfl, rfl, rfl⟩
    · exact (Hall.out.2 q7 p7 hq7 hp7 h7 (by omega) (by rw [sameI_eq] at hs ⊢; exact ⟨hs.1.symm, hs.2.symm⟩)).swap)
  refine wp_ret ?_
  repeat first | with_reducible refine then_ret ?_ | with_reducible refine block_ret ?_
  refine ret_tmp Tryd.results31 hde21 f2 ?_
  exact ⟨⟨_, rfl, fun _ => Hfin.out⟩, Hbi.out⟩
end Go.Proofs.YtcpjgohclncbkaaDoor
