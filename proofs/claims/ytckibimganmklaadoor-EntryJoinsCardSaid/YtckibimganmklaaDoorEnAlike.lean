/-
  alike: are entries of one number alike but for what they were deleted by?
-/
import Derived.Test.YtckibimganmklaaDoorEnFine
import Derived.Test.YtckibimganmklaaDoorEnJoins
namespace Go.Proofs.YtckibimganmklaaDoor
open Go.RowKit
set_option maxRecDepth 100000

def accE (E : Nat → List Ent) (k : Nat) : List Ent := (List.range k).flatMap E
theorem accE_succ (E : Nat → List Ent) (k : Nat) : accE E (k + 1) = accE E k ++ E k := by unfold accE; rw [List.range_succ, List.flatMap_append]; simp
theorem accE_length {E : Nat → List Ent} {m : Nat} (h : ∀ k, k < m → (E k).length ≤ 40) : ∀ k, k ≤ m → (accE E k).length ≤ 40 * k
  | 0, _ => by simp [accE]
  | k + 1, hk => by
    rw [accE_succ, List.length_append]
    have := accE_length h k (by omega)
    have := h k (by omega)
    omega
theorem accE_three (E : Nat → List Ent) : accE E 3 = E 0 ++ E 1 ++ E 2 := by rw [accE_succ, accE_succ, accE_succ]; simp [accE]
/-- A slice cut at its end, as an operation of a walk. -/
theorem wp_head {P : Program} {Q : Exit → Act → World → Prop} {o : Oper} {a : Act} {w : World} {K : Act → World → Prop} {t : TypeId} {v v' h : Value} (x y : Operand)
    (ho : o.op = .slice t x none (some y) none) (hx : a.eval x = v) (hy : a.eval y = h) (hrun : ∀ W : World, (Instr.sliceAt t v none (some h) none).run P W = .ok v' W) (hk : K (a.put o.dst v') w) : o.wp P a w K Q := by
  unfold Oper.wp execOp
  simp only [ho, Option.map, Act.eval, Sem.run_bind, Sem.run_pure] at hx hy ⊢
  rw [hx, hy, hrun]
  exact hk
theorem head_run {b off n c i : Nat} (hi : i ≤ n) (hn : n ≤ c) (h0 : 0 < n) (W : World) : (Instr.sliceAt 22 (.slice (some ⟨b, off, none⟩) n c) none (some (.int .i64 ((i : Nat) : Int))) none).run Tryd.prog W = .ok (.slice (some ⟨b, off, none⟩) i c) W := by
  have h2 : ((i : Nat) : Int) ≤ (c : Int) := by omega
  rw [run_sliceAt_slice (h := Tryd.underlying22), run_slice_h (ht := Tryd.underlying22) (h0 := by omega) (h2 := h2)]
  have hs : (sizeOf (Tryd.prog.elem 22)).run Tryd.prog W = .ok 15 W := by kernel_rfl
  rw [hs]
  show Result.ok (sliced (some ⟨b, off, none⟩) 0 ((i : Nat) : Int).toNat c 15) W = _
  unfold sliced
  rw [if_neg (by omega), Int.toNat_natCast]
  rfl
theorem by_put {z : World} {p : Nat} {X : Ent} {V : Nat → Nat} (hz : Blk z p 29 (entC { X with by_ := V })) : Blk (z.setCells p 7 (#[.int .u32 0, .int .u32 0, .int .u32 0, .int .u32 0, .int .u32 0, .int .u32 0, .int .u32 0, .int .u32 0] : Array Value).toList) p 29 (entC { X with by_ := zeroV }) ∧ z.there p 7 8 :=
  ⟨Blk.setCells _ 7 z (entC { X with by_ := V }).toList hz (show 7 + 8 ≤ 15 by omega), Blk.there (cs := (entC { X with by_ := V }).toList) hz 7 8 (show 7 + 8 ≤ 15 by omega)⟩

def AlInv1 (w : World) (E : Nat → List Ent) (S : Value) (n : Nat) (a : Act) (x : World) : Prop :=
  ∃ (k : Nat) (u : Value), Hid (a.tmps.size = 51) ∧ Hid (a.defers = []) ∧ a.tmps[3]?.getD undef = u ∧ a.tmps[10]?.getD undef = S ∧ a.tmps[11]?.getD undef = .int .i64 3 ∧ a.tmps[12]?.getD undef = .int .i64 ((k : Nat) : Int) ∧ Hid (k ≤ 3) ∧ Hid (OwnE x w.heap.size u (accE E k)) ∧ Hid (Below w.heap.size w x) ∧ n = 3 - k
def AlInv2 (wc : World) (u : Value) (m : Nat) (G : List Ent) (n : Nat) (a : Act) (x : World) : Prop :=
  ∃ (i : Nat), Hid (a.tmps.size = 51) ∧ Hid (a.defers = []) ∧ a.tmps[3]?.getD undef = u ∧ a.tmps[20]?.getD undef = u ∧ a.tmps[21]?.getD undef = .int .i64 ((m : Nat) : Int) ∧ a.tmps[22]?.getD undef = .int .i64 ((i : Nat) : Int) ∧ Hid (i ≤ m) ∧ Hid (Below wc.heap.size wc x) ∧ Hid (∀ p q (hp : p < G.length) (hq : q < G.length), q < p → p < i → sameI G[p].rep G[p].seq G[q].rep G[q].seq = true → AlikeX G[p] G[q]) ∧ n = m - i
def AlInv3 (wc : World) (u s : Value) (m i g : Nat) (X : Ent) (G : List Ent) (n : Nat) (a : Act) (x : World) : Prop :=
  ∃ (j : Nat) (V : Nat → Nat), Hid (a.tmps.size = 51) ∧ Hid (a.defers = []) ∧ a.tmps[3]?.getD undef = u ∧ a.tmps[20]?.getD undef = u ∧ a.tmps[21]?.getD undef = .int .i64 ((m : Nat) : Int) ∧ a.tmps[22]?.getD undef = .int .i64 ((i : Nat) : Int) ∧ a.tmps[7]?.getD undef = .pointer (some ⟨g, 0, none⟩) ∧ a.tmps[29]?.getD undef = s ∧ a.tmps[30]?.getD undef = .int .i64 ((i : Nat) : Int) ∧ a.tmps[31]?.getD undef = .int .i64 ((j : Nat) : Int) ∧ Hid (j ≤ i) ∧ Hid (Below wc.heap.size wc x) ∧ Hid (Blk x g 29 (entC { X with by_ := V })) ∧ Hid (∀ q (hq : q < G.length), q < j → sameI X.rep X.seq G[q].rep G[q].seq = true → AlikeX X G[q]) ∧ n = i - j

set_option maxHeartbeats 8000000 in
theorem alike_any (g : Nat) (vs : Array Value) (E : Nat → List Ent) (w : World) (hb : Blk w g 22 vs) (hvs : ∀ k, k < 3 → ∃ v, vs[k]? = some v ∧ IsL kEnt w (fun _ => True) v (E k)) (hlen : ∀ k, k < 3 → (E k).length ≤ 40) :
    Calls Tryd.prog 34 #[.slice (some ⟨g, 0, none⟩) 3 3] w fun e w' => (∃ q, e = .returned (.bool q) ∧ (q = true → AlikeE (E 0 ++ E 1 ++ E 2))) ∧ Below w.heap.size w w' := by
  have Hb := Lib.hid hb
  have Hvs := Lib.hid hvs
  have Hlen := Lib.hid hlen
  rw [← accE_three]
  clear hb hvs hlen
  go_enter Tryd.func34, Tryd.ntmps34
  refine enter_abs (N := 51) rfl rfl fun a0 hsz0 hde0 hk => ?_
  have f0 : a0.tmps[0]?.getD undef = .slice (some ⟨g, 0, none⟩) 3 3 := hk 0
  clear hk
  repeat with_reducible refine wp_seq ?_
  refine wp_region_lit ?_
  refine wpList_next rfl hsz0 hde0 2 rfl (by decide) fun K hK => ?_
  go_simp
  refine hK _ _ fun a1 hsz1 hde1 f2 hk => ?_
  clear hK K
  replace f0 := (hk 0 (by decide)).trans f0
  replace f2 : a1.tmps[2]?.getD undef = .bool false := f2
  clear hk hsz0 hde0
  refine wpList_nil ?_
  clear f2
  refine then_go ?_
  repeat with_reducible refine wp_seq ?_
  refine wp_region_lit ?_
  refine wpList_next rfl hsz1 hde1 3 rfl (by decide) fun K hK => ?_
  go_simp
  refine hK _ _ fun a2 hsz2 hde2 f3 hk => ?_
  clear hK K
  replace f0 := (hk 0 (by decide)).trans f0
  replace f3 : a2.tmps[3]?.getD undef = .slice none 0 0 := f3
  clear hk hsz1 hde1
  refine wpList_nil ?_
  refine then_go ?_
  repeat with_reducible refine wp_seq ?_
  refine wp_region_lit ?_
  refine wpList_next rfl hsz2 hde2 10 rfl (by decide) fun K hK => ?_
  go_simp
  refine hK _ _ fun a3 hsz3 hde3 f10 hk => ?_
  clear hK K
  replace f0 := (hk 0 (by decide)).trans f0
  replace f3 := (hk 3 (by decide)).trans f3
  replace f10 : a3.tmps[10]?.getD undef = .slice (some ⟨g, 0, none⟩) 3 3 := f10
  clear hk hsz2 hde2
  refine wpList_next rfl hsz3 hde3 11 rfl (by decide) fun K hK => ?_
  go_simp
  refine hK _ _ fun a4 hsz4 hde4 f11 hk => ?_
  clear hK K
  replace f0 := (hk 0 (by decide)).trans f0
  replace f3 := (hk 3 (by decide)).trans f3
  replace f10 := (hk 10 (by decide)).trans f10
  replace f11 : a4.tmps[11]?.getD undef = .int .i64 3 := f11
  clear hk hsz3 hde3
  refine wpList_next rfl hsz4 hde4 12 rfl (by decide) fun K hK => ?_
  go_simp
  refine hK _ _ fun a5 hsz5 hde5 f12 hk => ?_
  clear hK K
  replace f0 := (hk 0 (by decide)).trans f0
  replace f3 := (hk 3 (by decide)).trans f3
  replace f10 := (hk 10 (by decide)).trans f10
  replace f11 := (hk 11 (by decide)).trans f11
  replace f12 : a5.tmps[12]?.getD undef = .int .i64 ((0 : Nat) : Int) := f12
  clear hk hsz4 hde4
  refine wpList_nil ?_
  refine then_go ?_
  repeat with_reducible refine wp_seq ?_
  refine wp_block ?_
  refine wp_loop_ghost (AlInv1 w E (.slice (some ⟨g, 0, none⟩) 3 3)) (3 - 0) ?_ ?_
  · exact ⟨0, _, hsz5, hde5, f3, f10, f11, f12, Lib.hid (by omega), Lib.hid (OwnE.nil _ _), Lib.hid (Below.refl _ _), rfl⟩
  clear hsz5 hde5 f0 f3 f10 f11 f12
  intro n0 a9 wr hI
  obtain ⟨k, u, hsz9, hde9, f3, f10, f11, f12, Hk, Hown, Hbw, hn0⟩ := hI
  have Hn0 := Lib.hid hn0
  clear hn0
  repeat with_reducible refine wp_seq ?_
  by_cases hlt : k < 3
  · skip
    refine wp_region_lit ?_
    refine wpList_next rfl hsz9 hde9 13 rfl (by decide) fun K hK => ?_
    go_simp
    refine hK _ _ fun a10 hsz10 hde10 f13 hk => ?_
    clear hK K
    replace f3 := (hk 3 (by decide)).trans f3
    replace f10 := (hk 10 (by decide)).trans f10
    replace f11 := (hk 11 (by decide)).trans f11
    replace f12 := (hk 12 (by decide)).trans f12
    clear hk hsz9 hde9
    replace f13 : a10.tmps[13]?.getD undef = .bool true := f13.trans (by first | rfl | (congr 1; first | exact decide_eq_true (by omega) | exact decide_eq_false (by omega)))
    refine wpList_nil ?_
    refine then_go ?_
    repeat with_reducible refine wp_seq ?_
    refine wp_cond_true (eval_at f13) ?_
    refine wp_skip ?_
    refine then_go ?_
    clear f13
    repeat with_reducible refine wp_seq ?_
    refine wp_block ?_
    repeat with_reducible refine wp_seq ?_
    obtain ⟨vk, hvk, hLk⟩ := Hvs.out k hlt
    obtain ⟨A1, c1, rfl⟩ : ∃ A c, vk = .slice A (E k).length c := let ⟨A, c, e, _⟩ := ent_at hLk; ⟨A, c, e⟩
    have hcell : wr.cell? ⟨g, k, none⟩ = some (.slice A1 (E k).length c1) := by rw [(Hb.out.below Hbw.out Hb.out.lt).cell]; exact hvk
    obtain ⟨n1, hn1⟩ : ∃ n, n = (E k).length := ⟨_, rfl⟩
    have HLk := Lib.hid (IsL.grow hLk Hbw.out)
    rw [← hn1] at hcell HLk
    have Hn1 := Lib.hid hn1
    have hk0 : (0 : Int) ≤ (k : Int) := by omega
    have hk3 : (k : Int) < 3 := by omega
    have Hrd := Lib.hid (IsL.rdE HLk.out)
    have Hal := Lib.hid (accE_length Hlen.out k (by omega))
    have Hle := Lib.hid (Hlen.out k hlt)
    clear hvk hLk hn1
    refine wp_region_lit ?_
    refine wpList_next rfl hsz10 hde10 14 rfl (by decide) fun K hK => ?_
    go_simp
    refine hK _ _ fun a11 hsz11 hde11 f14 hk => ?_
    clear hK K
    replace f3 := (hk 3 (by decide)).trans f3
    replace f10 := (hk 10 (by decide)).trans f10
    replace f11 := (hk 11 (by decide)).trans f11
    replace f12 := (hk 12 (by decide)).trans f12
    replace f14 : a11.tmps[14]?.getD undef = .pointer (some ⟨g, k, none⟩) := f14
    clear hk hsz10 hde10
    refine wpList_next rfl hsz11 hde11 15 rfl (by decide) fun K hK => ?_
    go_simp
    refine hK _ _ fun a12 hsz12 hde12 f15 hk => ?_
    clear hK K
    replace f3 := (hk 3 (by decide)).trans f3
    replace f10 := (hk 10 (by decide)).trans f10
    replace f11 := (hk 11 (by decide)).trans f11
    replace f12 := (hk 12 (by decide)).trans f12
    replace f15 : a12.tmps[15]?.getD undef = .slice A1 n1 c1 := f15
    clear hk hsz11 hde11 f14
    refine wpList_next rfl hsz12 hde12 5 rfl (by decide) fun K hK => ?_
    go_simp
    refine hK _ _ fun a13 hsz13 hde13 f5 hk => ?_
    clear hK K
    replace f3 := (hk 3 (by decide)).trans f3
    replace f10 := (hk 10 (by decide)).trans f10
    replace f11 := (hk 11 (by decide)).trans f11
    replace f12 := (hk 12 (by decide)).trans f12
    replace f5 : a13.tmps[5]?.getD undef = .slice A1 n1 c1 := f5
    clear hk hsz12 hde12 f15
    refine wpList_nil ?_
    refine then_go ?_
    repeat with_reducible refine wp_seq ?_
    refine wp_region_lit ?_
    refine wpList_next rfl hsz13 hde13 16 rfl (by decide) fun K hK => ?_
    go_simp
    refine hK _ _ fun a14 hsz14 hde14 f16 hk => ?_
    clear hK K
    replace f3 := (hk 3 (by decide)).trans f3
    replace f10 := (hk 10 (by decide)).trans f10
    replace f11 := (hk 11 (by decide)).trans f11
    replace f12 := (hk 12 (by decide)).trans f12
    replace f5 := (hk 5 (by decide)).trans f5
    replace f16 : a14.tmps[16]?.getD undef = u := f16
    clear hk hsz13 hde13
    refine wpList_next rfl hsz14 hde14 17 rfl (by decide) fun K hK => ?_
    go_simp
    refine hK _ _ fun a15 hsz15 hde15 f17 hk => ?_
    clear hK K
    replace f3 := (hk 3 (by decide)).trans f3
    replace f10 := (hk 10 (by decide)).trans f10
    replace f11 := (hk 11 (by decide)).trans f11
    replace f12 := (hk 12 (by decide)).trans f12
    replace f5 := (hk 5 (by decide)).trans f5
    replace f16 := (hk 16 (by decide)).trans f16
    replace f17 : a15.tmps[17]?.getD undef = .slice A1 n1 c1 := f17
    clear hk hsz14 hde14
    refine wpList_next rfl hsz15 hde15 18 rfl (by decide) fun K hK => ?_
    refine wp_appK elemE (.tmp 16) (.tmp 17) rfl w.heap.size (accE E k).length u (entsC (accE E k)) (eval_at f16) Hown.out.1 (fun _ => True) A1 n1 c1 (entsC (E k)) (by rw [entsC_length, Hn1.out]) (eval_at f17) Hrd.out.1 (entsC_each _) (by have := Hal.out; have := Hle.out; have := Hn1.out; omega) (by have := Hal.out; have := Hle.out; have := Hn1.out; omega) Hbw.out.size ?_
    intro u7 w7 hown7 hg7 _
    have Hb7 := Lib.hid (below_call_of Hbw.out Hown.out hg7)
    have Hown7 := Lib.hid (show OwnE w7 w.heap.size u7 (accE E (k + 1)) by rw [accE_succ]; exact OwnE.apps (M := accE E k) (N := E k) (by rw [← Hn1.out]; exact hown7) Hown.out.2 Hrd.out.2.2.2)
    clear hown7 hg7
    refine hK _ _ fun a16 hsz16 hde16 f18 hk => ?_
    clear hK K
    replace f3 := (hk 3 (by decide)).trans f3
    replace f10 := (hk 10 (by decide)).trans f10
    replace f11 := (hk 11 (by decide)).trans f11
    replace f12 := (hk 12 (by decide)).trans f12
    replace f5 := (hk 5 (by decide)).trans f5
    replace f18 : a16.tmps[18]?.getD undef = u7 := f18
    clear hk hsz15 hde15 f16 f17
    refine wpList_next rfl hsz16 hde16 3 rfl (by decide) fun K hK => ?_
    go_simp
    refine hK _ _ fun a17 hsz17 hde17 f3 hk => ?_
    clear hK K
    replace f10 := (hk 10 (by decide)).trans f10
    replace f11 := (hk 11 (by decide)).trans f11
    replace f12 := (hk 12 (by decide)).trans f12
    replace f5 := (hk 5 (by decide)).trans f5
    replace f3 : a17.tmps[3]?.getD undef = u7 := f3
    clear hk hsz16 hde16 f18
    refine wpList_nil ?_
    clear f5
    refine block_go ?_
    refine then_go ?_
    repeat with_reducible refine wp_seq ?_
    refine wp_region_lit ?_
    refine wpList_next rfl hsz17 hde17 19 rfl (by decide) fun K hK => ?_
    go_simp
    refine hK _ _ fun a18 hsz18 hde18 f19 hk => ?_
    clear hK K
    replace f10 := (hk 10 (by decide)).trans f10
    replace f11 := (hk 11 (by decide)).trans f11
    replace f12 := (hk 12 (by decide)).trans f12
    replace f3 := (hk 3 (by decide)).trans f3
    clear hk hsz17 hde17
    replace f19 : a18.tmps[19]?.getD undef = .int .i64 ((k + 1 : Nat) : Int) := f19.trans (by first | (congr 1; done) | (congr 1; rw [IntKind.wrap_i64] <;> omega))
    refine wpList_next rfl hsz18 hde18 12 rfl (by decide) fun K hK => ?_
    go_simp
    refine hK _ _ fun a19 hsz19 hde19 f12 hk => ?_
    clear hK K
    replace f10 := (hk 10 (by decide)).trans f10
    replace f11 := (hk 11 (by decide)).trans f11
    replace f3 := (hk 3 (by decide)).trans f3
    replace f12 : a19.tmps[12]?.getD undef = .int .i64 ((k + 1 : Nat) : Int) := f12
    clear hk hsz18 hde18 f19
    refine wpList_nil ?_
    refine then_go ?_
    exact ⟨3 - (k + 1), by rw [Hn0.out]; omega, k + 1, u7, hsz19, hde19, f3, f10, f11, f12, Lib.hid (by omega), Hown7, Hb7, rfl⟩
  refine wp_region_lit ?_
  refine wpList_next rfl hsz9 hde9 13 rfl (by decide) fun K hK => ?_
  go_simp
  refine hK _ _ fun a10 hsz10 hde10 f13 hk => ?_
  clear hK K
  replace f3 := (hk 3 (by decide)).trans f3
  replace f10 := (hk 10 (by decide)).trans f10
  replace f11 := (hk 11 (by decide)).trans f11
  replace f12 := (hk 12 (by decide)).trans f12
  clear hk hsz9 hde9
  replace f13 : a10.tmps[13]?.getD undef = .bool false := f13.trans (by first | rfl | (congr 1; first | exact decide_eq_true (by omega) | exact decide_eq_false (by omega)))
  refine wpList_nil ?_
  refine then_go ?_
  repeat with_reducible refine wp_seq ?_
  refine wp_cond_false (eval_at f13) ?_
  refine wp_exit ?_
  repeat with_reducible refine then_exit ?_
  refine block_exit ?_
  refine then_go ?_
  clear f13 f10 f11 f12
  repeat with_reducible refine wp_seq ?_
  obtain rfl : k = 3 := by have := Hk.out; omega
  obtain ⟨G, hG⟩ : ∃ G, G = accE E 3 := ⟨_, rfl⟩
  rw [← hG] at Hown ⊢
  have Hgl := Lib.hid (show G.length ≤ 120 by rw [hG]; exact accE_length Hlen.out 3 (Nat.le_refl _))
  obtain ⟨wc, hwc⟩ : ∃ wc, wc = wr := ⟨_, rfl⟩
  rw [← hwc] at Hown Hbw ⊢
  have Hu := Lib.hid Hown.out.isL
  obtain ⟨A, c, rfl, hc1, hc2, hE⟩ := ent_at Hu.out
  have Hel := Lib.hid hE
  obtain ⟨n, hn⟩ : ∃ n, n = G.length := ⟨_, rfl⟩
  rw [← hn] at f3 hc1
  have Hn := Lib.hid hn
  have hnl : n ≤ 120 := by rw [hn]; exact Hgl.out
  have hmx : maxLen ≤ 9223372036854775807 := by decide
  clear hE hn hwc hG Hk Hown Hu hlt
  refine wp_region_lit ?_
  refine wpList_next rfl hsz10 hde10 20 rfl (by decide) fun K hK => ?_
  go_simp
  refine hK _ _ fun a11 hsz11 hde11 f20 hk => ?_
  clear hK K
  replace f3 := (hk 3 (by decide)).trans f3
  replace f20 : a11.tmps[20]?.getD undef = .slice A n c := f20
  clear hk hsz10 hde10
  refine wpList_next rfl hsz11 hde11 21 rfl (by decide) fun K hK => ?_
  go_simp
  refine hK _ _ fun a12 hsz12 hde12 f21 hk => ?_
  clear hK K
  replace f3 := (hk 3 (by decide)).trans f3
  replace f20 := (hk 20 (by decide)).trans f20
  replace f21 : a12.tmps[21]?.getD undef = .int .i64 ((n : Nat) : Int) := f21
  clear hk hsz11 hde11
  refine wpList_next rfl hsz12 hde12 22 rfl (by decide) fun K hK => ?_
  go_simp
  refine hK _ _ fun a13 hsz13 hde13 f22 hk => ?_
  clear hK K
  replace f3 := (hk 3 (by decide)).trans f3
  replace f20 := (hk 20 (by decide)).trans f20
  replace f21 := (hk 21 (by decide)).trans f21
  replace f22 : a13.tmps[22]?.getD undef = .int .i64 ((0 : Nat) : Int) := f22
  clear hk hsz12 hde12
  refine wpList_nil ?_
  refine then_go ?_
  repeat with_reducible refine wp_seq ?_
  refine wp_block ?_
  refine wp_loop_ghost (AlInv2 wc (.slice A n c) n G) (n - 0) ?_ ?_
  · exact ⟨0, hsz13, hde13, f3, f20, f21, f22, Lib.hid (by omega), Lib.hid (Below.refl _ _), Lib.hid (fun p q _ _ _ h => by omega), rfl⟩
  clear hsz13 hde13 f3 f20 f21 f22
  intro n2 a19 wr2 hI
  obtain ⟨i, hsz19, hde19, f3, f20, f21, f22, Hi, Hbi, Hall, hn2⟩ := hI
  have Hn2 := Lib.hid hn2
  clear hn2
  repeat with_reducible refine wp_seq ?_
  by_cases hlt : i < n
  · skip
    refine wp_region_lit ?_
    refine wpList_next rfl hsz19 hde19 23 rfl (by decide) fun K hK => ?_
    go_simp
    refine hK _ _ fun a20 hsz20 hde20 f23 hk => ?_
    clear hK K
    replace f3 := (hk 3 (by decide)).trans f3
    replace f20 := (hk 20 (by decide)).trans f20
    replace f21 := (hk 21 (by decide)).trans f21
    replace f22 := (hk 22 (by decide)).trans f22
    clear hk hsz19 hde19
    replace f23 : a20.tmps[23]?.getD undef = .bool true := f23.trans (by first | rfl | (congr 1; first | exact decide_eq_true (by omega) | exact decide_eq_false (by omega)))
    refine wpList_nil ?_
    refine then_go ?_
    repeat with_reducible refine wp_seq ?_
    refine wp_cond_true (eval_at f23) ?_
    refine wp_skip ?_
    refine then_go ?_
    clear f23
    repeat with_reducible refine wp_seq ?_
    refine wp_block ?_
    repeat with_reducible refine wp_seq ?_
    have hil : i < G.length := by rw [← Hn.out]; exact hlt
    obtain ⟨b, off, rfl, _, _, hel⟩ := Hel.out (by intro e; subst e; simp at hil)
    have Hrow := Lib.hid (show ∀ j (hj : j < G.length) z, Below wc.heap.size wc z → z.rangeAt b (off + j * 15) (entC G[j]).toList from fun j hj z hz => range_ext (hel j hj).1 hz)
    obtain ⟨X, hX⟩ : ∃ X, X = G[i] := ⟨_, rfl⟩
    have HX := Lib.hid hX
    obtain ⟨CX, hCX⟩ : ∃ C, C = entC X := ⟨_, rfl⟩
    have HrX := Lib.hid (show ∀ z, Below wc.heap.size wc z → z.rangeAt b (off + i * 15) CX.toList from fun z hz => by rw [hCX, hX]; exact Hrow.out i hil z hz)
    have HinfX := Lib.hid (show (Tryd.prog.info? 29).map (·.size) = some CX.toList.length by rw [hCX]; exact ent_info)
    have HinfXs := Lib.hid (show (Tryd.prog.info? 29).map (·.size) = some CX.size by rw [hCX]; exact ent_info)
    have HoneX := Lib.hid (show CX.all (·.oneCell') = true by rw [hCX]; exact entC_one X)
    have hCXs : CX.size = 15 := by rw [hCX]; rfl
    have hi0 : (0 : Int) ≤ (i : Int) := by omega
    have hin : (i : Int) < (n : Int) := by omega
    have HCX := Lib.hid hCX
    have Hhr := Lib.hid (head_run (b := b) (off := off) (Nat.le_of_lt hlt) hc1 (by omega))
    clear hel hX hCX
    refine wp_region_lit ?_
    refine wpList_next rfl hsz20 hde20 24 rfl (by decide) fun K hK => ?_
    go_simp
    refine hK _ _ fun a21 hsz21 hde21 f24 hk => ?_
    clear hK K
    replace f3 := (hk 3 (by decide)).trans f3
    replace f20 := (hk 20 (by decide)).trans f20
    replace f21 := (hk 21 (by decide)).trans f21
    replace f22 := (hk 22 (by decide)).trans f22
    replace f24 : a21.tmps[24]?.getD undef = .int .i64 ((i : Nat) : Int) := f24
    clear hk hsz20 hde20
    refine wpList_next rfl hsz21 hde21 25 rfl (by decide) fun K hK => ?_
    go_simp
    refine hK _ _ fun a22 hsz22 hde22 f25 hk => ?_
    clear hK K
    replace f3 := (hk 3 (by decide)).trans f3
    replace f20 := (hk 20 (by decide)).trans f20
    replace f21 := (hk 21 (by decide)).trans f21
    replace f22 := (hk 22 (by decide)).trans f22
    replace f24 := (hk 24 (by decide)).trans f24
    replace f25 : a22.tmps[25]?.getD undef = .pointer (some ⟨b, off + i * 15, none⟩) := f25
    clear hk hsz21 hde21
    refine wpList_next rfl hsz22 hde22 26 rfl (by decide) fun K hK => ?_
    refine wp_load_mid 29 (.tmp 25) rfl b (off + i * 15) (eval_at f25) CX.toList _ (HrX.out _ Hbi.out) Tryd.underlying29 rfl HinfX.out ?_
    refine hK _ _ fun a23 hsz23 hde23 f26 hk => ?_
    clear hK K
    replace f3 := (hk 3 (by decide)).trans f3
    replace f20 := (hk 20 (by decide)).trans f20
    replace f21 := (hk 21 (by decide)).trans f21
    replace f22 := (hk 22 (by decide)).trans f22
    replace f24 := (hk 24 (by decide)).trans f24
    replace f26 : a23.tmps[26]?.getD undef = .agg CX := f26
    clear hk hsz22 hde22 f25
    refine wpList_next rfl hsz23 hde23 7 rfl (by decide) fun K hK => ?_
    go_simp
    refine hK _ _ fun a24 hsz24 hde24 f7 hk => ?_
    clear hK K
    replace f3 := (hk 3 (by decide)).trans f3
    replace f20 := (hk 20 (by decide)).trans f20
    replace f21 := (hk 21 (by decide)).trans f21
    replace f22 := (hk 22 (by decide)).trans f22
    replace f24 := (hk 24 (by decide)).trans f24
    replace f26 := (hk 26 (by decide)).trans f26
    replace f7 : a24.tmps[7]?.getD undef = .pointer (some ⟨wr2.heap.size, 0, none⟩) := f7
    clear hk hsz23 hde23
    refine wpList_next rfl hsz24 hde24 6 rfl (by decide) fun K hK => ?_
    go_simp
    refine hK _ _ fun a25 hsz25 hde25 f6 hk => ?_
    clear hK K
    replace f3 := (hk 3 (by decide)).trans f3
    replace f20 := (hk 20 (by decide)).trans f20
    replace f21 := (hk 21 (by decide)).trans f21
    replace f22 := (hk 22 (by decide)).trans f22
    replace f26 := (hk 26 (by decide)).trans f26
    replace f7 := (hk 7 (by decide)).trans f7
    replace f6 : a25.tmps[6]?.getD undef = .int .i64 ((i : Nat) : Int) := f6
    clear hk hsz24 hde24 f24
    refine wpList_next0 rfl rfl fun K hK => ?_
    refine wp_store_new 29 (.tmp 7) (.tmp 26) rfl zeroE CX (eval_at f7) (eval_at f26) HinfXs.out (by rw [hCXs]; rfl) HoneX.out ?_
    refine hK undef _ ?_
    clear hK K
    clear f26
    refine wpList_nil ?_
    obtain ⟨p, hp⟩ : ∃ p, p = wr2.heap.size := ⟨_, rfl⟩
    obtain ⟨wa, hwa⟩ : ∃ wa, wa = wr2.alloc (.cells CX 29) := ⟨_, rfl⟩
    have Hpw := Lib.hid (show wc.heap.size ≤ p by rw [hp]; exact Hbi.out.size)
    have HPb := Lib.hid (show Blk wa p 29 (entC { X with by_ := X.by_ }) by rw [hwa, hp, HCX.out]; exact Blk.new _ _ _)
    have HPl := Lib.hid (show Below wc.heap.size wc wa by rw [hwa]; exact Hbi.out.alloc Hbi.out.size _)
    rw [← hwa]
    rw [← hp] at f7
    clear hwa hp
    refine then_go ?_
    repeat with_reducible refine wp_seq ?_
    refine wp_region_lit ?_
    refine wpList_next rfl hsz25 hde25 27 rfl (by decide) fun K hK => ?_
    go_simp
    refine hK _ _ fun a26 hsz26 hde26 f27 hk => ?_
    clear hK K
    replace f3 := (hk 3 (by decide)).trans f3
    replace f20 := (hk 20 (by decide)).trans f20
    replace f21 := (hk 21 (by decide)).trans f21
    replace f22 := (hk 22 (by decide)).trans f22
    replace f7 := (hk 7 (by decide)).trans f7
    replace f6 := (hk 6 (by decide)).trans f6
    replace f27 : a26.tmps[27]?.getD undef = .slice (some ⟨b, off, none⟩) n c := f27
    clear hk hsz25 hde25
    refine wpList_next rfl hsz26 hde26 28 rfl (by decide) fun K hK => ?_
    go_simp
    refine hK _ _ fun a27 hsz27 hde27 f28 hk => ?_
    clear hK K
    replace f3 := (hk 3 (by decide)).trans f3
    replace f20 := (hk 20 (by decide)).trans f20
    replace f21 := (hk 21 (by decide)).trans f21
    replace f22 := (hk 22 (by decide)).trans f22
    replace f7 := (hk 7 (by decide)).trans f7
    replace f6 := (hk 6 (by decide)).trans f6
    replace f27 := (hk 27 (by decide)).trans f27
    replace f28 : a27.tmps[28]?.getD undef = .int .i64 ((i : Nat) : Int) := f28
    clear hk hsz26 hde26
    refine wpList_next rfl hsz27 hde27 29 rfl (by decide) fun K hK => ?_
    refine wp_head (.tmp 27) (.tmp 28) rfl (eval_at f27) (eval_at f28) Hhr.out ?_
    refine hK _ _ fun a28 hsz28 hde28 f29 hk => ?_
    clear hK K
    replace f3 := (hk 3 (by decide)).trans f3
    replace f20 := (hk 20 (by decide)).trans f20
    replace f21 := (hk 21 (by decide)).trans f21
    replace f22 := (hk 22 (by decide)).trans f22
    replace f7 := (hk 7 (by decide)).trans f7
    replace f6 := (hk 6 (by decide)).trans f6
    replace f29 : a28.tmps[29]?.getD undef = .slice (some ⟨b, off, none⟩) i c := f29
    clear hk hsz27 hde27 f27 f28
    refine wpList_next rfl hsz28 hde28 30 rfl (by decide) fun K hK => ?_
    go_simp
    refine hK _ _ fun a29 hsz29 hde29 f30 hk => ?_
    clear hK K
    replace f3 := (hk 3 (by decide)).trans f3
    replace f20 := (hk 20 (by decide)).trans f20
    replace f21 := (hk 21 (by decide)).trans f21
    replace f22 := (hk 22 (by decide)).trans f22
    replace f7 := (hk 7 (by decide)).trans f7
    replace f6 := (hk 6 (by decide)).trans f6
    replace f29 := (hk 29 (by decide)).trans f29
    replace f30 : a29.tmps[30]?.getD undef = .int .i64 ((i : Nat) : Int) := f30
    clear hk hsz28 hde28
    refine wpList_next rfl hsz29 hde29 31 rfl (by decide) fun K hK => ?_
    go_simp
    refine hK _ _ fun a30 hsz30 hde30 f31 hk => ?_
    clear hK K
    replace f3 := (hk 3 (by decide)).trans f3
    replace f20 := (hk 20 (by decide)).trans f20
    replace f21 := (hk 21 (by decide)).trans f21
    replace f22 := (hk 22 (by decide)).trans f22
    replace f7 := (hk 7 (by decide)).trans f7
    replace f6 := (hk 6 (by decide)).trans f6
    replace f29 := (hk 29 (by decide)).trans f29
    replace f30 := (hk 30 (by decide)).trans f30
    replace f31 : a30.tmps[31]?.getD undef = .int .i64 ((0 : Nat) : Int) := f31
    clear hk hsz29 hde29
    refine wpList_nil ?_
    clear f6
    refine then_go ?_
    repeat with_reducible refine wp_seq ?_
    refine wp_block ?_
    refine wp_loop_ghost (AlInv3 wc (.slice (some ⟨b, off, none⟩) n c) (.slice (some ⟨b, off, none⟩) i c) n i p X G) (i - 0) ?_ ?_
    · exact ⟨0, X.by_, hsz30, hde30, f3, f20, f21, f22, f7, f29, f30, f31, Lib.hid (by omega), HPl, HPb, Lib.hid (fun q _ h => by omega), rfl⟩
    clear hsz30 hde30 f3 f20 f21 f22 f7 f29 f30 f31 HPb HPl
    intro n3 a29 wr3 hI
    obtain ⟨j, V, hsz29, hde29, f3, f20, f21, f22, f7, f29, f30, f31, Hj, Hbj, HPb, Hallj, hn3⟩ := hI
    have Hn3 := Lib.hid hn3
    clear hn3
    repeat with_reducible refine wp_seq ?_
    by_cases hjt : j < i
    · skip
      refine wp_region_lit ?_
      refine wpList_next rfl hsz29 hde29 32 rfl (by decide) fun K hK => ?_
      go_simp
      refine hK _ _ fun a30 hsz30 hde30 f32 hk => ?_
      clear hK K
      replace f3 := (hk 3 (by decide)).trans f3
      replace f20 := (hk 20 (by decide)).trans f20
      replace f21 := (hk 21 (by decide)).trans f21
      replace f22 := (hk 22 (by decide)).trans f22
      replace f7 := (hk 7 (by decide)).trans f7
      replace f29 := (hk 29 (by decide)).trans f29
      replace f30 := (hk 30 (by decide)).trans f30
      replace f31 := (hk 31 (by decide)).trans f31
      clear hk hsz29 hde29
      replace f32 : a30.tmps[32]?.getD undef = .bool true := f32.trans (by first | rfl | (congr 1; first | exact decide_eq_true (by omega) | exact decide_eq_false (by omega)))
      refine wpList_nil ?_
      refine then_go ?_
      repeat with_reducible refine wp_seq ?_
      refine wp_cond_true (eval_at f32) ?_
      refine wp_skip ?_
      refine then_go ?_
      clear f32
      repeat with_reducible refine wp_seq ?_
      refine wp_block ?_
      repeat with_reducible refine wp_seq ?_
      have hjl : j < G.length := by omega
      obtain ⟨Y, hY⟩ : ∃ Y, Y = G[j] := ⟨_, rfl⟩
      have HY := Lib.hid hY
      obtain ⟨CY, hCY⟩ : ∃ C, C = entC Y := ⟨_, rfl⟩
      have HrY := Lib.hid (show wr3.rangeAt b (off + j * 15) CY.toList by rw [hCY, hY]; exact Hrow.out j hjl wr3 Hbj.out)
      have HinfY := Lib.hid (show (Tryd.prog.info? 29).map (·.size) = some CY.toList.length by rw [hCY]; exact ent_info)
      have HinfYs := Lib.hid (show (Tryd.prog.info? 29).map (·.size) = some CY.size by rw [hCY]; exact ent_info)
      have HoneY := Lib.hid (show CY.all (·.oneCell') = true by rw [hCY]; exact entC_one Y)
      have hCYs : CY.size = 15 := by rw [hCY]; rfl
      have HCY := Lib.hid hCY
      have hj0 : (0 : Int) ≤ (j : Int) := by omega
      have hji : (j : Int) < (i : Int) := by omega
      clear hY hCY
      refine wp_region_lit ?_
      refine wpList_next rfl hsz30 hde30 33 rfl (by decide) fun K hK => ?_
      go_simp
      refine hK _ _ fun a31 hsz31 hde31 f33 hk => ?_
      clear hK K
      replace f3 := (hk 3 (by decide)).trans f3
      replace f20 := (hk 20 (by decide)).trans f20
      replace f21 := (hk 21 (by decide)).trans f21
      replace f22 := (hk 22 (by decide)).trans f22
      replace f7 := (hk 7 (by decide)).trans f7
      replace f29 := (hk 29 (by decide)).trans f29
      replace f30 := (hk 30 (by decide)).trans f30
      replace f31 := (hk 31 (by decide)).trans f31
      replace f33 : a31.tmps[33]?.getD undef = .pointer (some ⟨b, off + j * 15, none⟩) := f33
      clear hk hsz30 hde30
      refine wpList_next rfl hsz31 hde31 34 rfl (by decide) fun K hK => ?_
      refine wp_load_mid 29 (.tmp 33) rfl b (off + j * 15) (eval_at f33) CY.toList _ HrY.out Tryd.underlying29 rfl HinfY.out ?_
      refine hK _ _ fun a32 hsz32 hde32 f34 hk => ?_
      clear hK K
      replace f3 := (hk 3 (by decide)).trans f3
      replace f20 := (hk 20 (by decide)).trans f20
      replace f21 := (hk 21 (by decide)).trans f21
      replace f22 := (hk 22 (by decide)).trans f22
      replace f7 := (hk 7 (by decide)).trans f7
      replace f29 := (hk 29 (by decide)).trans f29
      replace f30 := (hk 30 (by decide)).trans f30
      replace f31 := (hk 31 (by decide)).trans f31
      replace f34 : a32.tmps[34]?.getD undef = .agg CY := f34
      clear hk hsz31 hde31 f33
      refine wpList_next rfl hsz32 hde32 9 rfl (by decide) fun K hK => ?_
      go_simp
      refine hK _ _ fun a33 hsz33 hde33 f9 hk => ?_
      clear hK K
      replace f3 := (hk 3 (by decide)).trans f3
      replace f20 := (hk 20 (by decide)).trans f20
      replace f21 := (hk 21 (by decide)).trans f21
      replace f22 := (hk 22 (by decide)).trans f22
      replace f7 := (hk 7 (by decide)).trans f7
      replace f29 := (hk 29 (by decide)).trans f29
      replace f30 := (hk 30 (by decide)).trans f30
      replace f31 := (hk 31 (by decide)).trans f31
      replace f34 := (hk 34 (by decide)).trans f34
      replace f9 : a33.tmps[9]?.getD undef = .pointer (some ⟨wr3.heap.size, 0, none⟩) := f9
      clear hk hsz32 hde32
      refine wpList_next0 rfl rfl fun K hK => ?_
      refine wp_store_new 29 (.tmp 9) (.tmp 34) rfl zeroE CY (eval_at f9) (eval_at f34) HinfYs.out (by rw [hCYs]; rfl) HoneY.out ?_
      refine hK undef _ ?_
      clear hK K
      clear f34
      refine wpList_nil ?_
      obtain ⟨r, hr⟩ : ∃ r, r = wr3.heap.size := ⟨_, rfl⟩
      obtain ⟨wd, hwd⟩ : ∃ wd, wd = wr3.alloc (.cells CY 29) := ⟨_, rfl⟩
      have Hrw := Lib.hid (show wc.heap.size ≤ r by rw [hr]; exact Hbj.out.size)
      have Hpr := Lib.hid (show p ≠ r by rw [hr]; exact Nat.ne_of_lt HPb.out.lt)
      have HRb := Lib.hid (show Blk wd r 29 (entC { Y with by_ := Y.by_ }) by rw [hwd, hr, HCY.out]; exact Blk.new _ _ _)
      have HPb2 := Lib.hid (show Blk wd p 29 (entC { X with by_ := V }) by rw [hwd]; exact HPb.out.alloc _)
      have HPl := Lib.hid (show Below wc.heap.size wc wd by rw [hwd]; exact Hbj.out.alloc Hbj.out.size _)
      rw [← hwd]
      rw [← hr] at f9
      clear hwd hr
      refine then_go ?_
      repeat with_reducible refine wp_seq ?_
      have Hx1 := Lib.hid (by_put HPb2.out)
      obtain ⟨we, hwe⟩ : ∃ we, we = wd.setCells p 7 (#[.int .u32 0, .int .u32 0, .int .u32 0, .int .u32 0, .int .u32 0, .int .u32 0, .int .u32 0, .int .u32 0] : Array Value).toList := ⟨_, rfl⟩
      have HPb3 := Lib.hid (show Blk we p 29 (entC { X with by_ := zeroV }) by rw [hwe]; exact Hx1.out.1)
      have HRb3 := Lib.hid (show Blk we r 29 (entC { Y with by_ := Y.by_ }) by rw [hwe]; exact HRb.out.keep (heap_setCells p _ 7 wd r (Ne.symm Hpr.out)))
      have HPl3 := Lib.hid (show Below wc.heap.size wc we by rw [hwe]; exact below_setCells HPl.out Hpw.out HPl.out.size 7 _)
      have Hwe := Lib.hid hwe
      have Hx2 := Lib.hid (by_put HRb3.out)
      clear hwe
      refine wp_region_lit ?_
      refine wpList_next rfl hsz33 hde33 35 rfl (by decide) fun K hK => ?_
      go_simp
      refine hK _ _ fun a34 hsz34 hde34 f35 hk => ?_
      clear hK K
      replace f3 := (hk 3 (by decide)).trans f3
      replace f20 := (hk 20 (by decide)).trans f20
      replace f21 := (hk 21 (by decide)).trans f21
      replace f22 := (hk 22 (by decide)).trans f22
      replace f7 := (hk 7 (by decide)).trans f7
      replace f29 := (hk 29 (by decide)).trans f29
      replace f30 := (hk 30 (by decide)).trans f30
      replace f31 := (hk 31 (by decide)).trans f31
      replace f9 := (hk 9 (by decide)).trans f9
      replace f35 : a34.tmps[35]?.getD undef = .agg #[.int .u32 0, .int .u32 0, .int .u32 0, .int .u32 0, .int .u32 0, .int .u32 0, .int .u32 0, .int .u32 0] := f35
      clear hk hsz33 hde33
      refine wpList_next rfl hsz34 hde34 36 rfl (by decide) fun K hK => ?_
      go_simp
      refine hK _ _ fun a35 hsz35 hde35 f36 hk => ?_
      clear hK K
      replace f3 := (hk 3 (by decide)).trans f3
      replace f20 := (hk 20 (by decide)).trans f20
      replace f21 := (hk 21 (by decide)).trans f21
      replace f22 := (hk 22 (by decide)).trans f22
      replace f7 := (hk 7 (by decide)).trans f7
      replace f29 := (hk 29 (by decide)).trans f29
      replace f30 := (hk 30 (by decide)).trans f30
      replace f31 := (hk 31 (by decide)).trans f31
      replace f9 := (hk 9 (by decide)).trans f9
      replace f35 := (hk 35 (by decide)).trans f35
      replace f36 : a35.tmps[36]?.getD undef = .agg #[.int .u32 0, .int .u32 0, .int .u32 0, .int .u32 0, .int .u32 0, .int .u32 0, .int .u32 0, .int .u32 0] := f36
      clear hk hsz34 hde34
      refine wpList_next rfl hsz35 hde35 37 rfl (by decide) fun K hK => ?_
      go_simp
      refine hK _ _ fun a36 hsz36 hde36 f37 hk => ?_
      clear hK K
      replace f3 := (hk 3 (by decide)).trans f3
      replace f20 := (hk 20 (by decide)).trans f20
      replace f21 := (hk 21 (by decide)).trans f21
      replace f22 := (hk 22 (by decide)).trans f22
      replace f7 := (hk 7 (by decide)).trans f7
      replace f29 := (hk 29 (by decide)).trans f29
      replace f30 := (hk 30 (by decide)).trans f30
      replace f31 := (hk 31 (by decide)).trans f31
      replace f9 := (hk 9 (by decide)).trans f9
      replace f35 := (hk 35 (by decide)).trans f35
      replace f36 := (hk 36 (by decide)).trans f36
      replace f37 : a36.tmps[37]?.getD undef = .pointer (some ⟨p, 7, none⟩) := f37
      clear hk hsz35 hde35
      refine wpList_next0 rfl rfl fun K hK => ?_
      refine wp_store_mid 27 (.tmp 37) (.tmp 35) rfl p 7 #[.int .u32 0, .int .u32 0, .int .u32 0, .int .u32 0, .int .u32 0, .int .u32 0, .int .u32 0, .int .u32 0] (eval_at f37) (eval_at f35) Hx1.out.2 vec_info (by simp [Value.oneCell']) ?_
      refine hK undef _ ?_
      clear hK K
      rw [← Hwe.out]
      refine wpList_next rfl hsz36 hde36 38 rfl (by decide) fun K hK => ?_
      go_simp
      refine hK _ _ fun a37 hsz37 hde37 f38 hk => ?_
      clear hK K
      replace f3 := (hk 3 (by decide)).trans f3
      replace f20 := (hk 20 (by decide)).trans f20
      replace f21 := (hk 21 (by decide)).trans f21
      replace f22 := (hk 22 (by decide)).trans f22
      replace f7 := (hk 7 (by decide)).trans f7
      replace f29 := (hk 29 (by decide)).trans f29
      replace f30 := (hk 30 (by decide)).trans f30
      replace f31 := (hk 31 (by decide)).trans f31
      replace f9 := (hk 9 (by decide)).trans f9
      replace f36 := (hk 36 (by decide)).trans f36
      replace f38 : a37.tmps[38]?.getD undef = .pointer (some ⟨r, 7, none⟩) := f38
      clear hk hsz36 hde36 f35 f37
      refine wpList_next0 rfl rfl fun K hK => ?_
      refine wp_store_mid 27 (.tmp 38) (.tmp 36) rfl r 7 #[.int .u32 0, .int .u32 0, .int .u32 0, .int .u32 0, .int .u32 0, .int .u32 0, .int .u32 0, .int .u32 0] (eval_at f38) (eval_at f36) Hx2.out.2 vec_info (by simp [Value.oneCell']) ?_
      refine hK undef _ ?_
      clear hK K
      clear f36 f38
      refine wpList_nil ?_
      obtain ⟨wf, hwf⟩ : ∃ wf, wf = we.setCells r 7 (#[.int .u32 0, .int .u32 0, .int .u32 0, .int .u32 0, .int .u32 0, .int .u32 0, .int .u32 0, .int .u32 0] : Array Value).toList := ⟨_, rfl⟩
      have HPb4 := Lib.hid (show Blk wf p 29 (entC { X with by_ := zeroV }) by rw [hwf]; exact HPb3.out.keep (heap_setCells r _ 7 we p Hpr.out))
      have HRb4 := Lib.hid (show Blk wf r 29 (entC { Y with by_ := zeroV }) by rw [hwf]; exact Hx2.out.1)
      have HPl4 := Lib.hid (show Below wc.heap.size wc wf by rw [hwf]; exact below_setCells HPl3.out Hrw.out HPl3.out.size 7 _)
      rw [← hwf]
      clear hwf HPb2 HRb HPl HPb3 HRb3 HPl3 Hx1 Hx2 HPb Hwe
      refine then_go ?_
      repeat with_reducible refine wp_seq ?_
      obtain ⟨IX, hIX⟩ : ∃ C, C = idC X.rep X.seq := ⟨_, rfl⟩
      obtain ⟨IY, hIY⟩ : ∃ C, C = idC Y.rep Y.seq := ⟨_, rfl⟩
      obtain ⟨DX, hDX⟩ : ∃ C, C = entC { X with by_ := zeroV } := ⟨_, rfl⟩
      obtain ⟨DY, hDY⟩ : ∃ C, C = entC { Y with by_ := zeroV } := ⟨_, rfl⟩
      have hiX : wf.rangeAt p 0 IX.toList := by rw [hIX]; exact HPb4.out.ent.id
      have hiY : wf.rangeAt r 0 IY.toList := by rw [hIY]; exact HRb4.out.ent.id
      have hdX : wf.rangeAt p 0 DX.toList := by rw [hDX]; exact HPb4.out.ent.all
      have hdY : wf.rangeAt r 0 DY.toList := by rw [hDY]; exact HRb4.out.ent.all
      have HiX := Lib.hid hiX
      have HiY := Lib.hid hiY
      have HdX := Lib.hid hdX
      have HdY := Lib.hid hdY
      have HfIX := Lib.hid (show (Tryd.prog.info? 25).map (·.size) = some IX.toList.length by rw [hIX]; exact id_info)
      have HfIY := Lib.hid (show (Tryd.prog.info? 25).map (·.size) = some IY.toList.length by rw [hIY]; exact id_info)
      have HfDX := Lib.hid (show (Tryd.prog.info? 29).map (·.size) = some DX.toList.length by rw [hDX]; exact ent_info)
      have HfDY := Lib.hid (show (Tryd.prog.info? 29).map (·.size) = some DY.toList.length by rw [hDY]; exact ent_info)
      have heq := fun z => ideq_run X.rep X.seq Y.rep Y.seq z
      have hne := fun z => ent_neq_zero X Y z
      rw [← hIX, ← hIY] at heq
      rw [← hDX, ← hDY] at hne
      obtain ⟨q, hq⟩ : ∃ q, q = sameI X.rep X.seq Y.rep Y.seq := ⟨_, rfl⟩
      obtain ⟨m, hm⟩ : ∃ m, m = (!decide (AlikeX X Y)) := ⟨_, rfl⟩
      rw [← hq] at heq
      rw [← hm] at hne
      have Heq := Lib.hid heq
      have Hne := Lib.hid hne
      have Hq := Lib.hid hq
      have Hm := Lib.hid hm
      clear hIX hIY hDX hDY hiX hiY hdX hdY heq hne hq hm HRb4
      refine wp_region_lit ?_
      refine wpList_next rfl hsz37 hde37 39 rfl (by decide) fun K hK => ?_
      go_simp
      refine hK _ _ fun a38 hsz38 hde38 f39 hk => ?_
      clear hK K
      replace f3 := (hk 3 (by decide)).trans f3
      replace f20 := (hk 20 (by decide)).trans f20
      replace f21 := (hk 21 (by decide)).trans f21
      replace f22 := (hk 22 (by decide)).trans f22
      replace f7 := (hk 7 (by decide)).trans f7
      replace f29 := (hk 29 (by decide)).trans f29
      replace f30 := (hk 30 (by decide)).trans f30
      replace f31 := (hk 31 (by decide)).trans f31
      replace f9 := (hk 9 (by decide)).trans f9
      replace f39 : a38.tmps[39]?.getD undef = .pointer (some ⟨p, 0, none⟩) := f39
      clear hk hsz37 hde37
      refine wpList_next rfl hsz38 hde38 40 rfl (by decide) fun K hK => ?_
      refine wp_load_mid 25 (.tmp 39) rfl p 0 (eval_at f39) IX.toList _ HiX.out Tryd.underlying25 rfl HfIX.out ?_
      refine hK _ _ fun a39 hsz39 hde39 f40 hk => ?_
      clear hK K
      replace f3 := (hk 3 (by decide)).trans f3
      replace f20 := (hk 20 (by decide)).trans f20
      replace f21 := (hk 21 (by decide)).trans f21
      replace f22 := (hk 22 (by decide)).trans f22
      replace f7 := (hk 7 (by decide)).trans f7
      replace f29 := (hk 29 (by decide)).trans f29
      replace f30 := (hk 30 (by decide)).trans f30
      replace f31 := (hk 31 (by decide)).trans f31
      replace f9 := (hk 9 (by decide)).trans f9
      replace f40 : a39.tmps[40]?.getD undef = .agg IX := f40
      clear hk hsz38 hde38 f39
      refine wpList_next rfl hsz39 hde39 41 rfl (by decide) fun K hK => ?_
      go_simp
      refine hK _ _ fun a40 hsz40 hde40 f41 hk => ?_
      clear hK K
      replace f3 := (hk 3 (by decide)).trans f3
      replace f20 := (hk 20 (by decide)).trans f20
      replace f21 := (hk 21 (by decide)).trans f21
      replace f22 := (hk 22 (by decide)).trans f22
      replace f7 := (hk 7 (by decide)).trans f7
      replace f29 := (hk 29 (by decide)).trans f29
      replace f30 := (hk 30 (by decide)).trans f30
      replace f31 := (hk 31 (by decide)).trans f31
      replace f9 := (hk 9 (by decide)).trans f9
      replace f40 := (hk 40 (by decide)).trans f40
      replace f41 : a40.tmps[41]?.getD undef = .pointer (some ⟨r, 0, none⟩) := f41
      clear hk hsz39 hde39
      refine wpList_next rfl hsz40 hde40 42 rfl (by decide) fun K hK => ?_
      refine wp_load_mid 25 (.tmp 41) rfl r 0 (eval_at f41) IY.toList _ HiY.out Tryd.underlying25 rfl HfIY.out ?_
      refine hK _ _ fun a41 hsz41 hde41 f42 hk => ?_
      clear hK K
      replace f3 := (hk 3 (by decide)).trans f3
      replace f20 := (hk 20 (by decide)).trans f20
      replace f21 := (hk 21 (by decide)).trans f21
      replace f22 := (hk 22 (by decide)).trans f22
      replace f7 := (hk 7 (by decide)).trans f7
      replace f29 := (hk 29 (by decide)).trans f29
      replace f30 := (hk 30 (by decide)).trans f30
      replace f31 := (hk 31 (by decide)).trans f31
      replace f9 := (hk 9 (by decide)).trans f9
      replace f40 := (hk 40 (by decide)).trans f40
      replace f42 : a41.tmps[42]?.getD undef = .agg IY := f42
      clear hk hsz40 hde40 f41
      refine wpList_next rfl hsz41 hde41 43 rfl (by decide) fun K hK => ?_
      have heq := Heq.out
      go_simp
      refine hK _ _ fun a42 hsz42 hde42 f43 hk => ?_
      clear hK K
      replace f3 := (hk 3 (by decide)).trans f3
      replace f20 := (hk 20 (by decide)).trans f20
      replace f21 := (hk 21 (by decide)).trans f21
      replace f22 := (hk 22 (by decide)).trans f22
      replace f7 := (hk 7 (by decide)).trans f7
      replace f29 := (hk 29 (by decide)).trans f29
      replace f30 := (hk 30 (by decide)).trans f30
      replace f31 := (hk 31 (by decide)).trans f31
      replace f9 := (hk 9 (by decide)).trans f9
      replace f43 : a42.tmps[43]?.getD undef = .bool q := f43
      clear hk hsz41 hde41 f40 f42
      clear heq
      refine wpList_next rfl hsz42 hde42 44 rfl (by decide) fun K hK => ?_
      go_simp
      refine hK _ _ fun a43 hsz43 hde43 f44 hk => ?_
      clear hK K
      replace f3 := (hk 3 (by decide)).trans f3
      replace f20 := (hk 20 (by decide)).trans f20
      replace f21 := (hk 21 (by decide)).trans f21
      replace f22 := (hk 22 (by decide)).trans f22
      replace f7 := (hk 7 (by decide)).trans f7
      replace f29 := (hk 29 (by decide)).trans f29
      replace f30 := (hk 30 (by decide)).trans f30
      replace f31 := (hk 31 (by decide)).trans f31
      replace f9 := (hk 9 (by decide)).trans f9
      replace f44 : a43.tmps[44]?.getD undef = .bool q := f44
      clear hk hsz42 hde42 f43
      cases q with
      | false =>
        refine wpList_leave (not_wanted (j := 5) (t := 44) (b := true) rfl rfl (.inr f44)) hsz43 hde43 45 rfl (by decide) fun a44 hsz44 hde44 f45 hk => ?_
        replace f3 := (hk 3 (by decide)).trans f3
        replace f20 := (hk 20 (by decide)).trans f20
        replace f21 := (hk 21 (by decide)).trans f21
        replace f22 := (hk 22 (by decide)).trans f22
        replace f7 := (hk 7 (by decide)).trans f7
        replace f29 := (hk 29 (by decide)).trans f29
        replace f30 := (hk 30 (by decide)).trans f30
        replace f31 := (hk 31 (by decide)).trans f31
        replace f9 := (hk 9 (by decide)).trans f9
        replace f44 := (hk 44 (by decide)).trans f44
        clear hk hsz43 hde43
        refine wpList_leave (not_wanted (j := 5) (t := 44) (b := true) rfl rfl (.inr f44)) hsz44 hde44 46 rfl (by decide) fun a45 hsz45 hde45 f46 hk => ?_
        replace f3 := (hk 3 (by decide)).trans f3
        replace f20 := (hk 20 (by decide)).trans f20
        replace f21 := (hk 21 (by decide)).trans f21
        replace f22 := (hk 22 (by decide)).trans f22
        replace f7 := (hk 7 (by decide)).trans f7
        replace f29 := (hk 29 (by decide)).trans f29
        replace f30 := (hk 30 (by decide)).trans f30
        replace f31 := (hk 31 (by decide)).trans f31
        replace f9 := (hk 9 (by decide)).trans f9
        replace f44 := (hk 44 (by decide)).trans f44
        replace f45 := (hk 45 (by decide)).trans f45
        clear hk hsz44 hde44
        refine wpList_leave (not_wanted (j := 5) (t := 44) (b := true) rfl rfl (.inr f44)) hsz45 hde45 47 rfl (by decide) fun a46 hsz46 hde46 f47 hk => ?_
        replace f3 := (hk 3 (by decide)).trans f3
        replace f20 := (hk 20 (by decide)).trans f20
        replace f21 := (hk 21 (by decide)).trans f21
        replace f22 := (hk 22 (by decide)).trans f22
        replace f7 := (hk 7 (by decide)).trans f7
        replace f29 := (hk 29 (by decide)).trans f29
        replace f30 := (hk 30 (by decide)).trans f30
        replace f31 := (hk 31 (by decide)).trans f31
        replace f9 := (hk 9 (by decide)).trans f9
        replace f44 := (hk 44 (by decide)).trans f44
        clear hk hsz45 hde45 f45 f46
        refine wpList_next rfl hsz46 hde46 48 rfl (by decide) fun K hK => ?_
        go_simp
        refine hK _ _ fun a47 hsz47 hde47 f48 hk => ?_
        clear hK K
        replace f3 := (hk 3 (by decide)).trans f3
        replace f20 := (hk 20 (by decide)).trans f20
        replace f21 := (hk 21 (by decide)).trans f21
        replace f22 := (hk 22 (by decide)).trans f22
        replace f7 := (hk 7 (by decide)).trans f7
        replace f29 := (hk 29 (by decide)).trans f29
        replace f30 := (hk 30 (by decide)).trans f30
        replace f31 := (hk 31 (by decide)).trans f31
        replace f9 := (hk 9 (by decide)).trans f9
        replace f48 : a47.tmps[48]?.getD undef = .bool false := f48
        clear hk hsz46 hde46 f44 f47
        refine wpList_nil ?_
        refine then_go ?_
        repeat with_reducible refine wp_seq ?_
        refine wp_cond_false (eval_at f48) ?_
        refine wp_skip ?_
        refine block_go ?_
        refine then_go ?_
        clear f48 f9
        repeat with_reducible refine wp_seq ?_
        refine wp_region_lit ?_
        refine wpList_next rfl hsz47 hde47 49 rfl (by decide) fun K hK => ?_
        go_simp
        refine hK _ _ fun a48 hsz48 hde48 f49 hk => ?_
        clear hK K
        replace f3 := (hk 3 (by decide)).trans f3
        replace f20 := (hk 20 (by decide)).trans f20
        replace f21 := (hk 21 (by decide)).trans f21
        replace f22 := (hk 22 (by decide)).trans f22
        replace f7 := (hk 7 (by decide)).trans f7
        replace f29 := (hk 29 (by decide)).trans f29
        replace f30 := (hk 30 (by decide)).trans f30
        replace f31 := (hk 31 (by decide)).trans f31
        clear hk hsz47 hde47
        replace f49 : a48.tmps[49]?.getD undef = .int .i64 ((j + 1 : Nat) : Int) := f49.trans (by first | (congr 1; done) | (congr 1; rw [IntKind.wrap_i64] <;> omega))
        refine wpList_next rfl hsz48 hde48 31 rfl (by decide) fun K hK => ?_
        go_simp
        refine hK _ _ fun a49 hsz49 hde49 f31 hk => ?_
        clear hK K
        replace f3 := (hk 3 (by decide)).trans f3
        replace f20 := (hk 20 (by decide)).trans f20
        replace f21 := (hk 21 (by decide)).trans f21
        replace f22 := (hk 22 (by decide)).trans f22
        replace f7 := (hk 7 (by decide)).trans f7
        replace f29 := (hk 29 (by decide)).trans f29
        replace f30 := (hk 30 (by decide)).trans f30
        replace f31 : a49.tmps[31]?.getD undef = .int .i64 ((j + 1 : Nat) : Int) := f31
        clear hk hsz48 hde48 f49
        refine wpList_nil ?_
        refine then_go ?_
        exact ⟨i - (j + 1), by rw [Hn3.out]; omega, j + 1, zeroV, hsz49, hde49, f3, f20, f21, f22, f7, f29, f30, f31, Lib.hid (by omega), HPl4, HPb4, Lib.hid (fun q7 hq7 hlt7 hs7 => by
          by_cases e7 : q7 = j
          · subst e7; rw [← HY.out] at hs7 ⊢; rw [← Hq.out] at hs7; cases hs7
          · exact Hallj.out q7 hq7 (by omega) hs7), rfl⟩
      | true =>
        refine wpList_nextg (wanted_of (j := 5) (t := 44) (b := true) rfl rfl f44) hsz43 hde43 45 rfl (by decide) fun K hK => ?_
        refine wp_load_mid 29 (.tmp 7) rfl p 0 (eval_at f7) DX.toList _ HdX.out Tryd.underlying29 rfl HfDX.out ?_
        refine hK _ _ fun a44 hsz44 hde44 f45 hk => ?_
        clear hK K
        replace f3 := (hk 3 (by decide)).trans f3
        replace f20 := (hk 20 (by decide)).trans f20
        replace f21 := (hk 21 (by decide)).trans f21
        replace f22 := (hk 22 (by decide)).trans f22
        replace f7 := (hk 7 (by decide)).trans f7
        replace f29 := (hk 29 (by decide)).trans f29
        replace f30 := (hk 30 (by decide)).trans f30
        replace f31 := (hk 31 (by decide)).trans f31
        replace f9 := (hk 9 (by decide)).trans f9
        replace f44 := (hk 44 (by decide)).trans f44
        replace f45 : a44.tmps[45]?.getD undef = .agg DX := f45
        clear hk hsz43 hde43
        refine wpList_nextg (wanted_of (j := 5) (t := 44) (b := true) rfl rfl f44) hsz44 hde44 46 rfl (by decide) fun K hK => ?_
        refine wp_load_mid 29 (.tmp 9) rfl r 0 (eval_at f9) DY.toList _ HdY.out Tryd.underlying29 rfl HfDY.out ?_
        refine hK _ _ fun a45 hsz45 hde45 f46 hk => ?_
        clear hK K
        replace f3 := (hk 3 (by decide)).trans f3
        replace f20 := (hk 20 (by decide)).trans f20
        replace f21 := (hk 21 (by decide)).trans f21
        replace f22 := (hk 22 (by decide)).trans f22
        replace f7 := (hk 7 (by decide)).trans f7
        replace f29 := (hk 29 (by decide)).trans f29
        replace f30 := (hk 30 (by decide)).trans f30
        replace f31 := (hk 31 (by decide)).trans f31
        replace f9 := (hk 9 (by decide)).trans f9
        replace f44 := (hk 44 (by decide)).trans f44
        replace f45 := (hk 45 (by decide)).trans f45
        replace f46 : a45.tmps[46]?.getD undef = .agg DY := f46
        clear hk hsz44 hde44
        refine wpList_nextg (wanted_of (j := 5) (t := 44) (b := true) rfl rfl f44) hsz45 hde45 47 rfl (by decide) fun K hK => ?_
        have hne := Hne.out
        go_simp
        refine hK _ _ fun a46 hsz46 hde46 f47 hk => ?_
        clear hK K
        replace f3 := (hk 3 (by decide)).trans f3
        replace f20 := (hk 20 (by decide)).trans f20
        replace f21 := (hk 21 (by decide)).trans f21
        replace f22 := (hk 22 (by decide)).trans f22
        replace f7 := (hk 7 (by decide)).trans f7
        replace f29 := (hk 29 (by decide)).trans f29
        replace f30 := (hk 30 (by decide)).trans f30
        replace f31 := (hk 31 (by decide)).trans f31
        replace f9 := (hk 9 (by decide)).trans f9
        replace f44 := (hk 44 (by decide)).trans f44
        replace f47 : a46.tmps[47]?.getD undef = .bool m := f47
        clear hk hsz45 hde45 f45 f46
        clear hne
        cases m with
        | false =>
          refine wpList_next rfl hsz46 hde46 48 rfl (by decide) fun K hK => ?_
          go_simp
          refine hK _ _ fun a47 hsz47 hde47 f48 hk => ?_
          clear hK K
          replace f3 := (hk 3 (by decide)).trans f3
          replace f20 := (hk 20 (by decide)).trans f20
          replace f21 := (hk 21 (by decide)).trans f21
          replace f22 := (hk 22 (by decide)).trans f22
          replace f7 := (hk 7 (by decide)).trans f7
          replace f29 := (hk 29 (by decide)).trans f29
          replace f30 := (hk 30 (by decide)).trans f30
          replace f31 := (hk 31 (by decide)).trans f31
          replace f9 := (hk 9 (by decide)).trans f9
          replace f48 : a47.tmps[48]?.getD undef = .bool false := f48
          clear hk hsz46 hde46 f44 f47
          refine wpList_nil ?_
          refine then_go ?_
          repeat with_reducible refine wp_seq ?_
          refine wp_cond_false (eval_at f48) ?_
          refine wp_skip ?_
          refine block_go ?_
          refine then_go ?_
          clear f48 f9
          repeat with_reducible refine wp_seq ?_
          refine wp_region_lit ?_
          refine wpList_next rfl hsz47 hde47 49 rfl (by decide) fun K hK => ?_
          go_simp
          refine hK _ _ fun a48 hsz48 hde48 f49 hk => ?_
          clear hK K
          replace f3 := (hk 3 (by decide)).trans f3
          replace f20 := (hk 20 (by decide)).trans f20
          replace f21 := (hk 21 (by decide)).trans f21
          replace f22 := (hk 22 (by decide)).trans f22
          replace f7 := (hk 7 (by decide)).trans f7
          replace f29 := (hk 29 (by decide)).trans f29
          replace f30 := (hk 30 (by decide)).trans f30
          replace f31 := (hk 31 (by decide)).trans f31
          clear hk hsz47 hde47
          replace f49 : a48.tmps[49]?.getD undef = .int .i64 ((j + 1 : Nat) : Int) := f49.trans (by first | (congr 1; done) | (congr 1; rw [IntKind.wrap_i64] <;> omega))
          refine wpList_next rfl hsz48 hde48 31 rfl (by decide) fun K hK => ?_
          go_simp
          refine hK _ _ fun a49 hsz49 hde49 f31 hk => ?_
          clear hK K
          replace f3 := (hk 3 (by decide)).trans f3
          replace f20 := (hk 20 (by decide)).trans f20
          replace f21 := (hk 21 (by decide)).trans f21
          replace f22 := (hk 22 (by decide)).trans f22
          replace f7 := (hk 7 (by decide)).trans f7
          replace f29 := (hk 29 (by decide)).trans f29
          replace f30 := (hk 30 (by decide)).trans f30
          replace f31 : a49.tmps[31]?.getD undef = .int .i64 ((j + 1 : Nat) : Int) := f31
          clear hk hsz48 hde48 f49
          refine wpList_nil ?_
          refine then_go ?_
          exact ⟨i - (j + 1), by rw [Hn3.out]; omega, j + 1, zeroV, hsz49, hde49, f3, f20, f21, f22, f7, f29, f30, f31, Lib.hid (by omega), HPl4, HPb4, Lib.hid (fun q7 hq7 hlt7 hs7 => by
            by_cases e7 : q7 = j
            · subst e7; rw [← HY.out] at hs7 ⊢; have h7 := Hm.out; simpa using h7
            · exact Hallj.out q7 hq7 (by omega) hs7), rfl⟩
        | true =>
          refine wpList_next rfl hsz46 hde46 48 rfl (by decide) fun K hK => ?_
          go_simp
          refine hK _ _ fun a47 hsz47 hde47 f48 hk => ?_
          clear hK K
          replace f3 := (hk 3 (by decide)).trans f3
          replace f20 := (hk 20 (by decide)).trans f20
          replace f21 := (hk 21 (by decide)).trans f21
          replace f22 := (hk 22 (by decide)).trans f22
          replace f7 := (hk 7 (by decide)).trans f7
          replace f29 := (hk 29 (by decide)).trans f29
          replace f30 := (hk 30 (by decide)).trans f30
          replace f31 := (hk 31 (by decide)).trans f31
          replace f9 := (hk 9 (by decide)).trans f9
          replace f48 : a47.tmps[48]?.getD undef = .bool true := f48
          clear hk hsz46 hde46 f44 f47
          refine wpList_nil ?_
          refine then_go ?_
          repeat with_reducible refine wp_seq ?_
          refine wp_cond_true (eval_at f48) ?_
          clear f48
          repeat with_reducible refine wp_seq ?_
          refine wp_region_lit ?_
          refine wpList_next rfl hsz47 hde47 2 rfl (by decide) fun K hK => ?_
          go_simp
          refine hK _ _ fun a48 hsz48 hde48 f2 hk => ?_
          clear hK K
          replace f3 := (hk 3 (by decide)).trans f3
          replace f20 := (hk 20 (by decide)).trans f20
          replace f21 := (hk 21 (by decide)).trans f21
          replace f22 := (hk 22 (by decide)).trans f22
          replace f7 := (hk 7 (by decide)).trans f7
          replace f29 := (hk 29 (by decide)).trans f29
          replace f30 := (hk 30 (by decide)).trans f30
          replace f31 := (hk 31 (by decide)).trans f31
          replace f9 := (hk 9 (by decide)).trans f9
          replace f2 : a48.tmps[2]?.getD undef = .bool false := f2
          clear hk hsz47 hde47
          refine wpList_nil ?_
          refine then_go ?_
          refine wp_ret ?_
          repeat first | with_reducible refine then_ret ?_ | with_reducible refine block_ret ?_
          refine ret_tmp Tryd.results34 hde48 f2 ?_
          exact ⟨⟨_, rfl, fun h => by cases h⟩, below_call Hbw.out HPl4.out⟩
    refine wp_region_lit ?_
    refine wpList_next rfl hsz29 hde29 32 rfl (by decide) fun K hK => ?_
    go_simp
    refine hK _ _ fun a30 hsz30 hde30 f32 hk => ?_
    clear hK K
    replace f3 := (hk 3 (by decide)).trans f3
    replace f20 := (hk 20 (by decide)).trans f20
    replace f21 := (hk 21 (by decide)).trans f21
    replace f22 := (hk 22 (by decide)).trans f22
    replace f7 := (hk 7 (by decide)).trans f7
    replace f29 := (hk 29 (by decide)).trans f29
    replace f30 := (hk 30 (by decide)).trans f30
    replace f31 := (hk 31 (by decide)).trans f31
    clear hk hsz29 hde29
    replace f32 : a30.tmps[32]?.getD undef = .bool false := f32.trans (by first | rfl | (congr 1; first | exact decide_eq_true (by omega) | exact decide_eq_false (by omega)))
    refine wpList_nil ?_
    refine then_go ?_
    repeat with_reducible refine wp_seq ?_
    refine wp_cond_false (eval_at f32) ?_
    refine wp_exit ?_
    repeat with_reducible refine then_exit ?_
    refine block_exit ?_
    repeat first | with_reducible refine block_go ?_ | with_reducible refine then_go ?_
    clear f32 f7 f29 f30 f31
    repeat with_reducible refine wp_seq ?_
    refine wp_region_lit ?_
    refine wpList_next rfl hsz30 hde30 50 rfl (by decide) fun K hK => ?_
    go_simp
    refine hK _ _ fun a31 hsz31 hde31 f50 hk => ?_
    clear hK K
    replace f3 := (hk 3 (by decide)).trans f3
    replace f20 := (hk 20 (by decide)).trans f20
    replace f21 := (hk 21 (by decide)).trans f21
    replace f22 := (hk 22 (by decide)).trans f22
    clear hk hsz30 hde30
    replace f50 : a31.tmps[50]?.getD undef = .int .i64 ((i + 1 : Nat) : Int) := f50.trans (by first | (congr 1; done) | (congr 1; rw [IntKind.wrap_i64] <;> omega))
    refine wpList_next rfl hsz31 hde31 22 rfl (by decide) fun K hK => ?_
    go_simp
    refine hK _ _ fun a32 hsz32 hde32 f22 hk => ?_
    clear hK K
    replace f3 := (hk 3 (by decide)).trans f3
    replace f20 := (hk 20 (by decide)).trans f20
    replace f21 := (hk 21 (by decide)).trans f21
    replace f22 : a32.tmps[22]?.getD undef = .int .i64 ((i + 1 : Nat) : Int) := f22
    clear hk hsz31 hde31 f50
    refine wpList_nil ?_
    refine then_go ?_
    exact ⟨n - (i + 1), by rw [Hn2.out]; omega, i + 1, hsz32, hde32, f3, f20, f21, f22, Lib.hid (by omega), Hbj, Lib.hid (fun p7 q7 hp7 hq7 hqp hpi hs7 => by
      by_cases e7 : p7 = i
      · subst e7; rw [← HX.out] at hs7 ⊢; exact Hallj.out q7 hq7 (by omega) hs7
      · exact Hall.out p7 q7 hp7 hq7 hqp (by omega) hs7), rfl⟩
  refine wp_region_lit ?_
  refine wpList_next rfl hsz19 hde19 23 rfl (by decide) fun K hK => ?_
  go_simp
  refine hK _ _ fun a20 hsz20 hde20 f23 hk => ?_
  clear hK K
  replace f3 := (hk 3 (by decide)).trans f3
  replace f20 := (hk 20 (by decide)).trans f20
  replace f21 := (hk 21 (by decide)).trans f21
  replace f22 := (hk 22 (by decide)).trans f22
  clear hk hsz19 hde19
  replace f23 : a20.tmps[23]?.getD undef = .bool false := f23.trans (by first | rfl | (congr 1; first | exact decide_eq_true (by omega) | exact decide_eq_false (by omega)))
  refine wpList_nil ?_
  refine then_go ?_
  repeat with_reducible refine wp_seq ?_
  refine wp_cond_false (eval_at f23) ?_
  refine wp_exit ?_
  repeat with_reducible refine then_exit ?_
  refine block_exit ?_
  refine then_go ?_
  clear f23 f3 f20 f21 f22
  repeat with_reducible refine wp_seq ?_
  refine wp_region_lit ?_
  refine wpList_next rfl hsz20 hde20 2 rfl (by decide) fun K hK => ?_
  go_simp
  refine hK _ _ fun a21 hsz21 hde21 f2 hk => ?_
  clear hK K
  replace f2 : a21.tmps[2]?.getD undef = .bool true := f2
  clear hk hsz20 hde20
  refine wpList_nil ?_
  refine then_go ?_
  have Hfin := Lib.hid (show AlikeE G from by
    intro x hx y hy hs
    obtain ⟨p7, hp7, rfl⟩ := List.getElem_of_mem hx
    obtain ⟨q7, hq7, rfl⟩ := List.getElem_of_mem hy
    have hn7 := Hn.out
    rcases Nat.lt_trichotomy q7 p7 with h7 | h7 | h7
    · exact Hall.out p7 q7 hp7 hq7 h7 (by omega) hs
    · subst h7; exact ⟨rfl, rfl, rfl, rfl, rfl, rfl, rfl⟩
    · exact (Hall.out q7 p7 hq7 hp7 h7 (by omega) (by rw [sameI_eq] at hs ⊢; exact ⟨hs.1.symm, hs.2.symm⟩)).swap)
  refine wp_ret ?_
  repeat first | with_reducible refine then_ret ?_ | with_reducible refine block_ret ?_
  refine ret_tmp Tryd.results34 hde21 f2 ?_
  exact ⟨⟨_, rfl, fun _ => Hfin.out⟩, below_call Hbw.out Hbi.out⟩
end Go.Proofs.YtckibimganmklaaDoor
