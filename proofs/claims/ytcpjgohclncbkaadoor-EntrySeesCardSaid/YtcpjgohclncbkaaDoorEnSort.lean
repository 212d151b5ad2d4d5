/-
  The sort of entries by their names where they are in order already; entry.In there.
-/
import Derived.Test.YtcpjgohclncbkaaDoorEnThose
import Derived.Test.YtcpjgohclncbkaaDoorEnMaths
import Derived.Test.YtcpjgohclncbkaaDoorWalk
namespace Go.Proofs.YtcpjgohclncbkaaDoor
open Go.RowKit
set_option maxRecDepth 100000

/-- What lies in a slot of a region, told slot by slot. -/
def tblG (T : List (Nat × Value)) (s : Nat) (u : Value) (_ : World) : Prop := match T.lookup s with | some v => u = v | none => True
/-- The end of a function without results. -/
theorem end_none {P : Program} {fn : Func} {R : Ending → World → Prop} {a : Act} {w : World} (hr : fn.results = #[]) (hde : Hid (a.defers = [])) (h : R (.returned (.tuple #[])) w) : bodyPost P fn R .normal a w :=
  bodyPost_end (results_none hr _ _ _) hde.out h

set_option maxHeartbeats 4000000 in
theorem namecmp_any (x y : Ent) (w : World) :
    Calls Tryd.prog 49 #[.agg (entC x), .agg (entC y)] w fun e w' => e = .returned (.int .i64 (Lib.compareBytes x.data y.data)) ∧ Below w.heap.size w w' := by
  obtain ⟨W, hW⟩ : ∃ W, W = ((w.alloc (.cells (entC x) 29)).alloc (.cells (entC y) 29)) := ⟨_, rfl⟩
  have hA : Blk W w.heap.size 29 (entC x) := by rw [hW]; exact (Blk.new w _ _).alloc _
  have hB : Blk W (w.heap.size + 1) 29 (entC y) := by
    have := Blk.new (w.alloc (.cells (entC x) 29)) 29 (entC y)
    rw [World.size_alloc] at this
    rw [hW]; exact this
  have hbel : Below w.heap.size w W := by rw [hW]; exact ((Below.refl _ _).alloc (Nat.le_refl _) _).alloc (by simp) _
  have hc1 := hA.ent.data
  have hc2 := hB.ent.data
  rw [Nat.zero_add] at hc1 hc2
  have Hc1 := Lib.hid hc1
  have Hc2 := Lib.hid hc2
  have Hbel := Lib.hid hbel
  have hcmp := fun z : World => Tryd.strings_Compare ⟨x.data.toArray⟩ ⟨y.data.toArray⟩ z
  have Hcmp := Lib.hid hcmp
  obtain ⟨C1, hC1⟩ : ∃ C, C = entC x := ⟨_, rfl⟩
  obtain ⟨C2, hC2⟩ : ∃ C, C = entC y := ⟨_, rfl⟩
  rw [← hC1, ← hC2] at hW ⊢
  have HW := Lib.hid hW
  clear hA hB hbel hc1 hc2 hcmp hC1 hC2 hW
  go_enter Tryd.func49, Tryd.ntmps49
  refine enter_abs (N := 10) rfl rfl fun a0 hsz0 hde0 hk => ?_
  have f0 : a0.tmps[0]?.getD undef = .agg C1 := hk 0
  have f1 : a0.tmps[1]?.getD undef = .agg C2 := hk 1
  clear hk
  repeat with_reducible refine wp_seq ?_
  refine wp_region_lit ?_
  refine wpList_next rfl hsz0 hde0 2 rfl (by decide) fun K hK => ?_
  go_simp
  refine hK _ _ fun a1 hsz1 hde1 f2 hk => ?_
  clear hK K
  replace f0 := (hk 0 (by decide)).trans f0
  replace f1 := (hk 1 (by decide)).trans f1
  replace f2 : a1.tmps[2]?.getD undef = .pointer (some ⟨w.heap.size, 0, none⟩) := f2
  clear hk hsz0 hde0
  refine wpList_next rfl hsz1 hde1 3 rfl (by decide) fun K hK => ?_
  go_simp
  refine hK _ _ fun a2 hsz2 hde2 f3 hk => ?_
  clear hK K
  replace f0 := (hk 0 (by decide)).trans f0
  replace f1 := (hk 1 (by decide)).trans f1
  replace f2 := (hk 2 (by decide)).trans f2
  replace f3 : a2.tmps[3]?.getD undef = .pointer (some ⟨w.heap.size + 1, 0, none⟩) := f3
  clear hk hsz1 hde1
  refine wpList_next rfl hsz2 hde2 4 rfl (by decide) fun K hK => ?_
  go_simp
  refine hK _ _ fun a3 hsz3 hde3 f4 hk => ?_
  clear hK K
  replace f0 := (hk 0 (by decide)).trans f0
  replace f1 := (hk 1 (by decide)).trans f1
  replace f2 := (hk 2 (by decide)).trans f2
  replace f3 := (hk 3 (by decide)).trans f3
  replace f4 : a3.tmps[4]?.getD undef = .int .i64 0 := f4
  clear hk hsz2 hde2
  refine wpList_nil ?_
  clear f0 f1
  rw [← HW.out]
  have hc1 := Hc1.out
  have hc2 := Hc2.out
  refine then_go ?_
  repeat with_reducible refine wp_seq ?_
  refine wp_region_lit ?_
  refine wpList_next rfl hsz3 hde3 5 rfl (by decide) fun K hK => ?_
  go_simp
  refine hK _ _ fun a4 hsz4 hde4 f5 hk => ?_
  clear hK K
  replace f2 := (hk 2 (by decide)).trans f2
  replace f3 := (hk 3 (by decide)).trans f3
  replace f4 := (hk 4 (by decide)).trans f4
  replace f5 : a4.tmps[5]?.getD undef = .pointer (some ⟨w.heap.size, 4, none⟩) := f5
  clear hk hsz3 hde3
  refine wpList_next rfl hsz4 hde4 6 rfl (by decide) fun K hK => ?_
  go_simp
  refine hK _ _ fun a5 hsz5 hde5 f6 hk => ?_
  clear hK K
  replace f2 := (hk 2 (by decide)).trans f2
  replace f3 := (hk 3 (by decide)).trans f3
  replace f4 := (hk 4 (by decide)).trans f4
  replace f6 : a5.tmps[6]?.getD undef = str x.data := f6
  clear hk hsz4 hde4 f5
  refine wpList_next rfl hsz5 hde5 7 rfl (by decide) fun K hK => ?_
  go_simp
  refine hK _ _ fun a6 hsz6 hde6 f7 hk => ?_
  clear hK K
  replace f2 := (hk 2 (by decide)).trans f2
  replace f3 := (hk 3 (by decide)).trans f3
  replace f4 := (hk 4 (by decide)).trans f4
  replace f6 := (hk 6 (by decide)).trans f6
  replace f7 : a6.tmps[7]?.getD undef = .pointer (some ⟨w.heap.size + 1, 4, none⟩) := f7
  clear hk hsz5 hde5
  refine wpList_next rfl hsz6 hde6 8 rfl (by decide) fun K hK => ?_
  go_simp
  refine hK _ _ fun a7 hsz7 hde7 f8 hk => ?_
  clear hK K
  replace f2 := (hk 2 (by decide)).trans f2
  replace f3 := (hk 3 (by decide)).trans f3
  replace f4 := (hk 4 (by decide)).trans f4
  replace f6 := (hk 6 (by decide)).trans f6
  replace f8 : a7.tmps[8]?.getD undef = str y.data := f8
  clear hk hsz6 hde6 f7
  refine wpList_next rfl hsz7 hde7 9 rfl (by decide) fun K hK => ?_
  go_simp
  refine (Hcmp.out _).mono ?_
  rintro e1 w1 ⟨rfl, rfl⟩
  go_simp
  refine hK _ _ fun a8 hsz8 hde8 f9 hk => ?_
  clear hK K
  replace f2 := (hk 2 (by decide)).trans f2
  replace f3 := (hk 3 (by decide)).trans f3
  replace f4 := (hk 4 (by decide)).trans f4
  replace f9 : a8.tmps[9]?.getD undef = .int .i64 (Lib.compareBytes x.data y.data) := f9
  clear hk hsz7 hde7 f6 f8
  refine wpList_next rfl hsz8 hde8 4 rfl (by decide) fun K hK => ?_
  go_simp
  refine hK _ _ fun a9 hsz9 hde9 f4 hk => ?_
  clear hK K
  replace f2 := (hk 2 (by decide)).trans f2
  replace f3 := (hk 3 (by decide)).trans f3
  replace f4 : a9.tmps[4]?.getD undef = .int .i64 (Lib.compareBytes x.data y.data) := f4
  clear hk hsz8 hde8 f9
  refine wpList_nil ?_
  refine then_go ?_
  refine wp_ret ?_
  repeat first | with_reducible refine then_ret ?_ | with_reducible refine block_ret ?_
  refine ret_tmp Tryd.results49 hde9 f4 ?_
  exact ⟨rfl, Hbel.out⟩

set_option maxHeartbeats 4000000 in
theorem insertion_none (ok : Nat → Prop) (v : Value) (M : List Ent) (w : World) (hL : IsL kEnt w ok v M) (hl : M.length ≤ 1000) (hM : ∀ k (h : k + 1 < M.length), 0 ≤ Lib.compareBytes M[k + 1].data (M[k]'(by omega)).data) :
    Calls Tryd.prog 72 #[v, .int .i64 0, .int .i64 (M.length : Int), .func (.func 49) #[] #[]] w fun e w' => e = .returned (.tuple #[]) ∧ Below w.heap.size w w' := by
  obtain ⟨A, c, rfl, hc1, hc2, hE⟩ := ent_at hL
  have Hel := Lib.hid hE
  have HM := Lib.hid hM
  obtain ⟨n, hn⟩ : ∃ n, n = M.length := ⟨_, rfl⟩
  rw [← hn] at hc1 hl ⊢
  have Hn := Lib.hid hn
  have hm : maxLen ≤ 9223372036854775807 := by decide
  have Hcmp := Lib.hid fun (x y : Ent) (z : World) => namecmp_any x y z
  clear hE hM hn hL
  go_enter Tryd.func72, Tryd.ntmps72
  refine enter_abs (N := 53) rfl rfl fun a0 hsz0 hde0 hk => ?_
  have f0 : a0.tmps[0]?.getD undef = .slice A n c := hk 0
  have f1 : a0.tmps[1]?.getD undef = .int .i64 0 := hk 1
  have f2 : a0.tmps[2]?.getD undef = .int .i64 (n : Int) := hk 2
  have f3 : a0.tmps[3]?.getD undef = .func (.func 49) #[] #[] := hk 3
  clear hk
  repeat with_reducible refine wp_seq ?_
  refine wp_region_lit ?_
  refine wpList_next rfl hsz0 hde0 10 rfl (by decide) fun K hK => ?_
  go_simp
  refine hK _ _ fun a1 hsz1 hde1 f10 hk => ?_
  clear hK K
  replace f0 := (hk 0 (by decide)).trans f0
  replace f1 := (hk 1 (by decide)).trans f1
  replace f2 := (hk 2 (by decide)).trans f2
  replace f3 := (hk 3 (by decide)).trans f3
  clear hk hsz0 hde0
  refine wpList_next rfl hsz1 hde1 11 rfl (by decide) fun K hK => ?_
  go_simp
  refine hK _ _ fun a2 hsz2 hde2 f11 hk => ?_
  clear hK K
  replace f0 := (hk 0 (by decide)).trans f0
  replace f1 := (hk 1 (by decide)).trans f1
  replace f2 := (hk 2 (by decide)).trans f2
  replace f3 := (hk 3 (by decide)).trans f3
  clear hk hsz1 hde1 f10
  refine wpList_next rfl hsz2 hde2 8 rfl (by decide) fun K hK => ?_
  go_simp
  refine hK _ _ fun a3 hsz3 hde3 f8 hk => ?_
  clear hK K
  replace f0 := (hk 0 (by decide)).trans f0
  replace f1 := (hk 1 (by decide)).trans f1
  replace f2 := (hk 2 (by decide)).trans f2
  replace f3 := (hk 3 (by decide)).trans f3
  replace f8 : a3.tmps[8]?.getD undef = .int .i64 ((0 + 1 : Nat) : Int) := f8
  clear hk hsz2 hde2 f11
  refine wpList_nil ?_
  refine then_go ?_
  repeat with_reducible refine wp_seq ?_
  refine wp_block ?_
  refine wp_loop (fun a wr => ∃ k : Nat, k ≤ n ∧ Hid (a.tmps.size = 53) ∧ Hid (a.defers = []) ∧ a.tmps[8]?.getD undef = .int .i64 ((k + 1 : Nat) : Int) ∧ a.tmps[0]?.getD undef = .slice A n c ∧ a.tmps[1]?.getD undef = .int .i64 0 ∧ a.tmps[2]?.getD undef = .int .i64 (n : Int) ∧ a.tmps[3]?.getD undef = .func (.func 49) #[] #[] ∧ Hid (Below w.heap.size w wr)) (fun a _ => n - (intOf (a.tmps[8]?.getD undef)).toNat) ?_ ?_
  · exact ⟨0, by omega, hsz3, hde3, f8, f0, f1, f2, f3, Lib.hid (Below.refl _ _)⟩
  clear hsz3 hde3 f0 f1 f2 f3 f8
  intro a4 wr hI
  obtain ⟨k, hk, hsz4, hde4, f8, f0, f1, f2, f3, Hbw⟩ := hI
  have F8o := Lib.hid f8
  repeat with_reducible refine wp_seq ?_
  by_cases hlt : k + 1 < n
  · have hlt1 : decide (((k + 1 : Nat) : Int) < (n : Int)) = true := decide_eq_true (by omega)
    have hkl : k < M.length := by rw [← Hn.out]; omega
    have hkl2 : k + 1 < M.length := by rw [← Hn.out]; omega
    obtain ⟨b, off, rfl, _, hb, hel⟩ := Hel.out (by intro e; subst e; simp at hkl)
    have R0 := Lib.hid fun (z : World) (hz : Below w.heap.size w z) => range_ext (hel k hkl).1 hz
    have R1 := Lib.hid fun (z : World) (hz : Below w.heap.size w z) => range_ext (hel (k + 1) hkl2).1 hz
    have hcx := fun z => Hcmp.out M[k + 1] M[k] z
    have hge := HM.out k hkl2
    obtain ⟨cv, hcv⟩ : ∃ z, z = Lib.compareBytes M[k + 1].data M[k].data := ⟨_, rfl⟩
    rw [← hcv] at hcx hge
    obtain ⟨C0, hC0⟩ : ∃ C, C = entC M[k] := ⟨_, rfl⟩
    obtain ⟨C1, hC1⟩ : ∃ C, C = entC M[k + 1] := ⟨_, rfl⟩
    have Hi0 := Lib.hid (show (Tryd.prog.info? 29).map (·.size) = some C0.toList.length by rw [hC0]; exact ent_info)
    have Hi1 := Lib.hid (show (Tryd.prog.info? 29).map (·.size) = some C1.toList.length by rw [hC1]; exact ent_info)
    rw [← hC0] at R0 hcx
    rw [← hC1] at R1 hcx
    have Hcx := Lib.hid hcx
    have hneg : decide (cv < 0) = false := decide_eq_false (by omega)
    have hix1 : (k : Int) + 1 < (n : Int) := by omega
    have hix0 : (0 : Int) ≤ (k : Int) + 1 := by omega
    have hix2 : k < n := by omega
    have hix3 : ((k : Int) + 1).toNat = k + 1 := by omega
    clear hel hcx hcv hC0 hC1 hb
    refine wp_region_lit ?_
    refine wpList_next rfl hsz4 hde4 12 rfl (by decide) fun K hK => ?_
    go_simp
    refine hK _ _ fun a5 hsz5 hde5 f12 hk => ?_
    clear hK K
    replace f8 := (hk 8 (by decide)).trans f8
    replace f0 := (hk 0 (by decide)).trans f0
    replace f1 := (hk 1 (by decide)).trans f1
    replace f2 := (hk 2 (by decide)).trans f2
    replace f3 := (hk 3 (by decide)).trans f3
    replace f12 : a5.tmps[12]?.getD undef = .int .i64 ((k + 1 : Nat) : Int) := f12
    clear hk hsz4 hde4
    refine wpList_next rfl hsz5 hde5 13 rfl (by decide) fun K hK => ?_
    go_simp
    refine hK _ _ fun a6 hsz6 hde6 f13 hk => ?_
    clear hK K
    replace f8 := (hk 8 (by decide)).trans f8
    replace f0 := (hk 0 (by decide)).trans f0
    replace f1 := (hk 1 (by decide)).trans f1
    replace f2 := (hk 2 (by decide)).trans f2
    replace f3 := (hk 3 (by decide)).trans f3
    replace f12 := (hk 12 (by decide)).trans f12
    replace f13 : a6.tmps[13]?.getD undef = .int .i64 (n : Int) := f13
    clear hk hsz5 hde5
    refine wpList_next rfl hsz6 hde6 14 rfl (by decide) fun K hK => ?_
    go_simp
    refine hK _ _ fun a7 hsz7 hde7 f14 hk => ?_
    clear hK K
    replace f8 := (hk 8 (by decide)).trans f8
    replace f0 := (hk 0 (by decide)).trans f0
    replace f1 := (hk 1 (by decide)).trans f1
    replace f2 := (hk 2 (by decide)).trans f2
    replace f3 := (hk 3 (by decide)).trans f3
    clear hk hsz6 hde6 f12 f13
    replace f14 : a7.tmps[14]?.getD undef = .bool true := f14.trans (by first | rfl | (simp; omega))
    refine wpList_nil ?_
    refine then_go ?_
    repeat with_reducible refine wp_seq ?_
    refine wp_cond_true (eval_at f14) ?_
    refine wp_skip ?_
    refine then_go ?_
    clear f14
    repeat with_reducible refine wp_seq ?_
    refine wp_block ?_
    repeat with_reducible refine wp_seq ?_
    refine wp_region_lit ?_
    refine wpList_next rfl hsz7 hde7 17 rfl (by decide) fun K hK => ?_
    go_simp
    refine hK _ _ fun a8 hsz8 hde8 f17 hk => ?_
    clear hK K
    replace f8 := (hk 8 (by decide)).trans f8
    replace f0 := (hk 0 (by decide)).trans f0
    replace f1 := (hk 1 (by decide)).trans f1
    replace f2 := (hk 2 (by decide)).trans f2
    replace f3 := (hk 3 (by decide)).trans f3
    replace f17 : a8.tmps[17]?.getD undef = .int .i64 ((k + 1 : Nat) : Int) := f17
    clear hk hsz7 hde7
    refine wpList_next rfl hsz8 hde8 9 rfl (by decide) fun K hK => ?_
    go_simp
    refine hK _ _ fun a9 hsz9 hde9 f9 hk => ?_
    clear hK K
    replace f8 := (hk 8 (by decide)).trans f8
    replace f0 := (hk 0 (by decide)).trans f0
    replace f1 := (hk 1 (by decide)).trans f1
    replace f2 := (hk 2 (by decide)).trans f2
    replace f3 := (hk 3 (by decide)).trans f3
    replace f9 : a9.tmps[9]?.getD undef = .int .i64 ((k + 1 : Nat) : Int) := f9
    clear hk hsz8 hde8 f17
    refine wpList_nil ?_
    refine then_go ?_
    repeat with_reducible refine wp_seq ?_
    refine wp_block ?_
    refine wp_loop_once ?_
    repeat with_reducible refine wp_seq ?_
    refine wp_region_goodg (tblG [(18, .int .i64 ((k + 1 : Nat) : Int)), (19, .int .i64 0), (20, .bool true), (21, .bool true), (22, .func (.func 49) #[] #[]), (23, .slice (some ⟨b, off, none⟩) n c), (24, .int .i64 ((k + 1 : Nat) : Int)), (25, .pointer (some ⟨b, off + (k + 1) * 15, none⟩)), (26, .agg C1), (27, .slice (some ⟨b, off, none⟩) n c), (28, .int .i64 ((k + 1 : Nat) : Int)), (29, .int .i64 (k : Int)), (30, .pointer (some ⟨b, off + k * 15, none⟩)), (31, .agg C0), (32, .int .i64 cv), (33, .bool false), (34, .bool false)]) 53 (by kernel_rfl) (by kernel_rfl) (by kernel_rfl) (by kernel_rfl) hsz9.out ?_ ?_ ?_
    · intro t v7 x x' h _ _
      exact h
    · intro i7 o hi7 a x hbx hsame hpre K hK
      have hlt7 : i7 < 17 := (Array.getElem?_eq_some_iff.1 hi7).1
      rcases (show i7 = 0 ∨ i7 = 1 ∨ i7 = 2 ∨ i7 = 3 ∨ i7 = 4 ∨ i7 = 5 ∨ i7 = 6 ∨ i7 = 7 ∨ i7 = 8 ∨ i7 = 9 ∨ i7 = 10 ∨ i7 = 11 ∨ i7 = 12 ∨ i7 = 13 ∨ i7 = 14 ∨ i7 = 15 ∨ i7 = 16 by omega) with rfl | rfl | rfl | rfl | rfl | rfl | rfl | rfl | rfl | rfl | rfl | rfl | rfl | rfl | rfl | rfl | rfl
      all_goals (have ho := Option.some.inj hi7; subst ho; clear hi7 hlt7)
      · have q9 : a.tmps[9]?.getD undef = .int .i64 ((k + 1 : Nat) : Int) := (hsame 9 (by decide +kernel)).trans f9
        refine step_plain rfl ?_
        have hk := Lib.hid (show ∀ v7 x', v7 = .int .i64 ((k + 1 : Nat) : Int) → Below x.heap.size x x' → K (a.put (some 18) v7) x' from hK)
        have Hbx := Lib.hid hbx
        clear hsame hpre hK hbx
        go_simp
        exact hk.out _ _ rfl (Below.refl _ _)
      · have q1 : a.tmps[1]?.getD undef = .int .i64 0 := (hsame 1 (by decide +kernel)).trans f1
        refine step_plain rfl ?_
        have hk := Lib.hid (show ∀ v7 x', v7 = .int .i64 0 → Below x.heap.size x x' → K (a.put (some 19) v7) x' from hK)
        have Hbx := Lib.hid hbx
        clear hsame hpre hK hbx
        go_simp
        exact hk.out _ _ rfl (Below.refl _ _)
      · have q18 : a.tmps[18]?.getD undef = .int .i64 ((k + 1 : Nat) : Int) := hpre ⟨0, .data⟩ (by simp) rfl (by decide)
        have q19 : a.tmps[19]?.getD undef = .int .i64 0 := hpre ⟨1, .data⟩ (by simp) rfl (by decide)
        refine step_plain rfl ?_
        have hk := Lib.hid (show ∀ v7 x', v7 = .bool true → Below x.heap.size x x' → K (a.put (some 20) v7) x' from hK)
        have Hbx := Lib.hid hbx
        clear hsame hpre hK hbx
        go_simp
        exact hk.out _ _ (by first | rfl | (congr 1; first | omega | (rw [IntKind.wrap_i64] <;> omega) | exact decide_eq_true (by omega) | exact decide_eq_false (by omega))) (Below.refl _ _)
      · have q20 : a.tmps[20]?.getD undef = .bool true := hpre ⟨2, .data⟩ (by simp) rfl (by decide)
        refine step_plain rfl ?_
        have hk := Lib.hid (show ∀ v7 x', v7 = .bool true → Below x.heap.size x x' → K (a.put (some 21) v7) x' from hK)
        have Hbx := Lib.hid hbx
        clear hsame hpre hK hbx
        go_simp
        exact hk.out _ _ rfl (Below.refl _ _)
      · have q3 : a.tmps[3]?.getD undef = .func (.func 49) #[] #[] := (hsame 3 (by decide +kernel)).trans f3
        have w21 : a.tmps[21]?.getD undef = .bool true := hpre ⟨3, .guard⟩ (by simp) rfl (by decide)
        refine step_wanted (wanted_of (j := 3) (t := 21) (b := true) rfl rfl w21) ?_
        have hk := Lib.hid (show ∀ v7 x', v7 = .func (.func 49) #[] #[] → Below x.heap.size x x' → K (a.put (some 22) v7) x' from hK)
        have Hbx := Lib.hid hbx
        clear hsame hpre hK hbx w21
        go_simp
        exact hk.out _ _ rfl (Below.refl _ _)
      · have q0 : a.tmps[0]?.getD undef = .slice (some ⟨b, off, none⟩) n c := (hsame 0 (by decide +kernel)).trans f0
        have w21 : a.tmps[21]?.getD undef = .bool true := hpre ⟨3, .guard⟩ (by simp) rfl (by decide)
        refine step_wanted (wanted_of (j := 3) (t := 21) (b := true) rfl rfl w21) ?_
        have hk := Lib.hid (show ∀ v7 x', v7 = .slice (some ⟨b, off, none⟩) n c → Below x.heap.size x x' → K (a.put (some 23) v7) x' from hK)
        have Hbx := Lib.hid hbx
        clear hsame hpre hK hbx w21
        go_simp
        exact hk.out _ _ rfl (Below.refl _ _)
      · have q9 : a.tmps[9]?.getD undef = .int .i64 ((k + 1 : Nat) : Int) := (hsame 9 (by decide +kernel)).trans f9
        have w21 : a.tmps[21]?.getD undef = .bool true := hpre ⟨3, .guard⟩ (by simp) rfl (by decide)
        refine step_wanted (wanted_of (j := 3) (t := 21) (b := true) rfl rfl w21) ?_
        have hk := Lib.hid (show ∀ v7 x', v7 = .int .i64 ((k + 1 : Nat) : Int) → Below x.heap.size x x' → K (a.put (some 24) v7) x' from hK)
        have Hbx := Lib.hid hbx
        clear hsame hpre hK hbx w21
        go_simp
        exact hk.out _ _ rfl (Below.refl _ _)
      · have q23 : a.tmps[23]?.getD undef = .slice (some ⟨b, off, none⟩) n c := hpre ⟨5, .data⟩ (by simp) rfl (by decide)
        have q24 : a.tmps[24]?.getD undef = .int .i64 ((k + 1 : Nat) : Int) := hpre ⟨6, .data⟩ (by simp) rfl (by decide)
        have w21 : a.tmps[21]?.getD undef = .bool true := hpre ⟨3, .guard⟩ (by simp) rfl (by decide)
        refine step_wanted (wanted_of (j := 3) (t := 21) (b := true) rfl rfl w21) ?_
        have hk := Lib.hid (show ∀ v7 x', v7 = .pointer (some ⟨b, off + (k + 1) * 15, none⟩) → Below x.heap.size x x' → K (a.put (some 25) v7) x' from hK)
        have Hbx := Lib.hid hbx
        clear hsame hpre hK hbx w21
        go_simp
        exact hk.out _ _ (by first | rfl | (congr 1; first | omega | (rw [IntKind.wrap_i64] <;> omega) | exact decide_eq_true (by omega) | exact decide_eq_false (by omega))) (Below.refl _ _)
      · have q25 : a.tmps[25]?.getD undef = .pointer (some ⟨b, off + (k + 1) * 15, none⟩) := hpre ⟨7, .data⟩ (by simp) rfl (by decide)
        have w21 : a.tmps[21]?.getD undef = .bool true := hpre ⟨3, .guard⟩ (by simp) rfl (by decide)
        refine step_wanted (wanted_of (j := 3) (t := 21) (b := true) rfl rfl w21) ?_
        have hk := Lib.hid (show ∀ v7 x', v7 = .agg C1 → Below x.heap.size x x' → K (a.put (some 26) v7) x' from hK)
        have Hbx := Lib.hid hbx
        clear hsame hpre hK hbx w21
        refine wp_load_mid 29 (.tmp 25) rfl b (off + (k + 1) * 15) (eval_at q25) C1.toList _ (R1.out _ (below_call Hbw.out Hbx.out)) Tryd.underlying29 rfl Hi1.out ?_
        exact hk.out _ _ rfl (Below.refl _ _)
      · have q0 : a.tmps[0]?.getD undef = .slice (some ⟨b, off, none⟩) n c := (hsame 0 (by decide +kernel)).trans f0
        have w21 : a.tmps[21]?.getD undef = .bool true := hpre ⟨3, .guard⟩ (by simp) rfl (by decide)
        refine step_wanted (wanted_of (j := 3) (t := 21) (b := true) rfl rfl w21) ?_
        have hk := Lib.hid (show ∀ v7 x', v7 = .slice (some ⟨b, off, none⟩) n c → Below x.heap.size x x' → K (a.put (some 27) v7) x' from hK)
        have Hbx := Lib.hid hbx
        clear hsame hpre hK hbx w21
        go_simp
        exact hk.out _ _ rfl (Below.refl _ _)
      · have q9 : a.tmps[9]?.getD undef = .int .i64 ((k + 1 : Nat) : Int) := (hsame 9 (by decide +kernel)).trans f9
        have w21 : a.tmps[21]?.getD undef = .bool true := hpre ⟨3, .guard⟩ (by simp) rfl (by decide)
        refine step_wanted (wanted_of (j := 3) (t := 21) (b := true) rfl rfl w21) ?_
        have hk := Lib.hid (show ∀ v7 x', v7 = .int .i64 ((k + 1 : Nat) : Int) → Below x.heap.size x x' → K (a.put (some 28) v7) x' from hK)
        have Hbx := Lib.hid hbx
        clear hsame hpre hK hbx w21
        go_simp
        exact hk.out _ _ rfl (Below.refl _ _)
      · have q28 : a.tmps[28]?.getD undef = .int .i64 ((k + 1 : Nat) : Int) := hpre ⟨10, .data⟩ (by simp) rfl (by decide)
        have w21 : a.tmps[21]?.getD undef = .bool true := hpre ⟨3, .guard⟩ (by simp) rfl (by decide)
        refine step_wanted (wanted_of (j := 3) (t := 21) (b := true) rfl rfl w21) ?_
        have hk := Lib.hid (show ∀ v7 x', v7 = .int .i64 (k : Int) → Below x.heap.size x x' → K (a.put (some 29) v7) x' from hK)
        have Hbx := Lib.hid hbx
        clear hsame hpre hK hbx w21
        go_simp
        exact hk.out _ _ (by first | rfl | (congr 1; first | omega | (rw [IntKind.wrap_i64] <;> omega) | exact decide_eq_true (by omega) | exact decide_eq_false (by omega))) (Below.refl _ _)
      · have q27 : a.tmps[27]?.getD undef = .slice (some ⟨b, off, none⟩) n c := hpre ⟨9, .data⟩ (by simp) rfl (by decide)
        have q29 : a.tmps[29]?.getD undef = .int .i64 (k : Int) := hpre ⟨11, .data⟩ (by simp) rfl (by decide)
        have w21 : a.tmps[21]?.getD undef = .bool true := hpre ⟨3, .guard⟩ (by simp) rfl (by decide)
        refine step_wanted (wanted_of (j := 3) (t := 21) (b := true) rfl rfl w21) ?_
        have hk := Lib.hid (show ∀ v7 x', v7 = .pointer (some ⟨b, off + k * 15, none⟩) → Below x.heap.size x x' → K (a.put (some 30) v7) x' from hK)
        have Hbx := Lib.hid hbx
        clear hsame hpre hK hbx w21
        go_simp
        exact hk.out _ _ (by first | rfl | (congr 1; first | omega | (rw [IntKind.wrap_i64] <;> omega) | exact decide_eq_true (by omega) | exact decide_eq_false (by omega))) (Below.refl _ _)
      · have q30 : a.tmps[30]?.getD undef = .pointer (some ⟨b, off + k * 15, none⟩) := hpre ⟨12, .data⟩ (by simp) rfl (by decide)
        have w21 : a.tmps[21]?.getD undef = .bool true := hpre ⟨3, .guard⟩ (by simp) rfl (by decide)
        refine step_wanted (wanted_of (j := 3) (t := 21) (b := true) rfl rfl w21) ?_
        have hk := Lib.hid (show ∀ v7 x', v7 = .agg C0 → Below x.heap.size x x' → K (a.put (some 31) v7) x' from hK)
        have Hbx := Lib.hid hbx
        clear hsame hpre hK hbx w21
        refine wp_load_mid 29 (.tmp 30) rfl b (off + k * 15) (eval_at q30) C0.toList _ (R0.out _ (below_call Hbw.out Hbx.out)) Tryd.underlying29 rfl Hi0.out ?_
        exact hk.out _ _ rfl (Below.refl _ _)
      · have q22 : a.tmps[22]?.getD undef = .func (.func 49) #[] #[] := hpre ⟨4, .data⟩ (by simp) rfl (by decide)
        have q26 : a.tmps[26]?.getD undef = .agg C1 := hpre ⟨8, .data⟩ (by simp) rfl (by decide)
        have q31 : a.tmps[31]?.getD undef = .agg C0 := hpre ⟨13, .data⟩ (by simp) rfl (by decide)
        have w21 : a.tmps[21]?.getD undef = .bool true := hpre ⟨3, .guard⟩ (by simp) rfl (by decide)
        refine step_wanted (wanted_of (j := 3) (t := 21) (b := true) rfl rfl w21) ?_
        have hk := Lib.hid (show ∀ v7 x', v7 = .int .i64 cv → Below x.heap.size x x' → K (a.put (some 32) v7) x' from hK)
        have Hbx := Lib.hid hbx
        clear hsame hpre hK hbx w21
        go_simp
        refine (Hcx.out _).mono ?_
        rintro e7 w7 ⟨rfl, hb7⟩
        go_simp
        exact hk.out _ _ rfl hb7
      · have q32 : a.tmps[32]?.getD undef = .int .i64 cv := hpre ⟨14, .data⟩ (by simp) rfl (by decide)
        have w21 : a.tmps[21]?.getD undef = .bool true := hpre ⟨3, .guard⟩ (by simp) rfl (by decide)
        refine step_wanted (wanted_of (j := 3) (t := 21) (b := true) rfl rfl w21) ?_
        have hk := Lib.hid (show ∀ v7 x', v7 = .bool false → Below x.heap.size x x' → K (a.put (some 33) v7) x' from hK)
        have Hbx := Lib.hid hbx
        clear hsame hpre hK hbx w21
        go_simp
        exact hk.out _ _ (by first | rfl | (congr 1; first | omega | (rw [IntKind.wrap_i64] <;> omega) | exact decide_eq_true (by omega) | exact decide_eq_false (by omega))) (Below.refl _ _)
      · have q21 : a.tmps[21]?.getD undef = .bool true := hpre ⟨3, .data⟩ (by simp) rfl (by decide)
        have q33 : a.tmps[33]?.getD undef = .bool false := hpre ⟨15, .data⟩ (by simp) rfl (by decide)
        refine step_plain rfl ?_
        have hk := Lib.hid (show ∀ v7 x', v7 = .bool false → Below x.heap.size x x' → K (a.put (some 34) v7) x' from hK)
        have Hbx := Lib.hid hbx
        clear hsame hpre hK hbx
        go_simp
        exact hk.out _ _ rfl (Below.refl _ _)
    intro a10 x10 hbx hsame hG hsz10 hde10
    replace f8 := (hsame 8 (by decide +kernel)).trans f8
    replace f0 := (hsame 0 (by decide +kernel)).trans f0
    replace f1 := (hsame 1 (by decide +kernel)).trans f1
    replace f2 := (hsame 2 (by decide +kernel)).trans f2
    replace f3 := (hsame 3 (by decide +kernel)).trans f3
    replace f9 := (hsame 9 (by decide +kernel)).trans f9
    have f34 : a10.tmps[34]?.getD undef = .bool false := hG 16 (by decide)
    have Hbx10 := Lib.hid hbx
    have hsz10h := Lib.hid hsz10
    have hde10h := Lib.hid (hde10.trans hde9.out)
    clear hsame hG hbx hsz10 hde10 hsz9 hde9
    refine then_go ?_
    repeat with_reducible refine wp_seq ?_
    refine wp_cond_false (eval_at f34) ?_
    refine wp_exit ?_
    repeat with_reducible refine then_exit ?_
    refine block_exit ?_
    refine block_go ?_
    refine then_go ?_
    clear f34 f9
    refine wp_region_lit ?_
    refine wpList_next rfl hsz10h hde10h 15 rfl (by decide) fun K hK => ?_
    go_simp
    refine hK _ _ fun a11 hsz11 hde11 f15 hk => ?_
    clear hK K
    replace f8 := (hk 8 (by decide)).trans f8
    replace f0 := (hk 0 (by decide)).trans f0
    replace f1 := (hk 1 (by decide)).trans f1
    replace f2 := (hk 2 (by decide)).trans f2
    replace f3 := (hk 3 (by decide)).trans f3
    replace f15 : a11.tmps[15]?.getD undef = .int .i64 ((k + 1 : Nat) : Int) := f15
    clear hk hsz10h hde10h
    refine wpList_next rfl hsz11 hde11 16 rfl (by decide) fun K hK => ?_
    go_simp
    refine hK _ _ fun a12 hsz12 hde12 f16 hk => ?_
    clear hK K
    replace f8 := (hk 8 (by decide)).trans f8
    replace f0 := (hk 0 (by decide)).trans f0
    replace f1 := (hk 1 (by decide)).trans f1
    replace f2 := (hk 2 (by decide)).trans f2
    replace f3 := (hk 3 (by decide)).trans f3
    clear hk hsz11 hde11 f15
    replace f16 : a12.tmps[16]?.getD undef = .int .i64 ((k + 1 + 1 : Nat) : Int) := f16.trans (by first | (congr 1; done) | (congr 1; rw [IntKind.wrap_i64] <;> omega))
    refine wpList_next rfl hsz12 hde12 8 rfl (by decide) fun K hK => ?_
    go_simp
    refine hK _ _ fun a13 hsz13 hde13 f8 hk => ?_
    clear hK K
    replace f0 := (hk 0 (by decide)).trans f0
    replace f1 := (hk 1 (by decide)).trans f1
    replace f2 := (hk 2 (by decide)).trans f2
    replace f3 := (hk 3 (by decide)).trans f3
    clear hk hsz12 hde12 f16
    replace f8 : a13.tmps[8]?.getD undef = .int .i64 ((k + 1 + 1 : Nat) : Int) := f8
    refine wpList_nil ?_
    refine then_go ?_
    exact ⟨⟨k + 1, by omega, hsz13, hde13, f8, f0, f1, f2, f3, (Lib.hid (below_call Hbw.out Hbx10.out))⟩, by rw [f8, F8o.out]; show n - ((k + 1 + 1 : Nat) : Int).toNat < n - ((k + 1 : Nat) : Int).toNat; omega⟩
  · have hlt1 : decide (((k + 1 : Nat) : Int) < (n : Int)) = false := decide_eq_false (by omega)
    refine wp_region_lit ?_
    refine wpList_next rfl hsz4 hde4 12 rfl (by decide) fun K hK => ?_
    go_simp
    refine hK _ _ fun a5 hsz5 hde5 f12 hk => ?_
    clear hK K
    replace f8 := (hk 8 (by decide)).trans f8
    replace f0 := (hk 0 (by decide)).trans f0
    replace f1 := (hk 1 (by decide)).trans f1
    replace f2 := (hk 2 (by decide)).trans f2
    replace f3 := (hk 3 (by decide)).trans f3
    replace f12 : a5.tmps[12]?.getD undef = .int .i64 ((k + 1 : Nat) : Int) := f12
    clear hk hsz4 hde4
    refine wpList_next rfl hsz5 hde5 13 rfl (by decide) fun K hK => ?_
    go_simp
    refine hK _ _ fun a6 hsz6 hde6 f13 hk => ?_
    clear hK K
    replace f8 := (hk 8 (by decide)).trans f8
    replace f0 := (hk 0 (by decide)).trans f0
    replace f1 := (hk 1 (by decide)).trans f1
    replace f2 := (hk 2 (by decide)).trans f2
    replace f3 := (hk 3 (by decide)).trans f3
    replace f12 := (hk 12 (by decide)).trans f12
    replace f13 : a6.tmps[13]?.getD undef = .int .i64 (n : Int) := f13
    clear hk hsz5 hde5
    refine wpList_next rfl hsz6 hde6 14 rfl (by decide) fun K hK => ?_
    go_simp
    refine hK _ _ fun a7 hsz7 hde7 f14 hk => ?_
    clear hK K
    replace f8 := (hk 8 (by decide)).trans f8
    replace f0 := (hk 0 (by decide)).trans f0
    replace f1 := (hk 1 (by decide)).trans f1
    replace f2 := (hk 2 (by decide)).trans f2
    replace f3 := (hk 3 (by decide)).trans f3
    clear hk hsz6 hde6 f12 f13
    replace f14 : a7.tmps[14]?.getD undef = .bool false := f14.trans (by first | rfl | (simp; omega))
    refine wpList_nil ?_
    refine then_go ?_
    repeat with_reducible refine wp_seq ?_
    refine wp_cond_false (eval_at f14) ?_
    refine wp_exit ?_
    repeat with_reducible refine then_exit ?_
    refine block_exit ?_
    exact end_none Tryd.results72 hde7 ⟨rfl, Hbw.out⟩

theorem stable_none (ok : Nat → Prop) (v : Value) (M : List Ent) (w : World) (hL : IsL kEnt w ok v M) (hl : M.length ≤ 19) (hM : ∀ k (h : k + 1 < M.length), 0 ≤ Lib.compareBytes M[k + 1].data (M[k]'(by omega)).data) :
    Calls Tryd.prog 66 #[v, .int .i64 (M.length : Int), .func (.func 49) #[] #[]] w fun e w' => e = .returned (.tuple #[]) ∧ Below w.heap.size w w' := by
  have Hi := Lib.hid (insertion_none ok v M w hL (by omega) hM)
  obtain ⟨n, hn⟩ : ∃ n, n = M.length := ⟨_, rfl⟩
  rw [← hn] at hl Hi ⊢
  clear hL hM hn
  go_enter Tryd.func66, Tryd.ntmps66
  refine enter_abs (N := 63) rfl rfl fun a0 hsz0 hde0 hk => ?_
  have f0 : a0.tmps[0]?.getD undef = v := hk 0
  have f1 : a0.tmps[1]?.getD undef = .int .i64 (n : Int) := hk 1
  have f2 : a0.tmps[2]?.getD undef = .func (.func 49) #[] #[] := hk 2
  clear hk
  have hd1 : decide ((20 : Int) ≤ (n : Int)) = false := decide_eq_false (by omega)
  have hd2 : decide ((20 : Int) < (n : Int)) = false := decide_eq_false (by omega)
  repeat with_reducible refine wp_seq ?_
  refine wp_region_lit ?_
  refine wpList_next rfl hsz0 hde0 6 rfl (by decide) fun K hK => ?_
  go_simp
  refine hK _ _ fun a1 hsz1 hde1 f6 hk => ?_
  clear hK K
  replace f0 := (hk 0 (by decide)).trans f0
  replace f1 := (hk 1 (by decide)).trans f1
  replace f2 := (hk 2 (by decide)).trans f2
  replace f6 : a1.tmps[6]?.getD undef = .int .i64 20 := f6
  clear hk hsz0 hde0
  refine wpList_nil ?_
  refine then_go ?_
  repeat with_reducible refine wp_seq ?_
  refine wp_region_lit ?_
  refine wpList_next rfl hsz1 hde1 10 rfl (by decide) fun K hK => ?_
  go_simp
  refine hK _ _ fun a2 hsz2 hde2 f10 hk => ?_
  clear hK K
  replace f0 := (hk 0 (by decide)).trans f0
  replace f1 := (hk 1 (by decide)).trans f1
  replace f2 := (hk 2 (by decide)).trans f2
  replace f6 := (hk 6 (by decide)).trans f6
  clear hk hsz1 hde1
  refine wpList_next rfl hsz2 hde2 7 rfl (by decide) fun K hK => ?_
  go_simp
  refine hK _ _ fun a3 hsz3 hde3 f7 hk => ?_
  clear hK K
  replace f0 := (hk 0 (by decide)).trans f0
  replace f1 := (hk 1 (by decide)).trans f1
  replace f2 := (hk 2 (by decide)).trans f2
  replace f6 := (hk 6 (by decide)).trans f6
  replace f10 := (hk 10 (by decide)).trans f10
  replace f7 : a3.tmps[7]?.getD undef = .int .i64 0 := f7
  clear hk hsz2 hde2
  refine wpList_next rfl hsz3 hde3 8 rfl (by decide) fun K hK => ?_
  go_simp
  refine hK _ _ fun a4 hsz4 hde4 f8 hk => ?_
  clear hK K
  replace f0 := (hk 0 (by decide)).trans f0
  replace f1 := (hk 1 (by decide)).trans f1
  replace f2 := (hk 2 (by decide)).trans f2
  replace f6 := (hk 6 (by decide)).trans f6
  replace f7 := (hk 7 (by decide)).trans f7
  replace f8 : a4.tmps[8]?.getD undef = .int .i64 20 := f8
  clear hk hsz3 hde3 f10
  refine wpList_nil ?_
  refine then_go ?_
  repeat with_reducible refine wp_seq ?_
  refine wp_block ?_
  refine wp_loop_once ?_
  repeat with_reducible refine wp_seq ?_
  refine wp_region_lit ?_
  refine wpList_next rfl hsz4 hde4 11 rfl (by decide) fun K hK => ?_
  go_simp
  refine hK _ _ fun a5 hsz5 hde5 f11 hk => ?_
  clear hK K
  replace f0 := (hk 0 (by decide)).trans f0
  replace f1 := (hk 1 (by decide)).trans f1
  replace f2 := (hk 2 (by decide)).trans f2
  replace f6 := (hk 6 (by decide)).trans f6
  replace f7 := (hk 7 (by decide)).trans f7
  replace f8 := (hk 8 (by decide)).trans f8
  clear hk hsz4 hde4
  refine wpList_next rfl hsz5 hde5 12 rfl (by decide) fun K hK => ?_
  go_simp
  refine hK _ _ fun a6 hsz6 hde6 f12 hk => ?_
  clear hK K
  replace f0 := (hk 0 (by decide)).trans f0
  replace f1 := (hk 1 (by decide)).trans f1
  replace f2 := (hk 2 (by decide)).trans f2
  replace f6 := (hk 6 (by decide)).trans f6
  replace f7 := (hk 7 (by decide)).trans f7
  replace f8 := (hk 8 (by decide)).trans f8
  replace f11 := (hk 11 (by decide)).trans f11
  clear hk hsz5 hde5
  refine wpList_next rfl hsz6 hde6 13 rfl (by decide) fun K hK => ?_
  go_simp
  refine hK _ _ fun a7 hsz7 hde7 f13 hk => ?_
  clear hK K
  replace f0 := (hk 0 (by decide)).trans f0
  replace f1 := (hk 1 (by decide)).trans f1
  replace f2 := (hk 2 (by decide)).trans f2
  replace f6 := (hk 6 (by decide)).trans f6
  replace f7 := (hk 7 (by decide)).trans f7
  replace f8 := (hk 8 (by decide)).trans f8
  clear hk hsz6 hde6 f11 f12
  replace f13 : a7.tmps[13]?.getD undef = .bool false := f13.trans (by first | rfl | (simp; omega))
  refine wpList_nil ?_
  refine then_go ?_
  repeat with_reducible refine wp_seq ?_
  refine wp_cond_false (eval_at f13) ?_
  refine wp_exit ?_
  repeat with_reducible refine then_exit ?_
  refine block_exit ?_
  clear f13 f8
  refine then_go ?_
  repeat with_reducible refine wp_seq ?_
  refine wp_region_lit ?_
  refine wpList_next rfl hsz7 hde7 23 rfl (by decide) fun K hK => ?_
  go_simp
  refine hK _ _ fun a8 hsz8 hde8 f23 hk => ?_
  clear hK K
  replace f0 := (hk 0 (by decide)).trans f0
  replace f1 := (hk 1 (by decide)).trans f1
  replace f2 := (hk 2 (by decide)).trans f2
  replace f6 := (hk 6 (by decide)).trans f6
  replace f7 := (hk 7 (by decide)).trans f7
  replace f23 : a8.tmps[23]?.getD undef = v := f23
  clear hk hsz7 hde7
  refine wpList_next rfl hsz8 hde8 24 rfl (by decide) fun K hK => ?_
  go_simp
  refine hK _ _ fun a9 hsz9 hde9 f24 hk => ?_
  clear hK K
  replace f0 := (hk 0 (by decide)).trans f0
  replace f1 := (hk 1 (by decide)).trans f1
  replace f2 := (hk 2 (by decide)).trans f2
  replace f6 := (hk 6 (by decide)).trans f6
  replace f7 := (hk 7 (by decide)).trans f7
  replace f23 := (hk 23 (by decide)).trans f23
  replace f24 : a9.tmps[24]?.getD undef = .int .i64 0 := f24
  clear hk hsz8 hde8
  refine wpList_next rfl hsz9 hde9 25 rfl (by decide) fun K hK => ?_
  go_simp
  refine hK _ _ fun a10 hsz10 hde10 f25 hk => ?_
  clear hK K
  replace f0 := (hk 0 (by decide)).trans f0
  replace f1 := (hk 1 (by decide)).trans f1
  replace f2 := (hk 2 (by decide)).trans f2
  replace f6 := (hk 6 (by decide)).trans f6
  replace f7 := (hk 7 (by decide)).trans f7
  replace f23 := (hk 23 (by decide)).trans f23
  replace f24 := (hk 24 (by decide)).trans f24
  replace f25 : a10.tmps[25]?.getD undef = .int .i64 (n : Int) := f25
  clear hk hsz9 hde9
  refine wpList_next rfl hsz10 hde10 26 rfl (by decide) fun K hK => ?_
  go_simp
  refine hK _ _ fun a11 hsz11 hde11 f26 hk => ?_
  clear hK K
  replace f0 := (hk 0 (by decide)).trans f0
  replace f1 := (hk 1 (by decide)).trans f1
  replace f2 := (hk 2 (by decide)).trans f2
  replace f6 := (hk 6 (by decide)).trans f6
  replace f7 := (hk 7 (by decide)).trans f7
  replace f23 := (hk 23 (by decide)).trans f23
  replace f24 := (hk 24 (by decide)).trans f24
  replace f25 := (hk 25 (by decide)).trans f25
  replace f26 : a11.tmps[26]?.getD undef = .func (.func 49) #[] #[] := f26
  clear hk hsz10 hde10
  refine wpList_next rfl hsz11 hde11 27 rfl (by decide) fun K hK => ?_
  go_simp
  refine Hi.out.mono ?_
  rintro e7 w7 ⟨rfl, hb7⟩
  go_simp
  refine hK _ _ fun a12 hsz12 hde12 f27 hk => ?_
  clear hK K
  replace f0 := (hk 0 (by decide)).trans f0
  replace f1 := (hk 1 (by decide)).trans f1
  replace f2 := (hk 2 (by decide)).trans f2
  replace f6 := (hk 6 (by decide)).trans f6
  replace f7 := (hk 7 (by decide)).trans f7
  clear hk hsz11 hde11 f23 f24 f25 f26
  clear f27
  refine wpList_nil ?_
  refine then_go ?_
  repeat with_reducible refine wp_seq ?_
  refine wp_block ?_
  refine wp_loop_once ?_
  repeat with_reducible refine wp_seq ?_
  refine wp_region_lit ?_
  refine wpList_next rfl hsz12 hde12 28 rfl (by decide) fun K hK => ?_
  go_simp
  refine hK _ _ fun a13 hsz13 hde13 f28 hk => ?_
  clear hK K
  replace f0 := (hk 0 (by decide)).trans f0
  replace f1 := (hk 1 (by decide)).trans f1
  replace f2 := (hk 2 (by decide)).trans f2
  replace f6 := (hk 6 (by decide)).trans f6
  replace f7 := (hk 7 (by decide)).trans f7
  clear hk hsz12 hde12
  refine wpList_next rfl hsz13 hde13 29 rfl (by decide) fun K hK => ?_
  go_simp
  refine hK _ _ fun a14 hsz14 hde14 f29 hk => ?_
  clear hK K
  replace f0 := (hk 0 (by decide)).trans f0
  replace f1 := (hk 1 (by decide)).trans f1
  replace f2 := (hk 2 (by decide)).trans f2
  replace f6 := (hk 6 (by decide)).trans f6
  replace f7 := (hk 7 (by decide)).trans f7
  replace f28 := (hk 28 (by decide)).trans f28
  clear hk hsz13 hde13
  refine wpList_next rfl hsz14 hde14 30 rfl (by decide) fun K hK => ?_
  go_simp
  refine hK _ _ fun a15 hsz15 hde15 f30 hk => ?_
  clear hK K
  replace f0 := (hk 0 (by decide)).trans f0
  replace f1 := (hk 1 (by decide)).trans f1
  replace f2 := (hk 2 (by decide)).trans f2
  replace f6 := (hk 6 (by decide)).trans f6
  replace f7 := (hk 7 (by decide)).trans f7
  clear hk hsz14 hde14 f28 f29
  replace f30 : a15.tmps[30]?.getD undef = .bool false := f30.trans (by first | rfl | (simp; omega))
  refine wpList_nil ?_
  refine then_go ?_
  repeat with_reducible refine wp_seq ?_
  refine wp_cond_false (eval_at f30) ?_
  refine wp_exit ?_
  repeat with_reducible refine then_exit ?_
  refine block_exit ?_
  exact end_none Tryd.results66 hde15 ⟨rfl, hb7⟩

theorem sort_none (ok : Nat → Prop) (v : Value) (M : List Ent) (w : World) (hL : IsL kEnt w ok v M) (hl : M.length ≤ 19) (hM : ∀ k (h : k + 1 < M.length), 0 ≤ Lib.compareBytes M[k + 1].data (M[k]'(by omega)).data) :
    Calls Tryd.prog 48 #[v, .func (.func 49) #[] #[]] w fun e w' => e = .returned (.tuple #[]) ∧ Below w.heap.size w w' := by
  have Hi := Lib.hid (stable_none ok v M w hL hl hM)
  obtain ⟨A, c, rfl, hc1, hc2, _⟩ := ent_at hL
  obtain ⟨n, hn⟩ : ∃ n, n = M.length := ⟨_, rfl⟩
  rw [← hn] at hl Hi ⊢
  clear hL hM hn
  go_enter Tryd.func48, Tryd.ntmps48
  refine enter_abs (N := 9) rfl rfl fun a0 hsz0 hde0 hk => ?_
  have f0 : a0.tmps[0]?.getD undef = .slice A n c := hk 0
  have f1 : a0.tmps[1]?.getD undef = .func (.func 49) #[] #[] := hk 1
  clear hk
  repeat with_reducible refine wp_seq ?_
  refine wp_region_lit ?_
  refine wpList_next rfl hsz0 hde0 4 rfl (by decide) fun K hK => ?_
  go_simp
  refine hK _ _ fun a1 hsz1 hde1 f4 hk => ?_
  clear hK K
  replace f0 := (hk 0 (by decide)).trans f0
  replace f1 := (hk 1 (by decide)).trans f1
  replace f4 : a1.tmps[4]?.getD undef = .slice A n c := f4
  clear hk hsz0 hde0
  refine wpList_next rfl hsz1 hde1 5 rfl (by decide) fun K hK => ?_
  go_simp
  refine hK _ _ fun a2 hsz2 hde2 f5 hk => ?_
  clear hK K
  replace f0 := (hk 0 (by decide)).trans f0
  replace f1 := (hk 1 (by decide)).trans f1
  replace f4 := (hk 4 (by decide)).trans f4
  replace f5 : a2.tmps[5]?.getD undef = .slice A n c := f5
  clear hk hsz1 hde1
  refine wpList_next rfl hsz2 hde2 6 rfl (by decide) fun K hK => ?_
  go_simp
  refine hK _ _ fun a3 hsz3 hde3 f6 hk => ?_
  clear hK K
  replace f0 := (hk 0 (by decide)).trans f0
  replace f1 := (hk 1 (by decide)).trans f1
  replace f4 := (hk 4 (by decide)).trans f4
  replace f6 : a3.tmps[6]?.getD undef = .int .i64 (n : Int) := f6
  clear hk hsz2 hde2 f5
  refine wpList_next rfl hsz3 hde3 7 rfl (by decide) fun K hK => ?_
  go_simp
  refine hK _ _ fun a4 hsz4 hde4 f7 hk => ?_
  clear hK K
  replace f0 := (hk 0 (by decide)).trans f0
  replace f1 := (hk 1 (by decide)).trans f1
  replace f4 := (hk 4 (by decide)).trans f4
  replace f6 := (hk 6 (by decide)).trans f6
  replace f7 : a4.tmps[7]?.getD undef = .func (.func 49) #[] #[] := f7
  clear hk hsz3 hde3
  refine wpList_next rfl hsz4 hde4 8 rfl (by decide) fun K hK => ?_
  go_simp
  refine Hi.out.mono ?_
  rintro e7 w7 ⟨rfl, hb7⟩
  go_simp
  refine hK _ _ fun a5 hsz5 hde5 f8 hk => ?_
  clear hK K
  replace f0 := (hk 0 (by decide)).trans f0
  replace f1 := (hk 1 (by decide)).trans f1
  clear hk hsz4 hde4 f4 f6 f7
  clear f8
  refine wpList_nil ?_
  exact end_none Tryd.results48 hde5 ⟨rfl, hb7⟩

set_option maxHeartbeats 4000000 in
theorem predE_in (r : Int) (s : Nat) (g : Nat) (w : World) (hb : Blk w g 25 (idC r s)) : PredE 47 #[.pointer (some ⟨g, 0, none⟩)] (fun x => headE x && sameI x.drep x.dseq r s) w := by
  intro W x hW
  have hB0 : Blk (W.alloc (.cells (entC x) 29)) g 25 (idC r s) := (hb.grow hW).alloc _
  have hA : Blk (W.alloc (.cells (entC x) 29)) W.heap.size 29 (entC x) := Blk.new W _ _
  have hbel : Below W.heap.size W (W.alloc (.cells (entC x) 29)) := (Below.refl _ _).alloc (Nat.le_refl _) _
  have hh := fun z => ehead_any x z
  have heq := fun z => ideq_run x.drep x.dseq r s z
  show Calls _ _ _ _ fun e w' => e = .returned (.bool (headE x && sameI x.drep x.dseq r s)) ∧ _
  obtain ⟨q, hq⟩ : ∃ q, q = headE x := ⟨_, rfl⟩
  obtain ⟨e1, he1⟩ : ∃ q, q = sameI x.drep x.dseq r s := ⟨_, rfl⟩
  rw [← hq] at hh ⊢
  rw [← he1] at heq ⊢
  obtain ⟨W2, hW2⟩ : ∃ W2, W2 = W.alloc (.cells (entC x) 29) := ⟨_, rfl⟩
  rw [← hW2] at hB0 hA hbel
  obtain ⟨ID1, hI1⟩ : ∃ I, I = idC x.drep x.dseq := ⟨_, rfl⟩
  obtain ⟨ID2, hI2⟩ : ∃ I, I = idC r s := ⟨_, rfl⟩
  obtain ⟨C, hC⟩ : ∃ C, C = entC x := ⟨_, rfl⟩
  have HR := Lib.hid (show ∀ z, Below W2.heap.size W2 z → z.rangeAt W.heap.size 0 C.toList ∧ z.rangeAt W.heap.size (0 + 2) ID1.toList ∧ z.rangeAt g 0 ID2.toList from fun z hz => by
    rw [hC, hI1, hI2]
    exact ⟨(hA.grow hz).ent.all, (hA.grow hz).ent.dir, (hB0.grow hz).range 0 _ fun j u hu => by rw [Nat.zero_add, ← Array.getElem?_toList]; exact hu⟩)
  have HinfC := Lib.hid (show (Tryd.prog.info? 29).map (·.size) = some C.toList.length by rw [hC]; exact ent_info)
  have Hinf1 := Lib.hid (show (Tryd.prog.info? 25).map (·.size) = some ID1.toList.length by rw [hI1]; exact id_info)
  have Hinf2 := Lib.hid (show (Tryd.prog.info? 25).map (·.size) = some ID2.toList.length by rw [hI2]; exact id_info)
  rw [← hI1, ← hI2] at heq
  rw [← hC] at hh hW2 ⊢
  have Hh := Lib.hid hh
  have Heq := Lib.hid heq
  have Hbel := Lib.hid hbel
  have HW := Lib.hid hW2
  clear hB0 hA hbel hq he1 hW2 hI1 hI2 hC hh heq hb hW
  show Calls _ _ #[.agg C, .pointer (some ⟨g, 0, none⟩)] _ _
  go_enter Tryd.func47, Tryd.ntmps47
  refine enter_abs (N := 12) rfl rfl fun a0 hsz0 hde0 hk => ?_
  have f0 : a0.tmps[0]?.getD undef = .agg C := hk 0
  have f1 : a0.tmps[1]?.getD undef = .pointer (some ⟨g, 0, none⟩) := hk 1
  clear hk
  repeat with_reducible refine wp_seq ?_
  refine wp_region_lit ?_
  refine wpList_next rfl hsz0 hde0 2 rfl (by decide) fun K hK => ?_
  go_simp
  refine hK _ _ fun a1 hsz1 hde1 f2 hk => ?_
  clear hK K
  replace f0 := (hk 0 (by decide)).trans f0
  replace f1 := (hk 1 (by decide)).trans f1
  replace f2 : a1.tmps[2]?.getD undef = .pointer (some ⟨W.heap.size, 0, none⟩) := f2
  clear hk hsz0 hde0
  refine wpList_next rfl hsz1 hde1 3 rfl (by decide) fun K hK => ?_
  go_simp
  refine hK _ _ fun a2 hsz2 hde2 f3 hk => ?_
  clear hK K
  replace f0 := (hk 0 (by decide)).trans f0
  replace f1 := (hk 1 (by decide)).trans f1
  replace f2 := (hk 2 (by decide)).trans f2
  replace f3 : a2.tmps[3]?.getD undef = .bool false := f3
  clear hk hsz1 hde1
  refine wpList_nil ?_
  clear f0 f3
  rw [← HW.out]
  refine then_go ?_
  repeat with_reducible refine wp_seq ?_
  cases q with
  | false =>
    refine wp_region_lit ?_
    refine wpList_next rfl hsz2 hde2 4 rfl (by decide) fun K hK => ?_
    refine wp_load_mid 29 (.tmp 2) rfl W.heap.size 0 (eval_at f2) C.toList _ (HR.out _ (Below.refl _ _)).1 Tryd.underlying29 rfl HinfC.out ?_
    refine hK _ _ fun a3 hsz3 hde3 f4 hk => ?_
    clear hK K
    replace f1 := (hk 1 (by decide)).trans f1
    replace f2 := (hk 2 (by decide)).trans f2
    replace f4 : a3.tmps[4]?.getD undef = .agg C := f4
    clear hk hsz2 hde2
    refine wpList_next rfl hsz3 hde3 5 rfl (by decide) fun K hK => ?_
    go_simp
    refine (Hh.out _).mono ?_
    rintro e7 w7 ⟨rfl, hb7⟩
    go_simp
    refine hK _ _ fun a4 hsz4 hde4 f5 hk => ?_
    clear hK K
    replace f1 := (hk 1 (by decide)).trans f1
    replace f2 := (hk 2 (by decide)).trans f2
    replace f5 : a4.tmps[5]?.getD undef = .bool false := f5
    clear hk hsz3 hde3 f4
    refine wpList_next rfl hsz4 hde4 6 rfl (by decide) fun K hK => ?_
    go_simp
    refine hK _ _ fun a5 hsz5 hde5 f6 hk => ?_
    clear hK K
    replace f1 := (hk 1 (by decide)).trans f1
    replace f2 := (hk 2 (by decide)).trans f2
    replace f6 : a5.tmps[6]?.getD undef = .bool false := f6
    clear hk hsz4 hde4 f5
    refine wpList_leave (not_wanted (j := 2) (t := 6) (b := true) rfl rfl (.inr f6)) hsz5 hde5 7 rfl (by decide) fun a6 hsz6 hde6 f7 hk => ?_
    replace f1 := (hk 1 (by decide)).trans f1
    replace f2 := (hk 2 (by decide)).trans f2
    replace f6 := (hk 6 (by decide)).trans f6
    clear hk hsz5 hde5
    refine wpList_leave (not_wanted (j := 2) (t := 6) (b := true) rfl rfl (.inr f6)) hsz6 hde6 8 rfl (by decide) fun a7 hsz7 hde7 f8 hk => ?_
    replace f1 := (hk 1 (by decide)).trans f1
    replace f2 := (hk 2 (by decide)).trans f2
    replace f6 := (hk 6 (by decide)).trans f6
    clear hk hsz6 hde6 f7
    refine wpList_leave (not_wanted (j := 2) (t := 6) (b := true) rfl rfl (.inr f6)) hsz7 hde7 9 rfl (by decide) fun a8 hsz8 hde8 f9 hk => ?_
    replace f1 := (hk 1 (by decide)).trans f1
    replace f2 := (hk 2 (by decide)).trans f2
    replace f6 := (hk 6 (by decide)).trans f6
    replace f8 := (hk 8 (by decide)).trans f8
    clear hk hsz7 hde7
    refine wpList_leave (not_wanted (j := 2) (t := 6) (b := true) rfl rfl (.inr f6)) hsz8 hde8 10 rfl (by decide) fun a9 hsz9 hde9 f10 hk => ?_
    replace f1 := (hk 1 (by decide)).trans f1
    replace f2 := (hk 2 (by decide)).trans f2
    replace f6 := (hk 6 (by decide)).trans f6
    clear hk hsz8 hde8 f8 f9
    refine wpList_next rfl hsz9 hde9 11 rfl (by decide) fun K hK => ?_
    go_simp
    refine hK _ _ fun a10 hsz10 hde10 f11 hk => ?_
    clear hK K
    replace f1 := (hk 1 (by decide)).trans f1
    replace f2 := (hk 2 (by decide)).trans f2
    replace f11 : a10.tmps[11]?.getD undef = .bool false := f11
    clear hk hsz9 hde9 f6 f10
    refine wpList_next rfl hsz10 hde10 3 rfl (by decide) fun K hK => ?_
    go_simp
    refine hK _ _ fun a11 hsz11 hde11 f3 hk => ?_
    clear hK K
    replace f1 := (hk 1 (by decide)).trans f1
    replace f2 := (hk 2 (by decide)).trans f2
    replace f3 : a11.tmps[3]?.getD undef = .bool false := f3
    clear hk hsz10 hde10 f11
    refine wpList_nil ?_
    refine then_go ?_
    refine wp_ret ?_
    repeat first | with_reducible refine then_ret ?_ | with_reducible refine block_ret ?_
    refine ret_tmp Tryd.results47 hde11 f3 ?_
    exact ⟨rfl, below_call Hbel.out hb7⟩
  | true =>
    refine wp_region_lit ?_
    refine wpList_next rfl hsz2 hde2 4 rfl (by decide) fun K hK => ?_
    refine wp_load_mid 29 (.tmp 2) rfl W.heap.size 0 (eval_at f2) C.toList _ (HR.out _ (Below.refl _ _)).1 Tryd.underlying29 rfl HinfC.out ?_
    refine hK _ _ fun a3 hsz3 hde3 f4 hk => ?_
    clear hK K
    replace f1 := (hk 1 (by decide)).trans f1
    replace f2 := (hk 2 (by decide)).trans f2
    replace f4 : a3.tmps[4]?.getD undef = .agg C := f4
    clear hk hsz2 hde2
    refine wpList_next rfl hsz3 hde3 5 rfl (by decide) fun K hK => ?_
    go_simp
    refine (Hh.out _).mono ?_
    rintro e7 w7 ⟨rfl, hb7⟩
    go_simp
    refine hK _ _ fun a4 hsz4 hde4 f5 hk => ?_
    clear hK K
    replace f1 := (hk 1 (by decide)).trans f1
    replace f2 := (hk 2 (by decide)).trans f2
    replace f5 : a4.tmps[5]?.getD undef = .bool true := f5
    clear hk hsz3 hde3 f4
    refine wpList_next rfl hsz4 hde4 6 rfl (by decide) fun K hK => ?_
    go_simp
    refine hK _ _ fun a5 hsz5 hde5 f6 hk => ?_
    clear hK K
    replace f1 := (hk 1 (by decide)).trans f1
    replace f2 := (hk 2 (by decide)).trans f2
    replace f6 : a5.tmps[6]?.getD undef = .bool true := f6
    clear hk hsz4 hde4 f5
    refine wpList_nextg (wanted_of (j := 2) (t := 6) (b := true) rfl rfl f6) hsz5 hde5 7 rfl (by decide) fun K hK => ?_
    go_simp
    refine hK _ _ fun a6 hsz6 hde6 f7 hk => ?_
    clear hK K
    replace f1 := (hk 1 (by decide)).trans f1
    replace f2 := (hk 2 (by decide)).trans f2
    replace f6 := (hk 6 (by decide)).trans f6
    replace f7 : a6.tmps[7]?.getD undef = .pointer (some ⟨W.heap.size, 0 + 2, none⟩) := f7
    clear hk hsz5 hde5
    refine wpList_nextg (wanted_of (j := 2) (t := 6) (b := true) rfl rfl f6) hsz6 hde6 8 rfl (by decide) fun K hK => ?_
    refine wp_load_mid 25 (.tmp 7) rfl W.heap.size (0 + 2) (eval_at f7) ID1.toList _ (HR.out _ hb7).2.1 Tryd.underlying25 rfl Hinf1.out ?_
    refine hK _ _ fun a7 hsz7 hde7 f8 hk => ?_
    clear hK K
    replace f1 := (hk 1 (by decide)).trans f1
    replace f2 := (hk 2 (by decide)).trans f2
    replace f6 := (hk 6 (by decide)).trans f6
    replace f8 : a7.tmps[8]?.getD undef = .agg ID1 := f8
    clear hk hsz6 hde6 f7
    refine wpList_nextg (wanted_of (j := 2) (t := 6) (b := true) rfl rfl f6) hsz7 hde7 9 rfl (by decide) fun K hK => ?_
    refine wp_load_mid 25 (.tmp 1) rfl g 0 (eval_at f1) ID2.toList _ (HR.out _ hb7).2.2 Tryd.underlying25 rfl Hinf2.out ?_
    refine hK _ _ fun a8 hsz8 hde8 f9 hk => ?_
    clear hK K
    replace f1 := (hk 1 (by decide)).trans f1
    replace f2 := (hk 2 (by decide)).trans f2
    replace f6 := (hk 6 (by decide)).trans f6
    replace f8 := (hk 8 (by decide)).trans f8
    replace f9 : a8.tmps[9]?.getD undef = .agg ID2 := f9
    clear hk hsz7 hde7
    refine wpList_nextg (wanted_of (j := 2) (t := 6) (b := true) rfl rfl f6) hsz8 hde8 10 rfl (by decide) fun K hK => ?_
    have heq := Heq.out
    go_simp
    refine hK _ _ fun a9 hsz9 hde9 f10 hk => ?_
    clear hK K
    replace f1 := (hk 1 (by decide)).trans f1
    replace f2 := (hk 2 (by decide)).trans f2
    replace f6 := (hk 6 (by decide)).trans f6
    replace f10 : a9.tmps[10]?.getD undef = .bool e1 := f10
    clear hk hsz8 hde8 f8 f9
    clear heq
    refine wpList_next rfl hsz9 hde9 11 rfl (by decide) fun K hK => ?_
    go_simp
    refine hK _ _ fun a10 hsz10 hde10 f11 hk => ?_
    clear hK K
    replace f1 := (hk 1 (by decide)).trans f1
    replace f2 := (hk 2 (by decide)).trans f2
    replace f11 : a10.tmps[11]?.getD undef = .bool e1 := f11
    clear hk hsz9 hde9 f6 f10
    refine wpList_next rfl hsz10 hde10 3 rfl (by decide) fun K hK => ?_
    go_simp
    refine hK _ _ fun a11 hsz11 hde11 f3 hk => ?_
    clear hK K
    replace f1 := (hk 1 (by decide)).trans f1
    replace f2 := (hk 2 (by decide)).trans f2
    replace f3 : a11.tmps[3]?.getD undef = .bool e1 := f3
    clear hk hsz10 hde10 f11
    refine wpList_nil ?_
    refine then_go ?_
    refine wp_ret ?_
    repeat first | with_reducible refine then_ret ?_ | with_reducible refine block_ret ?_
    refine ret_tmp Tryd.results47 hde11 f3 ?_
    exact ⟨rfl, below_call Hbel.out hb7⟩

/-- entry.In, where what is there lies in the order of the names. -/
theorem in_none (ok : Nat → Prop) (v : Value) (L : List Ent) (r : Int) (s : Nat) (w : World) (hL : IsL kEnt w ok v L) (hd : ∀ x ∈ L, x.data.length ≤ 1000) (hl : L.length ≤ 1000) (M : List Ent) (hMe : L.filter (fun x => headE x && sameI x.drep x.dseq r s) = M) (hl2 : M.length ≤ 19) (hM : ∀ k (h : k + 1 < M.length), 0 ≤ Lib.compareBytes M[k + 1].data (M[k]'(by omega)).data) :
    Calls Tryd.prog 21 #[v, .agg (idC r s)] w fun e w' => (∃ u, e = .returned u ∧ OwnE w' w.heap.size u M) ∧ Below w.heap.size w w' := by
  obtain ⟨wb, hwb⟩ : ∃ wb, wb = w.alloc (.cells (idC r s) 25) := ⟨_, rfl⟩
  have hbel : Below w.heap.size w wb := by rw [hwb]; exact (Below.refl _ _).alloc (Nat.le_refl _) _
  have hB : Blk wb w.heap.size 25 (idC r s) := by rw [hwb]; exact Blk.new _ _ _
  have hth := ethose_any 47 #[.pointer (some ⟨w.heap.size, 0, none⟩)] _ (enters_of Tryd.func47 (by kernel_rfl) rfl) ok v L wb (hL.grow hbel) hd hl (predE_in r s w.heap.size wb hB)
  rw [hMe] at hth
  have Hth := Lib.hid hth
  have Hso := Lib.hid fun (u : Value) (z : World) (hu : OwnE z wb.heap.size u M) => sort_none _ u M z hu.isL hl2 hM
  have Hbel := Lib.hid hbel
  obtain ⟨I, hI⟩ : ∃ I, I = idC r s := ⟨_, rfl⟩
  rw [← hI] at hwb ⊢
  have HW := Lib.hid hwb
  clear hL hd hl hMe hl2 hM hwb hbel hB hth hI
  go_enter Tryd.func21, Tryd.ntmps21
  refine enter_abs (N := 12) rfl rfl fun a0 hsz0 hde0 hk => ?_
  have f0 : a0.tmps[0]?.getD undef = v := hk 0
  have f1 : a0.tmps[1]?.getD undef = .agg I := hk 1
  clear hk
  repeat with_reducible refine wp_seq ?_
  refine wp_region_lit ?_
  refine wpList_next rfl hsz0 hde0 3 rfl (by decide) fun K hK => ?_
  go_simp
  refine hK _ _ fun a1 hsz1 hde1 f3 hk => ?_
  clear hK K
  replace f0 := (hk 0 (by decide)).trans f0
  replace f1 := (hk 1 (by decide)).trans f1
  replace f3 : a1.tmps[3]?.getD undef = .pointer (some ⟨w.heap.size, 0, none⟩) := f3
  clear hk hsz0 hde0
  refine wpList_next rfl hsz1 hde1 4 rfl (by decide) fun K hK => ?_
  go_simp
  refine hK _ _ fun a2 hsz2 hde2 f4 hk => ?_
  clear hK K
  replace f0 := (hk 0 (by decide)).trans f0
  replace f1 := (hk 1 (by decide)).trans f1
  replace f3 := (hk 3 (by decide)).trans f3
  replace f4 : a2.tmps[4]?.getD undef = .slice none 0 0 := f4
  clear hk hsz1 hde1
  refine wpList_nil ?_
  clear f1 f4
  rw [← HW.out]
  refine then_go ?_
  repeat with_reducible refine wp_seq ?_
  refine wp_region_lit ?_
  refine wpList_next rfl hsz2 hde2 6 rfl (by decide) fun K hK => ?_
  go_simp
  refine hK _ _ fun a3 hsz3 hde3 f6 hk => ?_
  clear hK K
  replace f0 := (hk 0 (by decide)).trans f0
  replace f3 := (hk 3 (by decide)).trans f3
  replace f6 : a3.tmps[6]?.getD undef = v := f6
  clear hk hsz2 hde2
  refine wpList_next rfl hsz3 hde3 7 rfl (by decide) fun K hK => ?_
  go_simp
  refine hK _ _ fun a4 hsz4 hde4 f7 hk => ?_
  clear hK K
  replace f0 := (hk 0 (by decide)).trans f0
  replace f3 := (hk 3 (by decide)).trans f3
  replace f6 := (hk 6 (by decide)).trans f6
  replace f7 : a4.tmps[7]?.getD undef = .func (.func 47) #[] #[.pointer (some ⟨w.heap.size, 0, none⟩)] := f7
  clear hk hsz3 hde3
  refine wpList_next rfl hsz4 hde4 8 rfl (by decide) fun K hK => ?_
  go_simp
  refine Hth.out.mono ?_
  rintro e1 w1 ⟨⟨u1, rfl, hown1⟩, hb1⟩
  go_simp
  refine hK _ _ fun a5 hsz5 hde5 f8 hk => ?_
  clear hK K
  replace f0 := (hk 0 (by decide)).trans f0
  replace f3 := (hk 3 (by decide)).trans f3
  replace f8 : a5.tmps[8]?.getD undef = u1 := f8
  clear hk hsz4 hde4 f6 f7
  refine wpList_next rfl hsz5 hde5 5 rfl (by decide) fun K hK => ?_
  go_simp
  refine hK _ _ fun a6 hsz6 hde6 f5 hk => ?_
  clear hK K
  replace f0 := (hk 0 (by decide)).trans f0
  replace f3 := (hk 3 (by decide)).trans f3
  replace f5 : a6.tmps[5]?.getD undef = u1 := f5
  clear hk hsz5 hde5 f8
  refine wpList_nil ?_
  have Hown1 := Lib.hid hown1
  have Hb1 := Lib.hid hb1
  clear hown1 hb1
  refine then_go ?_
  repeat with_reducible refine wp_seq ?_
  clear f0 f3
  refine wp_region_lit ?_
  refine wpList_next rfl hsz6 hde6 9 rfl (by decide) fun K hK => ?_
  go_simp
  refine hK _ _ fun a7 hsz7 hde7 f9 hk => ?_
  clear hK K
  replace f5 := (hk 5 (by decide)).trans f5
  replace f9 : a7.tmps[9]?.getD undef = u1 := f9
  clear hk hsz6 hde6
  refine wpList_next rfl hsz7 hde7 10 rfl (by decide) fun K hK => ?_
  go_simp
  refine (Hso.out u1 _ Hown1.out).mono ?_
  rintro e2 w2 ⟨rfl, hb2⟩
  go_simp
  refine hK _ _ fun a8 hsz8 hde8 f10 hk => ?_
  clear hK K
  replace f5 := (hk 5 (by decide)).trans f5
  clear hk hsz7 hde7 f9
  clear f10
  refine wpList_nil ?_
  refine then_go ?_
  repeat with_reducible refine wp_seq ?_
  refine wp_region_lit ?_
  refine wpList_next rfl hsz8 hde8 11 rfl (by decide) fun K hK => ?_
  go_simp
  refine hK _ _ fun a9 hsz9 hde9 f11 hk => ?_
  clear hK K
  replace f5 := (hk 5 (by decide)).trans f5
  replace f11 : a9.tmps[11]?.getD undef = u1 := f11
  clear hk hsz8 hde8
  refine wpList_next rfl hsz9 hde9 4 rfl (by decide) fun K hK => ?_
  go_simp
  refine hK _ _ fun a10 hsz10 hde10 f4 hk => ?_
  clear hK K
  replace f5 := (hk 5 (by decide)).trans f5
  replace f4 : a10.tmps[4]?.getD undef = u1 := f4
  clear hk hsz9 hde9 f11
  refine wpList_nil ?_
  refine then_go ?_
  refine wp_ret ?_
  repeat first | with_reducible refine then_ret ?_ | with_reducible refine block_ret ?_
  refine ret_tmp Tryd.results21 hde10 f4 ?_
  exact ⟨⟨_, rfl, (Hown1.out.grow hb2).mono Hbel.out.size⟩, below_call Hbel.out (below_call Hb1.out hb2)⟩
end Go.Proofs.YtcpjgohclncbkaaDoor
