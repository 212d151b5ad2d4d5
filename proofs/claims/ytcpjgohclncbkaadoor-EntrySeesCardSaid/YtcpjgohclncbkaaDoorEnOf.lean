/-
  The document's Of and Shown; entry.Of.
-/
import Derived.Test.YtcpjgohclncbkaaDoorEnIn
import Derived.Test.YtcpjgohclncbkaaDoorEnShown
namespace Go.Proofs.YtcpjgohclncbkaaDoor
open Go.RowKit
set_option maxRecDepth 100000

/-- The entries of an object that are there. -/
def objE (L : List Ent) (r : Int) (s : Nat) : List Ent := L.filter fun x => headE x && sameI x.orep x.oseq r s
theorem obj_next {L : List Ent} {i : Nat} (h : i < L.length) (r : Int) (s : Nat) : objE (L.take (i + 1)) r s = if headE L[i] && sameI L[i].orep L[i].oseq r s then objE (L.take i) r s ++ [L[i]] else objE (L.take i) r s := by
  unfold objE
  rw [List.take_succ_eq_append_getElem h, List.filter_append]
  by_cases e : (headE L[i] && sameI L[i].orep L[i].oseq r s) = true
  · rw [if_pos e, List.filter_cons, if_pos e, List.filter_nil]
  · rw [if_neg e, List.filter_cons, if_neg e, List.filter_nil, List.append_nil]
def RoInv (wb : World) (v pv : Value) (L : List Ent) (r : Int) (s n : Nat) (k9 : Nat) (a : Act) (x : World) : Prop :=
  ∃ (i : Nat) (u : Value), Hid (a.tmps.size = 35) ∧ Hid (a.defers = []) ∧ a.tmps[0]?.getD undef = v ∧ a.tmps[3]?.getD undef = pv ∧ a.tmps[5]?.getD undef = u ∧ a.tmps[6]?.getD undef = .int .i64 ((i : Nat) : Int) ∧ Hid (i ≤ n) ∧ Hid (OwnE x wb.heap.size u (objE (L.take i) r s)) ∧ Hid (Below wb.heap.size wb x) ∧ k9 = n - i

set_option maxHeartbeats 8000000 in
theorem erefof_any (ok : Nat → Prop) (v : Value) (L : List Ent) (r : Int) (s : Nat) (w : World) (hL : IsL kEnt w ok v L) (hl : L.length ≤ 1000) :
    Calls Tryd.prog 25 #[v, .agg (idC r s)] w fun e w' => (∃ u, e = .returned u ∧ OwnE w' w.heap.size u (objE L r s)) ∧ Below w.heap.size w w' := by
  obtain ⟨IB, hIB⟩ : ∃ A, A = idC r s := ⟨_, rfl⟩
  obtain ⟨wb, hwb⟩ : ∃ wb, wb = w.alloc (.cells IB 25) := ⟨_, rfl⟩
  have hbel : Below w.heap.size w wb := by rw [hwb]; exact (Below.refl _ w).alloc (Nat.le_refl _) _
  have hbox : Blk wb w.heap.size 25 IB := by rw [hwb]; exact Blk.new w _ _
  have HrB := Lib.hid (show ∀ z, Below wb.heap.size wb z → z.rangeAt w.heap.size 0 IB.toList from fun z hz => (hbox.grow hz).range 0 IB.toList fun j u hu => by rw [Nat.zero_add, ← Array.getElem?_toList]; exact hu)
  have HfB := Lib.hid (show (Tryd.prog.info? 25).map (·.size) = some IB.toList.length by rw [hIB]; exact id_info)
  have HIB := Lib.hid hIB
  have Hbel := Lib.hid hbel
  have HW := Lib.hid hwb
  obtain ⟨A, cc, rfl, hc1, hc2, hE⟩ := ent_at (hL.grow hbel)
  have Hel := Lib.hid hE
  obtain ⟨n, hn⟩ : ∃ n, n = L.length := ⟨_, rfl⟩
  rw [← hn] at hc1 hl ⊢
  have Hn := Lib.hid hn
  have hmx : maxLen ≤ 9223372036854775807 := by decide
  rw [← hIB]
  clear hL hbel hbox hwb hIB hE hn
  go_enter Tryd.func25, Tryd.ntmps25
  refine enter_abs (N := 35) rfl rfl fun a0 hsz0 hde0 hk => ?_
  have f0 : a0.tmps[0]?.getD undef = .slice A n cc := hk 0
  have f1 : a0.tmps[1]?.getD undef = .agg IB := hk 1
  clear hk
  repeat with_reducible refine wp_seq ?_
  refine wp_region_lit ?_
  refine wpList_next rfl hsz0 hde0 3 rfl (by decide) fun K hK => ?_
  go_simp
  refine hK _ _ fun a1 hsz1 hde1 f3 hk => ?_
  clear hK K
  replace f0 := (hk 0 (by decide)).trans f0
  replace f1 := (hk 1 (by decide)).trans f1
  replace f3 : a1.tmps[3]?.getD undef = .pointer (some ⟨w.heap.size, 0, none⟩) := f3
  clear hk hsz0 hde0
  refine wpList_next rfl hsz1 hde1 4 rfl (by decide) fun K hK => ?_
  go_simp
  refine hK _ _ fun a2 hsz2 hde2 f4 hk => ?_
  clear hK K
  replace f0 := (hk 0 (by decide)).trans f0
  replace f1 := (hk 1 (by decide)).trans f1
  replace f3 := (hk 3 (by decide)).trans f3
  replace f4 : a2.tmps[4]?.getD undef = .slice none 0 0 := f4
  clear hk hsz1 hde1
  refine wpList_nil ?_
  clear f1 f4
  rw [← HW.out]
  refine then_go ?_
  repeat with_reducible refine wp_seq ?_
  refine wp_region_lit ?_
  refine wpList_next rfl hsz2 hde2 5 rfl (by decide) fun K hK => ?_
  go_simp
  refine hK _ _ fun a3 hsz3 hde3 f5 hk => ?_
  clear hK K
  replace f0 := (hk 0 (by decide)).trans f0
  replace f3 := (hk 3 (by decide)).trans f3
  replace f5 : a3.tmps[5]?.getD undef = .slice none 0 0 := f5
  clear hk hsz2 hde2
  refine wpList_nil ?_
  refine then_go ?_
  repeat with_reducible refine wp_seq ?_
  refine wp_region_lit ?_
  refine wpList_next rfl hsz3 hde3 6 rfl (by decide) fun K hK => ?_
  go_simp
  refine hK _ _ fun a4 hsz4 hde4 f6 hk => ?_
  clear hK K
  replace f0 := (hk 0 (by decide)).trans f0
  replace f3 := (hk 3 (by decide)).trans f3
  replace f5 := (hk 5 (by decide)).trans f5
  replace f6 : a4.tmps[6]?.getD undef = .int .i64 ((0 : Nat) : Int) := f6
  clear hk hsz3 hde3
  refine wpList_nil ?_
  refine then_go ?_
  repeat with_reducible refine wp_seq ?_
  refine wp_block ?_
  refine wp_loop_ghost (RoInv wb (.slice A n cc) (.pointer (some ⟨w.heap.size, 0, none⟩)) L r s n) (n - 0) ?_ ?_
  · exact ⟨0, _, hsz4, hde4, f0, f3, f5, f6, Lib.hid (Nat.zero_le _), Lib.hid (OwnE.nil _ _), Lib.hid (Below.refl _ _), rfl⟩
  clear hsz4 hde4 f0 f3 f5 f6
  intro n2 a19 wr hI
  obtain ⟨i, u, hsz19, hde19, f0, f3, f5, f6, Hi, Hown, Hbw, hn2⟩ := hI
  have Hn2 := Lib.hid hn2
  clear hn2
  repeat with_reducible refine wp_seq ?_
  by_cases hlt : i < n
  · skip
    refine wp_region_lit ?_
    refine wpList_next rfl hsz19 hde19 7 rfl (by decide) fun K hK => ?_
    go_simp
    refine hK _ _ fun a20 hsz20 hde20 f7 hk => ?_
    clear hK K
    replace f0 := (hk 0 (by decide)).trans f0
    replace f3 := (hk 3 (by decide)).trans f3
    replace f5 := (hk 5 (by decide)).trans f5
    replace f6 := (hk 6 (by decide)).trans f6
    replace f7 : a20.tmps[7]?.getD undef = .int .i64 ((i : Nat) : Int) := f7
    clear hk hsz19 hde19
    refine wpList_next rfl hsz20 hde20 8 rfl (by decide) fun K hK => ?_
    go_simp
    refine hK _ _ fun a21 hsz21 hde21 f8 hk => ?_
    clear hK K
    replace f0 := (hk 0 (by decide)).trans f0
    replace f3 := (hk 3 (by decide)).trans f3
    replace f5 := (hk 5 (by decide)).trans f5
    replace f6 := (hk 6 (by decide)).trans f6
    replace f7 := (hk 7 (by decide)).trans f7
    replace f8 : a21.tmps[8]?.getD undef = .slice A n cc := f8
    clear hk hsz20 hde20
    refine wpList_next rfl hsz21 hde21 9 rfl (by decide) fun K hK => ?_
    go_simp
    refine hK _ _ fun a22 hsz22 hde22 f9 hk => ?_
    clear hK K
    replace f0 := (hk 0 (by decide)).trans f0
    replace f3 := (hk 3 (by decide)).trans f3
    replace f5 := (hk 5 (by decide)).trans f5
    replace f6 := (hk 6 (by decide)).trans f6
    replace f7 := (hk 7 (by decide)).trans f7
    replace f9 : a22.tmps[9]?.getD undef = .int .i64 ((n : Nat) : Int) := f9
    clear hk hsz21 hde21 f8
    refine wpList_next rfl hsz22 hde22 10 rfl (by decide) fun K hK => ?_
    go_simp
    refine hK _ _ fun a23 hsz23 hde23 f10 hk => ?_
    clear hK K
    replace f0 := (hk 0 (by decide)).trans f0
    replace f3 := (hk 3 (by decide)).trans f3
    replace f5 := (hk 5 (by decide)).trans f5
    replace f6 := (hk 6 (by decide)).trans f6
    clear hk hsz22 hde22 f7 f9
    replace f10 : a23.tmps[10]?.getD undef = .bool true := f10.trans (by first | rfl | (congr 1; first | exact decide_eq_true (by omega) | exact decide_eq_false (by omega)) | (simp; omega))
    refine wpList_nil ?_
    refine then_go ?_
    repeat with_reducible refine wp_seq ?_
    refine wp_cond_true (eval_at f10) ?_
    refine wp_skip ?_
    refine then_go ?_
    clear f10
    repeat with_reducible refine wp_seq ?_
    refine wp_block ?_
    repeat with_reducible refine wp_seq ?_
    have hil : i < L.length := by rw [← Hn.out]; exact hlt
    obtain ⟨b, off, rfl, _, _, hel⟩ := Hel.out (by intro e; subst e; simp at hil)
    obtain ⟨X, hX⟩ : ∃ X, X = L[i] := ⟨_, rfl⟩
    have HX := Lib.hid hX
    obtain ⟨CX, hCX⟩ : ∃ C, C = entC X := ⟨_, rfl⟩
    obtain ⟨DX, hDX⟩ : ∃ C, C = idC X.orep X.oseq := ⟨_, rfl⟩
    have hrow : ∀ z, Below wb.heap.size wb z → z.rangeAt b (off + i * 15) (entC X).toList := fun z hz => by rw [hX]; exact range_ext (hel i hil).1 hz
    have HrX := Lib.hid (show ∀ z, Below wb.heap.size wb z → z.rangeAt b (off + i * 15) CX.toList from fun z hz => by rw [hCX]; exact hrow z hz)
    have HrD := Lib.hid (show ∀ z, Below wb.heap.size wb z → z.rangeAt b (off + i * 15 + 5) DX.toList from fun z hz => by rw [hDX]; exact (entCells (hrow z hz)).obj)
    have HXok := Lib.hid (show EntOk X by rw [hX]; exact (hel i hil).2)
    have HfX := Lib.hid (show (Tryd.prog.info? 29).map (·.size) = some CX.toList.length by rw [hCX]; exact ent_info)
    have HfD := Lib.hid (show (Tryd.prog.info? 25).map (·.size) = some DX.toList.length by rw [hDX]; exact id_info)
    have heq := fun z => ideq_run X.orep X.oseq r s z
    rw [← hDX, ← HIB.out] at heq
    have hal := fun z => erefhead_any X z
    rw [← hCX] at hal
    obtain ⟨e, he⟩ : ∃ e, e = sameI X.orep X.oseq r s := ⟨_, rfl⟩
    obtain ⟨h, hh⟩ : ∃ h, h = headE X := ⟨_, rfl⟩
    rw [← he] at heq
    rw [← hh] at hal
    have Heq := Lib.hid heq
    have Hal := Lib.hid hal
    have hnx := obj_next hil r s
    rw [← hX, ← he, ← hh] at hnx
    have Hnx := Lib.hid hnx
    have HCX := Lib.hid hCX
    have hfx := fold_ent X
    rw [← hCX] at hfx
    have HfC := Lib.hid hfx
    have hCXs : CX.size = 15 := by rw [hCX]; rfl
    have hi0 : (0 : Int) ≤ (i : Int) := by omega
    have hin : (i : Int) < (n : Int) := by omega
    have Hol := Lib.hid (show (objE (L.take i) r s).length ≤ 1000 from Nat.le_trans (List.length_filter_le _ _) (by rw [List.length_take]; omega))
    clear hel hX hCX hDX hrow heq hal he hh hnx hfx
    cases e with
    | false =>
      refine wp_region_goodg (tblG [(13, .slice (some ⟨b, off, none⟩) n cc), (14, .int .i64 ((i : Nat) : Int)), (15, .pointer (some ⟨b, off + i * 15, none⟩)), (16, .pointer (some ⟨b, off + i * 15 + 5, none⟩)), (17, .agg DX), (18, .agg IB), (19, .bool false), (20, .bool false), (21, undef), (22, undef), (23, undef), (24, undef), (25, undef), (26, .bool false)]) 35 (by kernel_rfl) (by kernel_rfl) (by kernel_rfl) (by kernel_rfl) hsz23.out ?_ ?_ ?_
      · intro t v7 x x' h _ _
        exact h
      · intro i7 o hi7 a x hbx hsame hpre K hK
        have hlt7 : i7 < 14 := (Array.getElem?_eq_some_iff.1 hi7).1
        rcases (show i7 = 0 ∨ i7 = 1 ∨ i7 = 2 ∨ i7 = 3 ∨ i7 = 4 ∨ i7 = 5 ∨ i7 = 6 ∨ i7 = 7 ∨ i7 = 8 ∨ i7 = 9 ∨ i7 = 10 ∨ i7 = 11 ∨ i7 = 12 ∨ i7 = 13 by omega) with rfl | rfl | rfl | rfl | rfl | rfl | rfl | rfl | rfl | rfl | rfl | rfl | rfl | rfl
        all_goals (have ho := Option.some.inj hi7; subst ho; clear hi7 hlt7)
        · have q0 : a.tmps[0]?.getD undef = .slice (some ⟨b, off, none⟩) n cc := (hsame 0 (by decide +kernel)).trans f0
          refine step_plain rfl ?_
          have hk := Lib.hid (show ∀ v7 x', v7 = .slice (some ⟨b, off, none⟩) n cc → Below x.heap.size x x' → K (a.put (some 13) v7) x' from hK)
          have Hbx := Lib.hid hbx
          clear hsame hpre hK hbx
          go_simp
          exact hk.out _ _ rfl (Below.refl _ _)
        · have q6 : a.tmps[6]?.getD undef = .int .i64 ((i : Nat) : Int) := (hsame 6 (by decide +kernel)).trans f6
          refine step_plain rfl ?_
          have hk := Lib.hid (show ∀ v7 x', v7 = .int .i64 ((i : Nat) : Int) → Below x.heap.size x x' → K (a.put (some 14) v7) x' from hK)
          have Hbx := Lib.hid hbx
          clear hsame hpre hK hbx
          go_simp
          exact hk.out _ _ rfl (Below.refl _ _)
        · have q13 : a.tmps[13]?.getD undef = .slice (some ⟨b, off, none⟩) n cc := hpre ⟨0, .data⟩ (by simp) rfl (by decide)
          have q14 : a.tmps[14]?.getD undef = .int .i64 ((i : Nat) : Int) := hpre ⟨1, .data⟩ (by simp) rfl (by decide)
          refine step_plain rfl ?_
          have hk := Lib.hid (show ∀ v7 x', v7 = .pointer (some ⟨b, off + i * 15, none⟩) → Below x.heap.size x x' → K (a.put (some 15) v7) x' from hK)
          have Hbx := Lib.hid hbx
          clear hsame hpre hK hbx
          go_simp
          exact hk.out _ _ rfl (Below.refl _ _)
        · have q15 : a.tmps[15]?.getD undef = .pointer (some ⟨b, off + i * 15, none⟩) := hpre ⟨2, .data⟩ (by simp) rfl (by decide)
          refine step_plain rfl ?_
          have hk := Lib.hid (show ∀ v7 x', v7 = .pointer (some ⟨b, off + i * 15 + 5, none⟩) → Below x.heap.size x x' → K (a.put (some 16) v7) x' from hK)
          have Hbx := Lib.hid hbx
          clear hsame hpre hK hbx
          go_simp
          exact hk.out _ _ rfl (Below.refl _ _)
        · have q16 : a.tmps[16]?.getD undef = .pointer (some ⟨b, off + i * 15 + 5, none⟩) := hpre ⟨3, .data⟩ (by simp) rfl (by decide)
          refine step_plain rfl ?_
          have hk := Lib.hid (show ∀ v7 x', v7 = .agg DX → Below x.heap.size x x' → K (a.put (some 17) v7) x' from hK)
          have Hbx := Lib.hid hbx
          clear hsame hpre hK hbx
          refine wp_load_mid 25 (.tmp 16) rfl b (off + i * 15 + 5) (eval_at q16) DX.toList _ (HrD.out _ (Hbw.out.trans (Hbx.out.mono Hbw.out.size))) Tryd.underlying25 rfl HfD.out ?_
          exact hk.out _ _ rfl (Below.refl _ _)
        · have q3 : a.tmps[3]?.getD undef = .pointer (some ⟨w.heap.size, 0, none⟩) := (hsame 3 (by decide +kernel)).trans f3
          refine step_plain rfl ?_
          have hk := Lib.hid (show ∀ v7 x', v7 = .agg IB → Below x.heap.size x x' → K (a.put (some 18) v7) x' from hK)
          have Hbx := Lib.hid hbx
          clear hsame hpre hK hbx
          refine wp_load_mid 25 (.tmp 3) rfl w.heap.size (0) (eval_at q3) IB.toList _ (HrB.out _ (Hbw.out.trans (Hbx.out.mono Hbw.out.size))) Tryd.underlying25 rfl HfB.out ?_
          exact hk.out _ _ rfl (Below.refl _ _)
        · have q17 : a.tmps[17]?.getD undef = .agg DX := hpre ⟨4, .data⟩ (by simp) rfl (by decide)
          have q18 : a.tmps[18]?.getD undef = .agg IB := hpre ⟨5, .data⟩ (by simp) rfl (by decide)
          refine step_plain rfl ?_
          have hk := Lib.hid (show ∀ v7 x', v7 = .bool false → Below x.heap.size x x' → K (a.put (some 19) v7) x' from hK)
          have Hbx := Lib.hid hbx
          clear hsame hpre hK hbx
          have heq := Heq.out
          go_simp
          exact hk.out _ _ rfl (Below.refl _ _)
        · have q19 : a.tmps[19]?.getD undef = .bool false := hpre ⟨6, .data⟩ (by simp) rfl (by decide)
          refine step_plain rfl ?_
          have hk := Lib.hid (show ∀ v7 x', v7 = .bool false → Below x.heap.size x x' → K (a.put (some 20) v7) x' from hK)
          have Hbx := Lib.hid hbx
          clear hsame hpre hK hbx
          go_simp
          exact hk.out _ _ rfl (Below.refl _ _)
        · have w20 : a.tmps[20]?.getD undef = .bool false := hpre ⟨7, .guard⟩ (by simp) rfl (by decide)
          refine step_left (not_wanted (j := 7) (t := 20) (b := true) rfl rfl (.inr w20)) ?_
          have hk := Lib.hid (show ∀ v7 x', v7 = undef → Below x.heap.size x x' → K (a.put (some 21) v7) x' from hK)
          have Hbx := Lib.hid hbx
          clear hsame hpre hK hbx w20
          exact hk.out _ _ rfl (Below.refl _ _)
        · have w20 : a.tmps[20]?.getD undef = .bool false := hpre ⟨7, .guard⟩ (by simp) rfl (by decide)
          refine step_left (not_wanted (j := 7) (t := 20) (b := true) rfl rfl (.inr w20)) ?_
          have hk := Lib.hid (show ∀ v7 x', v7 = undef → Below x.heap.size x x' → K (a.put (some 22) v7) x' from hK)
          have Hbx := Lib.hid hbx
          clear hsame hpre hK hbx w20
          exact hk.out _ _ rfl (Below.refl _ _)
        · have w20 : a.tmps[20]?.getD undef = .bool false := hpre ⟨7, .guard⟩ (by simp) rfl (by decide)
          refine step_left (not_wanted (j := 7) (t := 20) (b := true) rfl rfl (.inr w20)) ?_
          have hk := Lib.hid (show ∀ v7 x', v7 = undef → Below x.heap.size x x' → K (a.put (some 23) v7) x' from hK)
          have Hbx := Lib.hid hbx
          clear hsame hpre hK hbx w20
          exact hk.out _ _ rfl (Below.refl _ _)
        · have w20 : a.tmps[20]?.getD undef = .bool false := hpre ⟨7, .guard⟩ (by simp) rfl (by decide)
          refine step_left (not_wanted (j := 7) (t := 20) (b := true) rfl rfl (.inr w20)) ?_
          have hk := Lib.hid (show ∀ v7 x', v7 = undef → Below x.heap.size x x' → K (a.put (some 24) v7) x' from hK)
          have Hbx := Lib.hid hbx
          clear hsame hpre hK hbx w20
          exact hk.out _ _ rfl (Below.refl _ _)
        · have w20 : a.tmps[20]?.getD undef = .bool false := hpre ⟨7, .guard⟩ (by simp) rfl (by decide)
          refine step_left (not_wanted (j := 7) (t := 20) (b := true) rfl rfl (.inr w20)) ?_
          have hk := Lib.hid (show ∀ v7 x', v7 = undef → Below x.heap.size x x' → K (a.put (some 25) v7) x' from hK)
          have Hbx := Lib.hid hbx
          clear hsame hpre hK hbx w20
          exact hk.out _ _ rfl (Below.refl _ _)
        · have q20 : a.tmps[20]?.getD undef = .bool false := hpre ⟨7, .data⟩ (by simp) rfl (by decide)
          have q25 : a.tmps[25]?.getD undef = undef := hpre ⟨12, .data⟩ (by simp) rfl (by decide)
          refine step_plain rfl ?_
          have hk := Lib.hid (show ∀ v7 x', v7 = .bool false → Below x.heap.size x x' → K (a.put (some 26) v7) x' from hK)
          have Hbx := Lib.hid hbx
          clear hsame hpre hK hbx
          go_simp
          exact hk.out _ _ rfl (Below.refl _ _)
      intro a24 x24 hbx hsame hG hsz24 hde24
      replace f0 := (hsame 0 (by decide +kernel)).trans f0
      replace f3 := (hsame 3 (by decide +kernel)).trans f3
      replace f5 := (hsame 5 (by decide +kernel)).trans f5
      replace f6 := (hsame 6 (by decide +kernel)).trans f6
      have f26 : a24.tmps[26]?.getD undef = .bool false := hG 13 (by decide)
      have Hbx24 := Lib.hid hbx
      have hsz24h := Lib.hid hsz24
      have hde24h := Lib.hid (hde24.trans hde23.out)
      clear hsame hG hbx hsz24 hde24 hsz23 hde23
      refine then_go ?_
      repeat with_reducible refine wp_seq ?_
      refine wp_cond_false (eval_at f26) ?_
      refine wp_skip ?_
      repeat first | with_reducible refine block_go ?_ | with_reducible refine then_go ?_
      clear f26
      repeat with_reducible refine wp_seq ?_
      have hnx := Hnx.out
      rw [Bool.and_false, if_neg (by simp)] at hnx
      have Hown9 := Lib.hid (show OwnE x24 wb.heap.size u (objE (L.take (i + 1)) r s) by rw [hnx]; exact Hown.out.grow Hbx24.out)
      have Hbw9 := Lib.hid (Hbw.out.trans (Hbx24.out.mono Hbw.out.size))
      refine wp_region_lit ?_
      refine wpList_next rfl hsz24h hde24h 11 rfl (by decide) fun K hK => ?_
      go_simp
      refine hK _ _ fun a25 hsz25 hde25 f11 hk => ?_
      clear hK K
      replace f0 := (hk 0 (by decide)).trans f0
      replace f3 := (hk 3 (by decide)).trans f3
      replace f5 := (hk 5 (by decide)).trans f5
      replace f6 := (hk 6 (by decide)).trans f6
      replace f11 : a25.tmps[11]?.getD undef = .int .i64 ((i : Nat) : Int) := f11
      clear hk hsz24h hde24h
      refine wpList_next rfl hsz25 hde25 12 rfl (by decide) fun K hK => ?_
      go_simp
      refine hK _ _ fun a26 hsz26 hde26 f12 hk => ?_
      clear hK K
      replace f0 := (hk 0 (by decide)).trans f0
      replace f3 := (hk 3 (by decide)).trans f3
      replace f5 := (hk 5 (by decide)).trans f5
      replace f6 := (hk 6 (by decide)).trans f6
      clear hk hsz25 hde25 f11
      replace f12 : a26.tmps[12]?.getD undef = .int .i64 (((i + 1 : Nat) : Int)) := f12.trans (by first | rfl | (congr 1; done) | (congr 1; omega) | (congr 1; rw [IntKind.wrap_i64] <;> omega))
      refine wpList_next rfl hsz26 hde26 6 rfl (by decide) fun K hK => ?_
      go_simp
      refine hK _ _ fun a27 hsz27 hde27 f6 hk => ?_
      clear hK K
      replace f0 := (hk 0 (by decide)).trans f0
      replace f3 := (hk 3 (by decide)).trans f3
      replace f5 := (hk 5 (by decide)).trans f5
      replace f6 : a27.tmps[6]?.getD undef = .int .i64 ((i + 1 : Nat) : Int) := f6
      clear hk hsz26 hde26 f12
      refine wpList_nil ?_
      refine then_go ?_
      exact ⟨n - (i + 1), by rw [Hn2.out]; omega, i + 1, _, hsz27, hde27, f0, f3, f5, f6, Lib.hid (by omega), Hown9, Hbw9, rfl⟩
    | true =>
      cases h with
      | false =>
        refine wp_region_goodg (tblG [(13, .slice (some ⟨b, off, none⟩) n cc), (14, .int .i64 ((i : Nat) : Int)), (15, .pointer (some ⟨b, off + i * 15, none⟩)), (16, .pointer (some ⟨b, off + i * 15 + 5, none⟩)), (17, .agg DX), (18, .agg IB), (19, .bool true), (20, .bool true), (21, .slice (some ⟨b, off, none⟩) n cc), (22, .int .i64 ((i : Nat) : Int)), (23, .pointer (some ⟨b, off + i * 15, none⟩)), (24, .agg CX), (25, .bool false), (26, .bool false)]) 35 (by kernel_rfl) (by kernel_rfl) (by kernel_rfl) (by kernel_rfl) hsz23.out ?_ ?_ ?_
        · intro t v7 x x' h _ _
          exact h
        · intro i7 o hi7 a x hbx hsame hpre K hK
          have hlt7 : i7 < 14 := (Array.getElem?_eq_some_iff.1 hi7).1
          rcases (show i7 = 0 ∨ i7 = 1 ∨ i7 = 2 ∨ i7 = 3 ∨ i7 = 4 ∨ i7 = 5 ∨ i7 = 6 ∨ i7 = 7 ∨ i7 = 8 ∨ i7 = 9 ∨ i7 = 10 ∨ i7 = 11 ∨ i7 = 12 ∨ i7 = 13 by omega) with rfl | rfl | rfl | rfl | rfl | rfl | rfl | rfl | rfl | rfl | rfl | rfl | rfl | rfl
          all_goals (have ho := Option.some.inj hi7; subst ho; clear hi7 hlt7)
          · have q0 : a.tmps[0]?.getD undef = .slice (some ⟨b, off, none⟩) n cc := (hsame 0 (by decide +kernel)).trans f0
            refine step_plain rfl ?_
            have hk := Lib.hid (show ∀ v7 x', v7 = .slice (some ⟨b, off, none⟩) n cc → Below x.heap.size x x' → K (a.put (some 13) v7) x' from hK)
            have Hbx := Lib.hid hbx
            clear hsame hpre hK hbx
            go_simp
            exact hk.out _ _ rfl (Below.refl _ _)
          · have q6 : a.tmps[6]?.getD undef = .int .i64 ((i : Nat) : Int) := (hsame 6 (by decide +kernel)).trans f6
            refine step_plain rfl ?_
            have hk := Lib.hid (show ∀ v7 x', v7 = .int .i64 ((i : Nat) : Int) → Below x.heap.size x x' → K (a.put (some 14) v7) x' from hK)
            have Hbx := Lib.hid hbx
            clear hsame hpre hK hbx
            go_simp
            exact hk.out _ _ rfl (Below.refl _ _)
          · have q13 : a.tmps[13]?.getD undef = .slice (some ⟨b, off, none⟩) n cc := hpre ⟨0, .data⟩ (by simp) rfl (by decide)
            have q14 : a.tmps[14]?.getD undef = .int .i64 ((i : Nat) : Int) := hpre ⟨1, .data⟩ (by simp) rfl (by decide)
            refine step_plain rfl ?_
            have hk := Lib.hid (show ∀ v7 x', v7 = .pointer (some ⟨b, off + i * 15, none⟩) → Below x.heap.size x x' → K (a.put (some 15) v7) x' from hK)
            have Hbx := Lib.hid hbx
            clear hsame hpre hK hbx
            go_simp
            exact hk.out _ _ rfl (Below.refl _ _)
          · have q15 : a.tmps[15]?.getD undef = .pointer (some ⟨b, off + i * 15, none⟩) := hpre ⟨2, .data⟩ (by simp) rfl (by decide)
            refine step_plain rfl ?_
            have hk := Lib.hid (show ∀ v7 x', v7 = .pointer (some ⟨b, off + i * 15 + 5, none⟩) → Below x.heap.size x x' → K (a.put (some 16) v7) x' from hK)
            have Hbx := Lib.hid hbx
            clear hsame hpre hK hbx
            go_simp
            exact hk.out _ _ rfl (Below.refl _ _)
          · have q16 : a.tmps[16]?.getD undef = .pointer (some ⟨b, off + i * 15 + 5, none⟩) := hpre ⟨3, .data⟩ (by simp) rfl (by decide)
            refine step_plain rfl ?_
            have hk := Lib.hid (show ∀ v7 x', v7 = .agg DX → Below x.heap.size x x' → K (a.put (some 17) v7) x' from hK)
            have Hbx := Lib.hid hbx
            clear hsame hpre hK hbx
            refine wp_load_mid 25 (.tmp 16) rfl b (off + i * 15 + 5) (eval_at q16) DX.toList _ (HrD.out _ (Hbw.out.trans (Hbx.out.mono Hbw.out.size))) Tryd.underlying25 rfl HfD.out ?_
            exact hk.out _ _ rfl (Below.refl _ _)
          · have q3 : a.tmps[3]?.getD undef = .pointer (some ⟨w.heap.size, 0, none⟩) := (hsame 3 (by decide +kernel)).trans f3
            refine step_plain rfl ?_
            have hk := Lib.hid (show ∀ v7 x', v7 = .agg IB → Below x.heap.size x x' → K (a.put (some 18) v7) x' from hK)
            have Hbx := Lib.hid hbx
            clear hsame hpre hK hbx
            refine wp_load_mid 25 (.tmp 3) rfl w.heap.size (0) (eval_at q3) IB.toList _ (HrB.out _ (Hbw.out.trans (Hbx.out.mono Hbw.out.size))) Tryd.underlying25 rfl HfB.out ?_
            exact hk.out _ _ rfl (Below.refl _ _)
          · have q17 : a.tmps[17]?.getD undef = .agg DX := hpre ⟨4, .data⟩ (by simp) rfl (by decide)
            have q18 : a.tmps[18]?.getD undef = .agg IB := hpre ⟨5, .data⟩ (by simp) rfl (by decide)
            refine step_plain rfl ?_
            have hk := Lib.hid (show ∀ v7 x', v7 = .bool true → Below x.heap.size x x' → K (a.put (some 19) v7) x' from hK)
            have Hbx := Lib.hid hbx
            clear hsame hpre hK hbx
            have heq := Heq.out
            go_simp
            exact hk.out _ _ rfl (Below.refl _ _)
          · have q19 : a.tmps[19]?.getD undef = .bool true := hpre ⟨6, .data⟩ (by simp) rfl (by decide)
            refine step_plain rfl ?_
            have hk := Lib.hid (show ∀ v7 x', v7 = .bool true → Below x.heap.size x x' → K (a.put (some 20) v7) x' from hK)
            have Hbx := Lib.hid hbx
            clear hsame hpre hK hbx
            go_simp
            exact hk.out _ _ rfl (Below.refl _ _)
          · have q0 : a.tmps[0]?.getD undef = .slice (some ⟨b, off, none⟩) n cc := (hsame 0 (by decide +kernel)).trans f0
            have w20 : a.tmps[20]?.getD undef = .bool true := hpre ⟨7, .guard⟩ (by simp) rfl (by decide)
            refine step_wanted (wanted_of (j := 7) (t := 20) (b := true) rfl rfl w20) ?_
            have hk := Lib.hid (show ∀ v7 x', v7 = .slice (some ⟨b, off, none⟩) n cc → Below x.heap.size x x' → K (a.put (some 21) v7) x' from hK)
            have Hbx := Lib.hid hbx
            clear hsame hpre hK hbx w20
            go_simp
            exact hk.out _ _ rfl (Below.refl _ _)
          · have q6 : a.tmps[6]?.getD undef = .int .i64 ((i : Nat) : Int) := (hsame 6 (by decide +kernel)).trans f6
            have w20 : a.tmps[20]?.getD undef = .bool true := hpre ⟨7, .guard⟩ (by simp) rfl (by decide)
            refine step_wanted (wanted_of (j := 7) (t := 20) (b := true) rfl rfl w20) ?_
            have hk := Lib.hid (show ∀ v7 x', v7 = .int .i64 ((i : Nat) : Int) → Below x.heap.size x x' → K (a.put (some 22) v7) x' from hK)
            have Hbx := Lib.hid hbx
            clear hsame hpre hK hbx w20
            go_simp
            exact hk.out _ _ rfl (Below.refl _ _)
          · have q21 : a.tmps[21]?.getD undef = .slice (some ⟨b, off, none⟩) n cc := hpre ⟨8, .data⟩ (by simp) rfl (by decide)
            have q22 : a.tmps[22]?.getD undef = .int .i64 ((i : Nat) : Int) := hpre ⟨9, .data⟩ (by simp) rfl (by decide)
            have w20 : a.tmps[20]?.getD undef = .bool true := hpre ⟨7, .guard⟩ (by simp) rfl (by decide)
            refine step_wanted (wanted_of (j := 7) (t := 20) (b := true) rfl rfl w20) ?_
            have hk := Lib.hid (show ∀ v7 x', v7 = .pointer (some ⟨b, off + i * 15, none⟩) → Below x.heap.size x x' → K (a.put (some 23) v7) x' from hK)
            have Hbx := Lib.hid hbx
            clear hsame hpre hK hbx w20
            go_simp
            exact hk.out _ _ rfl (Below.refl _ _)
          · have q23 : a.tmps[23]?.getD undef = .pointer (some ⟨b, off + i * 15, none⟩) := hpre ⟨10, .data⟩ (by simp) rfl (by decide)
            have w20 : a.tmps[20]?.getD undef = .bool true := hpre ⟨7, .guard⟩ (by simp) rfl (by decide)
            refine step_wanted (wanted_of (j := 7) (t := 20) (b := true) rfl rfl w20) ?_
            have hk := Lib.hid (show ∀ v7 x', v7 = .agg CX → Below x.heap.size x x' → K (a.put (some 24) v7) x' from hK)
            have Hbx := Lib.hid hbx
            clear hsame hpre hK hbx w20
            refine wp_load_mid 29 (.tmp 23) rfl b (off + i * 15) (eval_at q23) CX.toList _ (HrX.out _ (Hbw.out.trans (Hbx.out.mono Hbw.out.size))) Tryd.underlying29 rfl HfX.out ?_
            exact hk.out _ _ rfl (Below.refl _ _)
          · have q24 : a.tmps[24]?.getD undef = .agg CX := hpre ⟨11, .data⟩ (by simp) rfl (by decide)
            have w20 : a.tmps[20]?.getD undef = .bool true := hpre ⟨7, .guard⟩ (by simp) rfl (by decide)
            refine step_wanted (wanted_of (j := 7) (t := 20) (b := true) rfl rfl w20) ?_
            have hk := Lib.hid (show ∀ v7 x', v7 = .bool false → Below x.heap.size x x' → K (a.put (some 25) v7) x' from hK)
            have Hbx := Lib.hid hbx
            clear hsame hpre hK hbx w20
            go_simp
            refine (Hal.out _).mono ?_
            rintro e7 w7 ⟨rfl, hb7⟩
            go_simp
            exact hk.out _ _ rfl hb7
          · have q20 : a.tmps[20]?.getD undef = .bool true := hpre ⟨7, .data⟩ (by simp) rfl (by decide)
            have q25 : a.tmps[25]?.getD undef = .bool false := hpre ⟨12, .data⟩ (by simp) rfl (by decide)
            refine step_plain rfl ?_
            have hk := Lib.hid (show ∀ v7 x', v7 = .bool false → Below x.heap.size x x' → K (a.put (some 26) v7) x' from hK)
            have Hbx := Lib.hid hbx
            clear hsame hpre hK hbx
            go_simp
            exact hk.out _ _ rfl (Below.refl _ _)
        intro a24 x24 hbx hsame hG hsz24 hde24
        replace f0 := (hsame 0 (by decide +kernel)).trans f0
        replace f3 := (hsame 3 (by decide +kernel)).trans f3
        replace f5 := (hsame 5 (by decide +kernel)).trans f5
        replace f6 := (hsame 6 (by decide +kernel)).trans f6
        have f26 : a24.tmps[26]?.getD undef = .bool false := hG 13 (by decide)
        have Hbx24 := Lib.hid hbx
        have hsz24h := Lib.hid hsz24
        have hde24h := Lib.hid (hde24.trans hde23.out)
        clear hsame hG hbx hsz24 hde24 hsz23 hde23
        refine then_go ?_
        repeat with_reducible refine wp_seq ?_
        refine wp_cond_false (eval_at f26) ?_
        refine wp_skip ?_
        repeat first | with_reducible refine block_go ?_ | with_reducible refine then_go ?_
        clear f26
        repeat with_reducible refine wp_seq ?_
        have hnx := Hnx.out
        rw [Bool.false_and, if_neg (by simp)] at hnx
        have Hown9 := Lib.hid (show OwnE x24 wb.heap.size u (objE (L.take (i + 1)) r s) by rw [hnx]; exact Hown.out.grow Hbx24.out)
        have Hbw9 := Lib.hid (Hbw.out.trans (Hbx24.out.mono Hbw.out.size))
        refine wp_region_lit ?_
        refine wpList_next rfl hsz24h hde24h 11 rfl (by decide) fun K hK => ?_
        go_simp
        refine hK _ _ fun a25 hsz25 hde25 f11 hk => ?_
        clear hK K
        replace f0 := (hk 0 (by decide)).trans f0
        replace f3 := (hk 3 (by decide)).trans f3
        replace f5 := (hk 5 (by decide)).trans f5
        replace f6 := (hk 6 (by decide)).trans f6
        replace f11 : a25.tmps[11]?.getD undef = .int .i64 ((i : Nat) : Int) := f11
        clear hk hsz24h hde24h
        refine wpList_next rfl hsz25 hde25 12 rfl (by decide) fun K hK => ?_
        go_simp
        refine hK _ _ fun a26 hsz26 hde26 f12 hk => ?_
        clear hK K
        replace f0 := (hk 0 (by decide)).trans f0
        replace f3 := (hk 3 (by decide)).trans f3
        replace f5 := (hk 5 (by decide)).trans f5
        replace f6 := (hk 6 (by decide)).trans f6
        clear hk hsz25 hde25 f11
        replace f12 : a26.tmps[12]?.getD undef = .int .i64 (((i + 1 : Nat) : Int)) := f12.trans (by first | rfl | (congr 1; done) | (congr 1; omega) | (congr 1; rw [IntKind.wrap_i64] <;> omega))
        refine wpList_next rfl hsz26 hde26 6 rfl (by decide) fun K hK => ?_
        go_simp
        refine hK _ _ fun a27 hsz27 hde27 f6 hk => ?_
        clear hK K
        replace f0 := (hk 0 (by decide)).trans f0
        replace f3 := (hk 3 (by decide)).trans f3
        replace f5 := (hk 5 (by decide)).trans f5
        replace f6 : a27.tmps[6]?.getD undef = .int .i64 ((i + 1 : Nat) : Int) := f6
        clear hk hsz26 hde26 f12
        refine wpList_nil ?_
        refine then_go ?_
        exact ⟨n - (i + 1), by rw [Hn2.out]; omega, i + 1, _, hsz27, hde27, f0, f3, f5, f6, Lib.hid (by omega), Hown9, Hbw9, rfl⟩
      | true =>
        refine wp_region_goodg (tblG [(13, .slice (some ⟨b, off, none⟩) n cc), (14, .int .i64 ((i : Nat) : Int)), (15, .pointer (some ⟨b, off + i * 15, none⟩)), (16, .pointer (some ⟨b, off + i * 15 + 5, none⟩)), (17, .agg DX), (18, .agg IB), (19, .bool true), (20, .bool true), (21, .slice (some ⟨b, off, none⟩) n cc), (22, .int .i64 ((i : Nat) : Int)), (23, .pointer (some ⟨b, off + i * 15, none⟩)), (24, .agg CX), (25, .bool true), (26, .bool true)]) 35 (by kernel_rfl) (by kernel_rfl) (by kernel_rfl) (by kernel_rfl) hsz23.out ?_ ?_ ?_
        · intro t v7 x x' h _ _
          exact h
        · intro i7 o hi7 a x hbx hsame hpre K hK
          have hlt7 : i7 < 14 := (Array.getElem?_eq_some_iff.1 hi7).1
          rcases (show i7 = 0 ∨ i7 = 1 ∨ i7 = 2 ∨ i7 = 3 ∨ i7 = 4 ∨ i7 = 5 ∨ i7 = 6 ∨ i7 = 7 ∨ i7 = 8 ∨ i7 = 9 ∨ i7 = 10 ∨ i7 = 11 ∨ i7 = 12 ∨ i7 = 13 by omega) with rfl | rfl | rfl | rfl | rfl | rfl | rfl | rfl | rfl | rfl | rfl | rfl | rfl | rfl
          all_goals (have ho := Option.some.inj hi7; subst ho; clear hi7 hlt7)
          · have q0 : a.tmps[0]?.getD undef = .slice (some ⟨b, off, none⟩) n cc := (hsame 0 (by decide +kernel)).trans f0
            refine step_plain rfl ?_
            have hk := Lib.hid (show ∀ v7 x', v7 = .slice (some ⟨b, off, none⟩) n cc → Below x.heap.size x x' → K (a.put (some 13) v7) x' from hK)
            have Hbx := Lib.hid hbx
            clear hsame hpre hK hbx
            go_simp
            exact hk.out _ _ rfl (Below.refl _ _)
          · have q6 : a.tmps[6]?.getD undef = .int .i64 ((i : Nat) : Int) := (hsame 6 (by decide +kernel)).trans f6
            refine step_plain rfl ?_
            have hk := Lib.hid (show ∀ v7 x', v7 = .int .i64 ((i : Nat) : Int) → Below x.heap.size x x' → K (a.put (some 14) v7) x' from hK)
            have Hbx := Lib.hid hbx
            clear hsame hpre hK hbx
            go_simp
            exact hk.out _ _ rfl (Below.refl _ _)
          · have q13 : a.tmps[13]?.getD undef = .slice (some ⟨b, off, none⟩) n cc := hpre ⟨0, .data⟩ (by simp) rfl (by decide)
            have q14 : a.tmps[14]?.getD undef = .int .i64 ((i : Nat) : Int) := hpre ⟨1, .data⟩ (by simp) rfl (by decide)
            refine step_plain rfl ?_
            have hk := Lib.hid (show ∀ v7 x', v7 = .pointer (some ⟨b, off + i * 15, none⟩) → Below x.heap.size x x' → K (a.put (some 15) v7) x' from hK)
            have Hbx := Lib.hid hbx
            clear hsame hpre hK hbx
            go_simp
            exact hk.out _ _ rfl (Below.refl _ _)
          · have q15 : a.tmps[15]?.getD undef = .pointer (some ⟨b, off + i * 15, none⟩) := hpre ⟨2, .data⟩ (by simp) rfl (by decide)
            refine step_plain rfl ?_
            have hk := Lib.hid (show ∀ v7 x', v7 = .pointer (some ⟨b, off + i * 15 + 5, none⟩) → Below x.heap.size x x' → K (a.put (some 16) v7) x' from hK)
            have Hbx := Lib.hid hbx
            clear hsame hpre hK hbx
            go_simp
            exact hk.out _ _ rfl (Below.refl _ _)
          · have q16 : a.tmps[16]?.getD undef = .pointer (some ⟨b, off + i * 15 + 5, none⟩) := hpre ⟨3, .data⟩ (by simp) rfl (by decide)
            refine step_plain rfl ?_
            have hk := Lib.hid (show ∀ v7 x', v7 = .agg DX → Below x.heap.size x x' → K (a.put (some 17) v7) x' from hK)
            have Hbx := Lib.hid hbx
            clear hsame hpre hK hbx
            refine wp_load_mid 25 (.tmp 16) rfl b (off + i * 15 + 5) (eval_at q16) DX.toList _ (HrD.out _ (Hbw.out.trans (Hbx.out.mono Hbw.out.size))) Tryd.underlying25 rfl HfD.out ?_
            exact hk.out _ _ rfl (Below.refl _ _)
          · have q3 : a.tmps[3]?.getD undef = .pointer (some ⟨w.heap.size, 0, none⟩) := (hsame 3 (by decide +kernel)).trans f3
            refine step_plain rfl ?_
            have hk := Lib.hid (show ∀ v7 x', v7 = .agg IB → Below x.heap.size x x' → K (a.put (some 18) v7) x' from hK)
            have Hbx := Lib.hid hbx
            clear hsame hpre hK hbx
            refine wp_load_mid 25 (.tmp 3) rfl w.heap.size (0) (eval_at q3) IB.toList _ (HrB.out _ (Hbw.out.trans (Hbx.out.mono Hbw.out.size))) Tryd.underlying25 rfl HfB.out ?_
            exact hk.out _ _ rfl (Below.refl _ _)
          · have q17 : a.tmps[17]?.getD undef = .agg DX := hpre ⟨4, .data⟩ (by simp) rfl (by decide)
            have q18 : a.tmps[18]?.getD undef = .agg IB := hpre ⟨5, .data⟩ (by simp) rfl (by decide)
            refine step_plain rfl ?_
            have hk := Lib.hid (show ∀ v7 x', v7 = .bool true → Below x.heap.size x x' → K (a.put (some 19) v7) x' from hK)
            have Hbx := Lib.hid hbx
            clear hsame hpre hK hbx
            have heq := Heq.out
            go_simp
            exact hk.out _ _ rfl (Below.refl _ _)
          · have q19 : a.tmps[19]?.getD undef = .bool true := hpre ⟨6, .data⟩ (by simp) rfl (by decide)
            refine step_plain rfl ?_
            have hk := Lib.hid (show ∀ v7 x', v7 = .bool true → Below x.heap.size x x' → K (a.put (some 20) v7) x' from hK)
            have Hbx := Lib.hid hbx
            clear hsame hpre hK hbx
            go_simp
            exact hk.out _ _ rfl (Below.refl _ _)
          · have q0 : a.tmps[0]?.getD undef = .slice (some ⟨b, off, none⟩) n cc := (hsame 0 (by decide +kernel)).trans f0
            have w20 : a.tmps[20]?.getD undef = .bool true := hpre ⟨7, .guard⟩ (by simp) rfl (by decide)
            refine step_wanted (wanted_of (j := 7) (t := 20) (b := true) rfl rfl w20) ?_
            have hk := Lib.hid (show ∀ v7 x', v7 = .slice (some ⟨b, off, none⟩) n cc → Below x.heap.size x x' → K (a.put (some 21) v7) x' from hK)
            have Hbx := Lib.hid hbx
            clear hsame hpre hK hbx w20
            go_simp
            exact hk.out _ _ rfl (Below.refl _ _)
          · have q6 : a.tmps[6]?.getD undef = .int .i64 ((i : Nat) : Int) := (hsame 6 (by decide +kernel)).trans f6
            have w20 : a.tmps[20]?.getD undef = .bool true := hpre ⟨7, .guard⟩ (by simp) rfl (by decide)
            refine step_wanted (wanted_of (j := 7) (t := 20) (b := true) rfl rfl w20) ?_
            have hk := Lib.hid (show ∀ v7 x', v7 = .int .i64 ((i : Nat) : Int) → Below x.heap.size x x' → K (a.put (some 22) v7) x' from hK)
            have Hbx := Lib.hid hbx
            clear hsame hpre hK hbx w20
            go_simp
            exact hk.out _ _ rfl (Below.refl _ _)
          · have q21 : a.tmps[21]?.getD undef = .slice (some ⟨b, off, none⟩) n cc := hpre ⟨8, .data⟩ (by simp) rfl (by decide)
            have q22 : a.tmps[22]?.getD undef = .int .i64 ((i : Nat) : Int) := hpre ⟨9, .data⟩ (by simp) rfl (by decide)
            have w20 : a.tmps[20]?.getD undef = .bool true := hpre ⟨7, .guard⟩ (by simp) rfl (by decide)
            refine step_wanted (wanted_of (j := 7) (t := 20) (b := true) rfl rfl w20) ?_
            have hk := Lib.hid (show ∀ v7 x', v7 = .pointer (some ⟨b, off + i * 15, none⟩) → Below x.heap.size x x' → K (a.put (some 23) v7) x' from hK)
            have Hbx := Lib.hid hbx
            clear hsame hpre hK hbx w20
            go_simp
            exact hk.out _ _ rfl (Below.refl _ _)
          · have q23 : a.tmps[23]?.getD undef = .pointer (some ⟨b, off + i * 15, none⟩) := hpre ⟨10, .data⟩ (by simp) rfl (by decide)
            have w20 : a.tmps[20]?.getD undef = .bool true := hpre ⟨7, .guard⟩ (by simp) rfl (by decide)
            refine step_wanted (wanted_of (j := 7) (t := 20) (b := true) rfl rfl w20) ?_
            have hk := Lib.hid (show ∀ v7 x', v7 = .agg CX → Below x.heap.size x x' → K (a.put (some 24) v7) x' from hK)
            have Hbx := Lib.hid hbx
            clear hsame hpre hK hbx w20
            refine wp_load_mid 29 (.tmp 23) rfl b (off + i * 15) (eval_at q23) CX.toList _ (HrX.out _ (Hbw.out.trans (Hbx.out.mono Hbw.out.size))) Tryd.underlying29 rfl HfX.out ?_
            exact hk.out _ _ rfl (Below.refl _ _)
          · have q24 : a.tmps[24]?.getD undef = .agg CX := hpre ⟨11, .data⟩ (by simp) rfl (by decide)
            have w20 : a.tmps[20]?.getD undef = .bool true := hpre ⟨7, .guard⟩ (by simp) rfl (by decide)
            refine step_wanted (wanted_of (j := 7) (t := 20) (b := true) rfl rfl w20) ?_
            have hk := Lib.hid (show ∀ v7 x', v7 = .bool true → Below x.heap.size x x' → K (a.put (some 25) v7) x' from hK)
            have Hbx := Lib.hid hbx
            clear hsame hpre hK hbx w20
            go_simp
            refine (Hal.out _).mono ?_
            rintro e7 w7 ⟨rfl, hb7⟩
            go_simp
            exact hk.out _ _ rfl hb7
          · have q20 : a.tmps[20]?.getD undef = .bool true := hpre ⟨7, .data⟩ (by simp) rfl (by decide)
            have q25 : a.tmps[25]?.getD undef = .bool true := hpre ⟨12, .data⟩ (by simp) rfl (by decide)
            refine step_plain rfl ?_
            have hk := Lib.hid (show ∀ v7 x', v7 = .bool true → Below x.heap.size x x' → K (a.put (some 26) v7) x' from hK)
            have Hbx := Lib.hid hbx
            clear hsame hpre hK hbx
            go_simp
            exact hk.out _ _ rfl (Below.refl _ _)
        intro a24 x24 hbx hsame hG hsz24 hde24
        replace f0 := (hsame 0 (by decide +kernel)).trans f0
        replace f3 := (hsame 3 (by decide +kernel)).trans f3
        replace f5 := (hsame 5 (by decide +kernel)).trans f5
        replace f6 := (hsame 6 (by decide +kernel)).trans f6
        have f26 : a24.tmps[26]?.getD undef = .bool true := hG 13 (by decide)
        have Hbx24 := Lib.hid hbx
        have hsz24h := Lib.hid hsz24
        have hde24h := Lib.hid (hde24.trans hde23.out)
        clear hsame hG hbx hsz24 hde24 hsz23 hde23
        refine then_go ?_
        repeat with_reducible refine wp_seq ?_
        refine wp_cond_true (eval_at f26) ?_
        clear f26
        obtain ⟨wy, hwy⟩ : ∃ wy, wy = x24 := ⟨_, rfl⟩
        have Hown9 := Lib.hid (Hown.out.grow Hbx24.out)
        have Hbw9 := Lib.hid (Hbw.out.trans (Hbx24.out.mono Hbw.out.size))
        rw [← hwy] at Hown9 Hbw9 ⊢
        clear hwy Hbx24 Hown Hbw
        refine wp_region_lit ?_
        refine wpList_next rfl hsz24h hde24h 27 rfl (by decide) fun K hK => ?_
        go_simp
        refine hK _ _ fun a25 hsz25 hde25 f27 hk => ?_
        clear hK K
        replace f0 := (hk 0 (by decide)).trans f0
        replace f3 := (hk 3 (by decide)).trans f3
        replace f5 := (hk 5 (by decide)).trans f5
        replace f6 := (hk 6 (by decide)).trans f6
        replace f27 : a25.tmps[27]?.getD undef = u := f27
        clear hk hsz24h hde24h
        refine wpList_next rfl hsz25 hde25 28 rfl (by decide) fun K hK => ?_
        go_simp
        refine hK _ _ fun a26 hsz26 hde26 f28 hk => ?_
        clear hK K
        replace f0 := (hk 0 (by decide)).trans f0
        replace f3 := (hk 3 (by decide)).trans f3
        replace f5 := (hk 5 (by decide)).trans f5
        replace f6 := (hk 6 (by decide)).trans f6
        replace f27 := (hk 27 (by decide)).trans f27
        replace f28 : a26.tmps[28]?.getD undef = .slice (some ⟨b, off, none⟩) n cc := f28
        clear hk hsz25 hde25
        refine wpList_next rfl hsz26 hde26 29 rfl (by decide) fun K hK => ?_
        go_simp
        refine hK _ _ fun a27 hsz27 hde27 f29 hk => ?_
        clear hK K
        replace f0 := (hk 0 (by decide)).trans f0
        replace f3 := (hk 3 (by decide)).trans f3
        replace f5 := (hk 5 (by decide)).trans f5
        replace f6 := (hk 6 (by decide)).trans f6
        replace f27 := (hk 27 (by decide)).trans f27
        replace f28 := (hk 28 (by decide)).trans f28
        replace f29 : a27.tmps[29]?.getD undef = .int .i64 ((i : Nat) : Int) := f29
        clear hk hsz26 hde26
        refine wpList_next rfl hsz27 hde27 30 rfl (by decide) fun K hK => ?_
        go_simp
        refine hK _ _ fun a28 hsz28 hde28 f30 hk => ?_
        clear hK K
        replace f0 := (hk 0 (by decide)).trans f0
        replace f3 := (hk 3 (by decide)).trans f3
        replace f5 := (hk 5 (by decide)).trans f5
        replace f6 := (hk 6 (by decide)).trans f6
        replace f27 := (hk 27 (by decide)).trans f27
        replace f30 : a28.tmps[30]?.getD undef = .pointer (some ⟨b, off + i * 15, none⟩) := f30
        clear hk hsz27 hde27 f28 f29
        refine wpList_next rfl hsz28 hde28 31 rfl (by decide) fun K hK => ?_
        refine wp_load_mid 29 (.tmp 30) rfl b (off + i * 15) (eval_at f30) CX.toList _ (HrX.out _ Hbw9.out) Tryd.underlying29 rfl HfX.out ?_
        refine hK _ _ fun a29 hsz29 hde29 f31 hk => ?_
        clear hK K
        replace f0 := (hk 0 (by decide)).trans f0
        replace f3 := (hk 3 (by decide)).trans f3
        replace f5 := (hk 5 (by decide)).trans f5
        replace f6 := (hk 6 (by decide)).trans f6
        replace f27 := (hk 27 (by decide)).trans f27
        replace f31 : a29.tmps[31]?.getD undef = .agg CX := f31
        clear hk hsz28 hde28 f30
        refine wpList_next rfl hsz29 hde29 32 rfl (by decide) fun K hK => ?_
        go_simp
        rw [HfC.out]
        refine hK _ _ fun a30 hsz30 hde30 f32 hk => ?_
        clear hK K
        replace f0 := (hk 0 (by decide)).trans f0
        replace f3 := (hk 3 (by decide)).trans f3
        replace f5 := (hk 5 (by decide)).trans f5
        replace f6 := (hk 6 (by decide)).trans f6
        replace f27 := (hk 27 (by decide)).trans f27
        replace f32 : a30.tmps[32]?.getD undef = .slice (some ⟨wy.heap.size, 0, none⟩) 1 1 := f32
        clear hk hsz29 hde29 f31
        refine wpList_next rfl hsz30 hde30 33 rfl (by decide) fun K hK => ?_
        refine wp_appK_new wy elemE (.tmp 27) (.tmp 32) rfl wb.heap.size (objE (L.take i) r s).length u (entsC (objE (L.take i) r s)) (eval_at f27) Hown9.out.1 CX.toList 1 (by rw [HCX.out]; rfl) 29 (eval_at f32) (by rw [HCX.out]; exact entC_each X) (by have := Hol.out; omega) (by have := Hol.out; omega) Hbw9.out.size ?_
        intro u3 w3 hown3 hg3
        have Hb3 := Lib.hid (Hbw9.out.trans (Hown9.out.1.below_of hg3 Hbw9.out.size (Nat.le_refl _)))
        have hnx := Hnx.out
        rw [Bool.true_and, if_pos rfl] at hnx
        have Hown3 := Lib.hid (show OwnE w3 wb.heap.size u3 (objE (L.take (i + 1)) r s) by rw [hnx]; exact OwnE.app (by rw [← HCX.out]; exact hown3) Hown9.out.2 HXok.out)
        clear hown3 hg3 hnx
        refine hK _ _ fun a31 hsz31 hde31 f33 hk => ?_
        clear hK K
        replace f0 := (hk 0 (by decide)).trans f0
        replace f3 := (hk 3 (by decide)).trans f3
        replace f5 := (hk 5 (by decide)).trans f5
        replace f6 := (hk 6 (by decide)).trans f6
        replace f33 : a31.tmps[33]?.getD undef = u3 := f33
        clear hk hsz30 hde30 f27 f32
        refine wpList_next rfl hsz31 hde31 5 rfl (by decide) fun K hK => ?_
        go_simp
        refine hK _ _ fun a32 hsz32 hde32 f5 hk => ?_
        clear hK K
        replace f0 := (hk 0 (by decide)).trans f0
        replace f3 := (hk 3 (by decide)).trans f3
        replace f6 := (hk 6 (by decide)).trans f6
        replace f5 : a32.tmps[5]?.getD undef = u3 := f5
        clear hk hsz31 hde31 f33
        refine wpList_nil ?_
        repeat first | with_reducible refine block_go ?_ | with_reducible refine then_go ?_
        repeat with_reducible refine wp_seq ?_
        refine wp_region_lit ?_
        refine wpList_next rfl hsz32 hde32 11 rfl (by decide) fun K hK => ?_
        go_simp
        refine hK _ _ fun a33 hsz33 hde33 f11 hk => ?_
        clear hK K
        replace f0 := (hk 0 (by decide)).trans f0
        replace f3 := (hk 3 (by decide)).trans f3
        replace f6 := (hk 6 (by decide)).trans f6
        replace f5 := (hk 5 (by decide)).trans f5
        replace f11 : a33.tmps[11]?.getD undef = .int .i64 ((i : Nat) : Int) := f11
        clear hk hsz32 hde32
        refine wpList_next rfl hsz33 hde33 12 rfl (by decide) fun K hK => ?_
        go_simp
        refine hK _ _ fun a34 hsz34 hde34 f12 hk => ?_
        clear hK K
        replace f0 := (hk 0 (by decide)).trans f0
        replace f3 := (hk 3 (by decide)).trans f3
        replace f6 := (hk 6 (by decide)).trans f6
        replace f5 := (hk 5 (by decide)).trans f5
        clear hk hsz33 hde33 f11
        replace f12 : a34.tmps[12]?.getD undef = .int .i64 (((i + 1 : Nat) : Int)) := f12.trans (by first | rfl | (congr 1; done) | (congr 1; omega) | (congr 1; rw [IntKind.wrap_i64] <;> omega))
        refine wpList_next rfl hsz34 hde34 6 rfl (by decide) fun K hK => ?_
        go_simp
        refine hK _ _ fun a35 hsz35 hde35 f6 hk => ?_
        clear hK K
        replace f0 := (hk 0 (by decide)).trans f0
        replace f3 := (hk 3 (by decide)).trans f3
        replace f5 := (hk 5 (by decide)).trans f5
        replace f6 : a35.tmps[6]?.getD undef = .int .i64 ((i + 1 : Nat) : Int) := f6
        clear hk hsz34 hde34 f12
        refine wpList_nil ?_
        refine then_go ?_
        exact ⟨n - (i + 1), by rw [Hn2.out]; omega, i + 1, _, hsz35, hde35, f0, f3, f5, f6, Lib.hid (by omega), Hown3, Hb3, rfl⟩
  refine wp_region_lit ?_
  refine wpList_next rfl hsz19 hde19 7 rfl (by decide) fun K hK => ?_
  go_simp
  refine hK _ _ fun a20 hsz20 hde20 f7 hk => ?_
  clear hK K
  replace f0 := (hk 0 (by decide)).trans f0
  replace f3 := (hk 3 (by decide)).trans f3
  replace f5 := (hk 5 (by decide)).trans f5
  replace f6 := (hk 6 (by decide)).trans f6
  replace f7 : a20.tmps[7]?.getD undef = .int .i64 ((i : Nat) : Int) := f7
  clear hk hsz19 hde19
  refine wpList_next rfl hsz20 hde20 8 rfl (by decide) fun K hK => ?_
  go_simp
  refine hK _ _ fun a21 hsz21 hde21 f8 hk => ?_
  clear hK K
  replace f0 := (hk 0 (by decide)).trans f0
  replace f3 := (hk 3 (by decide)).trans f3
  replace f5 := (hk 5 (by decide)).trans f5
  replace f6 := (hk 6 (by decide)).trans f6
  replace f7 := (hk 7 (by decide)).trans f7
  replace f8 : a21.tmps[8]?.getD undef = .slice A n cc := f8
  clear hk hsz20 hde20
  refine wpList_next rfl hsz21 hde21 9 rfl (by decide) fun K hK => ?_
  go_simp
  refine hK _ _ fun a22 hsz22 hde22 f9 hk => ?_
  clear hK K
  replace f0 := (hk 0 (by decide)).trans f0
  replace f3 := (hk 3 (by decide)).trans f3
  replace f5 := (hk 5 (by decide)).trans f5
  replace f6 := (hk 6 (by decide)).trans f6
  replace f7 := (hk 7 (by decide)).trans f7
  replace f9 : a22.tmps[9]?.getD undef = .int .i64 ((n : Nat) : Int) := f9
  clear hk hsz21 hde21 f8
  refine wpList_next rfl hsz22 hde22 10 rfl (by decide) fun K hK => ?_
  go_simp
  refine hK _ _ fun a23 hsz23 hde23 f10 hk => ?_
  clear hK K
  replace f0 := (hk 0 (by decide)).trans f0
  replace f3 := (hk 3 (by decide)).trans f3
  replace f5 := (hk 5 (by decide)).trans f5
  replace f6 := (hk 6 (by decide)).trans f6
  clear hk hsz22 hde22 f7 f9
  replace f10 : a23.tmps[10]?.getD undef = .bool false := f10.trans (by first | rfl | (congr 1; first | exact decide_eq_true (by omega) | exact decide_eq_false (by omega)) | (simp; omega))
  refine wpList_nil ?_
  refine then_go ?_
  repeat with_reducible refine wp_seq ?_
  refine wp_cond_false (eval_at f10) ?_
  refine wp_exit ?_
  repeat with_reducible refine then_exit ?_
  refine block_exit ?_
  repeat first | with_reducible refine block_go ?_ | with_reducible refine then_go ?_
  clear f10 f0 f3
  repeat with_reducible refine wp_seq ?_
  obtain ⟨wq, hwq⟩ : ∃ wq, wq = wr := ⟨_, rfl⟩
  rw [← hwq] at Hown Hbw ⊢
  clear hwq
  refine wp_region_lit ?_
  refine wpList_next rfl hsz23 hde23 34 rfl (by decide) fun K hK => ?_
  go_simp
  refine hK _ _ fun a24 hsz24 hde24 f34 hk => ?_
  clear hK K
  replace f5 := (hk 5 (by decide)).trans f5
  replace f6 := (hk 6 (by decide)).trans f6
  replace f34 : a24.tmps[34]?.getD undef = u := f34
  clear hk hsz23 hde23
  refine wpList_next rfl hsz24 hde24 4 rfl (by decide) fun K hK => ?_
  go_simp
  refine hK _ _ fun a25 hsz25 hde25 f4 hk => ?_
  clear hK K
  replace f5 := (hk 5 (by decide)).trans f5
  replace f6 := (hk 6 (by decide)).trans f6
  replace f4 : a25.tmps[4]?.getD undef = u := f4
  clear hk hsz24 hde24 f34
  refine wpList_nil ?_
  refine then_go ?_
  have hfin := Hown.out
  rw [List.take_of_length_le (by have := Hi.out; have := Hn.out; omega)] at hfin
  refine wp_ret ?_
  repeat first | with_reducible refine then_ret ?_ | with_reducible refine block_ret ?_
  refine ret_tmp Tryd.results25 hde25 f4 ?_
  exact ⟨⟨u, rfl, hfin.mono Hbel.out.size⟩, below_call Hbel.out Hbw.out⟩

set_option maxHeartbeats 4000000 in
theorem predE_of (r : Int) (s : Nat) (g : Nat) (w : World) (hb : Blk w g 25 (idC r s)) : PredE 54 #[.pointer (some ⟨g, 0, none⟩)] (fun x => headE x && sameI x.orep x.oseq r s) w := by
  intro W x hW
  have hB0 : Blk (W.alloc (.cells (entC x) 29)) g 25 (idC r s) := (hb.grow hW).alloc _
  have hA : Blk (W.alloc (.cells (entC x) 29)) W.heap.size 29 (entC x) := Blk.new W _ _
  have hbel : Below W.heap.size W (W.alloc (.cells (entC x) 29)) := (Below.refl _ _).alloc (Nat.le_refl _) _
  have hh := fun z => ehead_any x z
  have heq := fun z => ideq_run x.orep x.oseq r s z
  show Calls _ _ _ _ fun e w' => e = .returned (.bool (headE x && sameI x.orep x.oseq r s)) ∧ _
  obtain ⟨q, hq⟩ : ∃ q, q = headE x := ⟨_, rfl⟩
  obtain ⟨e1, he1⟩ : ∃ q, q = sameI x.orep x.oseq r s := ⟨_, rfl⟩
  rw [← hq] at hh ⊢
  rw [← he1] at heq ⊢
  obtain ⟨W2, hW2⟩ : ∃ W2, W2 = W.alloc (.cells (entC x) 29) := ⟨_, rfl⟩
  rw [← hW2] at hB0 hA hbel
  obtain ⟨ID1, hI1⟩ : ∃ I, I = idC x.orep x.oseq := ⟨_, rfl⟩
  obtain ⟨ID2, hI2⟩ : ∃ I, I = idC r s := ⟨_, rfl⟩
  obtain ⟨C, hC⟩ : ∃ C, C = entC x := ⟨_, rfl⟩
  have HR := Lib.hid (show ∀ z, Below W2.heap.size W2 z → z.rangeAt W.heap.size 0 C.toList ∧ z.rangeAt W.heap.size (0 + 5) ID1.toList ∧ z.rangeAt g 0 ID2.toList from fun z hz => by
    rw [hC, hI1, hI2]
    exact ⟨(hA.grow hz).ent.all, (hA.grow hz).ent.obj, (hB0.grow hz).range 0 _ fun j u hu => by rw [Nat.zero_add, ← Array.getElem?_toList]; exact hu⟩)
  have HinfC := Lib.hid (show (Tryd.prog.info? 29).map (·.size) = some C.toList.length by rw [hC]; exact ent_info)
  have Hinf1 := Lib.hid (show (Tryd.prog.info? 25).map (·.size) = some ID1.toList.length by rw [hI1]; exact id_info)
  have Hinf2 := Lib.hid (show (Tryd.prog.info? 25).map (·.size) = some ID2.toList.length by rw [hI2]; exact id_info)
  rw [← hI1, ← hI2] at heq
  rw [← hC] at hh hW2 ⊢
  have Hh := Lib.hid hh
  have Heq := Lib.hid heq
  have Hbel := Lib.hid hbel
  have HW := Lib.hid hW2
  clear hB0 hA hbel hq he1 hW2 hI1 hI2 hC hh heq hb hW
  show Calls _ _ #[.agg C, .pointer (some ⟨g, 0, none⟩)] _ _
  go_enter Tryd.func54, Tryd.ntmps54
  refine enter_abs (N := 12) rfl rfl fun a0 hsz0 hde0 hk => ?_
  have f0 : a0.tmps[0]?.getD undef = .agg C := hk 0
  have f1 : a0.tmps[1]?.getD undef = .pointer (some ⟨g, 0, none⟩) := hk 1
  clear hk
  repeat with_reducible refine wp_seq ?_
  refine wp_region_lit ?_
  refine wpList_next rfl hsz0 hde0 2 rfl (by decide) fun K hK => ?_
  go_simp
  refine hK _ _ fun a1 hsz1 hde1 f2 hk => ?_
  clear hK K
  replace f0 := (hk 0 (by decide)).trans f0
  replace f1 := (hk 1 (by decide)).trans f1
  replace f2 : a1.tmps[2]?.getD undef = .pointer (some ⟨W.heap.size, 0, none⟩) := f2
  clear hk hsz0 hde0
  refine wpList_next rfl hsz1 hde1 3 rfl (by decide) fun K hK => ?_
  go_simp
  refine hK _ _ fun a2 hsz2 hde2 f3 hk => ?_
  clear hK K
  replace f0 := (hk 0 (by decide)).trans f0
  replace f1 := (hk 1 (by decide)).trans f1
  replace f2 := (hk 2 (by decide)).trans f2
  replace f3 : a2.tmps[3]?.getD undef = .bool false := f3
  clear hk hsz1 hde1
  refine wpList_nil ?_
  clear f0 f3
  rw [← HW.out]
  refine then_go ?_
  repeat with_reducible refine wp_seq ?_
  cases q with
  | false =>
    refine wp_region_lit ?_
    refine wpList_next rfl hsz2 hde2 4 rfl (by decide) fun K hK => ?_
    refine wp_load_mid 29 (.tmp 2) rfl W.heap.size 0 (eval_at f2) C.toList _ (HR.out _ (Below.refl _ _)).1 Tryd.underlying29 rfl HinfC.out ?_
    refine hK _ _ fun a3 hsz3 hde3 f4 hk => ?_
    clear hK K
    replace f1 := (hk 1 (by decide)).trans f1
    replace f2 := (hk 2 (by decide)).trans f2
    replace f4 : a3.tmps[4]?.getD undef = .agg C := f4
    clear hk hsz2 hde2
    refine wpList_next rfl hsz3 hde3 5 rfl (by decide) fun K hK => ?_
    go_simp
    refine (Hh.out _).mono ?_
    rintro e7 w7 ⟨rfl, hb7⟩
    go_simp
    refine hK _ _ fun a4 hsz4 hde4 f5 hk => ?_
    clear hK K
    replace f1 := (hk 1 (by decide)).trans f1
    replace f2 := (hk 2 (by decide)).trans f2
    replace f5 : a4.tmps[5]?.getD undef = .bool false := f5
    clear hk hsz3 hde3 f4
    refine wpList_next rfl hsz4 hde4 6 rfl (by decide) fun K hK => ?_
    go_simp
    refine hK _ _ fun a5 hsz5 hde5 f6 hk => ?_
    clear hK K
    replace f1 := (hk 1 (by decide)).trans f1
    replace f2 := (hk 2 (by decide)).trans f2
    replace f6 : a5.tmps[6]?.getD undef = .bool false := f6
    clear hk hsz4 hde4 f5
    refine wpList_leave (not_wanted (j := 2) (t := 6) (b := true) rfl rfl (.inr f6)) hsz5 hde5 7 rfl (by decide) fun a6 hsz6 hde6 f7 hk => ?_
    replace f1 := (hk 1 (by decide)).trans f1
    replace f2 := (hk 2 (by decide)).trans f2
    replace f6 := (hk 6 (by decide)).trans f6
    clear hk hsz5 hde5
    refine wpList_leave (not_wanted (j := 2) (t := 6) (b := true) rfl rfl (.inr f6)) hsz6 hde6 8 rfl (by decide) fun a7 hsz7 hde7 f8 hk => ?_
    replace f1 := (hk 1 (by decide)).trans f1
    replace f2 := (hk 2 (by decide)).trans f2
    replace f6 := (hk 6 (by decide)).trans f6
    clear hk hsz6 hde6 f7
    refine wpList_leave (not_wanted (j := 2) (t := 6) (b := true) rfl rfl (.inr f6)) hsz7 hde7 9 rfl (by decide) fun a8 hsz8 hde8 f9 hk => ?_
    replace f1 := (hk 1 (by decide)).trans f1
    replace f2 := (hk 2 (by decide)).trans f2
    replace f6 := (hk 6 (by decide)).trans f6
    replace f8 := (hk 8 (by decide)).trans f8
    clear hk hsz7 hde7
    refine wpList_leave (not_wanted (j := 2) (t := 6) (b := true) rfl rfl (.inr f6)) hsz8 hde8 10 rfl (by decide) fun a9 hsz9 hde9 f10 hk => ?_
    replace f1 := (hk 1 (by decide)).trans f1
    replace f2 := (hk 2 (by decide)).trans f2
    replace f6 := (hk 6 (by decide)).trans f6
    clear hk hsz8 hde8 f8 f9
    refine wpList_next rfl hsz9 hde9 11 rfl (by decide) fun K hK => ?_
    go_simp
    refine hK _ _ fun a10 hsz10 hde10 f11 hk => ?_
    clear hK K
    replace f1 := (hk 1 (by decide)).trans f1
    replace f2 := (hk 2 (by decide)).trans f2
    replace f11 : a10.tmps[11]?.getD undef = .bool false := f11
    clear hk hsz9 hde9 f6 f10
    refine wpList_next rfl hsz10 hde10 3 rfl (by decide) fun K hK => ?_
    go_simp
    refine hK _ _ fun a11 hsz11 hde11 f3 hk => ?_
    clear hK K
    replace f1 := (hk 1 (by decide)).trans f1
    replace f2 := (hk 2 (by decide)).trans f2
    replace f3 : a11.tmps[3]?.getD undef = .bool false := f3
    clear hk hsz10 hde10 f11
    refine wpList_nil ?_
    refine then_go ?_
    refine wp_ret ?_
    repeat first | with_reducible refine then_ret ?_ | with_reducible refine block_ret ?_
    refine ret_tmp Tryd.results54 hde11 f3 ?_
    exact ⟨rfl, below_call Hbel.out hb7⟩
  | true =>
    refine wp_region_lit ?_
    refine wpList_next rfl hsz2 hde2 4 rfl (by decide) fun K hK => ?_
    refine wp_load_mid 29 (.tmp 2) rfl W.heap.size 0 (eval_at f2) C.toList _ (HR.out _ (Below.refl _ _)).1 Tryd.underlying29 rfl HinfC.out ?_
    refine hK _ _ fun a3 hsz3 hde3 f4 hk => ?_
    clear hK K
    replace f1 := (hk 1 (by decide)).trans f1
    replace f2 := (hk 2 (by decide)).trans f2
    replace f4 : a3.tmps[4]?.getD undef = .agg C := f4
    clear hk hsz2 hde2
    refine wpList_next rfl hsz3 hde3 5 rfl (by decide) fun K hK => ?_
    go_simp
    refine (Hh.out _).mono ?_
    rintro e7 w7 ⟨rfl, hb7⟩
    go_simp
    refine hK _ _ fun a4 hsz4 hde4 f5 hk => ?_
    clear hK K
    replace f1 := (hk 1 (by decide)).trans f1
    replace f2 := (hk 2 (by decide)).trans f2
    replace f5 : a4.tmps[5]?.getD undef = .bool true := f5
    clear hk hsz3 hde3 f4
    refine wpList_next rfl hsz4 hde4 6 rfl (by decide) fun K hK => ?_
    go_simp
    refine hK _ _ fun a5 hsz5 hde5 f6 hk => ?_
    clear hK K
    replace f1 := (hk 1 (by decide)).trans f1
    replace f2 := (hk 2 (by decide)).trans f2
    replace f6 : a5.tmps[6]?.getD undef = .bool true := f6
    clear hk hsz4 hde4 f5
    refine wpList_nextg (wanted_of (j := 2) (t := 6) (b := true) rfl rfl f6) hsz5 hde5 7 rfl (by decide) fun K hK => ?_
    go_simp
    refine hK _ _ fun a6 hsz6 hde6 f7 hk => ?_
    clear hK K
    replace f1 := (hk 1 (by decide)).trans f1
    replace f2 := (hk 2 (by decide)).trans f2
    replace f6 := (hk 6 (by decide)).trans f6
    replace f7 : a6.tmps[7]?.getD undef = .pointer (some ⟨W.heap.size, 0 + 5, none⟩) := f7
    clear hk hsz5 hde5
    refine wpList_nextg (wanted_of (j := 2) (t := 6) (b := true) rfl rfl f6) hsz6 hde6 8 rfl (by decide) fun K hK => ?_
    refine wp_load_mid 25 (.tmp 7) rfl W.heap.size (0 + 5) (eval_at f7) ID1.toList _ (HR.out _ hb7).2.1 Tryd.underlying25 rfl Hinf1.out ?_
    refine hK _ _ fun a7 hsz7 hde7 f8 hk => ?_
    clear hK K
    replace f1 := (hk 1 (by decide)).trans f1
    replace f2 := (hk 2 (by decide)).trans f2
    replace f6 := (hk 6 (by decide)).trans f6
    replace f8 : a7.tmps[8]?.getD undef = .agg ID1 := f8
    clear hk hsz6 hde6 f7
    refine wpList_nextg (wanted_of (j := 2) (t := 6) (b := true) rfl rfl f6) hsz7 hde7 9 rfl (by decide) fun K hK => ?_
    refine wp_load_mid 25 (.tmp 1) rfl g 0 (eval_at f1) ID2.toList _ (HR.out _ hb7).2.2 Tryd.underlying25 rfl Hinf2.out ?_
    refine hK _ _ fun a8 hsz8 hde8 f9 hk => ?_
    clear hK K
    replace f1 := (hk 1 (by decide)).trans f1
    replace f2 := (hk 2 (by decide)).trans f2
    replace f6 := (hk 6 (by decide)).trans f6
    replace f8 := (hk 8 (by decide)).trans f8
    replace f9 : a8.tmps[9]?.getD undef = .agg ID2 := f9
    clear hk hsz7 hde7
    refine wpList_nextg (wanted_of (j := 2) (t := 6) (b := true) rfl rfl f6) hsz8 hde8 10 rfl (by decide) fun K hK => ?_
    have heq := Heq.out
    go_simp
    refine hK _ _ fun a9 hsz9 hde9 f10 hk => ?_
    clear hK K
    replace f1 := (hk 1 (by decide)).trans f1
    replace f2 := (hk 2 (by decide)).trans f2
    replace f6 := (hk 6 (by decide)).trans f6
    replace f10 : a9.tmps[10]?.getD undef = .bool e1 := f10
    clear hk hsz8 hde8 f8 f9
    clear heq
    refine wpList_next rfl hsz9 hde9 11 rfl (by decide) fun K hK => ?_
    go_simp
    refine hK _ _ fun a10 hsz10 hde10 f11 hk => ?_
    clear hK K
    replace f1 := (hk 1 (by decide)).trans f1
    replace f2 := (hk 2 (by decide)).trans f2
    replace f11 : a10.tmps[11]?.getD undef = .bool e1 := f11
    clear hk hsz9 hde9 f6 f10
    refine wpList_next rfl hsz10 hde10 3 rfl (by decide) fun K hK => ?_
    go_simp
    refine hK _ _ fun a11 hsz11 hde11 f3 hk => ?_
    clear hK K
    replace f1 := (hk 1 (by decide)).trans f1
    replace f2 := (hk 2 (by decide)).trans f2
    replace f3 : a11.tmps[3]?.getD undef = .bool e1 := f3
    clear hk hsz10 hde10 f11
    refine wpList_nil ?_
    refine then_go ?_
    refine wp_ret ?_
    repeat first | with_reducible refine then_ret ?_ | with_reducible refine block_ret ?_
    refine ret_tmp Tryd.results54 hde11 f3 ?_
    exact ⟨rfl, below_call Hbel.out hb7⟩


set_option maxHeartbeats 4000000 in
/-- entry.Of: an iterator over entries that lie in memory of its own. -/
theorem of_any (ok : Nat → Prop) (v : Value) (L : List Ent) (r : Int) (s : Nat) (w : World) (hL : IsL kEnt w ok v L) (hd : ∀ x ∈ L, x.data.length ≤ 1000) (hl : L.length ≤ 1000) :
    Calls Tryd.prog 26 #[v, .agg (idC r s)] w fun e w' => (∃ g u, e = .returned (.func (.func 55) #[] #[.pointer (some ⟨g, 0, none⟩)]) ∧ Blk w' g 22 #[u] ∧ OwnE w' w.heap.size u (objE L r s) ∧ w.heap.size ≤ g ∧ (∀ k, u.ownBlock = some k → k ≠ g)) ∧ Below w.heap.size w w' := by
  obtain ⟨IB, hIB⟩ : ∃ A, A = idC r s := ⟨_, rfl⟩
  obtain ⟨wb, hwb⟩ : ∃ wb, wb = w.alloc (.cells IB 25) := ⟨_, rfl⟩
  have hbel : Below w.heap.size w wb := by rw [hwb]; exact (Below.refl _ w).alloc (Nat.le_refl _) _
  have hbox : Blk wb w.heap.size 25 IB := by rw [hwb]; exact Blk.new w _ _
  have HrB := Lib.hid (show ∀ z, Below wb.heap.size wb z → z.rangeAt w.heap.size 0 IB.toList from fun z hz => (hbox.grow hz).range 0 IB.toList fun j u hu => by rw [Nat.zero_add, ← Array.getElem?_toList]; exact hu)
  have HfB := Lib.hid (show (Tryd.prog.info? 25).map (·.size) = some IB.toList.length by rw [hIB]; exact id_info)
  have HIB := Lib.hid hIB
  have Hbel := Lib.hid hbel
  have HW := Lib.hid hwb
  have hth := ethose_any 54 #[.pointer (some ⟨w.heap.size, 0, none⟩)] _ (enters_of Tryd.func54 (by kernel_rfl) rfl) ok v L wb (hL.grow hbel) hd hl (predE_of r s w.heap.size wb (by rw [← hIB]; exact hbox))
  rw [show L.filter (fun x => headE x && sameI x.orep x.oseq r s) = objE L r s from rfl] at hth
  have Hth := Lib.hid hth
  rw [← hIB]
  clear hL hd hl hwb hbel hbox hth hIB
  go_enter Tryd.func26, Tryd.ntmps26
  refine enter_abs (N := 10) rfl rfl fun a0 hsz0 hde0 hk => ?_
  have f0 : a0.tmps[0]?.getD undef = v := hk 0
  have f1 : a0.tmps[1]?.getD undef = .agg IB := hk 1
  clear hk
  repeat with_reducible refine wp_seq ?_
  refine wp_region_lit ?_
  refine wpList_next rfl hsz0 hde0 3 rfl (by decide) fun K hK => ?_
  go_simp
  refine hK _ _ fun a1 hsz1 hde1 f3 hk => ?_
  clear hK K
  replace f0 := (hk 0 (by decide)).trans f0
  replace f1 := (hk 1 (by decide)).trans f1
  replace f3 : a1.tmps[3]?.getD undef = .pointer (some ⟨w.heap.size, 0, none⟩) := f3
  clear hk hsz0 hde0
  refine wpList_next rfl hsz1 hde1 4 rfl (by decide) fun K hK => ?_
  go_simp
  refine hK _ _ fun a2 hsz2 hde2 f4 hk => ?_
  clear hK K
  replace f0 := (hk 0 (by decide)).trans f0
  replace f1 := (hk 1 (by decide)).trans f1
  replace f3 := (hk 3 (by decide)).trans f3
  clear hk hsz1 hde1
  refine wpList_nil ?_
  clear f1 f4
  rw [← HW.out]
  refine then_go ?_
  repeat with_reducible refine wp_seq ?_
  refine wp_region_lit ?_
  refine wpList_next rfl hsz2 hde2 6 rfl (by decide) fun K hK => ?_
  go_simp
  refine hK _ _ fun a3 hsz3 hde3 f6 hk => ?_
  clear hK K
  replace f0 := (hk 0 (by decide)).trans f0
  replace f3 := (hk 3 (by decide)).trans f3
  replace f6 : a3.tmps[6]?.getD undef = v := f6
  clear hk hsz2 hde2
  refine wpList_next rfl hsz3 hde3 7 rfl (by decide) fun K hK => ?_
  go_simp
  refine hK _ _ fun a4 hsz4 hde4 f7 hk => ?_
  clear hK K
  replace f0 := (hk 0 (by decide)).trans f0
  replace f3 := (hk 3 (by decide)).trans f3
  replace f6 := (hk 6 (by decide)).trans f6
  replace f7 : a4.tmps[7]?.getD undef = .func (.func 54) #[] #[.pointer (some ⟨w.heap.size, 0, none⟩)] := f7
  clear hk hsz3 hde3
  refine wpList_next rfl hsz4 hde4 8 rfl (by decide) fun K hK => ?_
  go_simp
  refine (Hth.out).mono ?_
  rintro e1 w1 ⟨⟨u1, rfl, hown1⟩, hb1⟩
  go_simp
  refine hK _ _ fun a5 hsz5 hde5 f8 hk => ?_
  clear hK K
  replace f0 := (hk 0 (by decide)).trans f0
  replace f3 := (hk 3 (by decide)).trans f3
  replace f8 : a5.tmps[8]?.getD undef = u1 := f8
  clear hk hsz4 hde4 f6 f7
  have Hown1 := Lib.hid hown1
  have Hb1 := Lib.hid hb1
  clear hown1 hb1
  refine wpList_next rfl hsz5 hde5 5 rfl (by decide) fun K hK => ?_
  go_simp
  refine hK _ _ fun a6 hsz6 hde6 f5 hk => ?_
  clear hK K
  replace f0 := (hk 0 (by decide)).trans f0
  replace f3 := (hk 3 (by decide)).trans f3
  replace f8 := (hk 8 (by decide)).trans f8
  replace f5 : a6.tmps[5]?.getD undef = .pointer (some ⟨w1.heap.size, 0, none⟩) := f5
  clear hk hsz5 hde5
  have hone : u1.oneCell' = true := by obtain ⟨A7, c7, e7, _⟩ := ent_at Hown1.out.isL; rw [e7]; rfl
  obtain ⟨A7, c7, e7, _⟩ := ent_at Hown1.out.isL
  have He7 := Lib.hid e7
  obtain ⟨n7, hn7⟩ : ∃ n7, n7 = (objE L r s).length := ⟨_, rfl⟩
  rw [← hn7] at He7
  rw [He7.out] at f8
  clear e7 hn7 hone
  refine wpList_next0 rfl rfl fun K hK => ?_
  go_simp
  refine hK undef _ ?_
  clear hK K
  clear f8
  refine wpList_nil ?_
  have hfr : (w1.alloc (.cells #[.slice A7 n7 c7] 22)) = (w1.alloc (.cells #[.slice A7 n7 c7] 22)) := rfl
  clear hfr
  refine then_go ?_
  repeat with_reducible refine wp_seq ?_
  refine wp_region_lit ?_
  refine wpList_next rfl hsz6 hde6 9 rfl (by decide) fun K hK => ?_
  go_simp
  refine hK _ _ fun a7 hsz7 hde7 f9 hk => ?_
  clear hK K
  replace f0 := (hk 0 (by decide)).trans f0
  replace f3 := (hk 3 (by decide)).trans f3
  replace f5 := (hk 5 (by decide)).trans f5
  replace f9 : a7.tmps[9]?.getD undef = .func (.func 55) #[] #[.pointer (some ⟨w1.heap.size, 0, none⟩)] := f9
  clear hk hsz6 hde6
  refine wpList_next rfl hsz7 hde7 4 rfl (by decide) fun K hK => ?_
  go_simp
  refine hK _ _ fun a8 hsz8 hde8 f4 hk => ?_
  clear hK K
  replace f0 := (hk 0 (by decide)).trans f0
  replace f3 := (hk 3 (by decide)).trans f3
  replace f5 := (hk 5 (by decide)).trans f5
  replace f4 : a8.tmps[4]?.getD undef = .func (.func 55) #[] #[.pointer (some ⟨w1.heap.size, 0, none⟩)] := f4
  clear hk hsz7 hde7 f9
  refine wpList_nil ?_
  refine then_go ?_
  refine wp_ret ?_
  repeat first | with_reducible refine then_ret ?_ | with_reducible refine block_ret ?_
  refine ret_tmp Tryd.results26 hde8 f4 ?_
  exact ⟨⟨w1.heap.size, u1, rfl, by rw [He7.out]; exact Blk.new _ _ _, (Hown1.out.grow ((Below.refl _ _).alloc (Nat.le_refl _) _)).mono Hbel.out.size, Nat.le_trans Hbel.out.size Hb1.out.size, fun k hk => by have := (Hown1.out.lt k hk).2; omega⟩, below_call Hbel.out (Hb1.out.alloc Hb1.out.size _)⟩

theorem elemS : ElemK Tryd.prog 40 9 1 16 := ElemK.mk_ (z := .string ⟨#[]⟩) Tryd.underlying40 (by kernel_rfl) rfl (by omega)
set_option maxHeartbeats 4000000 in
/-- The document's Tag. -/
theorem reftag_any (name : List UInt8) (n : Int) (s : Nat) (hn : I64 n) (hs : s < 4294967296) (hl : name.length ≤ 400) (w : World) (hp : Pow w) :
    Calls Tryd.prog 53 #[.string ⟨name.toArray⟩, .agg (idC n s)] w fun e w' => e = .returned (str (tagI name n s)) ∧ Below w.heap.size w w' := by
  have hA0 : Blk (w.alloc (.cells (idC n s) 25)) w.heap.size 25 (idC n s) := Blk.new _ _ _
  have hbel : Below w.heap.size w (w.alloc (.cells (idC n s) 25)) := (Below.refl _ _).alloc (Nat.le_refl _) _
  have hit := fun z hz => itoaI_any hn z hz
  have hfu := fun (z : World) (hz : Pow z) => itoa_any s (by omega) z hz
  have hd1 := itoa_le hn
  have hd2 := decDigits_le s (by omega)
  have hT : tagI name n s = name ++ [126] ++ Lib.itoa n ++ [46] ++ Lib.decDigits s := by unfold tagI; simp
  generalize Lib.itoa n = D1 at hit hd1 hT
  generalize Lib.decDigits s = D2 at hfu hd2 hT
  have add1 : ∀ u : World, (Op.stringOp .add ⟨name.toArray⟩ ⟨#[126]⟩).run Tryd.prog u = .ok (str (name ++ [126])) u := fun u => run_str_add u name [126] (by simp; omega)
  have add2 : ∀ u : World, (Op.stringOp .add ⟨(name ++ [126]).toArray⟩ ⟨D1.toArray⟩).run Tryd.prog u = .ok (str (name ++ [126] ++ D1)) u := fun u => run_str_add u (name ++ [126]) D1 (by simp; omega)
  have add3 : ∀ u : World, (Op.stringOp .add ⟨(name ++ [126] ++ D1).toArray⟩ ⟨#[46]⟩).run Tryd.prog u = .ok (str (name ++ [126] ++ D1 ++ [46])) u := fun u => run_str_add u (name ++ [126] ++ D1) [46] (by simp; omega)
  have add4 : ∀ u : World, (Op.stringOp .add ⟨(name ++ [126] ++ D1 ++ [46]).toArray⟩ ⟨D2.toArray⟩).run Tryd.prog u = .ok (str (tagI name n s)) u := fun u => by
    rw [hT]; exact run_str_add u (name ++ [126] ++ D1 ++ [46]) D2 (by simp; omega)
  generalize name ++ [126] ++ D1 ++ [46] = X3 at add3 add4
  generalize name ++ [126] ++ D1 = X2 at add2 add3
  generalize name ++ [126] = X1 at add1 add2
  generalize tagI name n s = TT at add4 ⊢
  unfold str at add1 add2 add3 add4
  have hwr : IntKind.i64.wrap (s : Int) = (s : Int) := by rw [IntKind.wrap_i64] <;> omega
  have hc0 : ∀ y : Ext (w.alloc (.cells (idC n s) 25)), y.now.cell? ⟨w.heap.size, 0, none⟩ = some (.int .i64 n) := fun y => by rw [(hA0.grow y.out).cell]; rfl
  have hc1 : ∀ y : Ext (w.alloc (.cells (idC n s) 25)), y.now.cell? ⟨w.heap.size, 1, none⟩ = some (.int .u32 (s : Int)) := fun y => by rw [(hA0.grow y.out).cell]; rfl
  have hit2 : ∀ (z : World), Pow z → Calls Tryd.prog 68 #[.int .i64 n] z fun e w' => e = .returned (.string ⟨D1.toArray⟩) ∧ Below z.heap.size z w' := hit
  have hfu2 : ∀ (z : World), Pow z → Calls Tryd.prog 68 #[.int .i64 (s : Int)] z fun e w' => e = .returned (.string ⟨D2.toArray⟩) ∧ Below z.heap.size z w' := hfu
  have Hit := Lib.hid hit2
  have Hfu := Lib.hid hfu2
  have Hp := Lib.hid hp
  have Hbel := Lib.hid hbel
  clear hit hfu hit2 hfu2 hd1 hd2 hT hA0 hp hn hs hl hbel
  unfold idC at *
  go_enter Tryd.func53, Tryd.ntmps53
  go_wp2_with fail
  refine wp_region_grow (by kernel_rfl) (by kernel_rfl) ?_
  repeat (first | go_big_quiet_step ((first | (go_at_call 68; with_reducible exact calls_grow (Hit.out _ (Hp.out.grow (below_call Hbel.out (Ext.out _))))) | (go_at_call 68; with_reducible exact calls_grow (Hfu.out _ (Hp.out.grow (below_call Hbel.out (Ext.out _))))))) | quiet_step ((first | (go_at_call 68; with_reducible exact calls_grow (Hit.out _ (Hp.out.grow (below_call Hbel.out (Ext.out _))))) | (go_at_call 68; with_reducible exact calls_grow (Hfu.out _ (Hp.out.grow (below_call Hbel.out (Ext.out _))))))))
  refine wpQuiet_nil ?_
  rintro _ ⟨⟨w6, hb6⟩, rfl⟩
  go_wp2
  go_ret
  exact ⟨rfl, below_call Hbel.out hb6⟩
theorem name_at1 {L : List Ent} {i : Nat} (h : i < L.length) : nameAt L i = if 0 < i ∧ (L[i - 1]?.map (·.data)) = some L[i].data then tagI L[i].data L[i].rep L[i].seq else L[i].data := by
  unfold nameAt
  rw [List.getElem?_eq_getElem h]
theorem shown_next {L : List Ent} {i : Nat} (h : i < L.length) : (shownE L).take (i + 1) = (shownE L).take i ++ [nameAt L i] := by
  have hl : i < (shownE L).length := by rw [shown_length]; exact h
  rw [List.take_succ_eq_append_getElem hl]
  congr 2
  have := shown_get L i h
  rw [List.getElem?_eq_getElem hl] at this
  exact Option.some.inj this
def RsInv (w : World) (v : Value) (L : List Ent) (n : Nat) (k9 : Nat) (a : Act) (x : World) : Prop :=
  ∃ (i : Nat) (u : Value), Hid (a.tmps.size = 41) ∧ Hid (a.defers = []) ∧ a.tmps[0]?.getD undef = v ∧ a.tmps[3]?.getD undef = u ∧ a.tmps[4]?.getD undef = .int .i64 ((i : Nat) : Int) ∧ Hid (i ≤ n) ∧ Hid (OwnK x w.heap.size 9 1 u i (((shownE L).take i).map str)) ∧ Hid (Below w.heap.size w x) ∧ k9 = n - i

set_option maxHeartbeats 8000000 in
theorem erefshown_any (ok : Nat → Prop) (v : Value) (L : List Ent) (w : World) (hL : IsL kEnt w ok v L) (hl : L.length ≤ 1000) (hd : ∀ x ∈ L, x.data.length ≤ 400) (hp : Pow w) :
    Calls Tryd.prog 24 #[v] w fun e w' => (∃ u, e = .returned u ∧ OwnK w' w.heap.size 9 1 u L.length ((shownE L).map str)) ∧ Below w.heap.size w w' := by
  obtain ⟨A, cc, rfl, hc1, hc2, hE⟩ := ent_at hL
  have Hel := Lib.hid hE
  have Hd := Lib.hid hd
  have Hp := Lib.hid hp
  obtain ⟨n, hn⟩ : ∃ n, n = L.length := ⟨_, rfl⟩
  rw [← hn] at hc1 hl ⊢
  have Hn := Lib.hid hn
  have hmx : maxLen ≤ 9223372036854775807 := by decide
  clear hL hE hn hd hp
  go_enter Tryd.func24, Tryd.ntmps24
  refine enter_abs (N := 41) rfl rfl fun a0 hsz0 hde0 hk => ?_
  have f0 : a0.tmps[0]?.getD undef = .slice A n cc := hk 0
  clear hk
  repeat with_reducible refine wp_seq ?_
  refine wp_region_lit ?_
  refine wpList_next rfl hsz0 hde0 2 rfl (by decide) fun K hK => ?_
  go_simp
  refine hK _ _ fun a1 hsz1 hde1 f2 hk => ?_
  clear hK K
  replace f0 := (hk 0 (by decide)).trans f0
  replace f2 : a1.tmps[2]?.getD undef = .slice none 0 0 := f2
  clear hk hsz0 hde0
  refine wpList_nil ?_
  clear f2
  refine then_go ?_
  repeat with_reducible refine wp_seq ?_
  refine wp_region_lit ?_
  refine wpList_next rfl hsz1 hde1 3 rfl (by decide) fun K hK => ?_
  go_simp
  refine hK _ _ fun a2 hsz2 hde2 f3 hk => ?_
  clear hK K
  replace f0 := (hk 0 (by decide)).trans f0
  replace f3 : a2.tmps[3]?.getD undef = .slice none 0 0 := f3
  clear hk hsz1 hde1
  refine wpList_nil ?_
  refine then_go ?_
  repeat with_reducible refine wp_seq ?_
  refine wp_region_lit ?_
  refine wpList_next rfl hsz2 hde2 4 rfl (by decide) fun K hK => ?_
  go_simp
  refine hK _ _ fun a3 hsz3 hde3 f4 hk => ?_
  clear hK K
  replace f0 := (hk 0 (by decide)).trans f0
  replace f3 := (hk 3 (by decide)).trans f3
  replace f4 : a3.tmps[4]?.getD undef = .int .i64 ((0 : Nat) : Int) := f4
  clear hk hsz2 hde2
  refine wpList_nil ?_
  refine then_go ?_
  repeat with_reducible refine wp_seq ?_
  refine wp_block ?_
  refine wp_loop_ghost (RsInv w (.slice A n cc) L n) (n - 0) ?_ ?_
  · exact ⟨0, _, hsz3, hde3, f0, f3, f4, Lib.hid (Nat.zero_le _), Lib.hid (OwnK.nil _ _ _ _), Lib.hid (Below.refl _ _), rfl⟩
  clear hsz3 hde3 f0 f3 f4
  intro n2 a19 wr hI
  obtain ⟨i, u, hsz19, hde19, f0, f3, f4, Hi, Hown, Hbw, hn2⟩ := hI
  have Hn2 := Lib.hid hn2
  clear hn2
  repeat with_reducible refine wp_seq ?_
  by_cases hlt : i < n
  · skip
    refine wp_region_lit ?_
    refine wpList_next rfl hsz19 hde19 6 rfl (by decide) fun K hK => ?_
    go_simp
    refine hK _ _ fun a20 hsz20 hde20 f6 hk => ?_
    clear hK K
    replace f0 := (hk 0 (by decide)).trans f0
    replace f3 := (hk 3 (by decide)).trans f3
    replace f4 := (hk 4 (by decide)).trans f4
    replace f6 : a20.tmps[6]?.getD undef = .int .i64 ((i : Nat) : Int) := f6
    clear hk hsz19 hde19
    refine wpList_next rfl hsz20 hde20 7 rfl (by decide) fun K hK => ?_
    go_simp
    refine hK _ _ fun a21 hsz21 hde21 f7 hk => ?_
    clear hK K
    replace f0 := (hk 0 (by decide)).trans f0
    replace f3 := (hk 3 (by decide)).trans f3
    replace f4 := (hk 4 (by decide)).trans f4
    replace f6 := (hk 6 (by decide)).trans f6
    replace f7 : a21.tmps[7]?.getD undef = .slice A n cc := f7
    clear hk hsz20 hde20
    refine wpList_next rfl hsz21 hde21 8 rfl (by decide) fun K hK => ?_
    go_simp
    refine hK _ _ fun a22 hsz22 hde22 f8 hk => ?_
    clear hK K
    replace f0 := (hk 0 (by decide)).trans f0
    replace f3 := (hk 3 (by decide)).trans f3
    replace f4 := (hk 4 (by decide)).trans f4
    replace f6 := (hk 6 (by decide)).trans f6
    replace f8 : a22.tmps[8]?.getD undef = .int .i64 ((n : Nat) : Int) := f8
    clear hk hsz21 hde21 f7
    refine wpList_next rfl hsz22 hde22 9 rfl (by decide) fun K hK => ?_
    go_simp
    refine hK _ _ fun a23 hsz23 hde23 f9 hk => ?_
    clear hK K
    replace f0 := (hk 0 (by decide)).trans f0
    replace f3 := (hk 3 (by decide)).trans f3
    replace f4 := (hk 4 (by decide)).trans f4
    clear hk hsz22 hde22 f6 f8
    replace f9 : a23.tmps[9]?.getD undef = .bool true := f9.trans (by first | rfl | (congr 1; first | exact decide_eq_true (by omega) | exact decide_eq_false (by omega)) | (simp; omega))
    refine wpList_nil ?_
    refine then_go ?_
    repeat with_reducible refine wp_seq ?_
    refine wp_cond_true (eval_at f9) ?_
    refine wp_skip ?_
    refine then_go ?_
    clear f9
    repeat with_reducible refine wp_seq ?_
    refine wp_block ?_
    repeat with_reducible refine wp_seq ?_
    have hil : i < L.length := by rw [← Hn.out]; exact hlt
    obtain ⟨b, off, rfl, _, _, hel⟩ := Hel.out (by intro e; subst e; simp at hil)
    obtain ⟨X, hX⟩ : ∃ X, X = L[i] := ⟨_, rfl⟩
    have HX := Lib.hid hX
    have hrow : ∀ j (hj : j < L.length) z, Below w.heap.size w z → z.rangeAt b (off + j * 15) (entC L[j]).toList := fun j hj z hz => range_ext (hel j hj).1 hz
    have Hrow := Lib.hid hrow
    have hdat : wr.cell? ⟨b, off + i * 15 + 4, none⟩ = some (str X.data) := by rw [hX]; exact (entCells (hrow i hil wr Hbw.out)).data
    have Hdat := Lib.hid hdat
    obtain ⟨IX, hIX⟩ : ∃ C, C = idC X.rep X.seq := ⟨_, rfl⟩
    have HrI := Lib.hid (show ∀ z, Below w.heap.size w z → z.rangeAt b (off + i * 15) IX.toList from fun z hz => by rw [hIX, hX]; exact (entCells (hrow i hil z hz)).id)
    have HfI := Lib.hid (show (Tryd.prog.info? 25).map (·.size) = some IX.toList.length by rw [hIX]; exact id_info)
    have hXok : EntOk X := by rw [hX]; exact (hel i hil).2
    have htag := fun (z : World) (hz : Pow z) => reftag_any X.data X.rep X.seq hXok.rep hXok.seq (by rw [hX]; exact Hd.out _ (List.getElem_mem hil)) z hz
    rw [← hIX] at htag
    have Htag := Lib.hid htag
    have hna := name_at1 hil
    rw [← hX] at hna
    have Hna := Lib.hid hna
    have hnx := shown_next hil
    have Hnx := Lib.hid hnx
    have hi0 : (0 : Int) ≤ (i : Int) := by omega
    have hin : (i : Int) < (n : Int) := by omega
    clear hel hX hrow hdat hIX hXok htag hna hnx
    refine wp_region_lit ?_
    refine wpList_next rfl hsz23 hde23 12 rfl (by decide) fun K hK => ?_
    go_simp
    refine hK _ _ fun a24 hsz24 hde24 f12 hk => ?_
    clear hK K
    replace f0 := (hk 0 (by decide)).trans f0
    replace f3 := (hk 3 (by decide)).trans f3
    replace f4 := (hk 4 (by decide)).trans f4
    replace f12 : a24.tmps[12]?.getD undef = .slice (some ⟨b, off, none⟩) n cc := f12
    clear hk hsz23 hde23
    refine wpList_next rfl hsz24 hde24 13 rfl (by decide) fun K hK => ?_
    go_simp
    refine hK _ _ fun a25 hsz25 hde25 f13 hk => ?_
    clear hK K
    replace f0 := (hk 0 (by decide)).trans f0
    replace f3 := (hk 3 (by decide)).trans f3
    replace f4 := (hk 4 (by decide)).trans f4
    replace f12 := (hk 12 (by decide)).trans f12
    replace f13 : a25.tmps[13]?.getD undef = .int .i64 ((i : Nat) : Int) := f13
    clear hk hsz24 hde24
    refine wpList_next rfl hsz25 hde25 14 rfl (by decide) fun K hK => ?_
    go_simp
    refine hK _ _ fun a26 hsz26 hde26 f14 hk => ?_
    clear hK K
    replace f0 := (hk 0 (by decide)).trans f0
    replace f3 := (hk 3 (by decide)).trans f3
    replace f4 := (hk 4 (by decide)).trans f4
    replace f14 : a26.tmps[14]?.getD undef = .pointer (some ⟨b, off + i * 15, none⟩) := f14
    clear hk hsz25 hde25 f12 f13
    refine wpList_next rfl hsz26 hde26 15 rfl (by decide) fun K hK => ?_
    go_simp
    refine hK _ _ fun a27 hsz27 hde27 f15 hk => ?_
    clear hK K
    replace f0 := (hk 0 (by decide)).trans f0
    replace f3 := (hk 3 (by decide)).trans f3
    replace f4 := (hk 4 (by decide)).trans f4
    replace f15 : a27.tmps[15]?.getD undef = .pointer (some ⟨b, off + i * 15 + 4, none⟩) := f15
    clear hk hsz26 hde26 f14
    refine wpList_next rfl hsz27 hde27 16 rfl (by decide) fun K hK => ?_
    have hdat := Hdat.out
    go_simp
    refine hK _ _ fun a28 hsz28 hde28 f16 hk => ?_
    clear hK K
    replace f0 := (hk 0 (by decide)).trans f0
    replace f3 := (hk 3 (by decide)).trans f3
    replace f4 := (hk 4 (by decide)).trans f4
    replace f16 : a28.tmps[16]?.getD undef = str X.data := f16
    clear hk hsz27 hde27 f15
    clear hdat
    refine wpList_next rfl hsz28 hde28 5 rfl (by decide) fun K hK => ?_
    go_simp
    refine hK _ _ fun a29 hsz29 hde29 f5 hk => ?_
    clear hK K
    replace f0 := (hk 0 (by decide)).trans f0
    replace f3 := (hk 3 (by decide)).trans f3
    replace f4 := (hk 4 (by decide)).trans f4
    replace f5 : a29.tmps[5]?.getD undef = str X.data := f5
    clear hk hsz28 hde28 f16
    refine wpList_nil ?_
    refine then_go ?_
    repeat with_reducible refine wp_seq ?_
    obtain ⟨N0, hN0⟩ : ∃ N0, N0 = nameAt L i := ⟨_, rfl⟩
    rw [← hN0] at Hna Hnx
    clear hN0
    refine wp_cut0 (fun a9 x9 => Hid (a9.tmps.size = 41) ∧ Hid (a9.defers = []) ∧ a9.tmps[0]?.getD undef = .slice (some ⟨b, off, none⟩) n cc ∧ a9.tmps[3]?.getD undef = u ∧ a9.tmps[4]?.getD undef = .int .i64 ((i : Nat) : Int) ∧ a9.tmps[5]?.getD undef = str X.data ∧ (∃ q : Bool, a9.tmps[28]?.getD undef = .bool q ∧ Hid (N0 = if q = true then tagI X.data X.rep X.seq else X.data)) ∧ x9 = wr) ?_ ?_
    · rcases Nat.eq_zero_or_pos i with hz | hz
      · have Hz := Lib.hid hz
        clear hz
        refine wp_region_lit ?_
        refine wpList_next rfl hsz29 hde29 17 rfl (by decide) fun K hK => ?_
        go_simp
        refine hK _ _ fun a30 hsz30 hde30 f17 hk => ?_
        clear hK K
        replace f0 := (hk 0 (by decide)).trans f0
        replace f3 := (hk 3 (by decide)).trans f3
        replace f4 := (hk 4 (by decide)).trans f4
        replace f5 := (hk 5 (by decide)).trans f5
        replace f17 : a30.tmps[17]?.getD undef = .int .i64 ((i : Nat) : Int) := f17
        clear hk hsz29 hde29
        refine wpList_next rfl hsz30 hde30 18 rfl (by decide) fun K hK => ?_
        go_simp
        refine hK _ _ fun a31 hsz31 hde31 f18 hk => ?_
        clear hK K
        replace f0 := (hk 0 (by decide)).trans f0
        replace f3 := (hk 3 (by decide)).trans f3
        replace f4 := (hk 4 (by decide)).trans f4
        replace f5 := (hk 5 (by decide)).trans f5
        clear hk hsz30 hde30 f17
        replace f18 : a31.tmps[18]?.getD undef = .bool false := f18.trans (by have h7 := Hz.out; first | (congr 1; exact decide_eq_true (by omega)) | (congr 1; exact decide_eq_false (by omega)) | (simp; omega) | (rw [h7]; rfl))
        refine wpList_next rfl hsz31 hde31 19 rfl (by decide) fun K hK => ?_
        go_simp
        refine hK _ _ fun a32 hsz32 hde32 f19 hk => ?_
        clear hK K
        replace f0 := (hk 0 (by decide)).trans f0
        replace f3 := (hk 3 (by decide)).trans f3
        replace f4 := (hk 4 (by decide)).trans f4
        replace f5 := (hk 5 (by decide)).trans f5
        replace f19 : a32.tmps[19]?.getD undef = .bool false := f19
        clear hk hsz31 hde31 f18
        refine wpList_leave (not_wanted (j := 2) (t := 19) (b := true) rfl rfl (.inr f19)) hsz32 hde32 20 rfl (by decide) fun a33 hsz33 hde33 f20 hk => ?_
        replace f0 := (hk 0 (by decide)).trans f0
        replace f3 := (hk 3 (by decide)).trans f3
        replace f4 := (hk 4 (by decide)).trans f4
        replace f5 := (hk 5 (by decide)).trans f5
        replace f19 := (hk 19 (by decide)).trans f19
        clear hk hsz32 hde32
        refine wpList_leave (not_wanted (j := 2) (t := 19) (b := true) rfl rfl (.inr f19)) hsz33 hde33 21 rfl (by decide) fun a34 hsz34 hde34 f21 hk => ?_
        replace f0 := (hk 0 (by decide)).trans f0
        replace f3 := (hk 3 (by decide)).trans f3
        replace f4 := (hk 4 (by decide)).trans f4
        replace f5 := (hk 5 (by decide)).trans f5
        replace f19 := (hk 19 (by decide)).trans f19
        replace f20 := (hk 20 (by decide)).trans f20
        clear hk hsz33 hde33
        refine wpList_leave (not_wanted (j := 2) (t := 19) (b := true) rfl rfl (.inr f19)) hsz34 hde34 22 rfl (by decide) fun a35 hsz35 hde35 f22 hk => ?_
        replace f0 := (hk 0 (by decide)).trans f0
        replace f3 := (hk 3 (by decide)).trans f3
        replace f4 := (hk 4 (by decide)).trans f4
        replace f5 := (hk 5 (by decide)).trans f5
        replace f19 := (hk 19 (by decide)).trans f19
        replace f20 := (hk 20 (by decide)).trans f20
        clear hk hsz34 hde34 f21
        refine wpList_leave (not_wanted (j := 2) (t := 19) (b := true) rfl rfl (.inr f19)) hsz35 hde35 23 rfl (by decide) fun a36 hsz36 hde36 f23 hk => ?_
        replace f0 := (hk 0 (by decide)).trans f0
        replace f3 := (hk 3 (by decide)).trans f3
        replace f4 := (hk 4 (by decide)).trans f4
        replace f5 := (hk 5 (by decide)).trans f5
        replace f19 := (hk 19 (by decide)).trans f19
        clear hk hsz35 hde35 f20 f22
        refine wpList_leave (not_wanted (j := 2) (t := 19) (b := true) rfl rfl (.inr f19)) hsz36 hde36 24 rfl (by decide) fun a37 hsz37 hde37 f24 hk => ?_
        replace f0 := (hk 0 (by decide)).trans f0
        replace f3 := (hk 3 (by decide)).trans f3
        replace f4 := (hk 4 (by decide)).trans f4
        replace f5 := (hk 5 (by decide)).trans f5
        replace f19 := (hk 19 (by decide)).trans f19
        clear hk hsz36 hde36 f23
        refine wpList_leave (not_wanted (j := 2) (t := 19) (b := true) rfl rfl (.inr f19)) hsz37 hde37 25 rfl (by decide) fun a38 hsz38 hde38 f25 hk => ?_
        replace f0 := (hk 0 (by decide)).trans f0
        replace f3 := (hk 3 (by decide)).trans f3
        replace f4 := (hk 4 (by decide)).trans f4
        replace f5 := (hk 5 (by decide)).trans f5
        replace f19 := (hk 19 (by decide)).trans f19
        clear hk hsz37 hde37 f24
        refine wpList_leave (not_wanted (j := 2) (t := 19) (b := true) rfl rfl (.inr f19)) hsz38 hde38 26 rfl (by decide) fun a39 hsz39 hde39 f26 hk => ?_
        replace f0 := (hk 0 (by decide)).trans f0
        replace f3 := (hk 3 (by decide)).trans f3
        replace f4 := (hk 4 (by decide)).trans f4
        replace f5 := (hk 5 (by decide)).trans f5
        replace f19 := (hk 19 (by decide)).trans f19
        replace f25 := (hk 25 (by decide)).trans f25
        clear hk hsz38 hde38
        refine wpList_leave (not_wanted (j := 2) (t := 19) (b := true) rfl rfl (.inr f19)) hsz39 hde39 27 rfl (by decide) fun a40 hsz40 hde40 f27 hk => ?_
        replace f0 := (hk 0 (by decide)).trans f0
        replace f3 := (hk 3 (by decide)).trans f3
        replace f4 := (hk 4 (by decide)).trans f4
        replace f5 := (hk 5 (by decide)).trans f5
        replace f19 := (hk 19 (by decide)).trans f19
        clear hk hsz39 hde39 f25 f26
        refine wpList_next rfl hsz40 hde40 28 rfl (by decide) fun K hK => ?_
        go_simp
        refine hK _ _ fun a41 hsz41 hde41 f28 hk => ?_
        clear hK K
        replace f0 := (hk 0 (by decide)).trans f0
        replace f3 := (hk 3 (by decide)).trans f3
        replace f4 := (hk 4 (by decide)).trans f4
        replace f5 := (hk 5 (by decide)).trans f5
        replace f28 : a41.tmps[28]?.getD undef = .bool false := f28
        clear hk hsz40 hde40 f19 f27
        refine wpList_nil ?_
        refine then_go ?_
        exact ⟨hsz41, hde41, f0, f3, f4, f5, ⟨false, f28, Lib.hid (by rw [if_neg (by simp), Hna.out, if_neg (fun h => by have := Hz.out; omega)])⟩, rfl⟩
      · have Hz := Lib.hid hz
        obtain ⟨k, hke⟩ : ∃ k, k = i - 1 := ⟨_, rfl⟩
        have hkl : k < L.length := by omega
        obtain ⟨Y, hY⟩ : ∃ Y, Y = L[k] := ⟨_, rfl⟩
        have Hdy := Lib.hid (show wr.cell? ⟨b, off + k * 15 + 4, none⟩ = some (str Y.data) by rw [hY]; exact (entCells (Hrow.out k hkl wr Hbw.out)).data)
        obtain ⟨q, hq⟩ : ∃ q, q = (Y.data == X.data) := ⟨_, rfl⟩
        have Hq := Lib.hid hq
        have Hk := Lib.hid (show i = k + 1 by omega)
        have hk0 : (0 : Int) ≤ (k : Int) := by omega
        have hkn : (k : Int) < (n : Int) := by omega
        have Hqn := Lib.hid (show N0 = if q = true then tagI X.data X.rep X.seq else X.data by
          rw [Hna.out, hq]
          by_cases e7 : Y.data = X.data
          · rw [if_pos ⟨hz, by rw [← hke, List.getElem?_eq_getElem hkl, ← hY, Option.map_some, e7]⟩, if_pos (by simpa using e7)]
          · rw [if_neg (fun h => by have h8 := h.2; rw [← hke, List.getElem?_eq_getElem hkl, ← hY, Option.map_some] at h8; exact e7 (Option.some.inj h8)), if_neg (by simpa using e7)])
        clear hz hke hY hq
        refine wp_region_lit ?_
        refine wpList_next rfl hsz29 hde29 17 rfl (by decide) fun K hK => ?_
        go_simp
        refine hK _ _ fun a30 hsz30 hde30 f17 hk => ?_
        clear hK K
        replace f0 := (hk 0 (by decide)).trans f0
        replace f3 := (hk 3 (by decide)).trans f3
        replace f4 := (hk 4 (by decide)).trans f4
        replace f5 := (hk 5 (by decide)).trans f5
        replace f17 : a30.tmps[17]?.getD undef = .int .i64 ((i : Nat) : Int) := f17
        clear hk hsz29 hde29
        refine wpList_next rfl hsz30 hde30 18 rfl (by decide) fun K hK => ?_
        go_simp
        refine hK _ _ fun a31 hsz31 hde31 f18 hk => ?_
        clear hK K
        replace f0 := (hk 0 (by decide)).trans f0
        replace f3 := (hk 3 (by decide)).trans f3
        replace f4 := (hk 4 (by decide)).trans f4
        replace f5 := (hk 5 (by decide)).trans f5
        clear hk hsz30 hde30 f17
        replace f18 : a31.tmps[18]?.getD undef = .bool true := f18.trans (by have h7 := Hz.out; first | (congr 1; exact decide_eq_true (by omega)) | (congr 1; exact decide_eq_false (by omega)) | (simp; omega) | (rw [h7]; rfl))
        refine wpList_next rfl hsz31 hde31 19 rfl (by decide) fun K hK => ?_
        go_simp
        refine hK _ _ fun a32 hsz32 hde32 f19 hk => ?_
        clear hK K
        replace f0 := (hk 0 (by decide)).trans f0
        replace f3 := (hk 3 (by decide)).trans f3
        replace f4 := (hk 4 (by decide)).trans f4
        replace f5 := (hk 5 (by decide)).trans f5
        replace f19 : a32.tmps[19]?.getD undef = .bool true := f19
        clear hk hsz31 hde31 f18
        refine wpList_nextg (wanted_of (j := 2) (t := 19) (b := true) rfl rfl f19) hsz32 hde32 20 rfl (by decide) fun K hK => ?_
        go_simp
        refine hK _ _ fun a33 hsz33 hde33 f20 hk => ?_
        clear hK K
        replace f0 := (hk 0 (by decide)).trans f0
        replace f3 := (hk 3 (by decide)).trans f3
        replace f4 := (hk 4 (by decide)).trans f4
        replace f5 := (hk 5 (by decide)).trans f5
        replace f19 := (hk 19 (by decide)).trans f19
        replace f20 : a33.tmps[20]?.getD undef = .slice (some ⟨b, off, none⟩) n cc := f20
        clear hk hsz32 hde32
        refine wpList_nextg (wanted_of (j := 2) (t := 19) (b := true) rfl rfl f19) hsz33 hde33 21 rfl (by decide) fun K hK => ?_
        go_simp
        refine hK _ _ fun a34 hsz34 hde34 f21 hk => ?_
        clear hK K
        replace f0 := (hk 0 (by decide)).trans f0
        replace f3 := (hk 3 (by decide)).trans f3
        replace f4 := (hk 4 (by decide)).trans f4
        replace f5 := (hk 5 (by decide)).trans f5
        replace f19 := (hk 19 (by decide)).trans f19
        replace f20 := (hk 20 (by decide)).trans f20
        replace f21 : a34.tmps[21]?.getD undef = .int .i64 ((i : Nat) : Int) := f21
        clear hk hsz33 hde33
        refine wpList_nextg (wanted_of (j := 2) (t := 19) (b := true) rfl rfl f19) hsz34 hde34 22 rfl (by decide) fun K hK => ?_
        go_simp
        refine hK _ _ fun a35 hsz35 hde35 f22 hk => ?_
        clear hK K
        replace f0 := (hk 0 (by decide)).trans f0
        replace f3 := (hk 3 (by decide)).trans f3
        replace f4 := (hk 4 (by decide)).trans f4
        replace f5 := (hk 5 (by decide)).trans f5
        replace f19 := (hk 19 (by decide)).trans f19
        replace f20 := (hk 20 (by decide)).trans f20
        clear hk hsz34 hde34 f21
        replace f22 : a35.tmps[22]?.getD undef = .int .i64 (((k : Nat) : Int)) := f22.trans (by have h7 := Hk.out; first | rfl | (congr 1; done) | (congr 1; omega) | (congr 1; rw [IntKind.wrap_i64] <;> omega))
        refine wpList_nextg (wanted_of (j := 2) (t := 19) (b := true) rfl rfl f19) hsz35 hde35 23 rfl (by decide) fun K hK => ?_
        go_simp
        refine hK _ _ fun a36 hsz36 hde36 f23 hk => ?_
        clear hK K
        replace f0 := (hk 0 (by decide)).trans f0
        replace f3 := (hk 3 (by decide)).trans f3
        replace f4 := (hk 4 (by decide)).trans f4
        replace f5 := (hk 5 (by decide)).trans f5
        replace f19 := (hk 19 (by decide)).trans f19
        replace f23 : a36.tmps[23]?.getD undef = .pointer (some ⟨b, off + k * 15, none⟩) := f23
        clear hk hsz35 hde35 f20 f22
        refine wpList_nextg (wanted_of (j := 2) (t := 19) (b := true) rfl rfl f19) hsz36 hde36 24 rfl (by decide) fun K hK => ?_
        go_simp
        refine hK _ _ fun a37 hsz37 hde37 f24 hk => ?_
        clear hK K
        replace f0 := (hk 0 (by decide)).trans f0
        replace f3 := (hk 3 (by decide)).trans f3
        replace f4 := (hk 4 (by decide)).trans f4
        replace f5 := (hk 5 (by decide)).trans f5
        replace f19 := (hk 19 (by decide)).trans f19
        replace f24 : a37.tmps[24]?.getD undef = .pointer (some ⟨b, off + k * 15 + 4, none⟩) := f24
        clear hk hsz36 hde36 f23
        refine wpList_nextg (wanted_of (j := 2) (t := 19) (b := true) rfl rfl f19) hsz37 hde37 25 rfl (by decide) fun K hK => ?_
        have hdy := Hdy.out
        go_simp
        refine hK _ _ fun a38 hsz38 hde38 f25 hk => ?_
        clear hK K
        replace f0 := (hk 0 (by decide)).trans f0
        replace f3 := (hk 3 (by decide)).trans f3
        replace f4 := (hk 4 (by decide)).trans f4
        replace f5 := (hk 5 (by decide)).trans f5
        replace f19 := (hk 19 (by decide)).trans f19
        replace f25 : a38.tmps[25]?.getD undef = str Y.data := f25
        clear hk hsz37 hde37 f24
        clear hdy
        refine wpList_nextg (wanted_of (j := 2) (t := 19) (b := true) rfl rfl f19) hsz38 hde38 26 rfl (by decide) fun K hK => ?_
        go_simp
        refine hK _ _ fun a39 hsz39 hde39 f26 hk => ?_
        clear hK K
        replace f0 := (hk 0 (by decide)).trans f0
        replace f3 := (hk 3 (by decide)).trans f3
        replace f4 := (hk 4 (by decide)).trans f4
        replace f5 := (hk 5 (by decide)).trans f5
        replace f19 := (hk 19 (by decide)).trans f19
        replace f25 := (hk 25 (by decide)).trans f25
        replace f26 : a39.tmps[26]?.getD undef = str X.data := f26
        clear hk hsz38 hde38
        refine wpList_nextg (wanted_of (j := 2) (t := 19) (b := true) rfl rfl f19) hsz39 hde39 27 rfl (by decide) fun K hK => ?_
        go_simp
        refine hK _ _ fun a40 hsz40 hde40 f27 hk => ?_
        clear hK K
        replace f0 := (hk 0 (by decide)).trans f0
        replace f3 := (hk 3 (by decide)).trans f3
        replace f4 := (hk 4 (by decide)).trans f4
        replace f5 := (hk 5 (by decide)).trans f5
        replace f19 := (hk 19 (by decide)).trans f19
        clear hk hsz39 hde39 f25 f26
        replace f27 : a40.tmps[27]?.getD undef = .bool q := f27.trans (by have h7 := Hq.out; first | (rw [h7]; done) | (congr 1; exact h7.symm) | (rw [h7]; rfl) | (simp [h7]))
        refine wpList_next rfl hsz40 hde40 28 rfl (by decide) fun K hK => ?_
        go_simp
        refine hK _ _ fun a41 hsz41 hde41 f28 hk => ?_
        clear hK K
        replace f0 := (hk 0 (by decide)).trans f0
        replace f3 := (hk 3 (by decide)).trans f3
        replace f4 := (hk 4 (by decide)).trans f4
        replace f5 := (hk 5 (by decide)).trans f5
        replace f28 : a41.tmps[28]?.getD undef = .bool q := f28
        clear hk hsz40 hde40 f19 f27
        refine wpList_nil ?_
        refine then_go ?_
        exact ⟨hsz41, hde41, f0, f3, f4, f5, ⟨q, f28, Hqn⟩, rfl⟩
    clear hsz29 hde29 f0 f3 f4 f5
    rintro a49 x49 ⟨hsz49, hde49, f0, f3, f4, f5, ⟨q, f28, Hqn⟩, rfl⟩
    repeat with_reducible refine wp_seq ?_
    refine wp_cut0 (fun a9 x9 => Hid (a9.tmps.size = 41) ∧ Hid (a9.defers = []) ∧ a9.tmps[0]?.getD undef = .slice (some ⟨b, off, none⟩) n cc ∧ a9.tmps[3]?.getD undef = u ∧ a9.tmps[4]?.getD undef = .int .i64 ((i : Nat) : Int) ∧ a9.tmps[5]?.getD undef = str N0 ∧ Hid (Below x49.heap.size x49 x9)) ?_ ?_
    · cases q with
      | true =>
        refine wp_cond_true (eval_at f28) ?_
        clear f28
        refine wp_region_lit ?_
        refine wpList_next rfl hsz49 hde49 29 rfl (by decide) fun K hK => ?_
        go_simp
        refine hK _ _ fun a50 hsz50 hde50 f29 hk => ?_
        clear hK K
        replace f0 := (hk 0 (by decide)).trans f0
        replace f3 := (hk 3 (by decide)).trans f3
        replace f4 := (hk 4 (by decide)).trans f4
        replace f5 := (hk 5 (by decide)).trans f5
        replace f29 : a50.tmps[29]?.getD undef = str X.data := f29
        clear hk hsz49 hde49
        refine wpList_next rfl hsz50 hde50 30 rfl (by decide) fun K hK => ?_
        go_simp
        refine hK _ _ fun a51 hsz51 hde51 f30 hk => ?_
        clear hK K
        replace f0 := (hk 0 (by decide)).trans f0
        replace f3 := (hk 3 (by decide)).trans f3
        replace f4 := (hk 4 (by decide)).trans f4
        replace f5 := (hk 5 (by decide)).trans f5
        replace f29 := (hk 29 (by decide)).trans f29
        replace f30 : a51.tmps[30]?.getD undef = .slice (some ⟨b, off, none⟩) n cc := f30
        clear hk hsz50 hde50
        refine wpList_next rfl hsz51 hde51 31 rfl (by decide) fun K hK => ?_
        go_simp
        refine hK _ _ fun a52 hsz52 hde52 f31 hk => ?_
        clear hK K
        replace f0 := (hk 0 (by decide)).trans f0
        replace f3 := (hk 3 (by decide)).trans f3
        replace f4 := (hk 4 (by decide)).trans f4
        replace f5 := (hk 5 (by decide)).trans f5
        replace f29 := (hk 29 (by decide)).trans f29
        replace f30 := (hk 30 (by decide)).trans f30
        replace f31 : a52.tmps[31]?.getD undef = .int .i64 ((i : Nat) : Int) := f31
        clear hk hsz51 hde51
        refine wpList_next rfl hsz52 hde52 32 rfl (by decide) fun K hK => ?_
        go_simp
        refine hK _ _ fun a53 hsz53 hde53 f32 hk => ?_
        clear hK K
        replace f0 := (hk 0 (by decide)).trans f0
        replace f3 := (hk 3 (by decide)).trans f3
        replace f4 := (hk 4 (by decide)).trans f4
        replace f5 := (hk 5 (by decide)).trans f5
        replace f29 := (hk 29 (by decide)).trans f29
        replace f32 : a53.tmps[32]?.getD undef = .pointer (some ⟨b, off + i * 15, none⟩) := f32
        clear hk hsz52 hde52 f30 f31
        refine wpList_next rfl hsz53 hde53 33 rfl (by decide) fun K hK => ?_
        go_simp
        refine hK _ _ fun a54 hsz54 hde54 f33 hk => ?_
        clear hK K
        replace f0 := (hk 0 (by decide)).trans f0
        replace f3 := (hk 3 (by decide)).trans f3
        replace f4 := (hk 4 (by decide)).trans f4
        replace f5 := (hk 5 (by decide)).trans f5
        replace f29 := (hk 29 (by decide)).trans f29
        replace f33 : a54.tmps[33]?.getD undef = .pointer (some ⟨b, off + i * 15, none⟩) := f33
        clear hk hsz53 hde53 f32
        refine wpList_next rfl hsz54 hde54 34 rfl (by decide) fun K hK => ?_
        refine wp_load_mid 25 (.tmp 33) rfl b (off + i * 15) (eval_at f33) IX.toList _ (HrI.out _ Hbw.out) Tryd.underlying25 rfl HfI.out ?_
        refine hK _ _ fun a55 hsz55 hde55 f34 hk => ?_
        clear hK K
        replace f0 := (hk 0 (by decide)).trans f0
        replace f3 := (hk 3 (by decide)).trans f3
        replace f4 := (hk 4 (by decide)).trans f4
        replace f5 := (hk 5 (by decide)).trans f5
        replace f29 := (hk 29 (by decide)).trans f29
        replace f34 : a55.tmps[34]?.getD undef = .agg IX := f34
        clear hk hsz54 hde54 f33
        refine wpList_next rfl hsz55 hde55 35 rfl (by decide) fun K hK => ?_
        go_simp
        refine (Htag.out _ (Hp.out.grow Hbw.out)).mono ?_
        rintro e7 w7 ⟨rfl, hb7⟩
        go_simp
        refine hK _ _ fun a56 hsz56 hde56 f35 hk => ?_
        clear hK K
        replace f0 := (hk 0 (by decide)).trans f0
        replace f3 := (hk 3 (by decide)).trans f3
        replace f4 := (hk 4 (by decide)).trans f4
        replace f5 := (hk 5 (by decide)).trans f5
        replace f35 : a56.tmps[35]?.getD undef = str (tagI X.data X.rep X.seq) := f35
        clear hk hsz55 hde55 f29 f34
        refine wpList_next rfl hsz56 hde56 5 rfl (by decide) fun K hK => ?_
        go_simp
        refine hK _ _ fun a57 hsz57 hde57 f5 hk => ?_
        clear hK K
        replace f0 := (hk 0 (by decide)).trans f0
        replace f3 := (hk 3 (by decide)).trans f3
        replace f4 := (hk 4 (by decide)).trans f4
        replace f5 : a57.tmps[5]?.getD undef = str (tagI X.data X.rep X.seq) := f5
        clear hk hsz56 hde56 f35
        refine wpList_nil ?_
        refine then_go ?_
        have hq7 := Hqn.out
        rw [if_pos rfl] at hq7
        exact ⟨hsz57, hde57, f0, f3, f4, f5.trans (by rw [hq7]), Lib.hid hb7⟩
      | false =>
        refine wp_cond_false (eval_at f28) ?_
        clear f28
        refine wp_skip ?_
        refine then_go ?_
        have hq7 := Hqn.out
        rw [if_neg (by simp)] at hq7
        exact ⟨hsz49, hde49, f0, f3, f4, f5.trans (by rw [hq7]), Lib.hid (Below.refl _ _)⟩
    clear hsz49 hde49 f0 f3 f4 f5 f28
    rintro a69 wy ⟨hsz69, hde69, f0, f3, f4, f5, Hby⟩
    have Hbyw := Lib.hid (below_call Hbw.out Hby.out)
    have Hown9 := Lib.hid (OwnK.grow Hown.out Hby.out)
    repeat with_reducible refine wp_seq ?_
    refine wp_region_lit ?_
    refine wpList_next rfl hsz69 hde69 36 rfl (by decide) fun K hK => ?_
    go_simp
    refine hK _ _ fun a70 hsz70 hde70 f36 hk => ?_
    clear hK K
    replace f0 := (hk 0 (by decide)).trans f0
    replace f3 := (hk 3 (by decide)).trans f3
    replace f4 := (hk 4 (by decide)).trans f4
    replace f5 := (hk 5 (by decide)).trans f5
    replace f36 : a70.tmps[36]?.getD undef = u := f36
    clear hk hsz69 hde69
    refine wpList_next rfl hsz70 hde70 37 rfl (by decide) fun K hK => ?_
    go_simp
    refine hK _ _ fun a71 hsz71 hde71 f37 hk => ?_
    clear hK K
    replace f0 := (hk 0 (by decide)).trans f0
    replace f3 := (hk 3 (by decide)).trans f3
    replace f4 := (hk 4 (by decide)).trans f4
    replace f5 := (hk 5 (by decide)).trans f5
    replace f36 := (hk 36 (by decide)).trans f36
    replace f37 : a71.tmps[37]?.getD undef = str N0 := f37
    clear hk hsz70 hde70
    refine wpList_next rfl hsz71 hde71 38 rfl (by decide) fun K hK => ?_
    go_simp
    refine hK _ _ fun a72 hsz72 hde72 f38 hk => ?_
    clear hK K
    replace f0 := (hk 0 (by decide)).trans f0
    replace f3 := (hk 3 (by decide)).trans f3
    replace f4 := (hk 4 (by decide)).trans f4
    replace f5 := (hk 5 (by decide)).trans f5
    replace f36 := (hk 36 (by decide)).trans f36
    replace f38 : a72.tmps[38]?.getD undef = .slice (some ⟨wy.heap.size, 0, none⟩) 1 1 := f38
    clear hk hsz71 hde71 f37
    refine wpList_next rfl hsz72 hde72 39 rfl (by decide) fun K hK => ?_
    refine wp_appK_new wy elemS (.tmp 36) (.tmp 38) rfl w.heap.size i u (((shownE L).take i).map str) (eval_at f36) Hown9.out [str N0] 1 rfl 9 (eval_at f38) (fun u hu => by rw [List.mem_singleton] at hu; rw [hu]; rfl) (by omega) (by omega) Hbyw.out.size ?_
    intro u3 w3 hown3 hg3
    have Hb3 := Lib.hid (Hbyw.out.trans (Hown9.out.below_of hg3 Hbyw.out.size (Nat.le_refl _)))
    have Hown3 := Lib.hid (show OwnK w3 w.heap.size 9 1 u3 (i + 1) (((shownE L).take (i + 1)).map str) by rw [Hnx.out, List.map_append]; exact hown3)
    clear hown3 hg3
    refine hK _ _ fun a73 hsz73 hde73 f39 hk => ?_
    clear hK K
    replace f0 := (hk 0 (by decide)).trans f0
    replace f3 := (hk 3 (by decide)).trans f3
    replace f4 := (hk 4 (by decide)).trans f4
    replace f5 := (hk 5 (by decide)).trans f5
    replace f39 : a73.tmps[39]?.getD undef = u3 := f39
    clear hk hsz72 hde72 f36 f38
    refine wpList_next rfl hsz73 hde73 3 rfl (by decide) fun K hK => ?_
    go_simp
    refine hK _ _ fun a74 hsz74 hde74 f3 hk => ?_
    clear hK K
    replace f0 := (hk 0 (by decide)).trans f0
    replace f4 := (hk 4 (by decide)).trans f4
    replace f5 := (hk 5 (by decide)).trans f5
    replace f3 : a74.tmps[3]?.getD undef = u3 := f3
    clear hk hsz73 hde73 f39
    refine wpList_nil ?_
    repeat first | with_reducible refine block_go ?_ | with_reducible refine then_go ?_
    clear f5
    repeat with_reducible refine wp_seq ?_
    refine wp_region_lit ?_
    refine wpList_next rfl hsz74 hde74 10 rfl (by decide) fun K hK => ?_
    go_simp
    refine hK _ _ fun a75 hsz75 hde75 f10 hk => ?_
    clear hK K
    replace f0 := (hk 0 (by decide)).trans f0
    replace f4 := (hk 4 (by decide)).trans f4
    replace f3 := (hk 3 (by decide)).trans f3
    replace f10 : a75.tmps[10]?.getD undef = .int .i64 ((i : Nat) : Int) := f10
    clear hk hsz74 hde74
    refine wpList_next rfl hsz75 hde75 11 rfl (by decide) fun K hK => ?_
    go_simp
    refine hK _ _ fun a76 hsz76 hde76 f11 hk => ?_
    clear hK K
    replace f0 := (hk 0 (by decide)).trans f0
    replace f4 := (hk 4 (by decide)).trans f4
    replace f3 := (hk 3 (by decide)).trans f3
    clear hk hsz75 hde75 f10
    replace f11 : a76.tmps[11]?.getD undef = .int .i64 (((i + 1 : Nat) : Int)) := f11.trans (by first | rfl | (congr 1; done) | (congr 1; omega) | (congr 1; rw [IntKind.wrap_i64] <;> omega))
    refine wpList_next rfl hsz76 hde76 4 rfl (by decide) fun K hK => ?_
    go_simp
    refine hK _ _ fun a77 hsz77 hde77 f4 hk => ?_
    clear hK K
    replace f0 := (hk 0 (by decide)).trans f0
    replace f3 := (hk 3 (by decide)).trans f3
    replace f4 : a77.tmps[4]?.getD undef = .int .i64 ((i + 1 : Nat) : Int) := f4
    clear hk hsz76 hde76 f11
    refine wpList_nil ?_
    refine then_go ?_
    exact ⟨n - (i + 1), by rw [Hn2.out]; omega, i + 1, _, hsz77, hde77, f0, f3, f4, Lib.hid (by omega), Hown3, Hb3, rfl⟩
  refine wp_region_lit ?_
  refine wpList_next rfl hsz19 hde19 6 rfl (by decide) fun K hK => ?_
  go_simp
  refine hK _ _ fun a20 hsz20 hde20 f6 hk => ?_
  clear hK K
  replace f0 := (hk 0 (by decide)).trans f0
  replace f3 := (hk 3 (by decide)).trans f3
  replace f4 := (hk 4 (by decide)).trans f4
  replace f6 : a20.tmps[6]?.getD undef = .int .i64 ((i : Nat) : Int) := f6
  clear hk hsz19 hde19
  refine wpList_next rfl hsz20 hde20 7 rfl (by decide) fun K hK => ?_
  go_simp
  refine hK _ _ fun a21 hsz21 hde21 f7 hk => ?_
  clear hK K
  replace f0 := (hk 0 (by decide)).trans f0
  replace f3 := (hk 3 (by decide)).trans f3
  replace f4 := (hk 4 (by decide)).trans f4
  replace f6 := (hk 6 (by decide)).trans f6
  replace f7 : a21.tmps[7]?.getD undef = .slice A n cc := f7
  clear hk hsz20 hde20
  refine wpList_next rfl hsz21 hde21 8 rfl (by decide) fun K hK => ?_
  go_simp
  refine hK _ _ fun a22 hsz22 hde22 f8 hk => ?_
  clear hK K
  replace f0 := (hk 0 (by decide)).trans f0
  replace f3 := (hk 3 (by decide)).trans f3
  replace f4 := (hk 4 (by decide)).trans f4
  replace f6 := (hk 6 (by decide)).trans f6
  replace f8 : a22.tmps[8]?.getD undef = .int .i64 ((n : Nat) : Int) := f8
  clear hk hsz21 hde21 f7
  refine wpList_next rfl hsz22 hde22 9 rfl (by decide) fun K hK => ?_
  go_simp
  refine hK _ _ fun a23 hsz23 hde23 f9 hk => ?_
  clear hK K
  replace f0 := (hk 0 (by decide)).trans f0
  replace f3 := (hk 3 (by decide)).trans f3
  replace f4 := (hk 4 (by decide)).trans f4
  clear hk hsz22 hde22 f6 f8
  replace f9 : a23.tmps[9]?.getD undef = .bool false := f9.trans (by first | rfl | (congr 1; first | exact decide_eq_true (by omega) | exact decide_eq_false (by omega)) | (simp; omega))
  refine wpList_nil ?_
  refine then_go ?_
  repeat with_reducible refine wp_seq ?_
  refine wp_cond_false (eval_at f9) ?_
  refine wp_exit ?_
  repeat with_reducible refine then_exit ?_
  refine block_exit ?_
  repeat first | with_reducible refine block_go ?_ | with_reducible refine then_go ?_
  clear f9 f0
  repeat with_reducible refine wp_seq ?_
  obtain ⟨wq, hwq⟩ : ∃ wq, wq = wr := ⟨_, rfl⟩
  rw [← hwq] at Hown Hbw ⊢
  clear hwq
  refine wp_region_lit ?_
  refine wpList_next rfl hsz23 hde23 40 rfl (by decide) fun K hK => ?_
  go_simp
  refine hK _ _ fun a24 hsz24 hde24 f40 hk => ?_
  clear hK K
  replace f3 := (hk 3 (by decide)).trans f3
  replace f4 := (hk 4 (by decide)).trans f4
  replace f40 : a24.tmps[40]?.getD undef = u := f40
  clear hk hsz23 hde23
  refine wpList_next rfl hsz24 hde24 2 rfl (by decide) fun K hK => ?_
  go_simp
  refine hK _ _ fun a25 hsz25 hde25 f2 hk => ?_
  clear hK K
  replace f3 := (hk 3 (by decide)).trans f3
  replace f4 := (hk 4 (by decide)).trans f4
  replace f2 : a25.tmps[2]?.getD undef = u := f2
  clear hk hsz24 hde24 f40
  refine wpList_nil ?_
  refine then_go ?_
  have hin : i = n := by have := Hi.out; omega
  subst hin
  have hfin := Hown.out
  rw [List.take_of_length_le (by rw [shown_length, ← Hn.out]; exact Nat.le_refl _)] at hfin
  refine wp_ret ?_
  repeat first | with_reducible refine then_ret ?_ | with_reducible refine block_ret ?_
  refine ret_tmp Tryd.results24 hde25 f2 ?_
  exact ⟨⟨u, rfl, hfin⟩, Hbw.out⟩
end Go.Proofs.YtcpjgohclncbkaaDoor
