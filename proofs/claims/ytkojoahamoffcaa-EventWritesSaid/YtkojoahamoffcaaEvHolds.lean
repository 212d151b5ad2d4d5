/-
  Lists of numbers that rise: the document's zero and rise.
  isNext.
  isList.
  fieldsHold.
-/
import Derived.Test.YtkojoahamoffcaaEvPlace
namespace Go.Proofs.Ytkojoahamoffcaa
open Go.RowKit
set_option maxRecDepth 100000

theorem refzero_any (r : Int) (s : Nat) (w : World) :
    Calls Try.prog 23 #[.agg (idC r s)] w fun x w' => x = .returned (.bool (zeroI r s)) ∧ Below w.heap.size w w' := by
  obtain ⟨h1, hbel⟩ := ev_box (idC r s) 24 w
  have c0 : (w.alloc (.cells (idC r s) 24)).cell? ⟨w.heap.size, 0, none⟩ = some (.int .i64 r) := by rw [h1.cell]; rfl
  have c1 : (w.alloc (.cells (idC r s) 24)).cell? ⟨w.heap.size, 1, none⟩ = some (.int .u32 (s : Int)) := by rw [h1.cell]; rfl
  unfold zeroI
  have e1 : (r == 0) = decide (r = 0) := rfl
  have e2 : ((s : Int) == 0) = decide (s = 0) := by rw [Bool.eq_iff_iff, beq_iff_eq, decide_eq_true_iff]; omega
  generalize decide (r = 0) = a at e1 ⊢
  generalize decide (s = 0) = b at e2 ⊢
  clear h1
  cases a <;> cases b
  all_goals go_enter Try.func23, Try.ntmps23
  all_goals go_wp2_with fail
  all_goals go_ret
  all_goals exact ⟨rfl, hbel⟩
theorem vec_range {W : World} {g : Nat} {t : TypeId} {V : Nat → Nat} (h : Blk W g t (av V)) : W.rangeAt g 0 (av V).toList := h.range _ _ fun j v hv => by rw [Nat.zero_add, ← Array.getElem?_toList]; exact hv
theorem atI_get {l : List (Int × Nat)} {i : Nat} (hi : i < l.length) : atI l i = l[i] := by unfold atI; rw [List.getD_eq_getElem?_getD, List.getElem?_eq_getElem hi]; rfl
theorem riseAt_zero {V : Nat → Nat} {l : List (Int × Nat)} (h : 0 < l.length) : riseAt V l 0 = hasV V l[0].1 l[0].2 := by unfold riseAt; rw [atI_get h]; simp
theorem riseAt_succ {V : Nat → Nat} {l : List (Int × Nat)} {j : Nat} (h : j + 1 < l.length) : riseAt V l (j + 1) = (hasV V l[j + 1].1 l[j + 1].2 && lessV l[j].1 l[j].2 l[j + 1].1 l[j + 1].2) := by
  unfold riseAt
  rw [atI_get h, show j + 1 - 1 = j by omega, atI_get (by omega : j < l.length)]
  simp

set_option maxHeartbeats 4000000 in
theorem refrise_any (ok : Nat → Prop) (v : Value) (L : List (Int × Nat)) (V : Nat → Nat) (w : World) (hL : IsL kId w ok v L) :
    Calls Try.prog 24 #[v, vv V] w fun e w' => e = .returned (.bool (riseB V L)) ∧ Below w.heap.size w w' := by
  obtain ⟨A, c, rfl, hc1, hc2, hL⟩ := id_at hL
  obtain ⟨b, hb⟩ : ∃ b, b = riseB V L := ⟨_, rfl⟩
  rw [← hb]
  have hm : maxLen ≤ 9223372036854775807 := by decide
  have hyes : (∀ i, i < L.length → riseAt V L i = true) → b = true := fun h => by rw [hb]; exact riseB_iff.2 h
  have hno : ∀ i, i < L.length → riseAt V L i = false → b = false := fun i hi h => by rw [hb]; exact riseB_not hi h
  have Hno := Lib.hid hno
  have Hyes := Lib.hid hyes
  obtain ⟨h1, hbel⟩ := ev_box (av V) 26 w
  obtain ⟨W, hW⟩ : ∃ W, W = (w.alloc (.cells (av V) 26)) := ⟨_, rfl⟩
  rw [← hW] at h1 hbel
  have HW := Lib.hid hW
  have H1 := Lib.hid h1
  have Hbel := Lib.hid hbel
  clear hb hno hyes hW h1 hbel
  unfold vv
  go_enter Try.func24, Try.ntmps24
  go_wp2_with fail
  rw [← HW.out]
  go_loopw [5] (fun i wr => ∃ k : Nat, k ≤ L.length ∧ i = .int .i64 (k : Int) ∧ (∀ j, j < k → riseAt V L j = true) ∧ Below W.heap.size W wr) (fun i _ => L.length - (intOf i).toNat)
  case atStart => exact ⟨0, by omega, rfl, fun j hj => by omega, Below.refl _ _⟩
  case round =>
    obtain ⟨k, hk, rfl, hall, hbw⟩ := hrel
    have Hall := Lib.hid hall
    clear hall
    by_cases hlt : k < L.length
    · obtain ⟨g, off, rfl, _, hg, hel⟩ := hL (by intro e; subst e; simp at hlt)
      have R0 := Lib.hid (range_exts (range_ext (vec_range H1.out) hbw))
      have R1 := Lib.hid (range_exts (range_ext (range_ext (hel k hlt).1 Hbel.out) hbw))
      have k1 := fun y : Ext wr => refhas_any V L[k].1 L[k].2 y.now
      unfold vv at k1
      simp only [idv_idC] at k1
      obtain ⟨h, hh⟩ : ∃ h, h = hasV V L[k].1 L[k].2 := ⟨_, rfl⟩
      simp only [← hh] at k1
      have K1 := Lib.hid k1
      have hnx : riseAt V L k = true → ∀ j, j < k + 1 → riseAt V L j = true := fun h j hj => by
        by_cases e : j = k
        · subst e; exact h
        · exact Hall.out j (by omega)
      have Hnx := Lib.hid hnx
      clear k1 hnx
      cases k with
      | zero =>
        have hat := riseAt_zero (V := V) hlt
        rw [← hh] at hat
        have Hat := Lib.hid hat
        clear hat hh hel hL
        cases h
        all_goals go_wp2_with fail
        all_goals refine wp_region_grow (by kernel_rfl) (by kernel_rfl) ?_
        all_goals repeat (first | (go_big_quiet_want; refine quiet_mid 26 (.tmp 3) rfl w.heap.size 0 rfl _ _ R0.out Try.underlying26 rfl vec_info ?_; go_simp; go_big_quiet_on) | (go_big_quiet_want; refine quiet_mid 24 (.tmp 15) rfl g (off + 0 * 2) rfl _ _ R1.out Try.underlying24 rfl id_info ?_; go_simp; go_big_quiet_on) | go_big_quiet_step ((go_at_call 22; with_reducible exact calls_grow (K1.out _))) | quiet_step ((go_at_call 22; with_reducible exact calls_grow (K1.out _))))
        all_goals refine wpQuiet_nil ?_
        all_goals rintro w6 ⟨⟨_, hb6⟩, rfl⟩
        all_goals go_wp2_with fail
        · go_ret
          exact ⟨by rw [Hno.out 0 hlt Hat.out]; rfl, Hbel.out.trans ((hbw.trans (hb6.mono hbw.size)).mono Hbel.out.size)⟩
        · go_roundw
          case rel => exact ⟨1, by omega, by go_num, Hnx.out Hat.out, hbw.trans (hb6.mono hbw.size)⟩
          case measure => simp [intOf]; omega
      | succ j =>
        have R2 := Lib.hid (range_exts (range_ext (range_ext (hel j (by omega)).1 Hbel.out) hbw))
        have k2 := fun y : Ext wr => refless_any L[j].1 L[j].2 L[j + 1].1 L[j + 1].2 y.now
        simp only [idv_idC] at k2
        obtain ⟨l, hl⟩ : ∃ l, l = lessV L[j].1 L[j].2 L[j + 1].1 L[j + 1].2 := ⟨_, rfl⟩
        simp only [← hl] at k2
        have hat := riseAt_succ (V := V) hlt
        rw [← hh, ← hl] at hat
        have Hat := Lib.hid hat
        have K2 := Lib.hid k2
        have hd : decide ((0 : Int) < (j : Int) + 1) = true := by rw [decide_eq_true_iff]; omega
        clear hat hh hl hel hL k2
        cases h <;> cases l
        all_goals go_wp2_with fail
        all_goals refine wp_region_grow (by kernel_rfl) (by kernel_rfl) ?_
        all_goals repeat (first | (go_big_quiet_want; refine quiet_mid 26 (.tmp 3) rfl w.heap.size 0 rfl _ _ R0.out Try.underlying26 rfl vec_info ?_; go_simp; go_big_quiet_on) | (go_big_quiet_want; refine quiet_mid 24 (.tmp 15) rfl g (off + (j + 1) * 2) rfl _ _ R1.out Try.underlying24 rfl id_info ?_; go_simp; go_big_quiet_on) | (go_big_quiet_want; refine quiet_mid 24 (.tmp 26) rfl g (off + j * 2) rfl _ _ R2.out Try.underlying24 rfl id_info ?_; go_simp; go_big_quiet_on) | (go_big_quiet_want; refine quiet_mid 24 (.tmp 30) rfl g (off + (j + 1) * 2) rfl _ _ R1.out Try.underlying24 rfl id_info ?_; go_simp; go_big_quiet_on) | go_big_quiet_step ((first | (go_at_call 22; with_reducible exact calls_grow (K1.out _)) | (go_at_call 47; with_reducible exact calls_grow (K2.out _)))) | quiet_step ((first | (go_at_call 22; with_reducible exact calls_grow (K1.out _)) | (go_at_call 47; with_reducible exact calls_grow (K2.out _)))))
        all_goals refine wpQuiet_nil ?_
        all_goals rintro w6 ⟨⟨_, hb6⟩, rfl⟩
        all_goals go_wp2_with fail
        · go_ret
          exact ⟨by rw [Hno.out (j + 1) hlt Hat.out]; rfl, Hbel.out.trans ((hbw.trans (hb6.mono hbw.size)).mono Hbel.out.size)⟩
        · go_ret
          exact ⟨by rw [Hno.out (j + 1) hlt Hat.out]; rfl, Hbel.out.trans ((hbw.trans (hb6.mono hbw.size)).mono Hbel.out.size)⟩
        · go_ret
          exact ⟨by rw [Hno.out (j + 1) hlt Hat.out]; rfl, Hbel.out.trans ((hbw.trans (hb6.mono hbw.size)).mono Hbel.out.size)⟩
        · go_roundw
          case rel => exact ⟨j + 1 + 1, by omega, by go_num, Hnx.out Hat.out, hbw.trans (hb6.mono hbw.size)⟩
          case measure => simp [intOf]; omega
    · obtain rfl : k = L.length := by omega
      go_wp2_with fail
      go_ret
      exact ⟨by rw [Hyes.out Hall.out]; rfl, Hbel.out.trans (hbw.mono Hbel.out.size)⟩
end Go.Proofs.Ytkojoahamoffcaa

namespace Go.Proofs.Ytkojoahamoffcaa
open Go.RowKit
set_option maxRecDepth 100000

/-- What isNext tells of the vector behind it. -/
theorem next_head (e : Ev) : headB e = (decide ((nextV e.dep e.rep).2 = 0) && decide (getV (nextV e.dep e.rep).1 e.rep = e.seq) && depB e.dep) := by
  unfold headB nextV
  by_cases hr : repV e.rep = true
  · rw [if_pos hr, hr]
    have h8 := repV_iff.1 hr
    have hg : getV e.dep e.rep = e.dep (e.rep - 1).toNat := by unfold getV; rw [if_pos hr]
    by_cases hm : 1048576 ≤ e.dep (e.rep - 1).toNat
    · rw [if_pos hm, hg]
      rw [decide_eq_false (by omega : ¬ (e.dep (e.rep - 1).toNat + 1 = e.seq ∧ e.seq ≤ 1048576))]
      simp
    · rw [if_neg hm, hg]
      have hu : getV (updV e.dep (e.rep - 1).toNat (e.dep (e.rep - 1).toNat + 1)) e.rep = e.dep (e.rep - 1).toNat + 1 := by unfold getV updV; rw [if_pos hr, if_pos rfl]
      simp only [hu, decide_true, Bool.true_and]
      congr 1
      rw [Bool.eq_iff_iff, decide_eq_true_iff, decide_eq_true_iff]
      omega
  · have hr' : repV e.rep = false := by simpa using hr
    rw [hr', if_neg (by simp)]
    simp

set_option maxHeartbeats 4000000 in
theorem isnext_any (e : Ev) (vg vb : Value) (w : World) (hin : EvOk e) :
    Calls Try.prog 18 #[.agg (evC e vg vb)] w fun x w' => x = .returned (.bool (headB e)) ∧ Below w.heap.size w w' := by
  obtain ⟨h1, hbel⟩ := ev_box (evC e vg vb) 29 w
  obtain ⟨W, hW⟩ : ∃ W, W = (w.alloc (.cells (evC e vg vb) 29)) := ⟨_, rfl⟩
  rw [← hW] at h1 hbel
  rw [next_head]
  have hV := hin.dep
  have hok := okV_next hV e.rep
  have k1 := next_any e.dep hV e.rep W
  generalize nextV e.dep e.rep = R at hok k1 ⊢
  obtain ⟨U, q⟩ := R
  simp only [] at hok k1 ⊢
  obtain ⟨n, hn⟩ : ∃ n, n = getV U e.rep := ⟨_, rfl⟩
  rw [← hn]
  have r1 := ev_dep h1
  have c0 := h1.ev.rep
  unfold vv at k1
  have K1 := Lib.hid k1
  have HW := Lib.hid hW
  have H1 := Lib.hid h1
  have Hbel := Lib.hid hbel
  have Hn := Lib.hid hn
  have R1 := Lib.hid r1
  clear k1 h1 hW hn r1 hin
  have hyes : (∀ i, i < 8 → e.dep i ≤ 1048576) → depB e.dep = true := fun h => depB_iff.2 h
  have hno : ∀ k, k < 8 → 1048576 < e.dep k → depB e.dep = false := fun k hk h => depB_not hk h
  obtain ⟨b, hb⟩ : ∃ b, b = depB e.dep := ⟨_, rfl⟩
  rw [← hb] at hyes hno ⊢
  have Hyes := Lib.hid hyes
  have Hno := Lib.hid hno
  clear hyes hno hb
  go_enter Try.func18, Try.ntmps18
  go_upto_region 1 with fail
  rw [← HW.out]
  refine wp_region_lit ?_
  go_wp2_with (refine wpList_load_mid (op := ⟨some 9, _, _, _, _, _⟩) rfl 26 (.tmp 8) rfl w.heap.size 2 rfl _ _ R1.out Try.underlying26 rfl vec_info ?_)
  refine K1.out.mono ?_
  rintro x w1 ⟨rfl, hb1⟩
  have hb01 := below_call hbel hb1
  obtain ⟨Z, hZ⟩ : ∃ Z, Z = ((w1.alloc (.cells (av zeroV) 26)).setRow w1.heap.size (av U)) := ⟨_, rfl⟩
  have hN : Blk (w1.alloc (.cells (av zeroV) 26)) w1.heap.size 26 (av zeroV) := Blk.new w1 _ _
  have hZ1 : Blk Z w1.heap.size 26 (av U) := by rw [hZ]; exact hN.setRow_ _
  have hlt := (H1.out.grow hb1).lt
  have hZ2 : Blk Z w.heap.size 29 (evC e vg vb) := by rw [hZ]; exact Blk.setRowFar ((H1.out.grow hb1).alloc _) (by omega) _
  have hbZ : Below w.heap.size w Z := by rw [hZ]; exact below_setRow (hb01.alloc hb01.size _) hb01.size _
  rw [zero_av] at hZ
  have HN := Lib.hid hN
  have HZ := Lib.hid hZ
  have HZ1 := Lib.hid hZ1
  have HZ2 := Lib.hid hZ2
  have HbZ := Lib.hid hbZ
  clear hN hZ hZ1 hZ2 hbZ hb1 hb01 hlt hbel c0
  go_upto_region 2 with (refine wpList_store_row (o := ⟨none, .store _ (.tmp 3) (.tmp 14), _, _, _, _⟩) rfl 26 (.tmp 3) (.tmp 14) rfl w1.heap.size (av U) rfl rfl 26 (av zeroV) (by exact HN.out) vec_info rfl (av_one _) ?_; rw [← HZ.out])
  have k2 := fun y : Ext Z => get_any U e.rep y.now
  unfold vv at k2
  simp only [← Hn.out] at k2
  have K2 := Lib.hid k2
  have RU := Lib.hid (range_exts (vec_range HZ1.out))
  have c0 := fun y : Ext Z => (EvCells.ext HZ2.out y).rep
  have c1 := fun y : Ext Z => (EvCells.ext HZ2.out y).seq
  clear k2
  by_cases hq : q = 0
  · subst hq
    by_cases hs : n = e.seq
    · have e1 : ((n : Int) != (e.seq : Int)) = false := by rw [hs]; simp
      have e2 : (n != e.seq) = false := by rw [hs]; simp
      refine wp_region_grow (by kernel_rfl) (by kernel_rfl) ?_
      repeat (first | (go_big_quiet_want; refine quiet_mid 26 (.tmp 3) rfl w1.heap.size 0 rfl _ _ RU.out Try.underlying26 rfl vec_info ?_; go_simp; go_big_quiet_on) | go_big_quiet_step ((go_at_call 42; with_reducible exact calls_grow (K2.out _))) | quiet_step ((go_at_call 42; with_reducible exact calls_grow (K2.out _))))
      refine wpQuiet_nil ?_
      rintro w6 ⟨⟨_, hb6⟩, rfl⟩
      have hb06 := HbZ.out.trans (hb6.mono HbZ.out.size)
      have R6 := Lib.hid (ev_dep (HZ2.out.grow hb6))
      have Hs := Lib.hid hs
      clear hs e1 e2 c0 c1
      go_upto_region 4 with fail
      refine wp_region_lit ?_
      go_wp2_with (refine wpList_load_mid (op := ⟨some 30, _, _, _, _, _⟩) rfl 26 (.tmp 29) rfl w.heap.size 2 rfl _ _ R6.out Try.underlying26 rfl vec_info ?_)
      go_loop [31] (fun i => ∃ k : Nat, k ≤ 8 ∧ i = .int .i64 (k : Int) ∧ ∀ j, j < k → e.dep j ≤ 1048576) (fun i => 8 - (intOf i).toNat)
      case atStart => exact ⟨0, by omega, rfl, fun j hj => by omega⟩
      case round =>
        obtain ⟨k, hk, rfl, hall⟩ := hrel
        have Hall := Lib.hid hall
        clear hall
        by_cases hlt : k < 8
        · have hi := fun w => index_run e.dep k hlt w
          unfold vv at hi
          by_cases hg : 1048576 < e.dep k
          · have e1 : decide (1048576 < e.dep k) = true := decide_eq_true hg
            have e2 : decide ((1048576 : Int) < (e.dep k : Int)) = true := by rw [decide_eq_true_iff]; omega
            have Hg := Lib.hid hg
            clear hg
            go_wp2_with fail
            go_ret
            exact ⟨by rw [Hno.out k hlt Hg.out, Bool.and_false]; rfl, hb06⟩
          · have e1 : decide (1048576 < e.dep k) = false := decide_eq_false hg
            have e2 : decide ((1048576 : Int) < (e.dep k : Int)) = false := by rw [decide_eq_false_iff_not]; omega
            have Hg := Lib.hid hg
            clear hg
            go_wp2_with fail
            go_round
            case rel => exact ⟨k + 1, by omega, by go_num, fun j hj => by
              by_cases e : j = k
              · subst e; have := Hg.out; omega
              · exact Hall.out j (by omega)⟩
            case measure => simp [intOf]; omega
        · obtain rfl : k = 8 := by omega
          go_wp2_with fail
          go_ret
          exact ⟨by rw [Hyes.out Hall.out, Hs.out]; simp, hb06⟩
    · have e1 : ((n : Int) != (e.seq : Int)) = true := by rw [bne_iff_ne]; omega
      have e2 : (n != e.seq) = true := by rw [bne_iff_ne]; omega
      have Hs := Lib.hid hs
      clear hs
      refine wp_region_grow (by kernel_rfl) (by kernel_rfl) ?_
      repeat (first | (go_big_quiet_want; refine quiet_mid 26 (.tmp 3) rfl w1.heap.size 0 rfl _ _ RU.out Try.underlying26 rfl vec_info ?_; go_simp; go_big_quiet_on) | go_big_quiet_step ((go_at_call 42; with_reducible exact calls_grow (K2.out _))) | quiet_step ((go_at_call 42; with_reducible exact calls_grow (K2.out _))))
      refine wpQuiet_nil ?_
      rintro w6 ⟨⟨_, hb6⟩, rfl⟩
      have hb06 := HbZ.out.trans (hb6.mono HbZ.out.size)
      go_wp2_with fail
      go_ret
      exact ⟨by rw [decide_eq_false Hs.out]; simp, hb06⟩
  · have e1 : (q != 0) = true := by rw [bne_iff_ne]; exact hq
    have Hq := Lib.hid hq
    clear hq
    refine wp_region_grow (by kernel_rfl) (by kernel_rfl) ?_
    repeat (first | go_big_quiet_step (fail) | quiet_step (fail))
    refine wpQuiet_nil ?_
    rintro w6 ⟨⟨_, hb6⟩, rfl⟩
    have hb06 := HbZ.out.trans (hb6.mono HbZ.out.size)
    go_wp2_with fail
    go_ret
    exact ⟨by rw [decide_eq_false Hq.out]; simp, hb06⟩
end Go.Proofs.Ytkojoahamoffcaa

namespace Go.Proofs.Ytkojoahamoffcaa
open Go.RowKit
set_option maxRecDepth 100000

set_option maxHeartbeats 4000000 in
theorem islist_any (ok : Nat → Prop) (v : Value) (L : List (Int × Nat)) (least most : Nat) (V : Nat → Nat) (w : World) (hL : IsL kId w ok v L) :
    Calls Try.prog 45 #[v, .int .i64 (least : Int), .int .i64 (most : Int), vv V] w fun e w' => e = .returned (.bool (listB L least most V)) ∧ Below w.heap.size w w' := by
  obtain ⟨A, c, rfl, hc1, hc2, hL⟩ := id_at hL
  have hm : maxLen ≤ 9223372036854775807 := by decide
  obtain ⟨h1, hbel⟩ := ev_box (av V) 26 w
  obtain ⟨W, hW⟩ : ∃ W, W = (w.alloc (.cells (av V) 26)) := ⟨_, rfl⟩
  rw [← hW] at h1 hbel
  have HW := Lib.hid hW
  have H1 := Lib.hid h1
  have Hbel := Lib.hid hbel
  clear hW h1 hbel
  unfold listB vv
  by_cases d1 : L.length < least
  · have e1 : decide (L.length < least) = true := by rw [decide_eq_true_iff]; omega
    rw [decide_eq_false (by omega : ¬ least ≤ L.length)]
    clear hL d1
    go_enter Try.func45, Try.ntmps45
    go_wp2_with fail
    rw [← HW.out]
    go_ret
    exact ⟨rfl, Hbel.out⟩
  have e1 : decide (L.length < least) = false := by rw [decide_eq_false_iff_not]; omega
  rw [decide_eq_true (by omega : least ≤ L.length)]
  by_cases d2 : most < L.length
  · have e2 : decide (most < L.length) = true := by rw [decide_eq_true_iff]; omega
    rw [decide_eq_false (by omega : ¬ L.length ≤ most)]
    clear hL d1 d2
    go_enter Try.func45, Try.ntmps45
    go_wp2_with fail
    rw [← HW.out]
    go_ret
    exact ⟨rfl, Hbel.out⟩
  have e2 : decide (most < L.length) = false := by rw [decide_eq_false_iff_not]; omega
  rw [decide_eq_true (by omega : L.length ≤ most)]
  clear d1 d2
  obtain ⟨b, hb⟩ : ∃ b, b = riseB V L := ⟨_, rfl⟩
  simp only [Bool.true_and]
  rw [← hb]
  have hyes : (∀ i, i < L.length → riseAt V L i = true) → b = true := fun h => by rw [hb]; exact riseB_iff.2 h
  have hno : ∀ i, i < L.length → riseAt V L i = false → b = false := fun i hi h => by rw [hb]; exact riseB_not hi h
  have Hno := Lib.hid hno
  have Hyes := Lib.hid hyes
  clear hb hno hyes
  go_enter Try.func45, Try.ntmps45
  go_wp2_with fail
  rw [← HW.out]
  clear e1 e2
  go_loopw [23] (fun i wr => ∃ k : Nat, k ≤ L.length ∧ i = .int .i64 (k : Int) ∧ (∀ j, j < k → riseAt V L j = true) ∧ Below W.heap.size W wr) (fun i _ => L.length - (intOf i).toNat)
  case atStart => exact ⟨0, by omega, rfl, fun j hj => by omega, Below.refl _ _⟩
  case round =>
    obtain ⟨k, hk, rfl, hall, hbw⟩ := hrel
    have Hall := Lib.hid hall
    clear hall
    by_cases hlt : k < L.length
    · obtain ⟨g, off, rfl, _, hg, hel⟩ := hL (by intro e; subst e; simp at hlt)
      have r1 := range_ext (range_ext (hel k hlt).1 Hbel.out) hbw
      have c0 : wr.cell? ⟨g, off + k * 2, none⟩ = some (.int .i64 L[k].1) := r1 0 _ rfl
      have c1 : wr.cell? ⟨g, off + k * 2 + 1, none⟩ = some (.int .u32 (L[k].2 : Int)) := r1 1 _ rfl
      obtain ⟨Y, hY⟩ : ∃ Y, Y = wr.alloc (.cells #[.int .i64 L[k].1, .int .u32 (L[k].2 : Int)] 24) := ⟨_, rfl⟩
      have hbY : Below wr.heap.size wr Y := by rw [hY]; exact (Below.refl _ _).alloc (Nat.le_refl _) _
      have hbWY : Below W.heap.size W Y := hbw.trans (hbY.mono hbw.size)
      have hE : Blk Y wr.heap.size 24 (idC L[k].1 L[k].2) := by rw [hY]; exact Blk.new _ _ _
      have hEr : Y.rangeAt wr.heap.size 0 (idC L[k].1 L[k].2).toList := hE.range _ _ fun j v hv => by rw [Nat.zero_add, ← Array.getElem?_toList]; exact hv
      have R0 := Lib.hid (range_exts (range_ext (vec_range H1.out) hbWY))
      have R1 := Lib.hid (range_exts hEr)
      have k1 := fun y : Ext Y => has_any V L[k].1 L[k].2 y.now
      unfold vv at k1
      simp only [idv_idC] at k1
      obtain ⟨h, hh⟩ : ∃ h, h = hasV V L[k].1 L[k].2 := ⟨_, rfl⟩
      simp only [← hh] at k1
      have K1 := Lib.hid k1
      have hnx : riseAt V L k = true → ∀ j, j < k + 1 → riseAt V L j = true := fun h j hj => by
        by_cases e : j = k
        · subst e; exact h
        · exact Hall.out j (by omega)
      have Hnx := Lib.hid hnx
      have HY := Lib.hid hY
      clear k1 hnx hY hE hEr r1 hbY
      go_upto_region 6 with fail
      rw [← HY.out]
      clear c0 c1
      cases k with
      | zero =>
        have hat := riseAt_zero (V := V) hlt
        rw [← hh] at hat
        have Hat := Lib.hid hat
        clear hat hh hel hL
        cases h
        all_goals refine wp_region_grow (by kernel_rfl) (by kernel_rfl) ?_
        all_goals repeat (first | (go_big_quiet_want; refine quiet_mid 26 (.tmp 7) rfl w.heap.size 0 rfl _ _ R0.out Try.underlying26 rfl vec_info ?_; go_simp; go_big_quiet_on) | (go_big_quiet_want; refine quiet_mid 24 (.tmp 10) rfl wr.heap.size 0 rfl _ _ R1.out Try.underlying24 rfl id_info ?_; go_simp; go_big_quiet_on) | go_big_quiet_step ((go_at_call 43; with_reducible exact calls_grow (K1.out _))) | quiet_step ((go_at_call 43; with_reducible exact calls_grow (K1.out _))))
        all_goals refine wpQuiet_nil ?_
        all_goals rintro w6 ⟨⟨_, hb6⟩, rfl⟩
        all_goals go_wp2_with fail
        · go_ret
          exact ⟨by rw [Hno.out 0 hlt Hat.out]; rfl, Hbel.out.trans ((hbWY.trans (hb6.mono hbWY.size)).mono Hbel.out.size)⟩
        · go_roundw
          case rel => exact ⟨1, by omega, by go_num, Hnx.out Hat.out, hbWY.trans (hb6.mono hbWY.size)⟩
          case measure => simp [intOf]; omega
      | succ j =>
        have R2 := Lib.hid (range_exts (range_ext (range_ext (hel j (by omega)).1 Hbel.out) hbWY))
        have k2 := fun y : Ext Y => less_any L[j].1 L[j].2 L[j + 1].1 L[j + 1].2 y.now
        simp only [idv_idC] at k2
        obtain ⟨l, hl⟩ : ∃ l, l = lessV L[j].1 L[j].2 L[j + 1].1 L[j + 1].2 := ⟨_, rfl⟩
        simp only [← hl] at k2
        have hat := riseAt_succ (V := V) hlt
        rw [← hh, ← hl] at hat
        have Hat := Lib.hid hat
        have K2 := Lib.hid k2
        have hd : decide ((0 : Int) < (j : Int) + 1) = true := by rw [decide_eq_true_iff]; omega
        clear hat hh hl hel hL k2
        cases h <;> cases l
        all_goals refine wp_region_grow (by kernel_rfl) (by kernel_rfl) ?_
        all_goals repeat (first | (go_big_quiet_want; refine quiet_mid 26 (.tmp 7) rfl w.heap.size 0 rfl _ _ R0.out Try.underlying26 rfl vec_info ?_; go_simp; go_big_quiet_on) | (go_big_quiet_want; refine quiet_mid 24 (.tmp 10) rfl wr.heap.size 0 rfl _ _ R1.out Try.underlying24 rfl id_info ?_; go_simp; go_big_quiet_on) | (go_big_quiet_want; refine quiet_mid 24 (.tmp 39) rfl g (off + j * 2) rfl _ _ R2.out Try.underlying24 rfl id_info ?_; go_simp; go_big_quiet_on) | go_big_quiet_step ((first | (go_at_call 43; with_reducible exact calls_grow (K1.out _)) | (go_at_call 59; with_reducible exact calls_grow (K2.out _)))) | quiet_step ((first | (go_at_call 43; with_reducible exact calls_grow (K1.out _)) | (go_at_call 59; with_reducible exact calls_grow (K2.out _)))))
        all_goals refine wpQuiet_nil ?_
        all_goals rintro w6 ⟨⟨_, hb6⟩, rfl⟩
        all_goals go_wp2_with fail
        · go_ret
          exact ⟨by rw [Hno.out (j + 1) hlt Hat.out]; rfl, Hbel.out.trans ((hbWY.trans (hb6.mono hbWY.size)).mono Hbel.out.size)⟩
        · go_ret
          exact ⟨by rw [Hno.out (j + 1) hlt Hat.out]; rfl, Hbel.out.trans ((hbWY.trans (hb6.mono hbWY.size)).mono Hbel.out.size)⟩
        · go_ret
          exact ⟨by rw [Hno.out (j + 1) hlt Hat.out]; rfl, Hbel.out.trans ((hbWY.trans (hb6.mono hbWY.size)).mono Hbel.out.size)⟩
        · go_roundw
          case rel => exact ⟨j + 1 + 1, by omega, by go_num, Hnx.out Hat.out, hbWY.trans (hb6.mono hbWY.size)⟩
          case measure => simp [intOf]; omega
    · obtain rfl : k = L.length := by omega
      go_wp2_with fail
      go_ret
      exact ⟨by rw [Hyes.out Hall.out]; rfl, Hbel.out.trans (hbw.mono Hbel.out.size)⟩
end Go.Proofs.Ytkojoahamoffcaa

namespace Go.Proofs.Ytkojoahamoffcaa
open Go.RowKit
set_option maxRecDepth 100000

theorem isEmpty_beq (l : List UInt8) : (l == []) = l.isEmpty := by cases l <;> rfl

set_option maxHeartbeats 4000000 in
theorem fields1 (ok : Nat → Prop) (e : Ev) (vg vb : Value) (w : World) (hin : EvIn w ok e vg vb) (hk : e.kind = 1) :
    Calls Try.prog 19 #[.agg (evC e vg vb)] w fun x w' => x = .returned (.bool (fieldsB e)) ∧ Below w.heap.size w w' := by
  unfold fieldsB
  rw [if_pos (by omega)]
  obtain ⟨h1, hbel⟩ := ev_box (evC e vg vb) 29 w
  obtain ⟨W, hW⟩ : ∃ W, W = (w.alloc (.cells (evC e vg vb) 29)) := ⟨_, rfl⟩
  rw [← hW] at h1 hbel
  have I1 := Lib.hid (range_exts (ev_dep h1))
  have I3 := Lib.hid (range_exts (ev_obj h1))
  have k1 := fun y : Ext W => has_any e.dep e.orep e.oseq y.now
  unfold vv at k1
  simp only [idv_idC] at k1
  have K1 := Lib.hid k1
  have HW := Lib.hid hW
  have H1 := Lib.hid h1
  have Hbel := Lib.hid hbel
  have Hin := Lib.hid hin
  clear k1 h1 hW hbel hin
  have Hk := Lib.hid hk
  clear hk
  obtain ⟨h, hh⟩ : ∃ h, h = hasV e.dep e.orep e.oseq := ⟨_, rfl⟩
  simp only [← hh] at K1
  obtain ⟨f, hf⟩ : ∃ f, f = placeB e := ⟨_, rfl⟩
  simp only [← hf]
  clear hh
  have HF := Lib.hid hf
  clear hf
  go_enter Try.func19, Try.ntmps19
  go_upto_region 1 with fail
  rw [← HW.out]
  refine wp_plain_grow ?_
  repeat (first | (go_big_quiet_want; refine quiet_mid 26 (.tmp 4) rfl w.heap.size 2 rfl _ _ I1.out Try.underlying26 rfl vec_info ?_; go_simp; go_big_quiet_on) | (go_big_quiet_want; refine quiet_mid 24 (.tmp 6) rfl w.heap.size 11 rfl _ _ I3.out Try.underlying24 rfl id_info ?_; go_simp; go_big_quiet_on) | go_big_quiet_step ((go_at_call 43; with_reducible exact calls_grow (K1.out _))) | quiet_step ((go_at_call 43; with_reducible exact calls_grow (K1.out _))))
  refine wpQuiet_nil ?_
  rintro w6 ⟨⟨_, hb6⟩, rfl⟩
  have G6 := H1.out.grow hb6
  have hb06 := below_call Hbel.out hb6
  have e0 := G6.ev.kind
  rw [Hk.out] at e0
  go_upto_region 5 with fail
  have RA := Lib.hid (range_exts (ev_all G6))
  have kp := fun y : Ext w6 => place_any e vg vb y.now
  simp only [← HF.out] at kp
  have KP := Lib.hid kp
  clear kp
  refine wp_plain_grow ?_
  repeat (first | (go_big_quiet_want; refine quiet_mid 29 (.tmp 1) rfl w.heap.size 0 rfl (evC e vg vb) _ RA.out Try.underlying29 rfl ev_info ?_; go_simp; go_big_quiet_on) | go_big_quiet_step ((go_at_call 44; with_reducible exact calls_grow (KP.out _))) | quiet_step ((go_at_call 44; with_reducible exact calls_grow (KP.out _))))
  refine wpQuiet_nil ?_
  rintro w7 ⟨⟨_, hb7⟩, rfl⟩
  go_wp2_with fail
  go_ret
  exact ⟨rfl, below_call hb06 hb7⟩
set_option maxHeartbeats 4000000 in
theorem fields2 (ok : Nat → Prop) (e : Ev) (vg vb : Value) (w : World) (hin : EvIn w ok e vg vb) (hk : e.kind = 2) :
    Calls Try.prog 19 #[.agg (evC e vg vb)] w fun x w' => x = .returned (.bool (fieldsB e)) ∧ Below w.heap.size w w' := by
  unfold fieldsB
  rw [if_pos (by omega)]
  obtain ⟨h1, hbel⟩ := ev_box (evC e vg vb) 29 w
  obtain ⟨W, hW⟩ : ∃ W, W = (w.alloc (.cells (evC e vg vb) 29)) := ⟨_, rfl⟩
  rw [← hW] at h1 hbel
  have I1 := Lib.hid (range_exts (ev_dep h1))
  have I3 := Lib.hid (range_exts (ev_obj h1))
  have k1 := fun y : Ext W => has_any e.dep e.orep e.oseq y.now
  unfold vv at k1
  simp only [idv_idC] at k1
  have K1 := Lib.hid k1
  have HW := Lib.hid hW
  have H1 := Lib.hid h1
  have Hbel := Lib.hid hbel
  have Hin := Lib.hid hin
  clear k1 h1 hW hbel hin
  have Hk := Lib.hid hk
  clear hk
  obtain ⟨h, hh⟩ : ∃ h, h = hasV e.dep e.orep e.oseq := ⟨_, rfl⟩
  simp only [← hh] at K1
  obtain ⟨f, hf⟩ : ∃ f, f = placeB e := ⟨_, rfl⟩
  simp only [← hf]
  clear hh
  have HF := Lib.hid hf
  clear hf
  go_enter Try.func19, Try.ntmps19
  go_upto_region 1 with fail
  rw [← HW.out]
  refine wp_plain_grow ?_
  repeat (first | (go_big_quiet_want; refine quiet_mid 26 (.tmp 4) rfl w.heap.size 2 rfl _ _ I1.out Try.underlying26 rfl vec_info ?_; go_simp; go_big_quiet_on) | (go_big_quiet_want; refine quiet_mid 24 (.tmp 6) rfl w.heap.size 11 rfl _ _ I3.out Try.underlying24 rfl id_info ?_; go_simp; go_big_quiet_on) | go_big_quiet_step ((go_at_call 43; with_reducible exact calls_grow (K1.out _))) | quiet_step ((go_at_call 43; with_reducible exact calls_grow (K1.out _))))
  refine wpQuiet_nil ?_
  rintro w6 ⟨⟨_, hb6⟩, rfl⟩
  have G6 := H1.out.grow hb6
  have hb06 := below_call Hbel.out hb6
  have e0 := G6.ev.kind
  rw [Hk.out] at e0
  go_upto_region 5 with fail
  have RA := Lib.hid (range_exts (ev_all G6))
  have kp := fun y : Ext w6 => place_any e vg vb y.now
  simp only [← HF.out] at kp
  have KP := Lib.hid kp
  clear kp
  refine wp_plain_grow ?_
  repeat (first | (go_big_quiet_want; refine quiet_mid 29 (.tmp 1) rfl w.heap.size 0 rfl (evC e vg vb) _ RA.out Try.underlying29 rfl ev_info ?_; go_simp; go_big_quiet_on) | go_big_quiet_step ((go_at_call 44; with_reducible exact calls_grow (KP.out _))) | quiet_step ((go_at_call 44; with_reducible exact calls_grow (KP.out _))))
  refine wpQuiet_nil ?_
  rintro w7 ⟨⟨_, hb7⟩, rfl⟩
  go_wp2_with fail
  go_ret
  exact ⟨rfl, below_call hb06 hb7⟩
set_option maxHeartbeats 4000000 in
theorem fields3 (ok : Nat → Prop) (e : Ev) (vg vb : Value) (w : World) (hin : EvIn w ok e vg vb) (hk : e.kind = 3) :
    Calls Try.prog 19 #[.agg (evC e vg vb)] w fun x w' => x = .returned (.bool (fieldsB e)) ∧ Below w.heap.size w w' := by
  unfold fieldsB
  rw [if_neg (by omega), if_pos hk]
  obtain ⟨h1, hbel⟩ := ev_box (evC e vg vb) 29 w
  obtain ⟨W, hW⟩ : ∃ W, W = (w.alloc (.cells (evC e vg vb) 29)) := ⟨_, rfl⟩
  rw [← hW] at h1 hbel
  have I1 := Lib.hid (range_exts (ev_dep h1))
  have I3 := Lib.hid (range_exts (ev_obj h1))
  have k1 := fun y : Ext W => has_any e.dep e.orep e.oseq y.now
  unfold vv at k1
  simp only [idv_idC] at k1
  have K1 := Lib.hid k1
  have HW := Lib.hid hW
  have H1 := Lib.hid h1
  have Hbel := Lib.hid hbel
  have Hin := Lib.hid hin
  clear k1 h1 hW hbel hin
  have Hk := Lib.hid hk
  clear hk
  obtain ⟨h, hh⟩ : ∃ h, h = hasV e.dep e.orep e.oseq := ⟨_, rfl⟩
  simp only [← hh] at K1 ⊢
  obtain ⟨l, hl⟩ : ∃ l, l = listB e.base 0 1 e.dep := ⟨_, rfl⟩
  simp only [← hl]
  obtain ⟨d, hd⟩ : ∃ d, e.data.isEmpty = d := ⟨_, rfl⟩
  simp only [hd]
  obtain ⟨f, hf⟩ : ∃ f, f = inFileB e.off e.data.length := ⟨_, rfl⟩
  simp only [← hf]
  clear hh
  have HL := Lib.hid hl
  clear hl
  have HF := Lib.hid hf
  clear hf
  cases h <;> cases l <;> cases d
  all_goals go_enter Try.func19, Try.ntmps19
  all_goals go_upto_region 1 with fail
  all_goals rw [← HW.out]
  all_goals refine wp_plain_grow ?_
  all_goals repeat (first | (go_big_quiet_want; refine quiet_mid 26 (.tmp 4) rfl w.heap.size 2 rfl _ _ I1.out Try.underlying26 rfl vec_info ?_; go_simp; go_big_quiet_on) | (go_big_quiet_want; refine quiet_mid 24 (.tmp 6) rfl w.heap.size 11 rfl _ _ I3.out Try.underlying24 rfl id_info ?_; go_simp; go_big_quiet_on) | go_big_quiet_step ((go_at_call 43; with_reducible exact calls_grow (K1.out _))) | quiet_step ((go_at_call 43; with_reducible exact calls_grow (K1.out _))))
  all_goals refine wpQuiet_nil ?_
  all_goals rintro w6 ⟨⟨_, hb6⟩, rfl⟩
  all_goals have G6 := H1.out.grow hb6
  all_goals have hb06 := below_call Hbel.out hb6
  all_goals have e0 := G6.ev.kind
  all_goals rw [Hk.out] at e0
  all_goals go_upto_region 7 with fail
  all_goals have RD := Lib.hid (range_exts (ev_dep G6))
  all_goals have cl := fun y : Ext w6 => (EvCells.ext G6 y).base
  all_goals have kl : ∀ y : Ext w6, Calls Try.prog 45 #[vb, .int .i64 0, .int .i64 1, .agg (av e.dep)] y.now fun x w' => x = .returned (.bool (listB e.base 0 1 e.dep)) ∧ Below y.now.heap.size y.now w' := fun y => islist_any ok vb e.base 0 1 e.dep y.now ((Hin.out.grow (hb06.trans (y.out.mono hb06.size))).base)
  all_goals simp only [← HL.out] at kl
  all_goals have KL := Lib.hid kl
  all_goals have cd := fun y : Ext w6 => (EvCells.ext G6 y).data
  all_goals have co := fun y : Ext w6 => (EvCells.ext G6 y).off
  all_goals have kf : ∀ y : Ext w6, Calls Try.prog 46 #[.int .i64 e.off, .int .i64 (e.data.length : Int)] y.now fun x w' => x = .returned (.bool (inFileB e.off e.data.length)) ∧ Below y.now.heap.size y.now w' := fun y => infile_any _ _ y.now
  all_goals simp only [← HF.out] at kf
  all_goals have KF := Lib.hid kf
  all_goals clear kl
  all_goals clear kf
  all_goals refine wp_plain_grow ?_
  all_goals repeat (first | (go_big_quiet_want; refine quiet_mid 26 (.tmp 22) rfl w.heap.size 2 rfl _ _ RD.out Try.underlying26 rfl vec_info ?_; go_simp; go_big_quiet_on) | go_big_quiet_step ((first | (go_at_call 45; with_reducible exact calls_grow (KL.out _)) | (go_at_call 46; with_reducible exact calls_grow (KF.out _)))) | quiet_step ((first | (go_at_call 45; with_reducible exact calls_grow (KL.out _)) | (go_at_call 46; with_reducible exact calls_grow (KF.out _)))))
  all_goals refine wpQuiet_nil ?_
  all_goals rintro w7 ⟨⟨_, hb7⟩, rfl⟩
  all_goals go_wp2_with fail
  all_goals go_ret
  all_goals exact ⟨rfl, below_call hb06 hb7⟩
set_option maxHeartbeats 4000000 in
theorem fields4 (ok : Nat → Prop) (e : Ev) (vg vb : Value) (w : World) (hin : EvIn w ok e vg vb) (hk : e.kind = 4) :
    Calls Try.prog 19 #[.agg (evC e vg vb)] w fun x w' => x = .returned (.bool (fieldsB e)) ∧ Below w.heap.size w w' := by
  unfold fieldsB
  rw [if_neg (by omega), if_neg (by omega), if_pos hk]
  obtain ⟨h1, hbel⟩ := ev_box (evC e vg vb) 29 w
  obtain ⟨W, hW⟩ : ∃ W, W = (w.alloc (.cells (evC e vg vb) 29)) := ⟨_, rfl⟩
  rw [← hW] at h1 hbel
  have I1 := Lib.hid (range_exts (ev_dep h1))
  have I3 := Lib.hid (range_exts (ev_obj h1))
  have k1 := fun y : Ext W => has_any e.dep e.orep e.oseq y.now
  unfold vv at k1
  simp only [idv_idC] at k1
  have K1 := Lib.hid k1
  have HW := Lib.hid hW
  have H1 := Lib.hid h1
  have Hbel := Lib.hid hbel
  have Hin := Lib.hid hin
  clear k1 h1 hW hbel hin
  have Hk := Lib.hid hk
  clear hk
  obtain ⟨h, hh⟩ : ∃ h, h = hasV e.dep e.orep e.oseq := ⟨_, rfl⟩
  simp only [← hh] at K1 ⊢
  obtain ⟨l, hl⟩ : ∃ l, l = listB e.base 0 1 e.dep := ⟨_, rfl⟩
  simp only [← hl]
  obtain ⟨f, hf⟩ : ∃ f, f = inFileB e.off 0 := ⟨_, rfl⟩
  simp only [← hf]
  clear hh
  have HL := Lib.hid hl
  clear hl
  have HF := Lib.hid hf
  clear hf
  cases h <;> cases l
  all_goals go_enter Try.func19, Try.ntmps19
  all_goals go_upto_region 1 with fail
  all_goals rw [← HW.out]
  all_goals refine wp_plain_grow ?_
  all_goals repeat (first | (go_big_quiet_want; refine quiet_mid 26 (.tmp 4) rfl w.heap.size 2 rfl _ _ I1.out Try.underlying26 rfl vec_info ?_; go_simp; go_big_quiet_on) | (go_big_quiet_want; refine quiet_mid 24 (.tmp 6) rfl w.heap.size 11 rfl _ _ I3.out Try.underlying24 rfl id_info ?_; go_simp; go_big_quiet_on) | go_big_quiet_step ((go_at_call 43; with_reducible exact calls_grow (K1.out _))) | quiet_step ((go_at_call 43; with_reducible exact calls_grow (K1.out _))))
  all_goals refine wpQuiet_nil ?_
  all_goals rintro w6 ⟨⟨_, hb6⟩, rfl⟩
  all_goals have G6 := H1.out.grow hb6
  all_goals have hb06 := below_call Hbel.out hb6
  all_goals have e0 := G6.ev.kind
  all_goals rw [Hk.out] at e0
  all_goals go_upto_region 9 with fail
  all_goals have RD := Lib.hid (range_exts (ev_dep G6))
  all_goals have cl := fun y : Ext w6 => (EvCells.ext G6 y).base
  all_goals have kl : ∀ y : Ext w6, Calls Try.prog 45 #[vb, .int .i64 0, .int .i64 1, .agg (av e.dep)] y.now fun x w' => x = .returned (.bool (listB e.base 0 1 e.dep)) ∧ Below y.now.heap.size y.now w' := fun y => islist_any ok vb e.base 0 1 e.dep y.now ((Hin.out.grow (hb06.trans (y.out.mono hb06.size))).base)
  all_goals simp only [← HL.out] at kl
  all_goals have KL := Lib.hid kl
  all_goals have co := fun y : Ext w6 => (EvCells.ext G6 y).off
  all_goals have kf : ∀ y : Ext w6, Calls Try.prog 46 #[.int .i64 e.off, .int .i64 0] y.now fun x w' => x = .returned (.bool (inFileB e.off 0)) ∧ Below y.now.heap.size y.now w' := fun y => infile_any _ _ y.now
  all_goals simp only [← HF.out] at kf
  all_goals have KF := Lib.hid kf
  all_goals clear kl
  all_goals clear kf
  all_goals refine wp_plain_grow ?_
  all_goals repeat (first | (go_big_quiet_want; refine quiet_mid 26 (.tmp 45) rfl w.heap.size 2 rfl _ _ RD.out Try.underlying26 rfl vec_info ?_; go_simp; go_big_quiet_on) | go_big_quiet_step ((first | (go_at_call 45; with_reducible exact calls_grow (KL.out _)) | (go_at_call 46; with_reducible exact calls_grow (KF.out _)))) | quiet_step ((first | (go_at_call 45; with_reducible exact calls_grow (KL.out _)) | (go_at_call 46; with_reducible exact calls_grow (KF.out _)))))
  all_goals refine wpQuiet_nil ?_
  all_goals rintro w7 ⟨⟨_, hb7⟩, rfl⟩
  all_goals go_wp2_with fail
  all_goals go_ret
  all_goals exact ⟨rfl, below_call hb06 hb7⟩
set_option maxHeartbeats 4000000 in
theorem fields5 (ok : Nat → Prop) (e : Ev) (vg vb : Value) (w : World) (hin : EvIn w ok e vg vb) (hk : e.kind = 5) :
    Calls Try.prog 19 #[.agg (evC e vg vb)] w fun x w' => x = .returned (.bool (fieldsB e)) ∧ Below w.heap.size w w' := by
  unfold fieldsB
  rw [if_neg (by omega), if_neg (by omega), if_neg (by omega), if_pos hk]
  obtain ⟨h1, hbel⟩ := ev_box (evC e vg vb) 29 w
  obtain ⟨W, hW⟩ : ∃ W, W = (w.alloc (.cells (evC e vg vb) 29)) := ⟨_, rfl⟩
  rw [← hW] at h1 hbel
  have I1 := Lib.hid (range_exts (ev_dep h1))
  have I3 := Lib.hid (range_exts (ev_obj h1))
  have k1 := fun y : Ext W => has_any e.dep e.orep e.oseq y.now
  unfold vv at k1
  simp only [idv_idC] at k1
  have K1 := Lib.hid k1
  have HW := Lib.hid hW
  have H1 := Lib.hid h1
  have Hbel := Lib.hid hbel
  have Hin := Lib.hid hin
  clear k1 h1 hW hbel hin
  have Hk := Lib.hid hk
  clear hk
  obtain ⟨h, hh⟩ : ∃ h, h = hasV e.dep e.orep e.oseq := ⟨_, rfl⟩
  simp only [← hh] at K1 ⊢
  obtain ⟨l, hl⟩ : ∃ l, l = listB e.base 2 8 e.dep := ⟨_, rfl⟩
  simp only [← hl]
  obtain ⟨f, hf⟩ : ∃ f, f = inFileB 0 e.data.length := ⟨_, rfl⟩
  simp only [← hf]
  clear hh
  have HL := Lib.hid hl
  clear hl
  have HF := Lib.hid hf
  clear hf
  cases h <;> cases l
  all_goals go_enter Try.func19, Try.ntmps19
  all_goals go_upto_region 1 with fail
  all_goals rw [← HW.out]
  all_goals refine wp_plain_grow ?_
  all_goals repeat (first | (go_big_quiet_want; refine quiet_mid 26 (.tmp 4) rfl w.heap.size 2 rfl _ _ I1.out Try.underlying26 rfl vec_info ?_; go_simp; go_big_quiet_on) | (go_big_quiet_want; refine quiet_mid 24 (.tmp 6) rfl w.heap.size 11 rfl _ _ I3.out Try.underlying24 rfl id_info ?_; go_simp; go_big_quiet_on) | go_big_quiet_step ((go_at_call 43; with_reducible exact calls_grow (K1.out _))) | quiet_step ((go_at_call 43; with_reducible exact calls_grow (K1.out _))))
  all_goals refine wpQuiet_nil ?_
  all_goals rintro w6 ⟨⟨_, hb6⟩, rfl⟩
  all_goals have G6 := H1.out.grow hb6
  all_goals have hb06 := below_call Hbel.out hb6
  all_goals have e0 := G6.ev.kind
  all_goals rw [Hk.out] at e0
  all_goals go_upto_region 11 with fail
  all_goals have RD := Lib.hid (range_exts (ev_dep G6))
  all_goals have cl := fun y : Ext w6 => (EvCells.ext G6 y).base
  all_goals have kl : ∀ y : Ext w6, Calls Try.prog 45 #[vb, .int .i64 2, .int .i64 8, .agg (av e.dep)] y.now fun x w' => x = .returned (.bool (listB e.base 2 8 e.dep)) ∧ Below y.now.heap.size y.now w' := fun y => islist_any ok vb e.base 2 8 e.dep y.now ((Hin.out.grow (hb06.trans (y.out.mono hb06.size))).base)
  all_goals simp only [← HL.out] at kl
  all_goals have KL := Lib.hid kl
  all_goals have cd := fun y : Ext w6 => (EvCells.ext G6 y).data
  all_goals have kf : ∀ y : Ext w6, Calls Try.prog 46 #[.int .i64 0, .int .i64 (e.data.length : Int)] y.now fun x w' => x = .returned (.bool (inFileB 0 e.data.length)) ∧ Below y.now.heap.size y.now w' := fun y => infile_any _ _ y.now
  all_goals simp only [← HF.out] at kf
  all_goals have KF := Lib.hid kf
  all_goals clear kl
  all_goals clear kf
  all_goals refine wp_plain_grow ?_
  all_goals repeat (first | (go_big_quiet_want; refine quiet_mid 26 (.tmp 60) rfl w.heap.size 2 rfl _ _ RD.out Try.underlying26 rfl vec_info ?_; go_simp; go_big_quiet_on) | go_big_quiet_step ((first | (go_at_call 45; with_reducible exact calls_grow (KL.out _)) | (go_at_call 46; with_reducible exact calls_grow (KF.out _)))) | quiet_step ((first | (go_at_call 45; with_reducible exact calls_grow (KL.out _)) | (go_at_call 46; with_reducible exact calls_grow (KF.out _)))))
  all_goals refine wpQuiet_nil ?_
  all_goals rintro w7 ⟨⟨_, hb7⟩, rfl⟩
  all_goals go_wp2_with fail
  all_goals go_ret
  all_goals exact ⟨rfl, below_call hb06 hb7⟩
set_option maxHeartbeats 4000000 in
theorem fields6 (ok : Nat → Prop) (e : Ev) (vg vb : Value) (w : World) (hin : EvIn w ok e vg vb) (hk : e.kind = 6) :
    Calls Try.prog 19 #[.agg (evC e vg vb)] w fun x w' => x = .returned (.bool (fieldsB e)) ∧ Below w.heap.size w w' := by
  unfold fieldsB
  rw [if_neg (by omega), if_neg (by omega), if_neg (by omega), if_neg (by omega), if_pos hk]
  obtain ⟨h1, hbel⟩ := ev_box (evC e vg vb) 29 w
  obtain ⟨W, hW⟩ : ∃ W, W = (w.alloc (.cells (evC e vg vb) 29)) := ⟨_, rfl⟩
  rw [← hW] at h1 hbel
  have I1 := Lib.hid (range_exts (ev_dep h1))
  have I3 := Lib.hid (range_exts (ev_obj h1))
  have k1 := fun y : Ext W => has_any e.dep e.orep e.oseq y.now
  unfold vv at k1
  simp only [idv_idC] at k1
  have K1 := Lib.hid k1
  have HW := Lib.hid hW
  have H1 := Lib.hid h1
  have Hbel := Lib.hid hbel
  have Hin := Lib.hid hin
  clear k1 h1 hW hbel hin
  have Hk := Lib.hid hk
  clear hk
  obtain ⟨h, hh⟩ : ∃ h, h = hasV e.dep e.orep e.oseq := ⟨_, rfl⟩
  simp only [← hh] at K1 ⊢
  obtain ⟨l, hl⟩ : ∃ l, l = listB e.gone 0 8 e.dep := ⟨_, rfl⟩
  simp only [← hl]
  clear hh
  have HL := Lib.hid hl
  clear hl
  cases h <;> cases l
  all_goals go_enter Try.func19, Try.ntmps19
  all_goals go_upto_region 1 with fail
  all_goals rw [← HW.out]
  all_goals refine wp_plain_grow ?_
  all_goals repeat (first | (go_big_quiet_want; refine quiet_mid 26 (.tmp 4) rfl w.heap.size 2 rfl _ _ I1.out Try.underlying26 rfl vec_info ?_; go_simp; go_big_quiet_on) | (go_big_quiet_want; refine quiet_mid 24 (.tmp 6) rfl w.heap.size 11 rfl _ _ I3.out Try.underlying24 rfl id_info ?_; go_simp; go_big_quiet_on) | go_big_quiet_step ((go_at_call 43; with_reducible exact calls_grow (K1.out _))) | quiet_step ((go_at_call 43; with_reducible exact calls_grow (K1.out _))))
  all_goals refine wpQuiet_nil ?_
  all_goals rintro w6 ⟨⟨_, hb6⟩, rfl⟩
  all_goals have G6 := H1.out.grow hb6
  all_goals have hb06 := below_call Hbel.out hb6
  all_goals have e0 := G6.ev.kind
  all_goals rw [Hk.out] at e0
  all_goals go_upto_region 13 with fail
  all_goals have RD := Lib.hid (range_exts (ev_dep G6))
  all_goals have cl := fun y : Ext w6 => (EvCells.ext G6 y).gone
  all_goals have kl : ∀ y : Ext w6, Calls Try.prog 45 #[vg, .int .i64 0, .int .i64 8, .agg (av e.dep)] y.now fun x w' => x = .returned (.bool (listB e.gone 0 8 e.dep)) ∧ Below y.now.heap.size y.now w' := fun y => islist_any ok vg e.gone 0 8 e.dep y.now ((Hin.out.grow (hb06.trans (y.out.mono hb06.size))).gone)
  all_goals simp only [← HL.out] at kl
  all_goals have KL := Lib.hid kl
  all_goals clear kl
  all_goals refine wp_plain_grow ?_
  all_goals repeat (first | (go_big_quiet_want; refine quiet_mid 26 (.tmp 76) rfl w.heap.size 2 rfl _ _ RD.out Try.underlying26 rfl vec_info ?_; go_simp; go_big_quiet_on) | go_big_quiet_step ((go_at_call 45; with_reducible exact calls_grow (KL.out _))) | quiet_step ((go_at_call 45; with_reducible exact calls_grow (KL.out _))))
  all_goals refine wpQuiet_nil ?_
  all_goals rintro w7 ⟨⟨_, hb7⟩, rfl⟩
  all_goals go_wp2_with fail
  all_goals go_ret
  all_goals exact ⟨rfl, below_call hb06 hb7⟩
set_option maxHeartbeats 4000000 in
theorem fields7 (ok : Nat → Prop) (e : Ev) (vg vb : Value) (w : World) (hin : EvIn w ok e vg vb) (hk : e.kind = 7) :
    Calls Try.prog 19 #[.agg (evC e vg vb)] w fun x w' => x = .returned (.bool (fieldsB e)) ∧ Below w.heap.size w w' := by
  unfold fieldsB
  rw [if_neg (by omega), if_neg (by omega), if_neg (by omega), if_neg (by omega), if_neg (by omega), if_pos hk]
  obtain ⟨h1, hbel⟩ := ev_box (evC e vg vb) 29 w
  obtain ⟨W, hW⟩ : ∃ W, W = (w.alloc (.cells (evC e vg vb) 29)) := ⟨_, rfl⟩
  rw [← hW] at h1 hbel
  have I1 := Lib.hid (range_exts (ev_dep h1))
  have I3 := Lib.hid (range_exts (ev_obj h1))
  have k1 := fun y : Ext W => has_any e.dep e.orep e.oseq y.now
  unfold vv at k1
  simp only [idv_idC] at k1
  have K1 := Lib.hid k1
  have HW := Lib.hid hW
  have H1 := Lib.hid h1
  have Hbel := Lib.hid hbel
  have Hin := Lib.hid hin
  clear k1 h1 hW hbel hin
  have Hk := Lib.hid hk
  clear hk
  obtain ⟨h, hh⟩ : ∃ h, h = hasV e.dep e.orep e.oseq := ⟨_, rfl⟩
  simp only [← hh] at K1 ⊢
  obtain ⟨l, hl⟩ : ∃ l, l = listB e.gone 0 8 e.dep := ⟨_, rfl⟩
  simp only [← hl]
  obtain ⟨f, hf⟩ : ∃ f, f = placeB e := ⟨_, rfl⟩
  simp only [← hf]
  clear hh
  have HL := Lib.hid hl
  clear hl
  have HF := Lib.hid hf
  clear hf
  cases h <;> cases l
  all_goals go_enter Try.func19, Try.ntmps19
  all_goals go_upto_region 1 with fail
  all_goals rw [← HW.out]
  all_goals refine wp_plain_grow ?_
  all_goals repeat (first | (go_big_quiet_want; refine quiet_mid 26 (.tmp 4) rfl w.heap.size 2 rfl _ _ I1.out Try.underlying26 rfl vec_info ?_; go_simp; go_big_quiet_on) | (go_big_quiet_want; refine quiet_mid 24 (.tmp 6) rfl w.heap.size 11 rfl _ _ I3.out Try.underlying24 rfl id_info ?_; go_simp; go_big_quiet_on) | go_big_quiet_step ((go_at_call 43; with_reducible exact calls_grow (K1.out _))) | quiet_step ((go_at_call 43; with_reducible exact calls_grow (K1.out _))))
  all_goals refine wpQuiet_nil ?_
  all_goals rintro w6 ⟨⟨_, hb6⟩, rfl⟩
  all_goals have G6 := H1.out.grow hb6
  all_goals have hb06 := below_call Hbel.out hb6
  all_goals have e0 := G6.ev.kind
  all_goals rw [Hk.out] at e0
  all_goals go_upto_region 15 with fail
  all_goals have RA := Lib.hid (range_exts (ev_all G6))
  all_goals have kp := fun y : Ext w6 => place_any e vg vb y.now
  all_goals simp only [← HF.out] at kp
  all_goals have KP := Lib.hid kp
  all_goals have RD := Lib.hid (range_exts (ev_dep G6))
  all_goals have cl := fun y : Ext w6 => (EvCells.ext G6 y).gone
  all_goals have kl : ∀ y : Ext w6, Calls Try.prog 45 #[vg, .int .i64 0, .int .i64 8, .agg (av e.dep)] y.now fun x w' => x = .returned (.bool (listB e.gone 0 8 e.dep)) ∧ Below y.now.heap.size y.now w' := fun y => islist_any ok vg e.gone 0 8 e.dep y.now ((Hin.out.grow (hb06.trans (y.out.mono hb06.size))).gone)
  all_goals simp only [← HL.out] at kl
  all_goals have KL := Lib.hid kl
  all_goals clear kl
  all_goals clear kp
  all_goals refine wp_plain_grow ?_
  all_goals repeat (first | (go_big_quiet_want; refine quiet_mid 29 (.tmp 1) rfl w.heap.size 0 rfl (evC e vg vb) _ RA.out Try.underlying29 rfl ev_info ?_; go_simp; go_big_quiet_on) | (go_big_quiet_want; refine quiet_mid 26 (.tmp 86) rfl w.heap.size 2 rfl _ _ RD.out Try.underlying26 rfl vec_info ?_; go_simp; go_big_quiet_on) | go_big_quiet_step ((first | (go_at_call 44; with_reducible exact calls_grow (KP.out _)) | (go_at_call 45; with_reducible exact calls_grow (KL.out _)))) | quiet_step ((first | (go_at_call 44; with_reducible exact calls_grow (KP.out _)) | (go_at_call 45; with_reducible exact calls_grow (KL.out _)))))
  all_goals refine wpQuiet_nil ?_
  all_goals rintro w7 ⟨⟨_, hb7⟩, rfl⟩
  all_goals go_wp2_with fail
  all_goals go_ret
  all_goals exact ⟨rfl, below_call hb06 hb7⟩
set_option maxHeartbeats 4000000 in
theorem fields8 (ok : Nat → Prop) (e : Ev) (vg vb : Value) (w : World) (hin : EvIn w ok e vg vb) (hk : e.kind = 8) :
    Calls Try.prog 19 #[.agg (evC e vg vb)] w fun x w' => x = .returned (.bool (fieldsB e)) ∧ Below w.heap.size w w' := by
  unfold fieldsB
  rw [if_neg (by omega), if_neg (by omega), if_neg (by omega), if_neg (by omega), if_neg (by omega), if_neg (by omega), if_pos hk]
  obtain ⟨h1, hbel⟩ := ev_box (evC e vg vb) 29 w
  obtain ⟨W, hW⟩ : ∃ W, W = (w.alloc (.cells (evC e vg vb) 29)) := ⟨_, rfl⟩
  rw [← hW] at h1 hbel
  have I1 := Lib.hid (range_exts (ev_dep h1))
  have I3 := Lib.hid (range_exts (ev_obj h1))
  have k1 := fun y : Ext W => has_any e.dep e.orep e.oseq y.now
  unfold vv at k1
  simp only [idv_idC] at k1
  have K1 := Lib.hid k1
  have HW := Lib.hid hW
  have H1 := Lib.hid h1
  have Hbel := Lib.hid hbel
  have Hin := Lib.hid hin
  clear k1 h1 hW hbel hin
  have Hk := Lib.hid hk
  clear hk
  obtain ⟨h, hh⟩ : ∃ h, h = hasV e.dep e.orep e.oseq := ⟨_, rfl⟩
  simp only [← hh] at K1
  clear hh
  obtain ⟨a, ha⟩ : ∃ a, decide (1 ≤ e.ward) = a := ⟨_, rfl⟩
  obtain ⟨b, hb⟩ : ∃ b, decide (e.ward ≤ 4) = b := ⟨_, rfl⟩
  rw [ha, hb]
  cases a
  all_goals go_enter Try.func19, Try.ntmps19
  all_goals go_upto_region 1 with fail
  all_goals rw [← HW.out]
  all_goals refine wp_plain_grow ?_
  all_goals repeat (first | (go_big_quiet_want; refine quiet_mid 26 (.tmp 4) rfl w.heap.size 2 rfl _ _ I1.out Try.underlying26 rfl vec_info ?_; go_simp; go_big_quiet_on) | (go_big_quiet_want; refine quiet_mid 24 (.tmp 6) rfl w.heap.size 11 rfl _ _ I3.out Try.underlying24 rfl id_info ?_; go_simp; go_big_quiet_on) | go_big_quiet_step ((go_at_call 43; with_reducible exact calls_grow (K1.out _))) | quiet_step ((go_at_call 43; with_reducible exact calls_grow (K1.out _))))
  all_goals refine wpQuiet_nil ?_
  all_goals rintro w6 ⟨⟨_, hb6⟩, rfl⟩
  all_goals have G6 := H1.out.grow hb6
  all_goals have hb06 := below_call Hbel.out hb6
  all_goals have e0 := G6.ev.kind
  all_goals rw [Hk.out] at e0
  all_goals go_upto_region 17 with fail
  all_goals have cw := fun y : Ext w6 => (EvCells.ext G6 y).ward
  all_goals refine wp_plain_grow ?_
  all_goals repeat (first | go_big_quiet_step (fail) | quiet_step (fail))
  all_goals refine wpQuiet_nil ?_
  all_goals rintro w7 ⟨⟨_, hb7⟩, rfl⟩
  all_goals go_wp2_with fail
  all_goals go_ret
  all_goals exact ⟨rfl, below_call hb06 hb7⟩
set_option maxHeartbeats 4000000 in
theorem fields9 (ok : Nat → Prop) (e : Ev) (vg vb : Value) (w : World) (hin : EvIn w ok e vg vb) (hk : e.kind = 9) :
    Calls Try.prog 19 #[.agg (evC e vg vb)] w fun x w' => x = .returned (.bool (fieldsB e)) ∧ Below w.heap.size w w' := by
  unfold fieldsB
  rw [if_neg (by omega), if_neg (by omega), if_neg (by omega), if_neg (by omega), if_neg (by omega), if_neg (by omega), if_neg (by omega), decide_eq_true hk]
  obtain ⟨h1, hbel⟩ := ev_box (evC e vg vb) 29 w
  obtain ⟨W, hW⟩ : ∃ W, W = (w.alloc (.cells (evC e vg vb) 29)) := ⟨_, rfl⟩
  rw [← hW] at h1 hbel
  have I1 := Lib.hid (range_exts (ev_dep h1))
  have I3 := Lib.hid (range_exts (ev_obj h1))
  have k1 := fun y : Ext W => has_any e.dep e.orep e.oseq y.now
  unfold vv at k1
  simp only [idv_idC] at k1
  have K1 := Lib.hid k1
  have HW := Lib.hid hW
  have H1 := Lib.hid h1
  have Hbel := Lib.hid hbel
  have Hin := Lib.hid hin
  clear k1 h1 hW hbel hin
  have Hk := Lib.hid hk
  clear hk
  obtain ⟨h, hh⟩ : ∃ h, h = hasV e.dep e.orep e.oseq := ⟨_, rfl⟩
  simp only [← hh] at K1
  clear hh
  go_enter Try.func19, Try.ntmps19
  go_upto_region 1 with fail
  rw [← HW.out]
  refine wp_plain_grow ?_
  repeat (first | (go_big_quiet_want; refine quiet_mid 26 (.tmp 4) rfl w.heap.size 2 rfl _ _ I1.out Try.underlying26 rfl vec_info ?_; go_simp; go_big_quiet_on) | (go_big_quiet_want; refine quiet_mid 24 (.tmp 6) rfl w.heap.size 11 rfl _ _ I3.out Try.underlying24 rfl id_info ?_; go_simp; go_big_quiet_on) | go_big_quiet_step ((go_at_call 43; with_reducible exact calls_grow (K1.out _))) | quiet_step ((go_at_call 43; with_reducible exact calls_grow (K1.out _))))
  refine wpQuiet_nil ?_
  rintro w6 ⟨⟨_, hb6⟩, rfl⟩
  have G6 := H1.out.grow hb6
  have hb06 := below_call Hbel.out hb6
  have e0 := G6.ev.kind
  rw [Hk.out] at e0
  go_wp2_with fail
  go_ret
  exact ⟨rfl, hb06⟩
set_option maxHeartbeats 4000000 in
theorem fields10 (ok : Nat → Prop) (e : Ev) (vg vb : Value) (w : World) (hin : EvIn w ok e vg vb) (h1 : ¬ (e.kind = 1 ∨ e.kind = 2)) (h3 : ¬ e.kind = 3) (h4 : ¬ e.kind = 4) (h5 : ¬ e.kind = 5) (h6 : ¬ e.kind = 6) (h7 : ¬ e.kind = 7) (h8 : ¬ e.kind = 8) (h9 : ¬ e.kind = 9) :
    Calls Try.prog 19 #[.agg (evC e vg vb)] w fun x w' => x = .returned (.bool (fieldsB e)) ∧ Below w.heap.size w w' := by
  unfold fieldsB
  rw [if_neg h1, if_neg h3, if_neg h4, if_neg h5, if_neg h6, if_neg h7, if_neg h8, decide_eq_false h9]
  have q1 : (e.kind == 1) = false := by rw [beq_eq_false_iff_ne]; omega
  have q2 : (e.kind == 2) = false := by rw [beq_eq_false_iff_ne]; omega
  have q3 : (e.kind == 3) = false := by rw [beq_eq_false_iff_ne]; omega
  have q4 : (e.kind == 4) = false := by rw [beq_eq_false_iff_ne]; omega
  have q5 : (e.kind == 5) = false := by rw [beq_eq_false_iff_ne]; omega
  have q6 : (e.kind == 6) = false := by rw [beq_eq_false_iff_ne]; omega
  have q7 : (e.kind == 7) = false := by rw [beq_eq_false_iff_ne]; omega
  have q8 : (e.kind == 8) = false := by rw [beq_eq_false_iff_ne]; omega
  have q9 : (e.kind == 9) = false := by rw [beq_eq_false_iff_ne]; omega
  obtain ⟨h1, hbel⟩ := ev_box (evC e vg vb) 29 w
  obtain ⟨W, hW⟩ : ∃ W, W = (w.alloc (.cells (evC e vg vb) 29)) := ⟨_, rfl⟩
  rw [← hW] at h1 hbel
  have I1 := Lib.hid (range_exts (ev_dep h1))
  have I3 := Lib.hid (range_exts (ev_obj h1))
  have k1 := fun y : Ext W => has_any e.dep e.orep e.oseq y.now
  unfold vv at k1
  simp only [idv_idC] at k1
  have K1 := Lib.hid k1
  have HW := Lib.hid hW
  have H1 := Lib.hid h1
  have Hbel := Lib.hid hbel
  have Hin := Lib.hid hin
  clear k1 h1 hW hbel hin
  clear h1 h3 h4 h5 h6 h7 h8 h9
  obtain ⟨h, hh⟩ : ∃ h, h = hasV e.dep e.orep e.oseq := ⟨_, rfl⟩
  simp only [← hh] at K1
  clear hh
  go_enter Try.func19, Try.ntmps19
  go_upto_region 1 with fail
  rw [← HW.out]
  refine wp_plain_grow ?_
  repeat (first | (go_big_quiet_want; refine quiet_mid 26 (.tmp 4) rfl w.heap.size 2 rfl _ _ I1.out Try.underlying26 rfl vec_info ?_; go_simp; go_big_quiet_on) | (go_big_quiet_want; refine quiet_mid 24 (.tmp 6) rfl w.heap.size 11 rfl _ _ I3.out Try.underlying24 rfl id_info ?_; go_simp; go_big_quiet_on) | go_big_quiet_step ((go_at_call 43; with_reducible exact calls_grow (K1.out _))) | quiet_step ((go_at_call 43; with_reducible exact calls_grow (K1.out _))))
  refine wpQuiet_nil ?_
  rintro w6 ⟨⟨_, hb6⟩, rfl⟩
  have G6 := H1.out.grow hb6
  have hb06 := below_call Hbel.out hb6
  have e0 := G6.ev.kind
  go_wp2_with fail
  go_ret
  exact ⟨rfl, hb06⟩
theorem evfields_any (ok : Nat → Prop) (e : Ev) (vg vb : Value) (w : World) (hin : EvIn w ok e vg vb) :
    Calls Try.prog 19 #[.agg (evC e vg vb)] w fun x w' => x = .returned (.bool (fieldsB e)) ∧ Below w.heap.size w w' := by
  by_cases h1 : e.kind = 1
  · exact fields1 ok e vg vb w hin h1
  by_cases h2 : e.kind = 2
  · exact fields2 ok e vg vb w hin h2
  by_cases h3 : e.kind = 3
  · exact fields3 ok e vg vb w hin h3
  by_cases h4 : e.kind = 4
  · exact fields4 ok e vg vb w hin h4
  by_cases h5 : e.kind = 5
  · exact fields5 ok e vg vb w hin h5
  by_cases h6 : e.kind = 6
  · exact fields6 ok e vg vb w hin h6
  by_cases h7 : e.kind = 7
  · exact fields7 ok e vg vb w hin h7
  by_cases h8 : e.kind = 8
  · exact fields8 ok e vg vb w hin h8
  by_cases h9 : e.kind = 9
  · exact fields9 ok e vg vb w hin h9
  exact fields10 ok e vg vb w hin (by omega) h3 h4 h5 h6 h7 h8 h9
end Go.Proofs.Ytkojoahamoffcaa
