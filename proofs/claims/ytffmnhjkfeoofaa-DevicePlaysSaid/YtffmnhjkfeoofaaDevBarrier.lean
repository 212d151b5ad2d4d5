/-
  Barrier.
-/
import Derived.Test.YtffmnhjkfeoofaaDevChange
namespace Go.Proofs.Ytffmnhjkfeoofaa
open Go.RowKit
set_option maxRecDepth 100000

theorem barrier_nil (w : World) : Calls Try.prog 38 #[.pointer none] w fun e w' => e = .returned (.int .i64 6) ∧ w = w' := by
  go_enter Try.func38, Try.ntmps38
  go_wp2_with fail
  refine (off_nil _).mono ?_
  rintro e w' ⟨rfl, rfl⟩
  go_wp2
  go_ret
  exact ⟨rfl, rfl⟩

theorem change_ok {D : Dev} (h : ¬ D.change.2 ≠ 0) : D.change = ({ D with changes := D.changes + 1, left := if 0 < D.left then D.left - 1 else D.left }, 0) := by
  unfold Dev.change at h ⊢
  by_cases h0 : D.left = 0
  · rw [if_pos h0] at h; simp at h
  · rw [if_neg h0]
theorem change_two (D : Dev) : D.change.2 = 0 ∨ D.change.2 = 6 := by
  unfold Dev.change
  split
  · exact .inr rfl
  · exact .inl rfl

set_option maxHeartbeats 1000000 in
theorem barrier_any (base : Nat) (F : Nat → Prop) (g : Nat) (D : Dev) (w : World) (h : DevAt w base F g D) (hc : D.changes ≤ 1099511627776) (hl : D.loose.length ≤ 1099511627776) :
    Calls Try.prog 38 #[.pointer (some ⟨g, 0, none⟩)] w fun e w' => e = .returned (.int .i64 D.barrier.2) ∧ DevAt w' base F g D.barrier.1 ∧ Fr F F w w' := by
  have H := Lib.hid h
  clear h
  cases hoff : D.off with
  | true =>
    have hbar : D.barrier = (D, 6) := by unfold Dev.barrier; rw [hoff]; rfl
    have Hbar := Lib.hid hbar
    have Hoff := Lib.hid hoff
    clear hbar hoff
    go_enter Try.func38, Try.ntmps38
    go_wp2_with fail
    refine (off_any _ _ _ D _ H.out).mono ?_
    rintro e w' ⟨rfl, rfl⟩
    rw [Hoff.out]
    go_wp2
    go_ret
    rw [Hbar.out]
    exact ⟨rfl, H.out, Fr.refl _ _⟩
  | false =>
    have Hoff := Lib.hid hoff
    clear hoff
    by_cases hch : D.change.2 ≠ 0
    · have h6 : D.change.2 = 6 := (change_two D).resolve_left hch
      have hbar : D.barrier = D.change := by unfold Dev.barrier; rw [Hoff.out, if_pos hch]; rfl
      have Hbar := Lib.hid hbar
      have H6 := Lib.hid h6
      clear hbar hch h6
      go_enter Try.func38, Try.ntmps38
      go_wp2_with fail
      refine (off_any _ _ _ D _ H.out).mono ?_
      rintro e w' ⟨rfl, rfl⟩
      rw [Hoff.out]
      go_wp2_with fail
      refine (change_any _ _ _ D _ H.out hc hl).mono ?_
      rintro e w1 ⟨rfl, hdev, hfr⟩
      rw [H6.out]
      go_wp2
      go_ret
      rw [Hbar.out]
      exact ⟨by rw [H6.out]; rfl, hdev, hfr⟩
    · obtain ⟨D1, hD1⟩ : ∃ D1, D1 = D.change.1 := ⟨_, rfl⟩
      have hok := change_ok hch
      have hbar : D.barrier = ({ D1 with sure := applyW D1.sure D1.loose, loose := [] }, 0) := by unfold Dev.barrier; rw [Hoff.out, if_neg hch, hD1]; rfl
      have h0 : D.change.2 = 0 := by rw [hok]
      have hlo : D1.loose = D.loose := by rw [hD1, hok]
      have hl1 : D1.loose.length ≤ 1099511627776 := by rw [hlo]; exact hl
      have Hbar := Lib.hid hbar
      have H0 := Lib.hid h0
      have HD1 := Lib.hid hD1
      clear hbar hch h0 hD1 hok hlo
      go_enter Try.func38, Try.ntmps38
      go_wp2_with fail
      refine (off_any _ _ _ D _ H.out).mono ?_
      rintro e w' ⟨rfl, rfl⟩
      rw [Hoff.out]
      go_wp2_with fail
      refine (change_any _ _ _ D _ H.out hc hl).mono ?_
      rintro e w2 ⟨rfl, hdev, hfr1⟩
      rw [H0.out]
      rw [← HD1.out] at hdev
      obtain ⟨gs, gl, vl, vp, n, hin, hn⟩ := hdev
      obtain ⟨hc0, hc1, hc2, hc3, hc4, hc5⟩ := hin.cells
      obtain ⟨A, cl, rfl, hcl, hcm, _⟩ := hin.loose.form
      have hgs : g ≠ gs := hin.blk.ne_ hin.sure (by decide)
      have hls : gl ≠ gs := fun e => hin.ne e.symm
      have Hin := Lib.hid hin
      have Hfr1 := Lib.hid hfr1
      unfold maxLen at hcm
      clear hin hfr1
      go_wp2_with fail
      go_loopw [18] (fun i wr => ∃ m : Nat, m ≤ D1.loose.length ∧ i = .int .i64 (m : Int) ∧ Blk wr gs 91 (many secC (applyW D1.sure (D1.loose.take m))).toArray ∧ Fr (· = gs) (· = gs) w2 wr) (fun i _ => D1.loose.length - (intOf i).toNat)
      case atStart => exact ⟨0, by omega, rfl, Hin.out.sure, Fr.refl _ _⟩
      case round =>
        obtain ⟨m, hm, rfl, hblk, hfr⟩ := hrel
        by_cases hlt : m < D1.loose.length
        · obtain ⟨gw, cap, cur, hv, hbw, hblkw, hcap, hrange⟩ := wr_range Hin.out.loose Hin.out.wrs m hlt
          cases hv
          have hwS : gw ≠ gs := hblkw.ne_ Hin.out.sure (by decide)
          have hwl := Hin.out.wrs _ (List.getElem_mem hlt)
          have hd0 := hfr.cell hc0 hgs
          have hrg' := hfr.range hrange hblkw.lt hwS
          have hz := zero_wr
          have Hrg' := Lib.hid hrg'
          have Hwl := Lib.hid hwl
          have Hblkm := Lib.hid hblk
          have Hfrm := Lib.hid hfr
          clear hrange hrg' hwl hblkw hblk hfr
          go_upto_region 9 with (first
            | (with_reducible refine wpList_load_mid (op := ⟨some 21, _, _, _, _, _⟩) rfl _ _ rfl gw (m * 257) rfl (wrC D1.loose[m]) _ Hrg'.out Try.underlying115 rfl (by rw [size_wr, Hwl.out]) ?_)
            | (with_reducible refine wpList_store_new rfl _ _ _ rfl _ (wrC D1.loose[m]).toArray rfl rfl (by rw [size_wr]; simp [Hwl.out]) (by rw [zeroWr_size]; simp [Hwl.out]) (all_oneCell_toArray (wrC_oneCell _)) ?_))
          obtain ⟨wa, hwa⟩ : ∃ x, x = wr.alloc (.cells (wrC D1.loose[m]).toArray 115) := ⟨_, rfl⟩
          have hfa : Fr (· = gs) (· = gs) wr wa := by rw [hwa]; exact (Fr.refl _ _).alloc _
          have hblkA : Blk wa wr.heap.size 115 (wrC D1.loose[m]).toArray := by rw [hwa]; exact Blk.new _ _ _
          have hblks : Blk wa gs 91 (many secC (applyW D1.sure (D1.loose.take m))).toArray := by rw [hwa]; exact Hblkm.out.alloc _
          have hca0 := hfa.cell hd0 hgs
          have hca2 : wa.cell? ⟨wr.heap.size, 0, none⟩ = some (.int .i64 (D1.loose[m].1 : Int)) := by rw [hblkA.cell]; rfl
          obtain ⟨hat, hdl⟩ := Hin.out.wf.loose _ (List.getElem_mem hlt)
          have hatL : D1.loose[m].1 < (applyW D1.sure (D1.loose.take m)).length := by rw [applyW_length]; exact hat
          have hatn : (D1.loose[m].1 : Int) < (n : Int) := by have := Hin.out.len; omega
          have hsl : ∀ x ∈ applyW D1.sure (D1.loose.take m), (secC x).length = 256 := fun x hx => by
            unfold secC
            rw [List.length_map]
            exact applyW_wf _ _ Hin.out.wf.sure (fun y hy => (Hin.out.wf.loose y (List.mem_of_mem_take hy)).2) x hx
          have hrs : wa.rangeAt wr.heap.size 1 (secC D1.loose[m].2) := hblkA.range 1 _ (by unfold wrC secC; rw [List.drop_succ_cons, List.drop_zero, List.take_length])
          have hth : wa.there gs (D1.loose[m].1 * 256) 256 := hblks.there _ _ (many_fits secC 256 _ hsl _ hatL)
          have hcl2 : (secC D1.loose[m].2).length = 256 := by unfold secC; rw [List.length_map, hdl]
          have hspl := many_splice secC 256 _ hsl _ hatL D1.loose[m].2 (secC D1.loose[m].2) (by omega) (by
            rw [List.drop_eq_nil_of_le (by rw [hsl _ (List.getElem_mem hatL), hcl2]; exact Nat.le_refl _), List.append_nil])
          rw [← applyW_take _ _ m hlt] at hspl
          have hst := Blk.setCells (secC D1.loose[m].2) (D1.loose[m].1 * 256) wa.drew _ hblks.drew (by rw [hcl2]; exact many_fits secC 256 _ hsl _ hatL)
          rw [hspl] at hst
          obtain ⟨cs, hcs⟩ : ∃ cs, cs = secC D1.loose[m].2 := ⟨_, rfl⟩
          rw [← hcs] at hrs hcl2 hst
          have hth : wa.there gs (D1.loose[m].1 * 256) cs.length := by rw [hcl2]; exact hth
          have h1c : ∀ v ∈ cs, v.oneCell' = true := by rw [hcs]; exact secC_oneCell _
          have hi : (Try.prog.info? 91).map (·.size) = some cs.length := by rw [size_sec, hcl2]
          have hu := Try.underlying91
          have Hst := Lib.hid hst
          have Hcl := Lib.hid hcl2
          have Hfra := Lib.hid (Hfrm.out.trans hfa)
          have Hrs := Lib.hid hrs
          have hwrl : wr.heap.size ≠ gs := by have := Hblkm.out.lt; omega
          rw [← hwa]
          clear hspl hst hrs hcl2 hsl hatL hat hdl hcs hblkA hblks hfa hwa hd0
          have hfrx : Fr (· = gs) (· = gs) wa (wa.drew.setCells gs (D1.loose[m].1 * 256) cs) := Fr.setCells (F' := (· = gs)) ((Fr.refl (· = gs) wa).drew) rfl _ _
          have hk0 := hfrx.cell hca0 hgs
          have hk2 := hfrx.cell hca2 hwrl
          have hk3 := World.rangeAt_setCells_apart (w := wa.drew) Hrs.out gs (D1.loose[m].1 * 256) cs (.inl hwrl)
          have hk4 := World.there_setCells (w := wa.drew) hth gs (D1.loose[m].1 * 256) cs
          have Hk0 := Lib.hid hk0
          have Hk2 := Lib.hid hk2
          have Hk3 := Lib.hid hk3
          have Hk4 := Lib.hid hk4
          have Hfrx := Lib.hid hfrx
          clear hk0 hk2 hk3 hk4 hfrx
          go_region_held3 (fun u => u.cell? ⟨g, 0, none⟩ = some (.slice (some ⟨gs, 0, none⟩) n n) ∧ u.cell? ⟨wr.heap.size, 0, none⟩ = some (.int .i64 (D1.loose[m].1 : Int)) ∧ u.rangeAt wr.heap.size 1 cs ∧ u.there gs (D1.loose[m].1 * 256) cs.length)
            (first | exact ⟨hca0, hca2, Hrs.out, hth⟩ | exact ⟨Hk0.out, Hk2.out, Hk3.out, Hk4.out⟩ | assumption)
            (fail)
          all_goals obtain ⟨we, hwe⟩ : ∃ x, x = wa.drew.setCells gs (D1.loose[m].1 * 256) cs := ⟨_, rfl⟩
          all_goals rw [← hwe] at Hst Hfrx ⊢
          all_goals clear hwe
          all_goals go_wp2_with fail
          all_goals go_roundw
          case rel => exact ⟨m + 1, by omega, by go_num, Hst.out, Hfra.out.trans Hfrx.out⟩
          case measure => simp [intOf]; omega
        · obtain rfl : m = D1.loose.length := by omega
          rw [List.take_length] at hblk
          obtain ⟨wd, rfl⟩ : ∃ x, x = wr := ⟨wr, rfl⟩
          have hblkg := (hfr.blk Hin.out.blk hgs).2
          have hblkl := (hfr.blk Hin.out.last hls).2
          have hsz := hfr.size
          have hfrw : Fr F F w2 wd := hfr.less (fun k (hk : k = gs) => hk ▸ Hin.out.fs)
          have hd0 := hblkg.cell 2
          have hf0 := hblkg.frozen 2
          simp at hd0
          have Hblk := Lib.hid hblk
          have Hblkg := Lib.hid hblkg
          have Hblkl := Lib.hid hblkl
          have Hfrw := Lib.hid hfrw
          have Hplan := Lib.hid (show PlanAt wd base F vp D1.left D1.choice from Hin.out.plan.types fun k t cs hb ht => (hfr.block k hb.lt (fun (e : k = gs) => by subst e; exact hb.ne_ Hin.out.sure (by rcases ht with rfl | rfl <;> decide) rfl)).2)
          clear hblk hblkg hblkl hfrw hfr
          go_wp2
          go_ret
          rw [Hbar.out]
          have hgl : g ≠ gl := Hin.out.blk.ne_ Hin.out.last (by decide)
          refine ⟨rfl, ⟨gs, gl, .slice none 0 0, vp, n, ⟨?_, Hblk.out.far (fun e => hgs e.symm) _, Hblkl.out.far (fun e => hgl e.symm) _, Hin.out.ne, OwnK.nil _ _ _ _, ?_, Hin.out.fg, Hin.out.fs, Hin.out.fl, fun k hk => (by cases hk), fun k hk => ?_, ?_, ⟨?_, fun _ h => (by cases h), Hin.out.wf.left⟩⟩, hn⟩, Hfr1.out.trans (Hfrw.out.setCell Hin.out.fg _)⟩
          · simpa using Hblkg.out.set_ 2 (.slice none 0 0)
          · exact Hplan.out.types fun k t cs hb ht => Below.heap_setCell _ _ _ _ (fun (e : k = g) => by subst e; exact hb.ne_ Hblkg.out (by rcases ht with rfl | rfl <;> decide) rfl)
          · have := Hin.out.low k hk
            refine ⟨this.1, ?_⟩
            have : (wd.setCell ⟨g, 2, none⟩ (.slice none 0 0)).heap.size = wd.heap.size := by simp [World.setCell]
            omega
          · show (applyW D1.sure D1.loose).length = n
            rw [applyW_length]; exact Hin.out.len
          · exact applyW_wf _ _ Hin.out.wf.sure (fun x hx => (Hin.out.wf.loose x hx).2)
end Go.Proofs.Ytffmnhjkfeoofaa
