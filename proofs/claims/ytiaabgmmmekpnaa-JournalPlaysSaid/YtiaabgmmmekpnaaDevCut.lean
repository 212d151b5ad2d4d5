/-
  Cut.
-/
import Derived.Test.YtiaabgmmmekpnaaDevSizes
import Derived.Deep.DeepCutAuto
import Derived.Test.YtiaabgmmmekpnaaQuiet
namespace Go.Proofs.Ytiaabgmmmekpnaa
open Go.RowKit
set_option maxRecDepth 100000

theorem cut_nil (a b d : Value) (w : World) : Calls Try.prog 23 #[.pointer none, .agg #[a, b, d]] w fun e w' => e = .returned (.tuple #[]) ∧ Below w.heap.size w w' := by
  go_enter Try.func23, Try.ntmps23
  go_wp2_with fail
  refine (off_nil _).mono ?_
  rintro e w' ⟨rfl, rfl⟩
  go_wp2
  refine bodyPost_ret (results_none rfl _ _ _) rfl ?_
  exact ⟨rfl, (Below.refl _ _).alloc (Nat.le_refl _) _⟩

set_option maxHeartbeats 1000000 in
theorem cut_on (base : Nat) (F : Nat → Prop) (g : Nat) (D : Dev) (ok : Nat → Prop) (vk : Value) (c : Choice) (w : World) (h : DevAt w base F g D) (hv : IsL (kInt .i64) w ok vk c.kept) (hl : D.loose.length ≤ 1099511627776) (hoff : D.off = false) :
    Calls Try.prog 23 #[.pointer (some ⟨g, 0, none⟩), .agg #[vk, .int .i64 c.torn, .int .i64 c.half]] w fun e w' => e = .returned (.tuple #[]) ∧ DevAt w' base F g (D.cut c) ∧ Fr F F w w' := by
  have hba : Below w.heap.size w (w.alloc (.cells #[vk, .int .i64 c.torn, .int .i64 c.half] 34)) := (Below.refl _ _).alloc (Nat.le_refl _) _
  have hblkb := Blk.new w 34 #[vk, .int .i64 c.torn, .int .i64 c.half]
  have hv1 := hv.grow hba
  have H1 := h.grow hba
  obtain ⟨W, hW⟩ : ∃ W, W = w.alloc (.cells #[vk, .int .i64 c.torn, .int .i64 c.half] 34) := ⟨_, rfl⟩
  rw [← hW] at hba hblkb hv1 H1
  have HW := Lib.hid hW
  have Hv1 := Lib.hid hv1
  have HH := Lib.hid H1
  obtain ⟨gs, gl, vl, vp, n, hin, hn⟩ := H1
  obtain ⟨hc0, hc1, hc2, hc3, hc4, hc5⟩ := hin.cells
  obtain ⟨A, cl, rfl, hcl, hcm, hrd⟩ := hin.loose.form
  have hb0 := hblkb.cell 0
  have hb1 := hblkb.cell 1
  have hb2 := hblkb.cell 2
  simp at hb0 hb1 hb2
  have Hin := Lib.hid hin
  have Hrd := Lib.hid hrd
  have Hblkb := Lib.hid hblkb
  have Hoff := Lib.hid hoff
  unfold maxLen at hcm
  clear hW hv hv1 h hoff hin hrd hblkb
  go_enter Try.func23, Try.ntmps23
  go_wp2_with fail
  rw [← HW.out]
  refine (off_any _ _ _ D _ HH.out).mono ?_
  rintro e w' ⟨rfl, rfl⟩
  rw [Hoff.out]
  go_upto_region 2 with (fail)
  go_cut [17, 18, 19] (fun a b d wx => ∃ g2, a = .slice (some ⟨g2, 0, none⟩) D.loose.length D.loose.length ∧ b = .int .i64 (D.loose.length : Int) ∧ d = .int .i64 0 ∧ W.heap.size ≤ g2 ∧ Blk wx g2 3 ((stays c c.kept.length D.loose.length).map (Value.int .i64)).toArray ∧ Below W.heap.size W wx)
  case first =>
    go_region_held3 (fun u => Below W.heap.size W u ∧ u.cell? ⟨g, 2, none⟩ = some (.slice A D.loose.length cl) ∧ u.cell? ⟨w.heap.size, 0, none⟩ = some vk ∧ u.cell? ⟨w.heap.size, 1, none⟩ = some (.int .i64 c.torn) ∧ u.cell? ⟨w.heap.size, 2, none⟩ = some (.int .i64 c.half))
      (first | exact ⟨(Below.refl _ _).drew, hc2, hb0, hb1, hb2⟩ | (go_split_ands; exact ⟨below_on (by assumption) hb2', cell_then hb2' (by assumption), cell_then hb2' (by assumption), cell_then hb2' (by assumption), cell_then hb2' (by assumption)⟩) | assumption)
      ((go_at_call 47; refine (sizes_any _ _ c _ _ (Hv1.out.grow ((Below.refl _ _).drew)) hl).mono ?_; rintro e w2 ⟨g2, rfl, hg2, hblk2, hb2'⟩))
    all_goals (go_wp2_with fail; go_meet; exact ⟨g2, rfl, rfl, rfl, hg2, hblk2, below_drew_then hb2'⟩)
  case rest =>
  obtain ⟨g2, rfl, rfl, rfl, hg2, hblk2, hw2⟩ := hcut
  obtain ⟨w2, rfl⟩ : ∃ x, x = wc := ⟨wc, rfl⟩
  have hgW : g < W.heap.size := Hin.out.blk.lt
  have hsW : gs < W.heap.size := Hin.out.sure.lt
  have hlW : gl < W.heap.size := Hin.out.last.lt
  have hgs : g ≠ gs := Hin.out.blk.ne_ Hin.out.sure (by decide)
  go_wp2_with fail
  go_loopw [19] (fun i wr => ∃ m : Nat, m ≤ D.loose.length ∧ i = .int .i64 (m : Int) ∧ Blk wr gs 75 (many secC (cutS c D.sure 0 (D.loose.take m))).toArray ∧ Fr (· = gs) (· = gs) w2 wr) (fun i _ => D.loose.length - (intOf i).toNat)
  case atStart => exact ⟨0, by omega, rfl, Hin.out.sure.grow hw2, Fr.refl _ _⟩
  case round =>
    obtain ⟨m, hm, rfl, hblk, hfr⟩ := hrel
    by_cases hlt : m < D.loose.length
    · obtain ⟨gw, cap, cur, hv, hbw, hblkw, hcap, hrange⟩ := wr_range Hin.out.loose Hin.out.wrs m hlt
      cases hv
      have hw2' := hw2
      have hwS : gw ≠ gs := hblkw.ne_ Hin.out.sure (by decide)
      have hwl := Hin.out.wrs _ (List.getElem_mem hlt)
      have hst : c.stayP c.kept.length m = c.stay m := stayP_all c m
      have hstl := stay_le c m
      have hcg0 := hfr.cell (cell_then hw2 hc0) hgs
      have hcg2 := hfr.cell (cell_then hw2 hc2) hgs
      have hcn : w2.cell? ⟨g2, m, none⟩ = some (.int .i64 (c.stay m : Int)) := by
        rw [hblk2.cell]
        simp [stays, hlt, hst]
      have hcn' := hfr.cell hcn (by show g2 ≠ gs; omega)
      have hrg' := hfr.range (range_same hrange (hw2.block _ hblkw.lt)) (by have := hblkw.lt; have := hw2.size; omega) hwS
      have hz := zero_wr
      have Hrg' := Lib.hid hrg'
      have Hwl := Lib.hid hwl
      have Hhyp := Lib.hid (And.intro hfr (And.intro hblk (And.intro hrange (And.intro hcn hwl))))
      have Hblkw := Lib.hid hblkw
      have Hblk2 := Lib.hid hblk2
      have Hw2 := Lib.hid hw2
      have Hst := Lib.hid hst
      clear hfr hblk hrange hcn hwl hrg' hblkw hw2' hblk2 hw2 hst
      go_upto_region 6 with (first
        | (with_reducible refine wpList_load_mid (op := ⟨some 30, _, _, _, _, _⟩) rfl _ _ rfl gw (m * 257) rfl (wrC D.loose[m]) _ Hrg'.out Try.underlying102 rfl (by rw [size_wr, Hwl.out]) ?_)
        | (with_reducible refine wpList_store_new rfl _ _ _ rfl _ (wrC D.loose[m]).toArray rfl rfl (by rw [size_wr]; simp [Hwl.out]) (by rw [zeroWr_size]; simp [Hwl.out]) (all_oneCell_toArray (wrC_oneCell _)) ?_))
      obtain ⟨wa, hwa⟩ : ∃ x, x = wr.alloc (.cells (wrC D.loose[m]).toArray 102) := ⟨_, rfl⟩
      obtain ⟨hfr, hblk, hrange, hcn, hwl⟩ := Hhyp.out
      have hfa : Fr (· = gs) (· = gs) wr wa := by rw [hwa]; exact (Fr.refl _ _).alloc _
      have hblkA : Blk wa wr.heap.size 102 (wrC D.loose[m]).toArray := by rw [hwa]; exact Blk.new _ _ _
      have hblka : Blk wa gs 75 (many secC (cutS c D.sure 0 (D.loose.take m))).toArray := by rw [hwa]; exact hblk.alloc _
      have hwrs : wr.heap.size ≠ gs := by have := hblk.lt; omega
      have hgr : g < wr.heap.size := World.block_lt_of_cell? _ _ hcg0
      have hca0 := hfa.cell hcg0 hgs
      have hca1 : wa.cell? ⟨wr.heap.size, 0, none⟩ = some (.int .i64 (D.loose[m].1 : Int)) := by rw [hblkA.cell]; rfl
      have hrga : wa.rangeAt wr.heap.size 1 (D.loose[m].2.map u8) := hblkA.range 1 _ (by unfold wrC; rw [List.drop_succ_cons, List.drop_zero, List.take_length])
      obtain ⟨hat, hdl⟩ := Hin.out.wf.loose _ (List.getElem_mem hlt)
      have hsl : ∀ x ∈ cutS c D.sure 0 (D.loose.take m), (secC x).length = 256 := fun x hx => by
        unfold secC
        rw [List.length_map]
        exact cutS_wf c _ 0 _ Hin.out.wf.sure (fun y hy => Hin.out.wf.loose y (List.mem_of_mem_take hy)) x hx
      have hatn : (D.loose[m].1 : Int) < (n : Int) := by have := Hin.out.len; omega
      have hat' : D.loose[m].1 < (cutS c D.sure 0 (D.loose.take m)).length := by rw [cutS_length]; exact hat
      have hsi : (c.stay m : Int) ≤ 256 := by omega
      have hstep := cutS_take c D.sure D.loose m hlt
      have hcsl : ((D.loose[m].2.take (c.stay m)).map u8).length = c.stay m := by rw [List.length_map, List.length_take]; omega
      have hfit := many_fits secC 256 _ hsl _ hat'
      have hspl := many_splice secC 256 _ hsl _ hat' (D.loose[m].2.take (c.stay m) ++ ((cutS c D.sure 0 (D.loose.take m)).getD D.loose[m].1 []).drop (c.stay m)) ((D.loose[m].2.take (c.stay m)).map u8) (by omega) (by
        unfold secC
        rw [List.map_append, hcsl, List.getD_eq_getElem?_getD, List.getElem?_eq_getElem hat', List.map_drop]; rfl)
      rw [← hstep] at hspl
      have hn1 : ((D.loose[m].2.take (c.stay m)).map u8).length = Nat.min 256 (c.stay m) := by rw [hcsl]; exact (Nat.min_eq_right hstl).symm
      have hpos : 0 < ((D.loose[m].2.take (c.stay m)).map u8).length → (some (⟨gs, D.loose[m].1 * 256, none⟩ : Addr)) = some ⟨gs, D.loose[m].1 * 256, none⟩ ∧ ∃ ad, (some (⟨wr.heap.size, 1, none⟩ : Addr)) = some ad ∧ ∀ j v, ((D.loose[m].2.take (c.stay m)).map u8)[j]? = some v → wa.drew.cell? (ad.add j) = some v := fun _ => ⟨rfl, _, rfl, fun j v hj => by
        rw [Addr.add_mid]
        refine hrga j v ?_
        rw [List.map_take, List.getElem?_take] at hj
        split at hj
        · exact hj
        · cases hj⟩
      have hfit1 : D.loose[m].1 * 256 + ((D.loose[m].2.take (c.stay m)).map u8).length ≤ (many secC (cutS c D.sure 0 (D.loose.take m))).length := by rw [hcsl]; omega
      have Hn1 := Lib.hid hn1
      have Hpos := Lib.hid hpos
      have Hfit1 := Lib.hid hfit1
      have Hspl := Lib.hid hspl
      have Hrga := Lib.hid hrga
      have Hblka := Lib.hid hblka
      have Hfit := Lib.hid hfit
      have Hcsl := Lib.hid hcsl
      have Hfra := Lib.hid (hfr.trans hfa)
      have Hdl := Lib.hid hdl
      have Hwa := Lib.hid hwa
      rw [← hwa]
      clear hn1 hpos hfit1 hspl hstep hrga hblka hfit hcsl hfa hfr hblk hblkA hrange hcn hwl hdl hsl hat hat' hwa hcg0 hcg2 hcn' hz
      go_region_held3 (fun u => u.cell? ⟨g, 0, none⟩ = some (.slice (some ⟨gs, 0, none⟩) n n) ∧ u.cell? ⟨wr.heap.size, 0, none⟩ = some (.int .i64 (D.loose[m].1 : Int)))
        (first | exact ⟨hca0, hca1⟩ | exact ⟨Fr.cell hfr5 hca0 hgs, Fr.cell hfr5 hca1 hwrs⟩ | assumption)
        ((refine step_copy_fr rfl (.tmp 39) (.tmp 41) 48 48 rfl 5 Try.underlying48 size_u8 (some ⟨gs, D.loose[m].1 * 256, none⟩) (some ⟨wr.heap.size, 1, none⟩) (c.stay m) 256 256 256 rfl rfl gs (D.loose[m].1 * 256) _ 75 Hblka.out.drew ((D.loose[m].2.take (c.stay m)).map u8) Hn1.out Hpos.out Hfit1.out (u8_oneCell _) ?_; intro w5 hblk5 hfr5))
      all_goals go_wp2_with fail
      all_goals go_roundw
      case rel => exact ⟨m + 1, by omega, by go_num, by rw [← Hspl.out]; exact hblk5, Hfra.out.trans (Fr.trans ((Fr.refl _ _).drew) hfr5)⟩
      case measure => simp [intOf]; omega
    · obtain rfl : m = D.loose.length := by omega
      rw [List.take_length] at hblk
      obtain ⟨wb, rfl⟩ : ∃ x, x = wr := ⟨wr, rfl⟩
      have hls : gl ≠ gs := fun e => Hin.out.ne e.symm
      have hgl : g ≠ gl := Hin.out.blk.ne_ Hin.out.last (by decide)
      have hcg0 := hfr.cell (cell_then hw2 hc0) hgs
      have hcg1 := hfr.cell (cell_then hw2 hc1) hgs
      have hcg2 := hfr.cell (cell_then hw2 hc2) hgs
      have hlast := (hfr.blk (Hin.out.last.grow hw2) hls).2
      have hblkg := (hfr.blk (Hin.out.blk.grow hw2) hgs).2
      obtain ⟨S, hS⟩ : ∃ S, S = cutS c D.sure 0 D.loose := ⟨_, rfl⟩
      have hSl : S.length = n := by rw [hS, cutS_length]; exact Hin.out.len
      have hSw : ∀ x ∈ S, x.length = 256 := by rw [hS]; exact cutS_wf c _ 0 _ Hin.out.wf.sure Hin.out.wf.loose
      rw [← hS] at hblk
      have Hfr := Lib.hid hfr
      have Hblk := Lib.hid hblk
      have HS := Lib.hid hS
      have HSl := Lib.hid hSl
      have Hlast := Lib.hid hlast
      have Hw2 := Lib.hid hw2
      have Hblkg := Lib.hid hblkg
      clear hfr hblk hS hSl hlast hw2 hblk2 hblkg
      go_wp2_with fail
      go_loopw [49] (fun i wr => ∃ m : Nat, m ≤ D.loose.length ∧ i = .int .i64 (m : Int) ∧ Blk wr gl 75 (many secC (copyS S (applyW D.sure D.loose) (D.loose.take m))).toArray ∧ Fr (· = gl) (· = gl) wb wr) (fun i _ => D.loose.length - (intOf i).toNat)
      case atStart => exact ⟨0, by omega, rfl, Hlast.out, Fr.refl _ _⟩
      case round =>
        obtain ⟨m, hm, rfl, hblk, hfr⟩ := hrel
        by_cases hlt : m < D.loose.length
        · obtain ⟨gw, cap, cur, hv, hbw, hblkw, hcap, hrange⟩ := wr_range Hin.out.loose Hin.out.wrs m hlt
          cases hv
          have hwS : gw ≠ gs := hblkw.ne_ Hin.out.sure (by decide)
          have hwL : gw ≠ gl := hblkw.ne_ Hin.out.last (by decide)
          have hwl := Hin.out.wrs _ (List.getElem_mem hlt)
          have hd0 := hfr.cell hcg0 hgl
          have hd1 := hfr.cell hcg1 hgl
          have hrb := Hfr.out.range (range_same hrange (Hw2.out.block _ hblkw.lt)) (by have := hblkw.lt; have := Hw2.out.size; omega) hwS
          have hbb := Hfr.out.size
          have hrg' := hfr.range hrb (by have := hblkw.lt; have := Hw2.out.size; omega) hwL
          have hblks := (hfr.blk Hblk.out (fun e => hls e.symm)).2
          have hz := zero_wr
          have Hrg' := Lib.hid hrg'
          have Hwl := Lib.hid hwl
          have Hblks := Lib.hid hblks
          have Hblkm := Lib.hid hblk
          have Hfrm := Lib.hid hfr
          clear hrange hrb hrg' hwl hblkw hblks hblk hfr
          go_upto_region 11 with (first
            | (with_reducible refine wpList_load_mid (op := ⟨some 52, _, _, _, _, _⟩) rfl _ _ rfl gw (m * 257) rfl (wrC D.loose[m]) _ Hrg'.out Try.underlying102 rfl (by rw [size_wr, Hwl.out]) ?_)
            | (with_reducible refine wpList_store_new rfl _ _ _ rfl _ (wrC D.loose[m]).toArray rfl rfl (by rw [size_wr]; simp [Hwl.out]) (by rw [zeroWr_size]; simp [Hwl.out]) (all_oneCell_toArray (wrC_oneCell _)) ?_))
          obtain ⟨wa, hwa⟩ : ∃ x, x = wr.alloc (.cells (wrC D.loose[m]).toArray 102) := ⟨_, rfl⟩
          have hfa : Fr (· = gl) (· = gl) wr wa := by rw [hwa]; exact (Fr.refl _ _).alloc _
          have hblkA : Blk wa wr.heap.size 102 (wrC D.loose[m]).toArray := by rw [hwa]; exact Blk.new _ _ _
          have hblkl : Blk wa gl 75 (many secC (copyS S (applyW D.sure D.loose) (D.loose.take m))).toArray := by rw [hwa]; exact Hblkm.out.alloc _
          have hblks : Blk wa gs 75 (many secC S).toArray := by rw [hwa]; exact Hblks.out.alloc _
          have hca0 := hfa.cell hd0 hgl
          have hca1 := hfa.cell hd1 hgl
          have hca2 : wa.cell? ⟨wr.heap.size, 0, none⟩ = some (.int .i64 (D.loose[m].1 : Int)) := by rw [hblkA.cell]; rfl
          obtain ⟨hat, hdl⟩ := Hin.out.wf.loose _ (List.getElem_mem hlt)
          have hatS : D.loose[m].1 < S.length := by rw [HSl.out, ← Hin.out.len]; exact hat
          have hatL : D.loose[m].1 < (copyS S (applyW D.sure D.loose) (D.loose.take m)).length := by rw [copyS_length, applyW_length]; exact hat
          have hatn : (D.loose[m].1 : Int) < (n : Int) := by have := HSl.out; omega
          have hsS : ∀ x ∈ S, (secC x).length = 256 := fun x hx => by unfold secC; rw [List.length_map]; exact hSw x hx
          have hsl : ∀ x ∈ copyS S (applyW D.sure D.loose) (D.loose.take m), (secC x).length = 256 := fun x hx => by
            unfold secC
            rw [List.length_map]
            exact copyS_wf S _ _ hSw (applied Hin.out.wf) (fun y hy => by rw [HSl.out, ← Hin.out.len]; exact (Hin.out.wf.loose y (List.mem_of_mem_take hy)).1) x hx
          have hrs : wa.rangeAt gs (D.loose[m].1 * 256) (secC S[D.loose[m].1]) := hblks.range _ _ (many_at secC 256 S hsS _ hatS)
          have hth : wa.there gl (D.loose[m].1 * 256) 256 := hblkl.there _ _ (many_fits secC 256 _ hsl _ hatL)
          have hcl := hsS _ (List.getElem_mem hatS)
          have hspl := many_splice secC 256 _ hsl _ hatL (S.getD D.loose[m].1 []) (secC S[D.loose[m].1]) (by omega) (by
            rw [List.drop_eq_nil_of_le (by rw [hsl _ (List.getElem_mem hatL), hcl]; exact Nat.le_refl _), List.append_nil, List.getD_eq_getElem?_getD, List.getElem?_eq_getElem hatS]; rfl)
          rw [← copyS_take S _ _ m hlt] at hspl
          have hst := Blk.setCells (secC S[D.loose[m].1]) (D.loose[m].1 * 256) wa.drew _ hblkl.drew (by rw [hcl]; exact many_fits secC 256 _ hsl _ hatL)
          rw [hspl] at hst
          obtain ⟨cs, hcs⟩ : ∃ cs, cs = secC S[D.loose[m].1] := ⟨_, rfl⟩
          rw [← hcs] at hrs hcl hst
          have hth : wa.there gl (D.loose[m].1 * 256) cs.length := by rw [hcl]; exact hth
          have h1c : ∀ v ∈ cs, v.oneCell' = true := by rw [hcs]; exact secC_oneCell _
          have hi : (Try.prog.info? 75).map (·.size) = some cs.length := by rw [size_sec, hcl]
          have hu := Try.underlying75
          have Hst := Lib.hid hst
          have Hcl := Lib.hid hcl
          have Hfra := Lib.hid (Hfrm.out.trans hfa)
          have Hrs := Lib.hid hrs
          have hwrl : wr.heap.size ≠ gl := by have := Hblkm.out.lt; omega
          rw [← hwa]
          clear hspl hst hrs hcl hsl hsS hatS hatL hat hdl hcs hblkA hblkl hblks hfa hwa hd0 hd1 hcg0 hcg1 hcg2
          have hfrx : Fr (· = gl) (· = gl) wa (wa.drew.setCells gl (D.loose[m].1 * 256) cs) := Fr.setCells (F' := (· = gl)) ((Fr.refl (· = gl) wa).drew) rfl _ _
          have hk0 := hfrx.cell hca0 hgl
          have hk1 := hfrx.cell hca1 hgl
          have hk2 := hfrx.cell hca2 hwrl
          have hk3 := World.rangeAt_setCells_apart (w := wa.drew) Hrs.out gl (D.loose[m].1 * 256) cs (.inl (fun e => hls e.symm))
          have hk4 := World.there_setCells (w := wa.drew) hth gl (D.loose[m].1 * 256) cs
          have Hk0 := Lib.hid hk0
          have Hk1 := Lib.hid hk1
          have Hk2 := Lib.hid hk2
          have Hk3 := Lib.hid hk3
          have Hk4 := Lib.hid hk4
          have Hfrx := Lib.hid hfrx
          clear hk0 hk1 hk2 hk3 hk4 hfrx
          go_region_held3 (fun u => u.cell? ⟨g, 0, none⟩ = some (.slice (some ⟨gs, 0, none⟩) n n) ∧ u.cell? ⟨g, 1, none⟩ = some (.slice (some ⟨gl, 0, none⟩) n n) ∧ u.cell? ⟨wr.heap.size, 0, none⟩ = some (.int .i64 (D.loose[m].1 : Int)) ∧ u.rangeAt gs (D.loose[m].1 * 256) cs ∧ u.there gl (D.loose[m].1 * 256) cs.length)
            (first | exact ⟨hca0, hca1, hca2, Hrs.out, hth⟩ | exact ⟨Hk0.out, Hk1.out, Hk2.out, Hk3.out, Hk4.out⟩ | assumption)
            (fail)
          all_goals obtain ⟨we, hwe⟩ : ∃ x, x = wa.drew.setCells gl (D.loose[m].1 * 256) cs := ⟨_, rfl⟩
          all_goals rw [← hwe] at Hst Hfrx ⊢
          all_goals clear hwe
          all_goals go_wp2_with fail
          all_goals go_roundw
          case rel => exact ⟨m + 1, by omega, by go_num, Hst.out, Hfra.out.trans Hfrx.out⟩
          case measure => simp [intOf]; omega
        · obtain rfl : m = D.loose.length := by omega
          rw [List.take_length, HS.out, copyS_all] at hblk
          obtain ⟨wd, rfl⟩ : ∃ x, x = wr := ⟨wr, rfl⟩
          have hblks := (hfr.blk Hblk.out (fun e => hls e.symm)).2
          have hblkg := (hfr.blk Hblkg.out hgl).2
          have hsz := hfr.size
          have hsz2 := Hfr.out.size
          have hsz3 := Hw2.out.size
          have hfrw : Fr F F W wd := by
            have h1 : Fr F F W w2 := Fr.of_below Hw2.out F
            have h2 : Fr F F w2 wb := Hfr.out.less (fun k (hk : k = gs) => hk ▸ Hin.out.fs)
            have h3 : Fr F F wb wd := hfr.less (fun k (hk : k = gl) => hk ▸ Hin.out.fl)
            exact (h1.trans h2).trans h3
          have hd0 := hblkg.cell 2
          have hd1 := hblkg.cell 3
          have hd2 := hblkg.cell 4
          have hf0 := hblkg.frozen 2
          have hf1 := hblkg.frozen 3
          have hf2 := hblkg.frozen 4
          simp at hd0 hd1 hd2
          have Hblks' := Lib.hid hblks
          have Hblkl := Lib.hid hblk
          have Hblkg' := Lib.hid hblkg
          have Hfrw := Lib.hid hfrw
          clear hblks hblk hblkg hfrw hfr
          go_wp2
          go_end0
          have hcut : D.cut c = ⟨S, [], -1, noChoice, D.changes, true⟩ := by unfold Dev.cut; rw [Hoff.out, HS.out]; rfl
          have hB := (((Hblkg'.out.set_ 2 (.slice none 0 0)).set_ 3 (.pointer none)).set_ 4 (.bool true))
          have hFin : Fr F F W (((wd.setCell ⟨g, 2, none⟩ (.slice none 0 0)).setCell ⟨g, 3, none⟩ (.pointer none)).setCell ⟨g, 4, none⟩ (.bool true)) := ((Hfrw.out.setCell Hin.out.fg _).setCell Hin.out.fg _).setCell Hin.out.fg _
          have hba2 : Fr F F w W := Fr.of_below hba F
          refine ⟨rfl, ⟨gs, gl, .slice none 0 0, .pointer none, n, ?_, hn⟩, hba2.trans hFin⟩
          rw [hcut]
          refine ⟨?_, ?_, ?_, Hin.out.ne, OwnK.nil _ _ _ _, .inl ⟨rfl, rfl⟩, Hin.out.fg, Hin.out.fs, Hin.out.fl, fun k hk => (by cases hk), fun k hk => ⟨(Hin.out.low k hk).1, Nat.lt_of_lt_of_le (Hin.out.low k hk).2 hFin.size⟩, HSl.out, ⟨hSw, fun _ h => (by cases h), by show (-1 : Int) ≤ -1; omega⟩⟩
          · simpa using hB
          · exact ((Hblks'.out.far (fun e => hgs e.symm) _).far (fun e => hgs e.symm) _).far (fun e => hgs e.symm) _
          · show Blk _ gl _ (many secC S).toArray
            rw [HS.out]
            exact ((Hblkl.out.far (fun e => hgl e.symm) _).far (fun e => hgl e.symm) _).far (fun e => hgl e.symm) _

theorem cut_any (base : Nat) (F : Nat → Prop) (g : Nat) (D : Dev) (ok : Nat → Prop) (vk : Value) (c : Choice) (w : World) (h : DevAt w base F g D) (hv : IsL (kInt .i64) w ok vk c.kept) (hl : D.loose.length ≤ 1099511627776) :
    Calls Try.prog 23 #[.pointer (some ⟨g, 0, none⟩), .agg #[vk, .int .i64 c.torn, .int .i64 c.half]] w fun e w' => e = .returned (.tuple #[]) ∧ DevAt w' base F g (D.cut c) ∧ Fr F F w w' := by
  cases hoff : D.off with
  | false => exact cut_on base F g D ok vk c w h hv hl hoff
  | true =>
    have hba : Below w.heap.size w (w.alloc (.cells #[vk, .int .i64 c.torn, .int .i64 c.half] 34)) := (Below.refl _ _).alloc (Nat.le_refl _) _
    have H1 := Lib.hid (h.grow hba)
    have hcut : D.cut c = D := by unfold Dev.cut; rw [hoff]; rfl
    have Hcut := Lib.hid hcut
    have Hoff := Lib.hid hoff
    clear h hv hoff hcut
    go_enter Try.func23, Try.ntmps23
    go_wp2_with fail
    refine (off_any _ _ _ D _ H1.out).mono ?_
    rintro e w' ⟨rfl, rfl⟩
    rw [Hoff.out]
    go_wp2
    refine bodyPost_ret (results_none rfl _ _ _) rfl ?_
    exact ⟨rfl, by rw [Hcut.out]; exact H1.out, Fr.of_below hba F⟩
end Go.Proofs.Ytiaabgmmmekpnaa
