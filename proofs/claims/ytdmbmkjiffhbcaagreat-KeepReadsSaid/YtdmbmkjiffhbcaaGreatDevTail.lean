/-
  New.
  Barrier.
  Copies into rows of bytes; texts of bytes.
  Of a device at a pointer: a few words more.
  Texts of zeros, devices whose power stays, indexes.
-/
import Derived.Test.YtdmbmkjiffhbcaaGreatDevParts
import Derived.Test.YtdmbmkjiffhbcaaGreatDevAll
import Derived.Test.YtdmbmkjiffhbcaaGreatDevWrite
import Derived.StillTailTactics
import Derived.BigQuiet
namespace Go.Proofs.YtdmbmkjiffhbcaaGreat
open Go.RowKit
set_option maxRecDepth 100000

theorem new_bad (k : Int) (w : World) (h : k < 1 ∨ 4096 < k) : Calls Tryz.prog 8 #[.int .i64 k] w fun e w' => e = .returned (.tuple #[.pointer none, .int .i64 1]) ∧ w = w' := by
  rcases h with h | h
  · go_enter Tryz.func8, Tryz.ntmps8
    go_wp2
    go_ret2
    exact ⟨rfl, rfl⟩
  · have h' : ¬ k < 1 := by omega
    go_enter Tryz.func8, Tryz.ntmps8
    go_wp2
    go_ret2
    exact ⟨rfl, rfl⟩

theorem blk_new_at (w : World) (t : TypeId) (cs : Array Value) (k : Nat) (hk : w.heap.size = k) : Blk (w.alloc (.cells cs t)) k t cs := hk ▸ Blk.new w t cs
theorem new_dev (w X : World) (g gs gl n : Nat) (h0 : 0 < n) (h1 : n ≤ 4096) (hs : Blk X gs 83 (Array.replicate (n * 256) (.int .u8 0))) (hl : Blk X gl 83 (Array.replicate (n * 256) (.int .u8 0)))
    (hb : Blk X g 67 #[.slice (some ⟨gs, 0, none⟩) n n, .slice (some ⟨gl, 0, none⟩) n n, .slice none 0 0, .pointer none, .bool false, .int .i64 0]) (hne : gs ≠ gl) (hg : w.heap.size ≤ g ∧ w.heap.size ≤ gs ∧ w.heap.size ≤ gl) :
    DevAt X w.heap.size (fun k => w.heap.size ≤ k ∧ k < X.heap.size) g (newD n) := by
  rw [zero_secs] at hs hl
  exact ⟨gs, gl, _, _, n, ⟨hb, hs, hl, hne, OwnK.nil _ _ _ _, .inl ⟨rfl, rfl⟩, ⟨hg.1, hb.lt⟩, ⟨hg.2.1, hs.lt⟩, ⟨hg.2.2, hl.lt⟩, fun k hk => (by cases hk), fun k hk => hk, List.length_replicate, newD_wf n⟩, h0, h1⟩

set_option maxHeartbeats 400000 in
theorem new_ok (n : Nat) (w : World) (h0 : 0 < n) (h1 : n ≤ 4096) : Calls Tryz.prog 8 #[.int .i64 (n : Int)] w fun e w' => ∃ g F, e = .returned (.tuple #[.pointer (some ⟨g, 0, none⟩), .int .i64 0]) ∧ DevAt w' w.heap.size F g (newD n) ∧ Below w.heap.size w w' := by
  have hmk := run_secs n (by omega)
  obtain ⟨Z, hZ⟩ : ∃ Z : Array Value, Z = Array.replicate (n * 256) (.int .u8 0) := ⟨_, rfl⟩
  rw [← hZ] at hmk
  have HZ := Lib.hid hZ
  have hd1 : ¬ (n : Int) < 1 := by omega
  have hd2 : ¬ (4096 : Int) < (n : Int) := by omega
  clear hZ
  go_enter Tryz.func8, Tryz.ntmps8
  go_wp2_with fail
  go_region
  · go_wp2_with fail
    go_ret2
    rw [HZ.out]
    refine ⟨_, _, rfl, new_dev w _ (w.heap.size + 1 + 1) w.heap.size (w.heap.size + 1) n h0 h1 ?_ ?_ ?_ (by omega) (by omega), ((((Below.refl _ _).alloc (Nat.le_refl _) _).alloc (by simp) _).alloc (by simp; omega) _).drew⟩
    · exact (((Blk.new _ _ _).alloc _).alloc _).drew
    · exact ((blk_new_at _ _ _ _ (by simp)).alloc _).drew
    · exact (blk_new_at _ _ _ _ (by simp)).drew
  · go_wp2_with fail
    go_ret2
    rw [HZ.out]
    refine ⟨_, _, rfl, new_dev w _ (w.heap.size + 1 + 1) (w.heap.size + 1) w.heap.size n h0 h1 ?_ ?_ ?_ (by omega) (by omega), ((((Below.refl _ _).alloc (Nat.le_refl _) _).alloc (by simp) _).alloc (by simp; omega) _).drew⟩
    · exact ((blk_new_at _ _ _ _ (by simp)).alloc _).drew
    · exact (((Blk.new _ _ _).alloc _).alloc _).drew
    · exact (blk_new_at _ _ _ _ (by simp)).drew
end Go.Proofs.YtdmbmkjiffhbcaaGreat

namespace Go.Proofs.YtdmbmkjiffhbcaaGreat
open Go.RowKit
set_option maxRecDepth 100000

theorem barrier_nil (w : World) : Calls Tryz.prog 58 #[.pointer none] w fun e w' => e = .returned (.int .i64 6) ∧ w = w' := by
  go_enter Tryz.func58, Tryz.ntmps58
  go_wp2_with fail
  refine (off_nil _).mono ?_
  rintro e w' ⟨rfl, rfl⟩
  go_wp2
  go_ret
  exact ⟨rfl, rfl⟩

theorem change_ok {D : Dev} (h : ¬ D.change.2 ≠ 0) : D.change = ({ D with changes := D.changes + 1, left := if 0 < D.left then D.left - 1 else D.left }, 0) := by
  unfold Dev.change at h ⊢
  by_cases h0 : D.left = 0
  · rw [if_pos h0] at h; simp at h
  · rw [if_neg h0]
theorem change_two (D : Dev) : D.change.2 = 0 ∨ D.change.2 = 6 := by
  unfold Dev.change
  split
  · exact .inr rfl
  · exact .inl rfl

set_option maxHeartbeats 1000000 in
theorem barrier_any (base : Nat) (F : Nat → Prop) (g : Nat) (D : Dev) (w : World) (h : DevAt w base F g D) (hc : D.changes ≤ 1099511627776) (hl : D.loose.length ≤ 1099511627776) :
    Calls Tryz.prog 58 #[.pointer (some ⟨g, 0, none⟩)] w fun e w' => e = .returned (.int .i64 D.barrier.2) ∧ DevAt w' base F g D.barrier.1 ∧ Fr F F w w' := by
  have H := Lib.hid h
  clear h
  cases hoff : D.off with
  | true =>
    have hbar : D.barrier = (D, 6) := by unfold Dev.barrier; rw [hoff]; rfl
    have Hbar := Lib.hid hbar
    have Hoff := Lib.hid hoff
    clear hbar hoff
    go_enter Tryz.func58, Tryz.ntmps58
    go_wp2_with fail
    refine (off_any _ _ _ D _ H.out).mono ?_
    rintro e w' ⟨rfl, rfl⟩
    rw [Hoff.out]
    go_wp2
    go_ret
    rw [Hbar.out]
    exact ⟨rfl, H.out, Fr.refl _ _⟩
  | false =>
    have Hoff := Lib.hid hoff
    clear hoff
    by_cases hch : D.change.2 ≠ 0
    · have h6 : D.change.2 = 6 := (change_two D).resolve_left hch
      have hbar : D.barrier = D.change := by unfold Dev.barrier; rw [Hoff.out, if_pos hch]; rfl
      have Hbar := Lib.hid hbar
      have H6 := Lib.hid h6
      clear hbar hch h6
      go_enter Tryz.func58, Tryz.ntmps58
      go_wp2_with fail
      refine (off_any _ _ _ D _ H.out).mono ?_
      rintro e w' ⟨rfl, rfl⟩
      rw [Hoff.out]
      go_wp2_with fail
      refine (change_any _ _ _ D _ H.out hc hl).mono ?_
      rintro e w1 ⟨rfl, hdev, hfr⟩
      rw [H6.out]
      go_wp2
      go_ret
      rw [Hbar.out]
      exact ⟨by rw [H6.out]; rfl, hdev, hfr⟩
    · obtain ⟨D1, hD1⟩ : ∃ D1, D1 = D.change.1 := ⟨_, rfl⟩
      have hok := change_ok hch
      have hbar : D.barrier = ({ D1 with sure := applyW D1.sure D1.loose, loose := [] }, 0) := by unfold Dev.barrier; rw [Hoff.out, if_neg hch, hD1]; rfl
      have h0 : D.change.2 = 0 := by rw [hok]
      have hlo : D1.loose = D.loose := by rw [hD1, hok]
      have hl1 : D1.loose.length ≤ 1099511627776 := by rw [hlo]; exact hl
      have Hbar := Lib.hid hbar
      have H0 := Lib.hid h0
      have HD1 := Lib.hid hD1
      clear hbar hch h0 hD1 hok hlo
      go_enter Tryz.func58, Tryz.ntmps58
      go_wp2_with fail
      refine (off_any _ _ _ D _ H.out).mono ?_
      rintro e w' ⟨rfl, rfl⟩
      rw [Hoff.out]
      go_wp2_with fail
      refine (change_any _ _ _ D _ H.out hc hl).mono ?_
      rintro e w2 ⟨rfl, hdev, hfr1⟩
      rw [H0.out]
      rw [← HD1.out] at hdev
      obtain ⟨gs, gl, vl, vp, n, hin, hn⟩ := hdev
      obtain ⟨hc0, hc1, hc2, hc3, hc4, hc5⟩ := hin.cells
      obtain ⟨A, cl, rfl, hcl, hcm, _⟩ := hin.loose.form
      have hgs : g ≠ gs := hin.blk.ne_ hin.sure (by decide)
      have hls : gl ≠ gs := fun e => hin.ne e.symm
      have Hin := Lib.hid hin
      have Hfr1 := Lib.hid hfr1
      unfold maxLen at hcm
      clear hin hfr1
      go_wp2_with fail
      go_loopw [18] (fun i wr => ∃ m : Nat, m ≤ D1.loose.length ∧ i = .int .i64 (m : Int) ∧ Blk wr gs 83 (many secC (applyW D1.sure (D1.loose.take m))).toArray ∧ Fr (· = gs) (· = gs) w2 wr) (fun i _ => D1.loose.length - (intOf i).toNat)
      case atStart => exact ⟨0, by omega, rfl, Hin.out.sure, Fr.refl _ _⟩
      case round =>
        obtain ⟨m, hm, rfl, hblk, hfr⟩ := hrel
        by_cases hlt : m < D1.loose.length
        · obtain ⟨gw, cap, cur, hv, hbw, hblkw, hcap, hrange⟩ := wr_range Hin.out.loose Hin.out.wrs m hlt
          cases hv
          have hwS : gw ≠ gs := hblkw.ne_ Hin.out.sure (by decide)
          have hwl := Hin.out.wrs _ (List.getElem_mem hlt)
          have hd0 := hfr.cell hc0 hgs
          have hrg' := hfr.range hrange hblkw.lt hwS
          have hz := zero_wr
          have Hrg' := Lib.hid hrg'
          have Hwl := Lib.hid hwl
          have Hblkm := Lib.hid hblk
          have Hfrm := Lib.hid hfr
          clear hrange hrg' hwl hblkw hblk hfr
          go_upto_region 9 with (first
            | (with_reducible refine wpList_load_mid (op := ⟨some 21, _, _, _, _, _⟩) rfl _ _ rfl gw (m * 257) rfl (wrC D1.loose[m]) _ Hrg'.out Tryz.underlying85 rfl (by rw [size_wr, Hwl.out]) ?_)
            | (with_reducible refine wpList_store_new rfl _ _ _ rfl _ (wrC D1.loose[m]).toArray rfl rfl (by rw [size_wr]; simp [Hwl.out]) (by rw [zeroWr_size]; simp [Hwl.out]) (all_oneCell_toArray (wrC_oneCell _)) ?_))
          obtain ⟨wa, hwa⟩ : ∃ x, x = wr.alloc (.cells (wrC D1.loose[m]).toArray 85) := ⟨_, rfl⟩
          have hfa : Fr (· = gs) (· = gs) wr wa := by rw [hwa]; exact (Fr.refl _ _).alloc _
          have hblkA : Blk wa wr.heap.size 85 (wrC D1.loose[m]).toArray := by rw [hwa]; exact Blk.new _ _ _
          have hblks : Blk wa gs 83 (many secC (applyW D1.sure (D1.loose.take m))).toArray := by rw [hwa]; exact Hblkm.out.alloc _
          have hca0 := hfa.cell hd0 hgs
          have hca2 : wa.cell? ⟨wr.heap.size, 0, none⟩ = some (.int .i64 (D1.loose[m].1 : Int)) := by rw [hblkA.cell]; rfl
          obtain ⟨hat, hdl⟩ := Hin.out.wf.loose _ (List.getElem_mem hlt)
          have hatL : D1.loose[m].1 < (applyW D1.sure (D1.loose.take m)).length := by rw [applyW_length]; exact hat
          have hatn : (D1.loose[m].1 : Int) < (n : Int) := by have := Hin.out.len; omega
          have hsl : ∀ x ∈ applyW D1.sure (D1.loose.take m), (secC x).length = 256 := fun x hx => by
            unfold secC
            rw [List.length_map]
            exact applyW_wf _ _ Hin.out.wf.sure (fun y hy => (Hin.out.wf.loose y (List.mem_of_mem_take hy)).2) x hx
          have hrs : wa.rangeAt wr.heap.size 1 (secC D1.loose[m].2) := hblkA.range 1 _ (by unfold wrC secC; rw [List.drop_succ_cons, List.drop_zero, List.take_length])
          have hth : wa.there gs (D1.loose[m].1 * 256) 256 := hblks.there _ _ (many_fits secC 256 _ hsl _ hatL)
          have hcl2 : (secC D1.loose[m].2).length = 256 := by unfold secC; rw [List.length_map, hdl]
          have hspl := many_splice secC 256 _ hsl _ hatL D1.loose[m].2 (secC D1.loose[m].2) (by omega) (by
            rw [List.drop_eq_nil_of_le (by rw [hsl _ (List.getElem_mem hatL), hcl2]; exact Nat.le_refl _), List.append_nil])
          rw [← applyW_take _ _ m hlt] at hspl
          have hst := Blk.setCells (secC D1.loose[m].2) (D1.loose[m].1 * 256) wa.drew _ hblks.drew (by rw [hcl2]; exact many_fits secC 256 _ hsl _ hatL)
          rw [hspl] at hst
          obtain ⟨cs, hcs⟩ : ∃ cs, cs = secC D1.loose[m].2 := ⟨_, rfl⟩
          rw [← hcs] at hrs hcl2 hst
          have hth : wa.there gs (D1.loose[m].1 * 256) cs.length := by rw [hcl2]; exact hth
          have h1c : ∀ v ∈ cs, v.oneCell' = true := by rw [hcs]; exact secC_oneCell _
          have hi : (Tryz.prog.info? 83).map (·.size) = some cs.length := by rw [size_sec, hcl2]
          have hu := Tryz.underlying83
          have Hst := Lib.hid hst
          have Hcl := Lib.hid hcl2
          have Hfra := Lib.hid (Hfrm.out.trans hfa)
          have Hrs := Lib.hid hrs
          have hwrl : wr.heap.size ≠ gs := by have := Hblkm.out.lt; omega
          rw [← hwa]
          clear hspl hst hrs hcl2 hsl hatL hat hdl hcs hblkA hblks hfa hwa hd0
          have hfrx : Fr (· = gs) (· = gs) wa (wa.drew.setCells gs (D1.loose[m].1 * 256) cs) := Fr.setCells (F' := (· = gs)) ((Fr.refl (· = gs) wa).drew) rfl _ _
          have hk0 := hfrx.cell hca0 hgs
          have hk2 := hfrx.cell hca2 hwrl
          have hk3 := World.rangeAt_setCells_apart (w := wa.drew) Hrs.out gs (D1.loose[m].1 * 256) cs (.inl hwrl)
          have hk4 := World.there_setCells (w := wa.drew) hth gs (D1.loose[m].1 * 256) cs
          have Hk0 := Lib.hid hk0
          have Hk2 := Lib.hid hk2
          have Hk3 := Lib.hid hk3
          have Hk4 := Lib.hid hk4
          have Hfrx := Lib.hid hfrx
          clear hk0 hk2 hk3 hk4 hfrx
          go_region_held3 (fun u => u.cell? ⟨g, 0, none⟩ = some (.slice (some ⟨gs, 0, none⟩) n n) ∧ u.cell? ⟨wr.heap.size, 0, none⟩ = some (.int .i64 (D1.loose[m].1 : Int)) ∧ u.rangeAt wr.heap.size 1 cs ∧ u.there gs (D1.loose[m].1 * 256) cs.length)
            (first | exact ⟨hca0, hca2, Hrs.out, hth⟩ | exact ⟨Hk0.out, Hk2.out, Hk3.out, Hk4.out⟩ | assumption)
            (fail)
          all_goals obtain ⟨we, hwe⟩ : ∃ x, x = wa.drew.setCells gs (D1.loose[m].1 * 256) cs := ⟨_, rfl⟩
          all_goals rw [← hwe] at Hst Hfrx ⊢
          all_goals clear hwe
          all_goals go_wp2_with fail
          all_goals go_roundw
          case rel => exact ⟨m + 1, by omega, by go_num, Hst.out, Hfra.out.trans Hfrx.out⟩
          case measure => simp [intOf]; omega
        · obtain rfl : m = D1.loose.length := by omega
          rw [List.take_length] at hblk
          obtain ⟨wd, rfl⟩ : ∃ x, x = wr := ⟨wr, rfl⟩
          have hblkg := (hfr.blk Hin.out.blk hgs).2
          have hblkl := (hfr.blk Hin.out.last hls).2
          have hsz := hfr.size
          have hfrw : Fr F F w2 wd := hfr.less (fun k (hk : k = gs) => hk ▸ Hin.out.fs)
          have hd0 := hblkg.cell 2
          have hf0 := hblkg.frozen 2
          simp at hd0
          have Hblk := Lib.hid hblk
          have Hblkg := Lib.hid hblkg
          have Hblkl := Lib.hid hblkl
          have Hfrw := Lib.hid hfrw
          have Hplan := Lib.hid (show PlanAt wd base F vp D1.left D1.choice from Hin.out.plan.types fun k t cs hb ht => (hfr.block k hb.lt (fun (e : k = gs) => by subst e; exact hb.ne_ Hin.out.sure (by rcases ht with rfl | rfl <;> decide) rfl)).2)
          clear hblk hblkg hblkl hfrw hfr
          go_wp2
          go_ret
          rw [Hbar.out]
          have hgl : g ≠ gl := Hin.out.blk.ne_ Hin.out.last (by decide)
          refine ⟨rfl, ⟨gs, gl, .slice none 0 0, vp, n, ⟨?_, Hblk.out.far (fun e => hgs e.symm) _, Hblkl.out.far (fun e => hgl e.symm) _, Hin.out.ne, OwnK.nil _ _ _ _, ?_, Hin.out.fg, Hin.out.fs, Hin.out.fl, fun k hk => (by cases hk), fun k hk => ?_, ?_, ⟨?_, fun _ h => (by cases h), Hin.out.wf.left⟩⟩, hn⟩, Hfr1.out.trans (Hfrw.out.setCell Hin.out.fg _)⟩
          · simpa using Hblkg.out.set_ 2 (.slice none 0 0)
          · exact Hplan.out.types fun k t cs hb ht => Below.heap_setCell _ _ _ _ (fun (e : k = g) => by subst e; exact hb.ne_ Hblkg.out (by rcases ht with rfl | rfl <;> decide) rfl)
          · have := Hin.out.low k hk
            refine ⟨this.1, ?_⟩
            have : (wd.setCell ⟨g, 2, none⟩ (.slice none 0 0)).heap.size = wd.heap.size := by simp [World.setCell]
            omega
          · show (applyW D1.sure D1.loose).length = n
            rw [applyW_length]; exact Hin.out.len
          · exact applyW_wf _ _ Hin.out.wf.sure (fun x hx => (Hin.out.wf.loose x hx).2)
end Go.Proofs.YtdmbmkjiffhbcaaGreat

namespace Go.Proofs.YtdmbmkjiffhbcaaGreat
open Go.RowKit
set_option maxRecDepth 100000

section
variable {P : Program} {w : World}
theorem run_copy_str (dT sT ty elem : TypeId) (g o dLen dCap : Nat) (l : List UInt8) (cur : List Value) (t : TypeId)
    (hu : P.underlying dT = some (.slice elem)) (hs : (P.info? elem).map (·.size) = some 1) (hg : Blk w g t cur.toArray) (hfit : o + (l.take dLen).length ≤ cur.length) :
    (Builtin.copy_ #[dT, sT] ty #[.slice (some ⟨g, o, none⟩) dLen dCap, str l]).run P w = .ok (goInt ((l.take dLen).length : Nat)) (w.setRow g (splice cur o ((l.take dLen).map u8)).toArray) := by
  have hst := run_storeCells_at P g o t ((l.take dLen).map u8) 0 cur.toArray w hg (by rw [List.length_map]; simpa using hfit) (u8_oneCell _)
  have hlen : (⟨l.toArray⟩ : ByteArray).size = l.length := by simp [ByteArray.size]
  have htk : List.take (Nat.min l.length dLen) (List.map (fun b : UInt8 => Value.int IntKind.u8 (b.toNat : Int)) l) = (l.take dLen).map u8 := by
    rw [List.map_take]
    show List.take (min l.length dLen) (l.map u8) = _
    rcases Nat.le_total l.length dLen with h | h
    · rw [Nat.min_eq_left h, List.take_of_length_le (by simp), List.take_of_length_le (by simpa using h)]
    · rw [Nat.min_eq_right h]
  rw [List.length_map] at hst
  simp only [Nat.add_zero] at hst
  cases hq : P.info? elem with
  | none => simp [hq] at hs
  | some i =>
    simp [Builtin.copy_, run_underlying hu, Builtin.lenOf, Builtin.firstCells, sizeOf, typeInfo, hq, hlen]
    rw [htk, hst]
    simp [Result.andThen, splice, Nat.min_comm]
theorem wpList_copy_str {ops : Array Oper} {o : Oper} {a : Act} {rest : List Oper} {Q : Exit → Act → World → Prop} (hgd : o.guard = none) (d s : Operand) (dT sT : TypeId)
    (ho : o.op = .call { callee := .builtin .copy, args := #[d, s], argTypes := #[dT, sT] }) (elem : TypeId) (hu : P.underlying dT = some (.slice elem)) (hsz : (P.info? elem).map (·.size) = some 1)
    (g off dLen dCap : Nat) (l : List UInt8) (hd : a.eval d = .slice (some ⟨g, off, none⟩) dLen dCap) (hs : a.eval s = str l)
    (cur : List Value) (t : TypeId) (hg : Blk w g t cur.toArray) (hfit : off + (l.take dLen).length ≤ cur.length)
    (h : ∀ w', Blk w' g t (splice cur off ((l.take dLen).map u8)).toArray → Fr (· = g) (· = g) w w' → wpList P ops Q rest (a.put o.dst (goInt ((l.take dLen).length : Nat))) w') : wpList P ops Q (o :: rest) a w :=
  wpList_plain hgd fun _ hK => by
    have hrun := run_copy_str (P := P) dT sT o.type elem g off dLen dCap l cur t hu hsz hg hfit
    unfold Oper.wp
    simp [execOp, ho, resolve, invoke, builtin, hd, hs, hrun, Result.andThen]
    refine hK _ _ ?_
    have := h _ (show _ = _ by simpa using setRow_heap w g _ _ t _ hg) (Fr.setRow _ _ _)
    simpa using this
end
theorem run_bytes256 (u : World) : (Instr.makeSlice 47 (.int .i64 256) (.int .i64 256)).run Tryz.prog u = .ok (.slice (some ⟨u.heap.size, 0, none⟩) 256 256) (u.alloc (.cells (Array.replicate 256 (.int .u8 0)) 5)) := by
  have hr := run_make_row' (P := Tryz.prog) 47 5 (.int .u8 0) 1 Tryz.underlying47 info_byte rfl .i64 .i64 256 (by omega) (by omega) u
  rw [show (#[Value.int .u8 0] : Array Value) = Array.replicate 1 (.int .u8 0) from rfl, madeCells_rep _ 1 _ (by decide)] at hr
  exact hr

theorem Blk.setBytes {w : World} {g : Nat} {t : TypeId} {l : List UInt8} (h : Blk w g t (l.map u8).toArray) (k : Nat) (x : UInt8) : Blk (w.setCell ⟨g, k, none⟩ (u8 x)) g t ((l.set k x).map u8).toArray := by
  have := h.set_ k (u8 x)
  rwa [List.setIfInBounds_toArray, ← List.map_set] at this

theorem zeros_u8 (c : UInt8) (n : Nat) : ((List.replicate 0 c ++ List.replicate n (0 : UInt8)).map u8).toArray = Array.replicate n (.int .u8 0) := by
  rw [List.replicate_zero, List.nil_append, List.map_replicate]
  simp [u8]

theorem conv_is {w : World} {ok : Nat → Prop} {A : Option Addr} {n c : Nat} {l : List UInt8} (h : IsB w ok (.slice A n c) l) : (convert 47 9 (.slice A n c)).run Tryz.prog w = .ok (str l) w := by
  obtain ⟨A', c', e, _, _, hr⟩ := h
  cases e
  exact run_bytes_str 47 9 5 Tryz.underlying47 Tryz.underlying5 Tryz.underlying9 hr

end Go.Proofs.YtdmbmkjiffhbcaaGreat

namespace Go.Proofs.YtdmbmkjiffhbcaaGreat
open Go.RowKit
set_option maxRecDepth 100000

theorem DevAt.size {w : World} {base : Nat} {F : Nat → Prop} {g : Nat} {D : Dev} (h : DevAt w base F g D) : base ≤ w.heap.size := by
  obtain ⟨gs, gl, vl, vp, m, hin, _⟩ := h
  have := hin.low _ hin.fg
  omega
theorem DevAt.base_le {w : World} {base : Nat} {F : Nat → Prop} {g : Nat} {D : Dev} (h : DevAt w base F g D) : base ≤ g ∧ F g := by
  obtain ⟨gs, gl, vl, vp, m, hin, _⟩ := h
  exact ⟨(hin.low _ hin.fg).1, hin.fg⟩
/-- What a call of the device leaves, below. -/
theorem below_dev {w u w' : World} {base B : Nat} {F F' : Nat → Prop} {g : Nat} {D : Dev} (hb : Below B w u) (hd : DevAt u base F g D) (hB : B ≤ base) (hf : Fr F F' u w') : Below B w w' :=
  hb.trans (hf.below (fun k hk => Nat.le_trans hB (hd.low k hk).1) (Nat.le_trans hB hd.size))
theorem u8_nat (k : Nat) (h : k < 256) : u8 (UInt8.ofNat k) = .int .u8 (k : Int) := by
  unfold u8
  congr 1
  simp
  omega
theorem DevAt.left_le {w : World} {base : Nat} {F : Nat → Prop} {g : Nat} {D : Dev} (h : DevAt w base F g D) : D.left ≤ 9223372036854775807 := by
  obtain ⟨gs, gl, vl, vp, m, hin, _⟩ := h
  rcases hin.plan with ⟨h, _⟩ | ⟨_, h, _⟩ <;> omega
theorem Fr.then_below {F F' : Nat → Prop} {w w1 w' : World} (h : Fr F F' w w1) (hb : Below w.heap.size w1 w') : Fr F F' w w' :=
  ⟨hb.os.trans h.os, hb.tape.trans h.tape, hb.output.trans h.output, Nat.le_trans h.size hb.size, fun k hk hF => ⟨(h.block k hk hF).1, (hb.block k hk).trans (h.block k hk hF).2⟩⟩
end Go.Proofs.YtdmbmkjiffhbcaaGreat

namespace Go.Proofs.YtdmbmkjiffhbcaaGreat
open Go.RowKit
set_option maxRecDepth 100000

theorem run_strs (n : Nat) (h : n ≤ 1099511627776) (u : World) : (Instr.makeSlice 101 (.int .i64 (n : Int)) (.int .i64 (n : Int))).run Tryz.prog u = .ok (.slice (some ⟨u.heap.size, 0, none⟩) n n) (u.alloc (.cells (Array.replicate n (str [])) 9)) := by
  have hr := run_make_row' (P := Tryz.prog) 101 9 (.string ⟨#[]⟩) 16 Tryz.underlying101 (by kernel_rfl) rfl .i64 .i64 n (by omega) (by omega) u
  rw [show (#[Value.string ⟨#[]⟩] : Array Value) = Array.replicate 1 (.string ⟨#[]⟩) from rfl, madeCells_rep _ 1 _ (by decide)] at hr
  exact hr
def zeroTxt : List UInt8 := List.replicate 256 0
/-- make([]byte, 256), and its text. -/
theorem conv_zeros (u : World) : (convert 47 9 (.slice (some ⟨u.heap.size, 0, none⟩) 256 256)).run Tryz.prog (u.alloc (.cells (Array.replicate 256 (.int .u8 0)) 5)) = .ok (str zeroTxt) (u.alloc (.cells (Array.replicate 256 (.int .u8 0)) 5)) := by
  have hl : zeroTxt.length = 256 := by unfold zeroTxt; simp
  refine conv_is (ok := fun _ => True) ⟨some ⟨u.heap.size, 0, none⟩, 256, by rw [hl], by rw [hl]; omega, by unfold maxLen; omega, ?_⟩
  have := (Blk.new u 5 (Array.replicate 256 (.int .u8 0))).rd (fun _ => True) trivial
  rw [show zeroTxt.map u8 = (Array.replicate 256 (Value.int .u8 0)).toList by unfold zeroTxt; rw [List.map_replicate]; simp [u8]]
  exact this
theorem Blk.setStr {w : World} {g : Nat} {t : TypeId} {L : List (List UInt8)} (h : Blk w g t (L.map str).toArray) (k : Nat) (x : List UInt8) : Blk (w.setCell ⟨g, k, none⟩ (str x)) g t ((L.set k x).map str).toArray := by
  have := h.set_ k (str x)
  rwa [List.setIfInBounds_toArray, ← List.map_set] at this

/-- No power is cut. -/
structure PlainDev (n : Nat) (D : Dev) : Prop where
  off : D.off = false
  left : D.left = -1
  len : D.sure.length = n
theorem plain_new (n : Nat) : PlainDev n (newD n) := ⟨rfl, rfl, List.length_replicate⟩
theorem plain_change {n : Nat} {D : Dev} (h : PlainDev n D) : D.change = ({ D with changes := D.changes + 1 }, 0) := by
  unfold Dev.change
  rw [if_neg (by rw [h.left]; decide), if_neg (by rw [h.left]; decide)]
theorem plain_put {n : Nat} {D : Dev} (h : PlainDev n D) (k : Nat) (b : List UInt8) (hk : k < n) (hb : b.length = 256) : D.put (k : Int) b = ({ D with loose := D.loose ++ [(k, b)], changes := D.changes + 1 }, 0) := by
  unfold Dev.put Dev.why
  rw [h.off, h.len]
  simp [hb]
  rw [if_neg (by omega)]
  have := plain_change (n := n) (D := { D with loose := D.loose ++ [(k, b)] }) ⟨h.off, h.left, h.len⟩
  rw [h.off] at this
  exact this
theorem plain_barrier {n : Nat} {D : Dev} (h : PlainDev n D) : D.barrier = ({ D with sure := applyW D.sure D.loose, loose := [], changes := D.changes + 1 }, 0) := by
  unfold Dev.barrier
  rw [if_neg (by rw [h.off]; decide), plain_change h]
  rfl
theorem mod_idx (a : Int) (k : Nat) (h : 0 < k) (hk : k ≤ 1099511627776) : ∃ j : Nat, j < k ∧ wrap64 ((IntKind.u64.wrap a).tmod (k : Int)) = (j : Int) := by
  have h0 : 0 ≤ IntKind.u64.wrap a := by simp only [IntKind.wrap_u64]; exact Int.emod_nonneg _ (by decide)
  have h1 : 0 ≤ IntKind.u64.wrap a % (k : Int) := Int.emod_nonneg _ (by omega)
  have h2 : IntKind.u64.wrap a % (k : Int) < (k : Int) := Int.emod_lt_of_pos _ (by omega)
  rw [Int.tmod_eq_emod_of_nonneg h0]
  obtain ⟨m, hm⟩ := Int.eq_ofNat_of_zero_le h1
  exact ⟨m, by omega, by rw [hm]; unfold wrap64; omega⟩
theorem cut_text (s : List UInt8) : (⟨s.toArray⟩ : ByteArray).extract 0 (min (s.length : Int) 256).toNat = ⟨(s.take 256).toArray⟩ := by
  have : (min (s.length : Int) 256).toNat = min s.length 256 := by omega
  rw [this]
  apply ByteArray.ext
  rw [ByteArray.data_extract]
  apply Array.ext'
  rw [Array.toList_extract]
  simp [Nat.min_comm]
end Go.Proofs.YtdmbmkjiffhbcaaGreat
