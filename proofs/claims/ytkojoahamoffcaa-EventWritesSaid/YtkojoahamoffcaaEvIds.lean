/-
  writeID.
  WriteIDs.
  readNumber, readID.
  readID.
  Cells stored into the midst of a block that is known whole; fields that Unpack answers.
  ReadIDs.
-/
import Derived.Test.YtkojoahamoffcaaEvPlace
import Derived.Test.YtkojoahamoffcaaEvAlg
import Derived.Test.YtkojoahamoffcaaNum
import Derived.Test.YtkojoahamoffcaaSpReads
import Derived.Test.YtkojoahamoffcaaAppFull
import Derived.Test.YtkojoahamoffcaaRegions
import Derived.Test.YtkojoahamoffcaaPack
import Derived.Deep.OwnRows
import Derived.Test.YtkojoahamoffcaaFieldsAll
import Derived.Deep.MidRow
namespace Go.Proofs.Ytkojoahamoffcaa
open Go.RowKit
set_option maxRecDepth 100000

/-- Something good in a slot: what writeID leaves there. -/
def widG (B g : Nat) (r : Int) (s : Nat) (t : Nat) (v : Value) (x : World) : Prop :=
  match t with
  | 6 => v = .pointer (some ⟨g, 0, none⟩)
  | 7 => v = .int .i64 r
  | 8 => v = .int .u8 (r % 256)
  | 9 => ∃ A, v = .slice A 1 1 ∧ Rd x (fun q => B ≤ q) A [.int .u8 (r % 256)]
  | 10 => v = .pointer (some ⟨g, 1, none⟩)
  | 11 => v = .int .u32 (s : Int)
  | 12 => v = .int .u64 (s : Int)
  | 13 => IsB x (fun q => B ≤ q) v (numB s)
  | 14 => IsB x (fun q => B ≤ q) v (UInt8.ofNat (r % 256).toNat :: numB s)
  | 2 => IsB x (fun q => B ≤ q) v (UInt8.ofNat (r % 256).toNat :: numB s)
  | _ => True
theorem many10 {i n : Nat} (h : i < n) (hn : n = 10) : i = 0 ∨ i = 1 ∨ i = 2 ∨ i = 3 ∨ i = 4 ∨ i = 5 ∨ i = 6 ∨ i = 7 ∨ i = 8 ∨ i = 9 := by omega

set_option maxHeartbeats 1000000 in
theorem wid_any (r : Int) (s : Nat) (hs : s < 4294967296) (w : World) :
    Calls Try.prog 30 #[.agg (idC r s)] w fun e w' => ∃ v, e = .returned v ∧ IsB w' (fun k => w.heap.size ≤ k) v (idB r s) ∧ Below w.heap.size w w' := by
  obtain ⟨h1, hbel⟩ := ev_box (idC r s) 24 w
  obtain ⟨W, hW⟩ : ∃ W, W = (w.alloc (.cells (idC r s) 24)) := ⟨_, rfl⟩
  rw [← hW] at h1 hbel
  have hr0 : W.rangeAt w.heap.size 0 (idC r s).toList := h1.range _ _ fun j v hv => by rw [Nat.zero_add, ← Array.getElem?_toList]; exact hv
  have R0 := Lib.hid (range_exts hr0)
  have q0 := fun w => idzero_run r s w
  obtain ⟨z, hz⟩ : ∃ z, z = zeroI r s := ⟨_, rfl⟩
  have hidb : idB r s = if z = true then [] else UInt8.ofNat (r % 256).toNat :: numB s := by rw [hz]; rfl
  rw [hidb]
  simp only [← hz] at q0
  have H1 := Lib.hid h1
  have HW := Lib.hid hW
  have Hbel := Lib.hid hbel
  clear hz h1 hW hbel hr0 hidb
  cases z with
  | true =>
    go_enter Try.func30, Try.ntmps30
    go_upto_region 1 with fail
    rw [← HW.out]
    refine wp_plain_grow ?_
    repeat (first | (go_big_quiet_want; refine quiet_mid 24 (.tmp 1) rfl w.heap.size 0 rfl _ _ R0.out Try.underlying24 rfl id_info ?_; go_simp; go_big_quiet_on) | go_big_quiet_step (fail) | quiet_step (fail))
    refine wpQuiet_nil ?_
    rintro w6 ⟨⟨_, hb6⟩, rfl⟩
    go_wp2_with fail
    go_ret
    exact ⟨_, rfl, IsB.none_, below_call Hbel.out hb6⟩
  | false =>
    go_enter Try.func30, Try.ntmps30
    go_upto_region 1 with fail
    rw [← HW.out]
    refine wp_plain_grow ?_
    repeat (first | (go_big_quiet_want; refine quiet_mid 24 (.tmp 1) rfl w.heap.size 0 rfl _ _ R0.out Try.underlying24 rfl id_info ?_; go_simp; go_big_quiet_on) | go_big_quiet_step (fail) | quiet_step (fail))
    refine wpQuiet_nil ?_
    rintro w6 ⟨⟨_, hb6⟩, rfl⟩
    have H6 := Lib.hid (H1.out.grow hb6)
    have hb06 := below_call Hbel.out hb6
    go_upto_region 3 with fail
    refine wp_region_good (widG w.heap.size w.heap.size r s) 15 (by kernel_rfl) (by kernel_rfl) (by kernel_rfl) (by kernel_rfl) rfl ?_ ?_ ?_
    · intro t v x x' h hb hb'
      unfold widG at *
      split at h <;> first | exact h | (exact h.grow hb') | (obtain ⟨A, rfl, h⟩ := h; exact ⟨A, rfl, h.grow hb'⟩)
    · intro i o hi a x hbx hsame hpre K hK
      have hlt := (Array.getElem?_eq_some_iff.1 hi).1
      rcases many10 hlt rfl with rfl | rfl | rfl | rfl | rfl | rfl | rfl | rfl | rfl | rfl
      all_goals (have ho := Option.some.inj hi; subst ho; clear hi hlt)
      · have hk : ∀ v x', widG w.heap.size w.heap.size r s 6 v x' → Below x.heap.size x x' → K (a.put (some 6) v) x' := hK
        have a1 : a.tmps[1]?.getD undef = .pointer (some ⟨w.heap.size, 0, none⟩) := hsame 1 (by decide +kernel)
        clear hsame hpre hK
        go_simp
        exact hk _ _ rfl (Below.refl _ _)
      · have hk : ∀ v x', widG w.heap.size w.heap.size r s 7 v x' → Below x.heap.size x x' → K (a.put (some 7) v) x' := hK
        have a6 : a.tmps[6]?.getD undef = .pointer (some ⟨w.heap.size, 0, none⟩) := hpre ⟨0, .data⟩ (by simp) rfl (by decide)
        clear hsame hpre hK
        have c0 : x.cell? ⟨w.heap.size, 0, none⟩ = some (.int .i64 r) := by rw [(H6.out.grow hbx).cell]; rfl
        go_simp
        exact hk _ _ rfl (Below.refl _ _)
      · have hk : ∀ v x', widG w.heap.size w.heap.size r s 8 v x' → Below x.heap.size x x' → K (a.put (some 8) v) x' := hK
        have a7 : a.tmps[7]?.getD undef = .int .i64 r := hpre ⟨1, .data⟩ (by simp) rfl (by decide)
        clear hsame hpre hK
        go_simp
        exact hk _ _ rfl (Below.refl _ _)
      · have hk : ∀ v x', widG w.heap.size w.heap.size r s 9 v x' → Below x.heap.size x x' → K (a.put (some 9) v) x' := hK
        have a8 : a.tmps[8]?.getD undef = .int .u8 (r % 256) := hpre ⟨2, .data⟩ (by simp) rfl (by decide)
        clear hsame hpre hK
        go_simp
        exact hk _ _ ⟨_, rfl, (Blk.new x _ _).rd _ (Nat.le_trans hb06.size hbx.size)⟩ ((Below.refl _ _).alloc (Nat.le_refl _) _)
      · have hk : ∀ v x', widG w.heap.size w.heap.size r s 10 v x' → Below x.heap.size x x' → K (a.put (some 10) v) x' := hK
        have a1 : a.tmps[1]?.getD undef = .pointer (some ⟨w.heap.size, 0, none⟩) := hsame 1 (by decide +kernel)
        clear hsame hpre hK
        go_simp
        exact hk _ _ rfl (Below.refl _ _)
      · have hk : ∀ v x', widG w.heap.size w.heap.size r s 11 v x' → Below x.heap.size x x' → K (a.put (some 11) v) x' := hK
        have a10 : a.tmps[10]?.getD undef = .pointer (some ⟨w.heap.size, 1, none⟩) := hpre ⟨4, .data⟩ (by simp) rfl (by decide)
        clear hsame hpre hK
        have c0 : x.cell? ⟨w.heap.size, 1, none⟩ = some (.int .u32 (s : Int)) := by rw [(H6.out.grow hbx).cell]; rfl
        go_simp
        exact hk _ _ rfl (Below.refl _ _)
      · have hk : ∀ v x', widG w.heap.size w.heap.size r s 12 v x' → Below x.heap.size x x' → K (a.put (some 12) v) x' := hK
        have a11 : a.tmps[11]?.getD undef = .int .u32 (s : Int) := hpre ⟨5, .data⟩ (by simp) rfl (by decide)
        clear hsame hpre hK
        have hw : IntKind.u64.wrap (s : Int) = (s : Int) := by rw [IntKind.wrap_u64]; omega
        go_simp
        exact hk _ _ rfl (Below.refl _ _)
      · have hk : ∀ v x', widG w.heap.size w.heap.size r s 13 v x' → Below x.heap.size x x' → K (a.put (some 13) v) x' := hK
        have a12 : a.tmps[12]?.getD undef = .int .u64 (s : Int) := hpre ⟨6, .data⟩ (by simp) rfl (by decide)
        clear hsame hpre hK
        go_simp
        refine (num_any s (by omega) x).mono ?_
        rintro e x' ⟨v, rfl, hown, hb'⟩
        go_simp
        exact hk _ _ (hown.isB.weaken fun q hq => Nat.le_trans (Nat.le_trans hb06.size hbx.size) (hown.lt q hq).1) hb'
      · have hk : ∀ v x', widG w.heap.size w.heap.size r s 14 v x' → Below x.heap.size x x' → K (a.put (some 14) v) x' := hK
        have a9 : widG w.heap.size w.heap.size r s 9 (a.tmps[9]?.getD undef) x := hpre ⟨3, .data⟩ (by simp) rfl (by decide)
        have a13 : widG w.heap.size w.heap.size r s 13 (a.tmps[13]?.getD undef) x := hpre ⟨7, .data⟩ (by simp) rfl (by decide)
        clear hsame hpre hK
        obtain ⟨A9, e9, r9⟩ := a9
        obtain ⟨A3, c3, e3, l3, m3, r3⟩ := a13
        have hnl := numLen32 hs
        obtain ⟨A', c', x', hrun, hc1, hc2, hb', hr'⟩ := run_app_full_ (P := Try.prog) x (ty := 34) elemB (m := 1) (c := c3) rfl (List.length_map _) r9 r3 (u8_oneCell _) (by rw [numB_length]; omega) (by rw [numB_length]; omega)
        refine wp_append (.tmp 9) (.tmp 13) 34 rfl (by rw [eval_at e9, eval_at e3]; exact hrun) ?_
        refine hk _ _ ?_ hb'
        refine ⟨A', c', by rw [List.length_cons, Nat.add_comm 1], by rw [List.length_cons]; omega, hc2, ?_⟩
        have hB := Nat.le_trans hb06.size hbx.size
        refine (show Rd x' _ A' (List.map u8 (UInt8.ofNat (r % 256).toNat :: numB s)) from ?_)
        rw [List.map_cons, show u8 (UInt8.ofNat (r % 256).toNat) = .int .u8 (r % 256) by unfold Go.Proofs.Ytkojoahamoffcaa.u8; rw [UInt8.toNat_ofNat']; congr 1; omega]
        exact hr'.weaken fun q hq => by rcases hq with h | h <;> omega
      · have hk : ∀ v x', widG w.heap.size w.heap.size r s 2 v x' → Below x.heap.size x x' → K (a.put (some 2) v) x' := hK
        have a14 : widG w.heap.size w.heap.size r s 14 (a.tmps[14]?.getD undef) x := hpre ⟨8, .data⟩ (by simp) rfl (by decide)
        clear hsame hpre hK
        go_simp
        exact hk _ _ a14 (Below.refl _ _)
    · intro a x hbx hsame hG hsz hde
      have g2 : IsB x (fun q => w.heap.size ≤ q) (a.tmps[2]?.getD undef) (UInt8.ofNat (r % 256).toNat :: numB s) := hG 9 (by decide)
      obtain ⟨v2, h2⟩ : ∃ v, a.tmps[2]?.getD undef = v := ⟨_, rfl⟩
      rw [h2] at g2
      have hde' : a.defers = [] := hde
      have hbx' := hb06.trans (hbx.mono hb06.size)
      clear hsame hG hde
      go_wp2_with fail
      refine bodyPost_ret (v := v2) ((results_tmp rfl _ _ _).trans (by rw [Array.getD_eq_getD_getElem?, h2])) hde' ⟨v2, rfl, g2, hbx'⟩
end Go.Proofs.Ytkojoahamoffcaa

namespace Go.Proofs.Ytkojoahamoffcaa
open Go.RowKit
set_option maxRecDepth 100000

theorem made_rep (v : Value) (k n : Nat) (hk : 0 < k) : madeCells (Array.replicate k v) n = Array.replicate n v := by
  apply Array.ext_getElem?
  intro i
  unfold madeCells
  by_cases h : i < n
  · have : i % k < k := Nat.mod_lt _ hk
    simp [h, this]
  · simp [h]
theorem idsF_get {L : List (Int × Nat)} {k : Nat} (h : k < (idsF L).length) (h' : k < L.length) : (idsF L)[k] = idB L[k].1 L[k].2 := List.getElem_map _
theorem run_slices (n : Nat) (h : n ≤ 1099511627776) (u : World) : (Instr.makeSlice 57 (.int .i64 (n : Int)) (.int .i64 (n : Int))).run Try.prog u = .ok (.slice (some ⟨u.heap.size, 0, none⟩) n n) (u.alloc (.cells (Array.replicate n (.slice none 0 0)) 34)) := by
  have hr := run_make_row' (P := Try.prog) 57 34 (.slice none 0 0) 24 Try.underlying57 (by kernel_rfl) rfl .i64 .i64 n (by omega) (by omega) u
  rw [show (#[Value.slice none 0 0] : Array Value) = Array.replicate 1 (.slice none 0 0) from rfl, made_rep _ 1 _ (by decide)] at hr
  exact hr
/-- Slices of bytes one behind the other: the first k of them. -/
def Firsts (x : World) (ok : Nat → Prop) (cs : Array Value) (L : List (List UInt8)) (k : Nat) : Prop := cs.size = L.length ∧ ∀ j (hj : j < k) (hl : j < L.length) (hc : j < cs.size), IsB x ok cs[j] L[j]
theorem Firsts.frame {x y : World} {ok : Nat → Prop} {cs : Array Value} {L : List (List UInt8)} {k : Nat} (h : Firsts x ok cs L k) (hk : ∀ q, ok q → q < x.heap.size → y.heap[q]? = x.heap[q]?) : Firsts y ok cs L k := ⟨h.1, fun j hj hl hc => (h.2 j hj hl hc).frame hk⟩
theorem Firsts.set_ {x : World} {ok : Nat → Prop} {cs : Array Value} {L : List (List UInt8)} {k : Nat} (h : Firsts x ok cs L k) (hk : k < L.length) {v : Value} (hv : IsB x ok v L[k]) : Firsts x ok (cs.setIfInBounds k v) L (k + 1) := by
  refine ⟨by rw [Array.size_setIfInBounds]; exact h.1, fun j hj hl hc => ?_⟩
  rw [Array.getElem_setIfInBounds (by rw [Array.size_setIfInBounds] at hc; exact hc)]
  by_cases e : k = j
  · subst e
    rw [if_pos rfl]
    exact hv
  · rw [if_neg e]
    exact h.2 j (by omega) hl (by rw [Array.size_setIfInBounds] at hc; exact hc)
theorem Firsts.all {x : World} {ok : Nat → Prop} {g : Nat} {cs : Array Value} {L : List (List UInt8)} (h : Firsts x ok cs L L.length) (hb : Blk x g 34 cs) (hn : L.length ≤ maxLen) : IsBB x (fun q => q = g ∨ ok q) (.slice (some ⟨g, 0, none⟩) L.length L.length) L := by
  refine ⟨_, L.length, cs.toList, rfl, by rw [Array.length_toList]; exact h.1, Nat.le_refl _, hn, hb.rd _ (.inl rfl), fun i hi hc => ?_⟩
  rw [Array.getElem_toList]
  exact (h.2 i hi hi (by rw [Array.length_toList] at hc; exact hc)).weaken fun _ hq => .inr hq

set_option maxHeartbeats 4000000 in
theorem wids_any (ok : Nat → Prop) (v : Value) (L : List (Int × Nat)) (w : World) (hL : IsL kId w ok v L) (hn : L.length ≤ 65536) (hf : ∀ f ∈ idsF L, f.length ≤ 65535) :
    Calls Try.prog 31 #[v] w fun e w' => ∃ u, e = .returned u ∧ IsB w' (fun k => w.heap.size ≤ k) u (idsB L) ∧ Below w.heap.size w w' := by
  obtain ⟨A, c, rfl, hc1, hc2, hL⟩ := id_at hL
  have hm : maxLen ≤ 9223372036854775807 := by decide
  have hmk := run_slices L.length (by omega)
  have hlF : (idsF L).length = L.length := by unfold idsF; exact List.length_map _
  obtain ⟨n, hn0⟩ : ∃ n, n = L.length := ⟨_, rfl⟩
  obtain ⟨Y0, hY0⟩ : ∃ Y, Y = w.alloc (.cells (Array.replicate n (.slice none 0 0)) 34) := ⟨_, rfl⟩
  have hbY0 : Below w.heap.size w Y0 := by rw [hY0]; exact (Below.refl _ _).alloc (Nat.le_refl _) _
  have hB0 : Blk Y0 w.heap.size 34 (Array.replicate n (.slice none 0 0)) := by rw [hY0]; exact Blk.new _ _ _
  rw [← hn0] at hmk hc1 hlF ⊢
  have HY0 := Lib.hid hY0
  have Hf := Lib.hid hf
  have HlF := Lib.hid hlF
  have Hn := Lib.hid hn0
  have Hnle := Lib.hid hn
  clear hY0 hf hlF hn0 hn
  go_enter Try.func31, Try.ntmps31
  go_wp2_with fail
  rw [← HY0.out]
  clear hmk
  go_loopw [13] (fun i wr => ∃ (k : Nat) (cs : Array Value), k ≤ n ∧ i = .int .i64 (k : Int) ∧ Blk wr w.heap.size 34 cs ∧ Firsts wr (fun q => w.heap.size < q) cs (idsF L) k ∧ Below w.heap.size w wr) (fun i _ => n - (intOf i).toNat)
  case atStart => exact ⟨0, _, by omega, rfl, hB0, ⟨by rw [HlF.out]; exact Array.size_replicate, fun j hj => by omega⟩, hbY0⟩
  case round =>
    obtain ⟨k, cs, hk, rfl, hblk, hfs, hbw⟩ := hrel
    by_cases hlt : k < n
    · have hkl : k < L.length := by rw [← Hn.out]; exact hlt
      obtain ⟨g, off, rfl, _, hg, hel⟩ := hL (by intro e; subst e; simp at hkl)
      have r1 := range_ext (hel k hkl).1 hbw
      have hs2 := (hel k hkl).2.2
      have c0 : wr.cell? ⟨g, off + k * 2, none⟩ = some (.int .i64 L[k].1) := r1 0 _ rfl
      have c1 : wr.cell? ⟨g, off + k * 2 + 1, none⟩ = some (.int .u32 (L[k].2 : Int)) := r1 1 _ rfl
      obtain ⟨Y, hY⟩ : ∃ Y, Y = wr.alloc (.cells #[.int .i64 L[k].1, .int .u32 (L[k].2 : Int)] 24) := ⟨_, rfl⟩
      have hbY : Below wr.heap.size wr Y := by rw [hY]; exact (Below.refl _ _).alloc (Nat.le_refl _) _
      have hE : Blk Y wr.heap.size 24 (idC L[k].1 L[k].2) := by rw [hY]; exact Blk.new _ _ _
      have hEr : Y.rangeAt wr.heap.size 0 (idC L[k].1 L[k].2).toList := hE.range _ _ fun j v hv => by rw [Nat.zero_add, ← Array.getElem?_toList]; exact hv
      have R1 := Lib.hid hEr
      have HY := Lib.hid hY
      have Hblk := Lib.hid (hblk.grow hbY)
      have Hfs := Lib.hid (hfs.frame fun q _ hq => hbY.block q hq)
      have hbwY := below_call hbw hbY
      have hlt2 := hblk.lt
      clear hY hE hEr r1 hblk hfs hel hL
      go_upto_region 5 with fail
      rw [← HY.out]
      refine wp_region_lit ?_
      go_wp2_with (refine wpList_load_mid (op := ⟨some 20, _, _, _, _, _⟩) rfl 24 (.tmp 5) rfl wr.heap.size 0 rfl _ _ R1.out Try.underlying24 rfl id_info ?_)
      refine (wid_any L[k].1 L[k].2 hs2 Y).mono ?_
      rintro x w1 ⟨u, rfl, hu, hb1⟩
      have hcs := Hfs.out.1
      have hkF : k < (idsF L).length := by rw [HlF.out]; exact hlt
      have hkc : k < cs.size := by rw [hcs]; exact hkF
      have hblk1 := Hblk.out.grow hb1
      have cc : w1.cell? ⟨w.heap.size, k, none⟩ = some cs[k] := by rw [hblk1.cell, Array.getElem?_eq_getElem hkc]
      have cf : w1.frozen? ⟨w.heap.size, k, none⟩ = false := hblk1.frozen k
      have hsz := hbY.size
      have hu' : IsB w1 (fun q => w.heap.size < q) u ((idsF L)[k]'hkF) := by
        rw [idsF_get hkF hkl]
        exact hu.weaken fun q hq => by omega
      have hfs1 := (Hfs.out.frame (y := w1) fun q _ hq => hb1.block q hq).set_ hkF hu'
      have hfs2 := hfs1.frame (y := w1.setCell ⟨w.heap.size, k, none⟩ u) fun q hq _ => Below.heap_setCell w1 ⟨w.heap.size, k, none⟩ u q (by show q ≠ w.heap.size; omega)
      have hblk2 := hblk1.set_ k u
      have hb2 := (below_call hbwY hb1).setCell (p := ⟨w.heap.size, k, none⟩) (Nat.le_refl _) u
      have Hfs2 := Lib.hid hfs2
      have Hblk2 := Lib.hid hblk2
      have Hb2 := Lib.hid hb2
      obtain ⟨Au, cu, eu, _⟩ := hu
      have hone : u.oneCell' = true := by rw [eu]; rfl
      subst eu
      clear hfs1 hfs2 hblk1 hblk2 hu' hb2 hcs
      go_wp2_with fail
      go_roundw
      case rel => exact ⟨k + 1, _, by omega, by go_num, Hblk2.out, Hfs2.out, Hb2.out⟩
      case measure => simp [intOf]; omega
    · obtain rfl : k = n := by omega
      have hall : Firsts wr (fun q => w.heap.size < q) cs (idsF L) (idsF L).length := by rw [HlF.out]; exact hfs
      have hBB := hall.all hblk (by rw [HlF.out]; omega)
      rw [HlF.out] at hBB
      have HBB := Lib.hid hBB
      have hlen : (packB (idsF L)).length ≤ 1099511627776 := by
        have := packB_len (idsF L) 65535 Hf.out
        have := Hnle.out
        have := HlF.out
        have := Hn.out
        rw [HlF.out] at *
        omega
      clear hall hBB hfs hblk hL
      go_wp2_with fail
      refine (pack_any _ _ (idsF L) wr HBB.out hlen).mono ?_
      rintro x w1 ⟨hx, hb1⟩
      rw [if_pos Hf.out] at hx
      obtain ⟨u, rfl, hu⟩ := hx
      have hB := hbw.size
      have hu2 := hu.isB.weaken (ok' := fun k => w.heap.size ≤ k) fun q hq => Nat.le_trans hB (hu.lt q hq).1
      have Hu2 := Lib.hid hu2
      clear hu hu2
      go_wp2_with fail
      go_ret
      exact ⟨_, rfl, Hu2.out, below_call hbw hb1⟩
end Go.Proofs.Ytkojoahamoffcaa

namespace Go.Proofs.Ytkojoahamoffcaa
open Go.RowKit
set_option maxRecDepth 100000

theorem rdnum_any (ok : Nat → Prop) (v : Value) (f : List UInt8) (w : World) (hv : IsB w ok v f) :
    Calls Try.prog 63 #[v] w fun e w' => e = .returned (.tuple #[.int .i64 ((rdNum f).1 : Int), .bool (rdNum f).2]) ∧ w' = w := by
  obtain ⟨A, c, rfl, hc, hm, hr⟩ := hv
  have ha := asnum_any ok A c f w (by omega) hr
  unfold rdNum
  generalize asNumV f = R at ha ⊢
  obtain ⟨n, q⟩ := R
  simp only [] at ha ⊢
  have Ha := Lib.hid ha
  clear ha hr
  by_cases hq : q = 0
  · subst hq
    by_cases hn : n ≤ 1048576
    · rw [if_pos ⟨rfl, hn⟩]
      have e1 : decide ((1048576 : Int) < (n : Int)) = false := by rw [decide_eq_false_iff_not]; omega
      have e2 : decide (1048576 < n) = false := by rw [decide_eq_false_iff_not]; omega
      have hw : IntKind.i64.wrap (n : Int) = (n : Int) := by rw [IntKind.wrap_i64]; omega
      clear hn
      go_enter Try.func63, Try.ntmps63
      go_wp2_with (go_at_call 68; refine Ha.out.mono ?_; rintro e w1 ⟨rfl, rfl⟩)
      go_ret2
      exact ⟨rfl, rfl⟩
    · rw [if_neg (by simp [hn])]
      have e1 : decide ((1048576 : Int) < (n : Int)) = true := by rw [decide_eq_true_iff]; omega
      have e2 : decide (1048576 < n) = true := by rw [decide_eq_true_iff]; omega
      clear hn
      go_enter Try.func63, Try.ntmps63
      go_wp2_with (go_at_call 68; refine Ha.out.mono ?_; rintro e w1 ⟨rfl, rfl⟩)
      go_ret2
      exact ⟨rfl, rfl⟩
  · rw [if_neg (by simp [hq])]
    have e1 : ((q : Int) != 0) = true := by rw [bne_iff_ne]; omega
    have e2 : (q != 0) = true := by rw [bne_iff_ne]; exact hq
    clear hq
    go_enter Try.func63, Try.ntmps63
    go_wp2_with (go_at_call 68; refine Ha.out.mono ?_; rintro e w1 ⟨rfl, rfl⟩)
    go_ret2
    exact ⟨rfl, rfl⟩
end Go.Proofs.Ytkojoahamoffcaa

namespace Go.Proofs.Ytkojoahamoffcaa
open Go.RowKit
set_option maxRecDepth 100000

theorem id_zero : idC 0 0 = #[.int .i64 0, .int .u32 0] := rfl
theorem ev_row {W : World} {g : Nat} {t : TypeId} {cs : Array Value} (h : Blk W g t cs) : W.rangeAt g 0 cs.toList := h.range _ _ fun j v hv => by rw [Nat.zero_add, ← Array.getElem?_toList]; exact hv
set_option maxHeartbeats 1000000 in
theorem rdid_any (ok : Nat → Prop) (v : Value) (f : List UInt8) (w : World) (hv : IsB w ok v f) :
    Calls Try.prog 65 #[v] w fun e w' => e = .returned (.tuple #[.agg (idC (rdID f).1.1 (rdID f).1.2), .bool (rdID f).2]) ∧ Below w.heap.size w w' := by
  obtain ⟨A, c, rfl, hc, hm, hr⟩ := hv
  have hm' := hm
  unfold maxLen at hm'
  have hb0 : Below w.heap.size w (w.alloc (.cells #[.int .i64 0, .int .u32 0] 24)) := (Below.refl _ _).alloc (Nat.le_refl _) _
  have hB0 : Blk (w.alloc (.cells #[.int .i64 0, .int .u32 0] 24)) w.heap.size 24 (idC 0 0) := Blk.new w _ _
  rcases f with _ | ⟨x0, r⟩
  · clear hr
    have HB0 := Lib.hid hB0
    clear hB0
    go_enter Try.func65, Try.ntmps65
    go_wp2_with fail
    exact bodyPost_ret (v := .tuple #[.agg (idC 0 0), .bool true]) (results_cell_tmp Try.results65 _ _ w.heap.size 24 (idC 0 0) (0, 0) _ _ rfl rfl HB0.out Try.underlying24 rfl id_info) rfl ⟨rfl, hb0⟩
  · have hr1 : ∀ b off, A = some ⟨b, off, none⟩ → Rd w ok (some ⟨b, off + 1, none⟩) (r.map u8) := fun b off e => by
      subst e
      have := hr.drop' (k := 1)
      simpa using this
    obtain ⟨b, off, rfl, _, hbl, hcs⟩ := hr.byte (by simp)
    have hr1 := hr1 b off rfl
    have hc0 := hcs 0 (by simp)
    rw [Nat.add_zero] at hc0
    simp only [List.getElem_cons_zero] at hc0
    have hl1 : (x0 :: r).length = r.length + 1 := rfl
    rw [hl1] at hc ⊢
    have hbx := x0.toNat_lt
    obtain ⟨x, hx⟩ : ∃ x, x = x0.toNat := ⟨_, rfl⟩
    have hrd : rdID (x0 :: r) = if (rdNum r).2 = true ∧ ¬ (x = 0 ∧ (rdNum r).1 = 0) then (((x : Int), (rdNum r).1), true) else ((0, 0), false) := by rw [hx]; rfl
    have hn6 : (rdNum r).1 ≤ 1048576 := by
      unfold rdNum
      split
      · rename_i h; exact h.2
      · exact Nat.zero_le _
    rw [hrd]
    rw [← hx] at hc0 hbx
    obtain ⟨W, hW⟩ : ∃ W, W = w.alloc (.cells #[.int .i64 0, .int .u32 0] 24) := ⟨_, rfl⟩
    rw [← hW] at hb0 hB0
    have hc1 : W.cell? ⟨b, off, none⟩ = some (.int .u8 (x : Int)) := (hb0.cell (p := ⟨b, off, none⟩) hbl).trans hc0
    have hn : ∀ (A' : Option Addr) (c' : Nat), IsB W ok (.slice A' r.length c') r → Calls Try.prog 63 #[.slice A' r.length c'] W fun e w' => e = .returned (.tuple #[.int .i64 ((rdNum r).1 : Int), .bool (rdNum r).2]) ∧ w' = W := fun A' c' h => rdnum_any ok _ r W h
    have hI : IsB W ok (if c = 1 then .slice (some ⟨b, off, none⟩) r.length (c - 1) else .slice (some ⟨b, off + 1, none⟩) r.length (c - 1)) r := by
      split
      · have : r = [] := List.eq_nil_of_length_eq_zero (by omega)
        subst this
        exact ⟨_, _, rfl, by simp, by omega, Rd.nil⟩
      · exact ⟨_, _, rfl, by omega, by omega, hr1.grow hb0⟩
    generalize rdNum r = R at hn hn6 ⊢
    obtain ⟨n, k⟩ := R
    simp only [] at hn hn6 ⊢
    generalize hP : (if k = true ∧ ¬ (x = 0 ∧ n = 0) then (((x : Int), n), true) else ((0, 0), false)) = P
    obtain ⟨Y, hY⟩ : ∃ Y, Y = W.alloc (.cells #[.int .i64 (x : Int), .int .u32 (n : Int)] 24) := ⟨_, rfl⟩
    have hbY : Below W.heap.size W Y := by rw [hY]; exact (Below.refl _ _).alloc (Nat.le_refl _) _
    have hE : Blk Y W.heap.size 24 (idC x n) := by rw [hY]; exact Blk.new _ _ _
    have hBY : Blk Y w.heap.size 24 (idC 0 0) := hB0.grow hbY
    have hb0Y := below_call hb0 hbY
    have q0 := fun w => idzero_run (x : Int) n w
    obtain ⟨z, hz⟩ : ∃ z, z = zeroI (x : Int) n := ⟨_, rfl⟩
    simp only [← hz] at q0
    have hz2 : z = true ↔ (x = 0 ∧ n = 0) := by
      rw [hz]
      unfold zeroI
      simp only [Bool.and_eq_true, decide_eq_true_iff]
      omega
    have R1 := Lib.hid (range_exts (ev_row hE))
    have hw1 : IntKind.u32.wrap (n : Int) = (n : Int) := by rw [IntKind.wrap_u32]; omega
    have HW := Lib.hid hW
    have HP := Lib.hid hP.symm
    clear hP
    have HY := Lib.hid hY
    have Hn := Lib.hid hn
    have HI := Lib.hid hI
    have HE := Lib.hid hE
    have HBY := Lib.hid hBY
    have Hz2 := Lib.hid hz2
    clear hn hW hY hI hE hBY hz hz2 hcs hr hr1 hc0 hB0 hrd hx hn6
    have hlen : decide ((0 : Int) < (r.length : Int) + 1) = true := by rw [decide_eq_true_iff]; omega
    have hlen2 : (((r.length : Int) + 1) == 0) = false := by rw [beq_eq_false_iff_ne]; omega
    go_enter Try.func65, Try.ntmps65
    go_wp2_with fail
    all_goals rw [← HW.out]
    all_goals refine (Hn.out _ _ (by first | exact HI.out | (have := HI.out; simpa using this) | (have := HI.out; simp_all))).mono ?_
    all_goals rintro e w1 ⟨rfl, rfl⟩
    all_goals cases k
    all_goals cases z
    all_goals go_upto_region 5 with fail
    all_goals rw [← HY.out]
    all_goals refine wp_plain_grow ?_
    all_goals repeat (first | (go_big_quiet_want; refine quiet_mid 24 (.tmp 6) rfl w1.heap.size 0 rfl _ _ R1.out Try.underlying24 rfl id_info ?_; go_simp; go_big_quiet_on) | go_big_quiet_step (fail) | quiet_step (fail))
    all_goals refine wpQuiet_nil ?_
    all_goals rintro w6 ⟨⟨_, hb6⟩, rfl⟩
    · have HB6 := Lib.hid (HBY.out.grow hb6)
      have hb06 := below_call hb0Y hb6
      go_upto_region 6 with fail
      refine wp_region_lit ?_
      go_wp2_with (refine wpList_store_row (o := ⟨none, .store _ (.tmp 2) (.tmp 31), _, _, _, _⟩) rfl 24 (.tmp 2) (.tmp 31) rfl w.heap.size (idC 0 0) rfl rfl 24 (idC 0 0) (by exact HB6.out) id_info rfl (idC_one _ _) ?_)
      exact bodyPost_ret (v := .tuple #[.agg (idC 0 0), .bool false]) (results_cell_tmp Try.results65 _ _ w.heap.size 24 (idC 0 0) (0, 0) _ _ rfl rfl (HB6.out.setRow_ (idC 0 0)) Try.underlying24 rfl id_info) rfl ⟨by rw [HP.out, if_neg (by simp)], below_setRow hb06 (Nat.le_refl _) _⟩
    · have HB6 := Lib.hid (HBY.out.grow hb6)
      have hb06 := below_call hb0Y hb6
      go_upto_region 6 with fail
      refine wp_region_lit ?_
      go_wp2_with (refine wpList_store_row (o := ⟨none, .store _ (.tmp 2) (.tmp 31), _, _, _, _⟩) rfl 24 (.tmp 2) (.tmp 31) rfl w.heap.size (idC 0 0) rfl rfl 24 (idC 0 0) (by exact HB6.out) id_info rfl (idC_one _ _) ?_)
      exact bodyPost_ret (v := .tuple #[.agg (idC 0 0), .bool false]) (results_cell_tmp Try.results65 _ _ w.heap.size 24 (idC 0 0) (0, 0) _ _ rfl rfl (HB6.out.setRow_ (idC 0 0)) Try.underlying24 rfl id_info) rfl ⟨by rw [HP.out, if_neg (by simp)], below_setRow hb06 (Nat.le_refl _) _⟩
    · have HB6 := Lib.hid (HBY.out.grow hb6)
      have hb06 := below_call hb0Y hb6
      have HE6 := Lib.hid (HE.out.grow hb6)
      have hzz : ¬ (x = 0 ∧ n = 0) := by have := Hz2.out; simpa using this
      have Hzz := Lib.hid hzz
      clear hzz
      go_upto_region 7 with fail
      refine wp_region_lit ?_
      refine wpList_load_row rfl 24 (.tmp 6) rfl w1.heap.size rfl 24 (idC x n) (0, 0) _ HE6.out Try.underlying24 rfl id_info ?_
      refine wpList_store_row rfl 24 (.tmp 2) (.tmp 32) rfl w.heap.size (idC x n) rfl rfl 24 (idC 0 0) (by exact HB6.out) id_info rfl (idC_one _ _) ?_
      go_wp2_with fail
      exact bodyPost_ret (v := .tuple #[.agg (idC x n), .bool true]) (results_cell_tmp Try.results65 _ _ w.heap.size 24 (idC x n) (0, 0) _ _ rfl rfl (HB6.out.setRow_ (idC x n)) Try.underlying24 rfl id_info) rfl ⟨by rw [HP.out, if_pos ⟨by trivial, Hzz.out⟩], below_setRow hb06 (Nat.le_refl _) _⟩
    · have HB6 := Lib.hid (HBY.out.grow hb6)
      have hb06 := below_call hb0Y hb6
      have hzz : x = 0 ∧ n = 0 := by have := Hz2.out; simpa using this
      go_upto_region 6 with fail
      refine wp_region_lit ?_
      go_wp2_with (refine wpList_store_row (o := ⟨none, .store _ (.tmp 2) (.tmp 31), _, _, _, _⟩) rfl 24 (.tmp 2) (.tmp 31) rfl w.heap.size (idC 0 0) rfl rfl 24 (idC 0 0) (by exact HB6.out) id_info rfl (idC_one _ _) ?_)
      exact bodyPost_ret (v := .tuple #[.agg (idC 0 0), .bool false]) (results_cell_tmp Try.results65 _ _ w.heap.size 24 (idC 0 0) (0, 0) _ _ rfl rfl (HB6.out.setRow_ (idC 0 0)) Try.underlying24 rfl id_info) rfl ⟨by rw [HP.out, if_neg (by simp [hzz])], below_setRow hb06 (Nat.le_refl _) _⟩
    · have HB6 := Lib.hid (HBY.out.grow hb6)
      have hb06 := below_call hb0Y hb6
      go_upto_region 6 with fail
      refine wp_region_lit ?_
      go_wp2_with (refine wpList_store_row (o := ⟨none, .store _ (.tmp 2) (.tmp 31), _, _, _, _⟩) rfl 24 (.tmp 2) (.tmp 31) rfl w.heap.size (idC 0 0) rfl rfl 24 (idC 0 0) (by exact HB6.out) id_info rfl (idC_one _ _) ?_)
      exact bodyPost_ret (v := .tuple #[.agg (idC 0 0), .bool false]) (results_cell_tmp Try.results65 _ _ w.heap.size 24 (idC 0 0) (0, 0) _ _ rfl rfl (HB6.out.setRow_ (idC 0 0)) Try.underlying24 rfl id_info) rfl ⟨by rw [HP.out, if_neg (by simp)], below_setRow hb06 (Nat.le_refl _) _⟩
    · have HB6 := Lib.hid (HBY.out.grow hb6)
      have hb06 := below_call hb0Y hb6
      go_upto_region 6 with fail
      refine wp_region_lit ?_
      go_wp2_with (refine wpList_store_row (o := ⟨none, .store _ (.tmp 2) (.tmp 31), _, _, _, _⟩) rfl 24 (.tmp 2) (.tmp 31) rfl w.heap.size (idC 0 0) rfl rfl 24 (idC 0 0) (by exact HB6.out) id_info rfl (idC_one _ _) ?_)
      exact bodyPost_ret (v := .tuple #[.agg (idC 0 0), .bool false]) (results_cell_tmp Try.results65 _ _ w.heap.size 24 (idC 0 0) (0, 0) _ _ rfl rfl (HB6.out.setRow_ (idC 0 0)) Try.underlying24 rfl id_info) rfl ⟨by rw [HP.out, if_neg (by simp)], below_setRow hb06 (Nat.le_refl _) _⟩
    · have HB6 := Lib.hid (HBY.out.grow hb6)
      have hb06 := below_call hb0Y hb6
      have HE6 := Lib.hid (HE.out.grow hb6)
      have hzz : ¬ (x = 0 ∧ n = 0) := by have := Hz2.out; simpa using this
      have Hzz := Lib.hid hzz
      clear hzz
      go_upto_region 7 with fail
      refine wp_region_lit ?_
      refine wpList_load_row rfl 24 (.tmp 6) rfl w1.heap.size rfl 24 (idC x n) (0, 0) _ HE6.out Try.underlying24 rfl id_info ?_
      refine wpList_store_row rfl 24 (.tmp 2) (.tmp 32) rfl w.heap.size (idC x n) rfl rfl 24 (idC 0 0) (by exact HB6.out) id_info rfl (idC_one _ _) ?_
      go_wp2_with fail
      exact bodyPost_ret (v := .tuple #[.agg (idC x n), .bool true]) (results_cell_tmp Try.results65 _ _ w.heap.size 24 (idC x n) (0, 0) _ _ rfl rfl (HB6.out.setRow_ (idC x n)) Try.underlying24 rfl id_info) rfl ⟨by rw [HP.out, if_pos ⟨by trivial, Hzz.out⟩], below_setRow hb06 (Nat.le_refl _) _⟩
    · have HB6 := Lib.hid (HBY.out.grow hb6)
      have hb06 := below_call hb0Y hb6
      have hzz : x = 0 ∧ n = 0 := by have := Hz2.out; simpa using this
      go_upto_region 6 with fail
      refine wp_region_lit ?_
      go_wp2_with (refine wpList_store_row (o := ⟨none, .store _ (.tmp 2) (.tmp 31), _, _, _, _⟩) rfl 24 (.tmp 2) (.tmp 31) rfl w.heap.size (idC 0 0) rfl rfl 24 (idC 0 0) (by exact HB6.out) id_info rfl (idC_one _ _) ?_)
      exact bodyPost_ret (v := .tuple #[.agg (idC 0 0), .bool false]) (results_cell_tmp Try.results65 _ _ w.heap.size 24 (idC 0 0) (0, 0) _ _ rfl rfl (HB6.out.setRow_ (idC 0 0)) Try.underlying24 rfl id_info) rfl ⟨by rw [HP.out, if_neg (by simp [hzz])], below_setRow hb06 (Nat.le_refl _) _⟩
end Go.Proofs.Ytkojoahamoffcaa

namespace Go.Proofs.Ytkojoahamoffcaa
open Go.RowKit
set_option maxRecDepth 100000

/-- The cells of a block with others from o on. -/
def setAll (cs : Array Value) (o : Nat) : List Value → Array Value
  | [] => cs
  | v :: r => setAll (cs.setIfInBounds o v) (o + 1) r
theorem setAll_size (cs : Array Value) (o : Nat) (vs : List Value) : (setAll cs o vs).size = cs.size := by
  induction vs generalizing cs o with
  | nil => rfl
  | cons v r ih => rw [setAll, ih, Array.size_setIfInBounds]
theorem Blk.setAll {t : TypeId} {g : Nat} (vs : List Value) : ∀ (o : Nat) (w : World) (cs : Array Value), Blk w g t cs → Blk (w.setCells g o vs) g t (setAll cs o vs) := by
  induction vs with
  | nil => intro o w cs h; exact h
  | cons v r ih => intro o w cs h; exact ih (o + 1) _ _ (h.set_ o v)
theorem Blk.thereE {w : World} {g : Nat} {t : TypeId} {cs : Array Value} (h : Blk w g t cs) (o n : Nat) (hn : o + n ≤ cs.size) : w.there g o n := fun j hj => by
  refine ⟨?_, h.frozen _⟩
  rw [h.cell, Array.getElem?_eq_getElem (by omega)]
  rfl
theorem heap_setCellsE (b : Nat) (vs : List Value) (o : Nat) (w : World) (k : Nat) (h : k ≠ b) : (w.setCells b o vs).heap[k]? = w.heap[k]? := by
  induction vs generalizing o w with
  | nil => rfl
  | cons v r ih => rw [World.setCells, ih, Below.heap_setCell _ _ _ _ (by simpa using h)]
theorem size_setCellsE (b : Nat) (vs : List Value) (o : Nat) (w : World) : (w.setCells b o vs).heap.size = w.heap.size := by
  induction vs generalizing o w with
  | nil => rfl
  | cons v r ih => rw [World.setCells, ih]; simp [World.setCell]
theorem same_setCellsE (b : Nat) (vs : List Value) (o : Nat) (w : World) : (w.setCells b o vs).os = w.os ∧ (w.setCells b o vs).tape = w.tape ∧ (w.setCells b o vs).output = w.output := by
  induction vs generalizing o w with
  | nil => exact ⟨rfl, rfl, rfl⟩
  | cons v r ih => rw [World.setCells]; exact ih _ _
/-- What a store into one block leaves as it was. -/
def Only (b : Nat) (w w' : World) : Prop := w'.os = w.os ∧ w'.tape = w.tape ∧ w'.output = w.output ∧ w'.heap.size = w.heap.size ∧ ∀ k, k ≠ b → w'.heap[k]? = w.heap[k]?
theorem only_setCells (b o : Nat) (vs : List Value) (w : World) : Only b w (w.setCells b o vs) :=
  ⟨(same_setCellsE b vs o w).1, (same_setCellsE b vs o w).2.1, (same_setCellsE b vs o w).2.2, size_setCellsE b vs o w, fun k hk => heap_setCellsE b vs o w k hk⟩
theorem only_setCell (b o : Nat) (v : Value) (w : World) : Only b w (w.setCell ⟨b, o, none⟩ v) := only_setCells b o [v] w
theorem Only.trans {b : Nat} {w w' w'' : World} (h : Only b w w') (h' : Only b w' w'') : Only b w w'' :=
  ⟨h'.1.trans h.1, h'.2.1.trans h.2.1, h'.2.2.1.trans h.2.2.1, h'.2.2.2.1.trans h.2.2.2.1, fun k hk => (h'.2.2.2.2 k hk).trans (h.2.2.2.2 k hk)⟩
theorem Only.below {b B : Nat} {w0 w w' : World} (h : Only b w w') (hB : B ≤ b) (hb : Below B w0 w) : Below B w0 w' :=
  ⟨h.1.trans hb.os, h.2.1.trans hb.tape, h.2.2.1.trans hb.output, by rw [h.2.2.2.1]; exact hb.size, fun k hk => (h.2.2.2.2 k (by omega)).trans (hb.block k hk)⟩
theorem Only.blk {b g : Nat} {w w' : World} {t : TypeId} {cs : Array Value} (h : Only b w w') (hg : g ≠ b) (hb : Blk w g t cs) : Blk w' g t cs := (h.2.2.2.2 g hg).trans hb
/-- A store of many cells. -/
theorem wpList_store_blk {P : Program} {ops : Array Oper} {rest : List Oper} {op : Oper} {a : Act} {w : World} {Q : Exit → Act → World → Prop} (hgd : op.guard = none) (ty : TypeId) (x y : Operand) (ho : op.op = .store ty x y)
    (b o : Nat) (cells : Array Value) (hx : a.eval x = .pointer (some ⟨b, o, none⟩)) (hy : a.eval y = .agg cells) (t : TypeId) (cs : Array Value) (hb : Blk w b t cs)
    (hfit : o + cells.size ≤ cs.size) (hi : (P.info? ty).map (·.size) = some cells.size) (h1 : cells.all (·.oneCell') = true)
    (h : ∀ w', Only b w w' → Blk w' b t (setAll cs o cells.toList) → wpList P ops Q rest (a.put op.dst undef) w') : wpList P ops Q (op :: rest) a w :=
  wpList_store_mid hgd ty x y ho b o cells hx hy (hb.thereE o _ hfit) hi h1 (h _ (only_setCells b o _ w) (Blk.setAll _ o w cs hb))

/-- Unpack's fields, wherever they lie. -/
theorem OwnBB.isBBE {w : World} {base : Nat} {x : Value} {L : List (List UInt8)} (h : OwnBB w base x L) : IsBB w (fun k => base ≤ k) x L := by
  obtain ⟨vs, h1, h2, h3, _⟩ := h
  obtain ⟨A, c, hv, hc, hm, hr⟩ := h1.form
  exact ⟨A, c, vs, by rw [hv, h2], h2, by omega, hm, hr.weaken fun k hk => (h1.lt k hk).1, fun i hi hi' => ((h3 i hi' hi).isB).weaken fun k hk => ((h3 i hi' hi).lt k hk).1⟩
theorem fieldB_pos (f : List UInt8) : 1 ≤ (fieldB f).length := by
  rw [fieldB_length]
  have := (lenB_le f.length).1
  omega
theorem packB_count (L : List (List UInt8)) : L.length ≤ (packB L).length := by
  induction L with
  | nil => exact Nat.zero_le _
  | cons f L ih => rw [packB_cons, List.length_append, List.length_cons]; have := fieldB_pos f; omega
theorem unpackV_bad (most : Int) (S : List (List UInt8 × Nat)) : ∀ acc, (unpackV most acc S).2 ≠ 0 → (unpackV most acc S).1 = [] := by
  induction S with
  | nil => intro acc h; exact absurd rfl h
  | cons x S ih =>
    obtain ⟨f, e⟩ := x
    intro acc h
    rw [unpackV_cons] at h ⊢
    split
    · rfl
    · rename_i h1
      rw [if_neg h1] at h
      split
      · rfl
      · rename_i h2
        rw [if_neg h2] at h
        exact ih _ h
theorem unpack_count (most : Int) (b : List UInt8) : (unpackV most [] (steps b)).1.length ≤ b.length ∧ ((unpackV most [] (steps b)).2 ≠ 0 → (unpackV most [] (steps b)).1 = []) := by
  by_cases h : (unpackV most [] (steps b)).2 = 0
  · obtain ⟨L, h1, h2, _⟩ := unpack_canon most b.length b [] (Nat.le_refl _) h
    refine ⟨?_, fun hn => absurd h hn⟩
    rw [h1, List.nil_append]
    conv => rhs; rw [h2]
    exact packB_count L
  · have := unpackV_bad most (steps b) [] h
    rw [this]
    exact ⟨Nat.zero_le _, fun _ => rfl⟩
end Go.Proofs.Ytkojoahamoffcaa

namespace Go.Proofs.Ytkojoahamoffcaa
open Go.RowKit
set_option maxRecDepth 100000

theorem info_idp : (Try.prog.info? 24).map (fun i => (i.zero, i.size, i.bytes)) = some (some (.agg #[.int .i64 0, .int .u32 0]), 2, 16) := by kernel_rfl
theorem run_idsE (n : Nat) (h : n ≤ 1099511627776) (u : World) : (Instr.makeSlice 27 (.int .i64 (n : Int)) (.int .i64 (n : Int))).run Try.prog u = .ok (.slice (some ⟨u.heap.size, 0, none⟩) n n) (u.alloc (.cells (madeCells (idC 0 0) (n * 2)) 24)) := by
  have hI := info_idp
  cases hq : Try.prog.info? 24 with
  | none => rw [hq] at hI; cases hI
  | some i =>
    rw [hq] at hI
    simp only [Option.map_some, Option.some.injEq, Prod.mk.injEq] at hI
    obtain ⟨hz0, hz1, hz2⟩ := hI
    have hr := run_make (P := Try.prog) u 27 24 i _ Try.underlying27 hq hz0 .i64 .i64 n n (by omega) (Int.le_refl _) (by rw [hz2]; omega) (by omega)
    simp only [Int.toNat_natCast, hz1] at hr
    rw [hr]
    rfl
/-- The first k numbers of a list as cells. -/
def IdRow (cs : Array Value) (L : List (List UInt8)) (k : Nat) : Prop := cs.size = L.length * 2 ∧ ∀ j (_ : j < k) (hl : j < L.length), cs[j * 2]? = some (.int .i64 (rdID L[j]).1.1) ∧ cs[j * 2 + 1]? = some (.int .u32 ((rdID L[j]).1.2 : Int))
theorem IdRow.set_ {cs : Array Value} {L : List (List UInt8)} {k : Nat} (h : IdRow cs L k) (hk : k < L.length) : IdRow (setAll cs (k * 2) (idC (rdID L[k]).1.1 (rdID L[k]).1.2).toList) L (k + 1) := by
  obtain ⟨h1, h2⟩ := h
  refine ⟨by rw [setAll_size, h1], fun j hj hl => ?_⟩
  show ((cs.setIfInBounds (k * 2) _).setIfInBounds (k * 2 + 1) _)[j * 2]? = _ ∧ ((cs.setIfInBounds (k * 2) _).setIfInBounds (k * 2 + 1) _)[j * 2 + 1]? = _
  by_cases e : j = k
  · subst e
    constructor
    · rw [Array.getElem?_setIfInBounds_ne (by omega), Array.getElem?_setIfInBounds_self_of_lt (by omega)]
    · rw [Array.getElem?_setIfInBounds_self_of_lt (by rw [Array.size_setIfInBounds]; omega)]
  · obtain ⟨a, b⟩ := h2 j (by omega) hl
    constructor
    · rw [Array.getElem?_setIfInBounds_ne (by omega), Array.getElem?_setIfInBounds_ne (by omega), a]
    · rw [Array.getElem?_setIfInBounds_ne (by omega), Array.getElem?_setIfInBounds_ne (by omega), b]
theorem rdNum_le (f : List UInt8) : (rdNum f).1 ≤ 1048576 := by
  unfold rdNum
  split
  · rename_i h; exact h.2
  · exact Nat.zero_le _
theorem rdID_ok (f : List UInt8) : okP (rdID f).1 := by
  match f with
  | [] => exact ⟨i64_zero, by show (0 : Nat) < _; omega⟩
  | c :: r =>
    have hc := c.toNat_lt
    have hn := rdNum_le r
    unfold rdID
    simp only []
    split
    · exact ⟨by unfold I64; simp only []; omega, by simp only []; omega⟩
    · exact ⟨i64_zero, by show (0 : Nat) < _; omega⟩
theorem ids_many {w : World} {ok : Nat → Prop} (L : List (List UInt8)) : ∀ cs : List Value, cs.length = L.length * 2 → (∀ j (hl : j < L.length), cs[j * 2]? = some (.int .i64 (rdID L[j]).1.1) ∧ cs[j * 2 + 1]? = some (.int .u32 ((rdID L[j]).1.2 : Int))) → kMany kId w ok cs (idsOf L) := by
  induction L with
  | nil =>
    intro cs h _
    have : cs = [] := List.length_eq_zero_iff.1 (by simpa using h)
    subst this
    exact kMany.nil
  | cons f L ih =>
    intro cs h hc
    match cs, h with
    | a :: b :: r, h =>
      have h0 := hc 0 (by simp)
      simp only [Nat.zero_mul, List.getElem?_cons_zero, Option.some.injEq, Nat.zero_add, List.getElem?_cons_succ, List.getElem_cons_zero] at h0
      obtain ⟨rfl, rfl⟩ := h0
      have hr := ih r (by simp only [List.length_cons] at h; omega) fun j hj => by
        have := hc (j + 1) (by simp; omega)
        rw [show (j + 1) * 2 = j * 2 + 1 + 1 by omega, show j * 2 + 1 + 1 + 1 = (j * 2 + 1) + 1 + 1 by omega] at this
        simpa only [List.getElem?_cons_succ, List.getElem_cons_succ] using this
      exact kMany.cons (c := [_, _]) (kId_cells.2 ⟨rfl, rdID_ok f⟩) hr
    | [_], h => simp only [List.length_cons, List.length_nil] at h; omega
    | [], h => simp only [List.length_cons, List.length_nil] at h; omega
theorem IdRow.all {x : World} {g : Nat} {cs : Array Value} {L : List (List UInt8)} (h : IdRow cs L L.length) (hb : Blk x g 24 cs) (hn : L.length ≤ maxLen) : IsL kId x (fun q => q = g) (.slice (some ⟨g, 0, none⟩) L.length L.length) (idsOf L) := by
  have hl : (idsOf L).length = L.length := List.length_map _
  refine ⟨_, L.length, cs.toList, by rw [hl], by rw [hl]; exact Nat.le_refl _, hn, hb.rd _ rfl, ids_many L _ (by rw [Array.length_toList]; exact h.1) fun j hj => ?_⟩
  have := h.2 j hj hj
  rwa [← Array.getElem?_toList, ← Array.getElem?_toList] at this
theorem idsOk_take {L : List (List UInt8)} {k : Nat} (hk : k < L.length) (hb : (rdID L[k]).2 = false) : idsOk L = false := by
  unfold idsOk
  rw [List.all_eq_false]
  exact ⟨L[k], List.getElem_mem hk, by rw [hb]; simp⟩
theorem idsOk_all {L : List (List UInt8)} (h : ∀ j (_ : j < L.length) (hl : j < L.length), (rdID L[j]).2 = true) : idsOk L = true := by
  unfold idsOk
  rw [List.all_eq_true]
  intro f hf
  obtain ⟨i, hi, rfl⟩ := List.getElem_of_mem hf
  exact h i hi hi

set_option maxHeartbeats 800000 in
theorem rdids_any (ok : Nat → Prop) (v : Value) (f : List UInt8) (most : Int) (w : World) (hv : IsB w ok v f) (hl : f.length ≤ 1099511627776) :
    Calls Try.prog 66 #[v, .int .i64 most] w fun e w' => ∃ u, e = .returned (.tuple #[u, .int .i64 ((rdIDs f most).2 : Int)]) ∧ IsL kId w' (fun k => w.heap.size ≤ k) u (rdIDs f most).1 ∧ Below w.heap.size w w' := by
  have hu := unpack_any ok v f most w hv hl
  obtain ⟨hcount, hbad⟩ := unpack_count most f
  unfold rdIDs
  generalize unpackV most [] (steps f) = R at hu hcount hbad ⊢
  obtain ⟨L, q⟩ := R
  simp only [] at hu hcount hbad ⊢
  have hL40 : L.length ≤ 1099511627776 := by omega
  have Hu := Lib.hid hu
  clear hu hcount hv hl
  by_cases hq : q = 0
  · subst hq
    rw [if_neg (by simp)]
    clear hbad
    obtain ⟨P, hP⟩ : ∃ P, P = if idsOk L = true then (idsOf L, 0) else ([], 7) := ⟨_, rfl⟩
    rw [← hP]
    have hP1 : idsOk L = true → P = (idsOf L, 0) := fun h => by rw [hP, if_pos h]
    have hP2 : idsOk L = false → P = ([], 7) := fun h => by rw [hP, if_neg (by rw [h]; simp)]
    have HP1 := Lib.hid hP1
    have HP2 := Lib.hid hP2
    clear hP hP1 hP2
    go_enter Try.func66, Try.ntmps66
    go_wp2_with (go_at_call 32; refine Hu.out.mono ?_; rintro e w1 ⟨x, rfl, hx, hb1⟩; obtain ⟨A, c, rfl, hc1, hc2, hx⟩ := hx.isBBE.elem; have hmk := run_idsE L.length hL40)
    have hs1 := hb1.size
    have HX := Lib.hid hx
    obtain ⟨Z0, hZ0⟩ : ∃ Z, Z = w1.alloc (.cells (madeCells (idC 0 0) (L.length * 2)) 24) := ⟨_, rfl⟩
    have hbZ : Below w1.heap.size w1 Z0 := by rw [hZ0]; exact (Below.refl _ _).alloc (Nat.le_refl _) _
    have hB0 : Blk Z0 w1.heap.size 24 (madeCells (idC 0 0) (L.length * 2)) := by rw [hZ0]; exact Blk.new _ _ _
    obtain ⟨g, hg⟩ : ∃ g, g = w1.heap.size := ⟨_, rfl⟩
    have HZ0 := Lib.hid hZ0
    clear hmk hZ0 hx
    rw [← HZ0.out]
    obtain ⟨mi, hmi⟩ : ∃ m, m = madeCells (idC 0 0) (L.length * 2) := ⟨_, rfl⟩
    have hms : mi.size = L.length * 2 := by rw [hmi, size_madeCells]
    rw [← hmi] at hB0
    clear hmi
    go_loopw [27] (fun i wr => ∃ (k : Nat) (cs : Array Value), k ≤ L.length ∧ i = .int .i64 (k : Int) ∧ Blk wr w1.heap.size 24 cs ∧ IdRow cs L k ∧ (∀ j (_ : j < k) (hl : j < L.length), (rdID L[j]).2 = true) ∧ Below w1.heap.size w1 wr) (fun i _ => L.length - (intOf i).toNat)
    case atStart => exact ⟨0, mi, by omega, rfl, hB0, ⟨hms, fun j hj => by omega⟩, fun j hj => by omega, hbZ⟩
    case round =>
      obtain ⟨k, cs, hk, rfl, hblk, hrow, hall, hbw⟩ := hrel
      have Hall := Lib.hid hall
      have Hrow := Lib.hid hrow
      clear hall hrow
      by_cases hlt : k < L.length
      · obtain ⟨b, off, rfl, _, hbl, hel⟩ := HX.out (by intro e; subst e; simp at hlt)
        obtain ⟨Ai, ci, hc, hci, hcm, hrd⟩ := hel k hlt
        have hcr := (hbw.cell (p := ⟨b, off + k, none⟩) hbl).trans hc
        have hI : IsB wr (fun q => w.heap.size ≤ q) (.slice Ai L[k].length ci) L[k] := ⟨_, _, rfl, hci, hcm, hrd.grow hbw⟩
        have hrdid := rdid_any _ _ _ wr hI
        have Hok := Lib.hid (idsOk_take hlt)
        have Hset := Lib.hid (Hrow.out.set_ hlt)
        have hnext : (rdID L[k]).2 = true → ∀ j (_ : j < k + 1) (hl : j < L.length), (rdID L[j]).2 = true := fun h j hj hl => by
          by_cases e : j = k
          · subst e; exact h
          · exact Hall.out j (by omega) hl
        have Hnext := Lib.hid hnext
        have hcsz := Hrow.out.1
        clear hc hrd hI hel hnext
        generalize rdID L[k] = R at hrdid Hok Hset Hnext
        obtain ⟨⟨r, s⟩, o⟩ := R
        simp only [] at hrdid
        have Hrdid := Lib.hid hrdid
        have Hblk := Lib.hid hblk
        clear hrdid hblk
        obtain ⟨lk, hlk⟩ : ∃ x, x = L[k].length := ⟨_, rfl⟩
        rw [← hlk] at hcr Hrdid
        have Hlk := Lib.hid hlk
        clear hlk
        go_upto_region 8 with fail
        refine wp_region_lit ?_
        have Hbad := Lib.hid (fun h : o = false => HP2.out (Hok.out h))
        clear Hok
        cases o
        all_goals go_upto_region 9 with (first | (go_at_call 65; (with_reducible refine Hrdid.out.mono ?_); rintro e w2 ⟨rfl, hb2⟩; have HB2 := Lib.hid (show Blk (w2.alloc (.cells #[.int .i64 0, .int .u32 0] 24)) w2.heap.size 24 (idC 0 0) from Blk.new w2 _ _)) | (refine wpList_store_row (o := ⟨none, .store _ (.tmp 11) (.tmp 35), _, _, _, _⟩) rfl 24 (.tmp 11) (.tmp 35) rfl w2.heap.size (idC r s) rfl rfl 24 (idC 0 0) (by exact HB2.out) id_info rfl (idC_one _ _) ?_; obtain ⟨Z, hZ⟩ : ∃ Z, Z = (w2.alloc (.cells #[.int .i64 0, .int .u32 0] 24)).setRow w2.heap.size (idC r s) := ⟨_, rfl⟩; rw [← hZ]; have hbZ2 : Below wr.heap.size wr Z := (by rw [hZ]; exact below_setRow (hb2.alloc hb2.size _) hb2.size _); have HB3 := Lib.hid (show Blk Z w2.heap.size 24 (idC r s) by rw [hZ]; exact HB2.out.setRow_ _); have hblkZ := Lib.hid (Hblk.out.grow hbZ2); clear hZ))
        · obtain ⟨P1, P2⟩ := P
          obtain ⟨rfl, rfl⟩ := Prod.mk.inj (Hbad.out (by trivial))
          go_wp2_with fail
          go_ret2
          exact ⟨_, rfl, IsL.nil, hb1.trans ((hbw.trans (hbZ2.mono hbw.size)).mono hs1)⟩
        · go_upto_region 11 with fail
          refine wp_region_lit ?_
          go_wp2_with (first | (refine wpList_load_row ?_ 24 (.tmp 11) ?_ w2.heap.size ?_ 24 (idC r s) (0, 0) _ HB3.out Try.underlying24 rfl id_info ?_; exact rfl; exact rfl; exact rfl) | (refine wpList_store_blk ?_ 24 (.tmp 42) (.tmp 41) ?_ w1.heap.size (k * 2) (idC r s) ?_ ?_ 24 cs hblkZ.out ?_ id_info (idC_one _ _) ?_; exact rfl; exact rfl; exact rfl; exact rfl; (rw [hcsz]; show k * 2 + 2 ≤ _; omega); intro w9 ho9 hb9; have Hb9 := Lib.hid hb9; have Ho9 := Lib.hid ho9; clear hb9 ho9))
          have hb9' := Ho9.out.below (Nat.le_refl _) (hbw.trans (hbZ2.mono hbw.size))
          go_roundw
          case rel => exact ⟨k + 1, _, by omega, by go_num, Hb9.out, Hset.out, Hnext.out (by trivial), hb9'⟩
          case measure => simp [intOf]; omega
      · obtain rfl : k = L.length := by omega
        have hidok := idsOk_all Hall.out
        have hsz := hbw.size
        have hisL := (Hrow.out.all hblk (by omega)).weaken (ok' := fun q => w.heap.size ≤ q) fun q e => by omega
        have HisL := Lib.hid hisL
        obtain ⟨P1, P2⟩ := P
        obtain ⟨rfl, rfl⟩ := Prod.mk.inj (HP1.out hidok)
        clear hblk hisL hidok
        go_wp2_with fail
        go_ret2
        exact ⟨_, rfl, HisL.out, hb1.trans (hbw.mono hs1)⟩
  · rw [if_pos hq]
    obtain rfl := hbad hq
    have e1 : ((q : Int) != 0) = true := by rw [bne_iff_ne]; omega
    have e2 : (q != 0) = true := by rw [bne_iff_ne]; exact hq
    clear hq hbad hL40
    go_enter Try.func66, Try.ntmps66
    go_wp2_with (go_at_call 32; refine Hu.out.mono ?_; rintro e w1 ⟨x, rfl, hx, hb1⟩; obtain ⟨A, c, rfl, hc1, hc2, hx⟩ := hx.isBBE.elem)
    go_ret2
    exact ⟨_, rfl, IsL.nil, hb1⟩
end Go.Proofs.Ytkojoahamoffcaa
