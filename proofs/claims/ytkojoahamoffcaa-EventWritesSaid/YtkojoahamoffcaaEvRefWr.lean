/-
  The document's ID and IDs.
  The document's Write.
-/
import Derived.Test.YtkojoahamoffcaaEvHolds
import Derived.Test.YtkojoahamoffcaaEvAlg
import Derived.Test.YtkojoahamoffcaaSpReads
import Derived.Test.YtkojoahamoffcaaAppFull
import Derived.Test.YtkojoahamoffcaaRegions
import Derived.Test.YtkojoahamoffcaaRef01
import Derived.Test.YtkojoahamoffcaaEvBase
import Derived.Test.YtkojoahamoffcaaRefPack
import Derived.Test.YtkojoahamoffcaaSpRefShrink
namespace Go.Proofs.Ytkojoahamoffcaa
open Go.RowKit
set_option maxRecDepth 100000

/-- Something good in a slot: what ID leaves there. -/
def ridG (g : Nat) (r : Int) (s : Nat) (t : Nat) (v : Value) (x : World) : Prop :=
  match t with
  | 5 => v = .pointer (some ⟨g, 0, none⟩)
  | 6 => v = .int .i64 r
  | 7 => v = .int .u8 (r % 256)
  | 8 => ∃ A, v = .slice A 1 1 ∧ Rd x (fun _ => True) A [.int .u8 (r % 256)]
  | 9 => v = str [UInt8.ofNat (r % 256).toNat]
  | 10 => v = .pointer (some ⟨g, 1, none⟩)
  | 11 => v = .int .u32 (s : Int)
  | 12 => v = .int .u64 (s : Int)
  | 13 => v = str (numB s)
  | 14 => v = str (UInt8.ofNat (r % 256).toNat :: numB s)
  | 2 => v = str (UInt8.ofNat (r % 256).toNat :: numB s)
  | _ => True
theorem many11 {i n : Nat} (h : i < n) (hn : n = 11) : i = 0 ∨ i = 1 ∨ i = 2 ∨ i = 3 ∨ i = 4 ∨ i = 5 ∨ i = 6 ∨ i = 7 ∨ i = 8 ∨ i = 9 ∨ i = 10 := by omega

set_option maxHeartbeats 1000000 in
theorem refid_any (r : Int) (s : Nat) (hs : s < 4294967296) (w : World) :
    Calls Try.prog 37 #[.agg (idC r s)] w fun e w' => e = .returned (str (idB r s)) ∧ Below w.heap.size w w' := by
  obtain ⟨h1, hbel⟩ := ev_box (idC r s) 24 w
  obtain ⟨W, hW⟩ : ∃ W, W = (w.alloc (.cells (idC r s) 24)) := ⟨_, rfl⟩
  rw [← hW] at h1 hbel
  have hr0 : W.rangeAt w.heap.size 0 (idC r s).toList := h1.range _ _ fun j v hv => by rw [Nat.zero_add, ← Array.getElem?_toList]; exact hv
  have R0 := Lib.hid (range_exts hr0)
  have k0 := fun y : Ext W => refzero_any r s y.now
  obtain ⟨z, hz⟩ : ∃ z, z = zeroI r s := ⟨_, rfl⟩
  have hidb : idB r s = if z = true then [] else UInt8.ofNat (r % 256).toNat :: numB s := by rw [hz]; rfl
  rw [hidb]
  simp only [← hz] at k0
  have K0 := Lib.hid k0
  have H1 := Lib.hid h1
  have HW := Lib.hid hW
  have Hbel := Lib.hid hbel
  clear hz h1 hW hbel hr0 hidb k0
  cases z with
  | true =>
    go_enter Try.func37, Try.ntmps37
    go_upto_region 1 with fail
    rw [← HW.out]
    refine wp_plain_grow ?_
    repeat (first | (go_big_quiet_want; refine quiet_mid 24 (.tmp 1) rfl w.heap.size 0 rfl _ _ R0.out Try.underlying24 rfl id_info ?_; go_simp; go_big_quiet_on) | go_big_quiet_step ((go_at_call 23; with_reducible exact calls_grow (K0.out _))) | quiet_step ((go_at_call 23; with_reducible exact calls_grow (K0.out _))))
    refine wpQuiet_nil ?_
    rintro w6 ⟨⟨_, hb6⟩, rfl⟩
    go_wp2_with fail
    go_ret
    exact ⟨rfl, below_call Hbel.out hb6⟩
  | false =>
    go_enter Try.func37, Try.ntmps37
    go_upto_region 1 with fail
    rw [← HW.out]
    refine wp_plain_grow ?_
    repeat (first | (go_big_quiet_want; refine quiet_mid 24 (.tmp 1) rfl w.heap.size 0 rfl _ _ R0.out Try.underlying24 rfl id_info ?_; go_simp; go_big_quiet_on) | go_big_quiet_step ((go_at_call 23; with_reducible exact calls_grow (K0.out _))) | quiet_step ((go_at_call 23; with_reducible exact calls_grow (K0.out _))))
    refine wpQuiet_nil ?_
    rintro w6 ⟨⟨_, hb6⟩, rfl⟩
    have H6 := Lib.hid (H1.out.grow hb6)
    have hb06 := below_call Hbel.out hb6
    have hnl := numLen32 hs
    have hnb : (numB s).length ≤ 4 := by rw [numB_length]; exact hnl
    go_upto_region 3 with fail
    refine wp_region_good (ridG w.heap.size r s) 15 (by kernel_rfl) (by kernel_rfl) (by kernel_rfl) (by kernel_rfl) rfl ?_ ?_ ?_
    · intro t v x x' h hb hb'
      unfold ridG at *
      split at h <;> first | exact h | (obtain ⟨A, rfl, h⟩ := h; exact ⟨A, rfl, h.grow hb'⟩)
    · intro i o hi a x hbx hsame hpre K hK
      have hlt := (Array.getElem?_eq_some_iff.1 hi).1
      rcases many11 hlt rfl with rfl | rfl | rfl | rfl | rfl | rfl | rfl | rfl | rfl | rfl | rfl
      all_goals (have ho := Option.some.inj hi; subst ho; clear hi hlt)
      · have hk : ∀ v x', ridG w.heap.size r s 5 v x' → Below x.heap.size x x' → K (a.put (some 5) v) x' := hK
        have a1 : a.tmps[1]?.getD undef = .pointer (some ⟨w.heap.size, 0, none⟩) := hsame 1 (by decide +kernel)
        clear hsame hpre hK
        go_simp
        exact hk _ _ rfl (Below.refl _ _)
      · have hk : ∀ v x', ridG w.heap.size r s 6 v x' → Below x.heap.size x x' → K (a.put (some 6) v) x' := hK
        have a5 : a.tmps[5]?.getD undef = .pointer (some ⟨w.heap.size, 0, none⟩) := hpre ⟨0, .data⟩ (by simp) rfl (by decide)
        clear hsame hpre hK
        have c0 : x.cell? ⟨w.heap.size, 0, none⟩ = some (.int .i64 r) := by rw [(H6.out.grow hbx).cell]; rfl
        go_simp
        exact hk _ _ rfl (Below.refl _ _)
      · have hk : ∀ v x', ridG w.heap.size r s 7 v x' → Below x.heap.size x x' → K (a.put (some 7) v) x' := hK
        have a6 : a.tmps[6]?.getD undef = .int .i64 r := hpre ⟨1, .data⟩ (by simp) rfl (by decide)
        clear hsame hpre hK
        go_simp
        exact hk _ _ rfl (Below.refl _ _)
      · have hk : ∀ v x', ridG w.heap.size r s 8 v x' → Below x.heap.size x x' → K (a.put (some 8) v) x' := hK
        have a7 : a.tmps[7]?.getD undef = .int .u8 (r % 256) := hpre ⟨2, .data⟩ (by simp) rfl (by decide)
        clear hsame hpre hK
        go_simp
        exact hk _ _ ⟨_, rfl, (Blk.new x _ _).rd _ trivial⟩ ((Below.refl _ _).alloc (Nat.le_refl _) _)
      · have hk : ∀ v x', ridG w.heap.size r s 9 v x' → Below x.heap.size x x' → K (a.put (some 9) v) x' := hK
        have a8 : ridG w.heap.size r s 8 (a.tmps[8]?.getD undef) x := hpre ⟨3, .data⟩ (by simp) rfl (by decide)
        clear hsame hpre hK
        obtain ⟨A8, e8, r8⟩ := a8
        have hcv : (convert 34 9 (.slice A8 1 1)).run Try.prog x = .ok (str [UInt8.ofNat (r % 256).toNat]) x := run_bytes_str (c := 1) (l := [UInt8.ofNat (r % 256).toNat]) _ _ _ Try.underlying34 Try.underlying5 Try.underlying9 (by rw [List.map_singleton, show u8 (UInt8.ofNat (r % 256).toNat) = .int .u8 (r % 256) by unfold Go.Proofs.Ytkojoahamoffcaa.u8; rw [UInt8.toNat_ofNat']; congr 1; omega]; exact r8)
        clear r8
        go_simp
        exact hk _ _ rfl (Below.refl _ _)
      · have hk : ∀ v x', ridG w.heap.size r s 10 v x' → Below x.heap.size x x' → K (a.put (some 10) v) x' := hK
        have a1 : a.tmps[1]?.getD undef = .pointer (some ⟨w.heap.size, 0, none⟩) := hsame 1 (by decide +kernel)
        clear hsame hpre hK
        go_simp
        exact hk _ _ rfl (Below.refl _ _)
      · have hk : ∀ v x', ridG w.heap.size r s 11 v x' → Below x.heap.size x x' → K (a.put (some 11) v) x' := hK
        have a10 : a.tmps[10]?.getD undef = .pointer (some ⟨w.heap.size, 1, none⟩) := hpre ⟨5, .data⟩ (by simp) rfl (by decide)
        clear hsame hpre hK
        have c0 : x.cell? ⟨w.heap.size, 1, none⟩ = some (.int .u32 (s : Int)) := by rw [(H6.out.grow hbx).cell]; rfl
        go_simp
        exact hk _ _ rfl (Below.refl _ _)
      · have hk : ∀ v x', ridG w.heap.size r s 12 v x' → Below x.heap.size x x' → K (a.put (some 12) v) x' := hK
        have a11 : a.tmps[11]?.getD undef = .int .u32 (s : Int) := hpre ⟨6, .data⟩ (by simp) rfl (by decide)
        clear hsame hpre hK
        have hw : IntKind.u64.wrap (s : Int) = (s : Int) := by rw [IntKind.wrap_u64]; omega
        go_simp
        exact hk _ _ rfl (Below.refl _ _)
      · have hk : ∀ v x', ridG w.heap.size r s 13 v x' → Below x.heap.size x x' → K (a.put (some 13) v) x' := hK
        have a12 : a.tmps[12]?.getD undef = .int .u64 (s : Int) := hpre ⟨7, .data⟩ (by simp) rfl (by decide)
        clear hsame hpre hK
        go_simp
        refine (refnum s x (by omega)).mono ?_
        rintro e x' ⟨rfl, hb'⟩
        go_simp
        exact hk _ _ rfl hb'
      · have hk : ∀ v x', ridG w.heap.size r s 14 v x' → Below x.heap.size x x' → K (a.put (some 14) v) x' := hK
        have a9 : a.tmps[9]?.getD undef = str [UInt8.ofNat (r % 256).toNat] := hpre ⟨4, .data⟩ (by simp) rfl (by decide)
        have a13 : a.tmps[13]?.getD undef = str (numB s) := hpre ⟨8, .data⟩ (by simp) rfl (by decide)
        clear hsame hpre hK
        have hadd : ∀ u : World, (Op.stringOp .add ⟨[UInt8.ofNat (r % 256).toNat].toArray⟩ ⟨(numB s).toArray⟩).run Try.prog u = .ok (str (UInt8.ofNat (r % 256).toNat :: numB s)) u := fun u => run_str_add u [UInt8.ofNat (r % 256).toNat] (numB s) (by simp only [List.length_singleton]; omega)
        go_simp
        exact hk _ _ rfl (Below.refl _ _)
      · have hk : ∀ v x', ridG w.heap.size r s 2 v x' → Below x.heap.size x x' → K (a.put (some 2) v) x' := hK
        have a14 : a.tmps[14]?.getD undef = str (UInt8.ofNat (r % 256).toNat :: numB s) := hpre ⟨9, .data⟩ (by simp) rfl (by decide)
        clear hsame hpre hK
        go_simp
        exact hk _ _ rfl (Below.refl _ _)
    · intro a x hbx hsame hG hsz hde
      have g2 : a.tmps[2]?.getD undef = str (UInt8.ofNat (r % 256).toNat :: numB s) := hG 10 (by decide)
      have hde' : a.defers = [] := hde
      have hbx' := hb06.trans (hbx.mono hb06.size)
      clear hsame hG hde
      go_wp2_with fail
      exact bodyPost_ret (v := str (UInt8.ofNat (r % 256).toNat :: numB s)) ((results_tmp rfl _ _ _).trans (by rw [Array.getD_eq_getD_getElem?, g2])) hde' ⟨rfl, hbx'⟩

set_option maxHeartbeats 1000000 in
theorem refidsb_any (ok : Nat → Prop) (v : Value) (L : List (Int × Nat)) (w : World) (hL : IsL kId w ok v L) (hn : L.length ≤ 65536) (hf : ∀ p ∈ L, okI p.1 p.2) :
    Calls Try.prog 38 #[v] w fun e w' => e = .returned (str (idsB L)) ∧ Below w.heap.size w w' := by
  obtain ⟨A, c, rfl, hc1, hc2, hL⟩ := id_at hL
  have HL := Lib.hid hL
  have Hf := Lib.hid hf
  clear hL hf
  go_enter Try.func38, Try.ntmps38
  go_wp2_with fail
  go_loopw [3, 4] (fun t i wr => ∃ k : Nat, k ≤ L.length ∧ i = .int .i64 (k : Int) ∧ t = str (idsB (L.take k)) ∧ Below w.heap.size w wr) (fun _ i _ => L.length - (intOf i).toNat)
  case atStart => exact ⟨0, by omega, rfl, rfl, Below.refl _ _⟩
  case round =>
    obtain ⟨k, hk, rfl, rfl, hbw⟩ := hrel
    by_cases hlt : k < L.length
    · obtain ⟨g, off, rfl, _, hg, hel⟩ := HL.out (by intro e; subst e; simp at hlt)
      obtain ⟨hr, hok⟩ := hel k hlt
      have r1 := range_ext hr hbw
      have hs2 := hok.2
      have hoki := Hf.out _ (List.getElem_mem hlt)
      have hidl := idB_len (r := L[k].1) hoki.2.2
      have hid := fun w => refid_any L[k].1 L[k].2 hs2 w
      have hfd := fun w => reffield_any (idB L[k].1 L[k].2) w (by omega)
      have hlen : (idsB (L.take (k + 1))).length ≤ 1099511627776 := by
        have := idsB_len (l := L.take (k + 1)) fun p hp => Hf.out p (List.mem_of_mem_take hp)
        have h2 : (L.take (k + 1)).length ≤ L.length := by rw [List.length_take]; omega
        omega
      have hstep : idsB (L.take (k + 1)) = idsB (L.take k) ++ fieldB (idB L[k].1 L[k].2) := by
        unfold idsB idsF
        rw [List.take_succ_eq_append_getElem hlt, List.map_append, packB_append]
        simp [packB_cons, packB_nil]
      have hadd : ∀ u : World, (Op.stringOp .add ⟨(idsB (L.take k)).toArray⟩ ⟨(fieldB (idB L[k].1 L[k].2)).toArray⟩).run Try.prog u = .ok (str (idsB (L.take (k + 1)))) u := fun u => by
        rw [hstep]
        exact run_str_add u _ _ (by rw [hstep, List.length_append] at hlen; omega)
      have Hst := Lib.hid hstep
      generalize fieldB (idB L[k].1 L[k].2) = fb at hadd hfd
      generalize idB L[k].1 L[k].2 = ib at hfd hid
      obtain ⟨pr, hpr⟩ : ∃ p, p = L[k].1 := ⟨_, rfl⟩
      obtain ⟨ps, hps⟩ : ∃ p, p = L[k].2 := ⟨_, rfl⟩
      rw [← hpr, ← hps] at hid
      rw [← hpr, ← hps] at r1
      have R1 := Lib.hid r1
      have Hid := Lib.hid hid
      have Hfd := Lib.hid hfd
      clear hpr hps hid hfd hr hok hel hidl hlen hstep r1 hoki
      go_wp2_with (first | (refine wpList_load_mid ?_ 24 (.tmp 16) ?_ g (off + k * 2) ?_ _ _ R1.out Try.underlying24 rfl id_info ?_; exact rfl; exact rfl; exact rfl) | (go_at_call 37; (with_reducible refine (Hid.out _).mono ?_); rintro e w1 ⟨rfl, hb1⟩) | (go_at_call 56; (with_reducible refine (Hfd.out _).mono ?_); rintro e w2 ⟨rfl, hb2⟩))
      go_roundw
      case rel => exact ⟨k + 1, by omega, by go_num, rfl, (hbw.trans (hb1.mono hbw.size)).trans (hb2.mono (Nat.le_trans hbw.size hb1.size))⟩
      case measure => simp [intOf]; omega
    · obtain rfl : k = L.length := by omega
      rw [List.take_length]
      go_wp2_with fail
      go_ret
      exact ⟨rfl, hbw⟩
end Go.Proofs.Ytkojoahamoffcaa

namespace Go.Proofs.Ytkojoahamoffcaa
open Go.RowKit
set_option maxRecDepth 100000

/-- Something good in a slot: what the document's Write leaves there. -/
def rwrG (N0 N3 N9 N11 b : Nat) (e : Ev) (vg vb : Value) (t : Nat) (v : Value) (x : World) : Prop :=
  match t with
  | 6 => v = .pointer (some ⟨b, 0, none⟩)
  | 7 => v = .pointer (some ⟨b, 0, none⟩)
  | 8 => v = .int .i64 e.rep
  | 9 => v = .int .u64 (N0 : Int)
  | 10 => v = str (numB N0)
  | 11 => v = .pointer (some ⟨b, 0, none⟩)
  | 12 => v = .pointer (some ⟨b, 1, none⟩)
  | 13 => v = .int .u32 (e.seq : Int)
  | 14 => v = .int .u64 (e.seq : Int)
  | 15 => v = str (numB e.seq)
  | 16 => v = .pointer (some ⟨b, 2, none⟩)
  | 17 => v = .agg (av e.dep)
  | 18 => v = .agg (av zeroV)
  | 19 => v = str (spanB e.dep zeroV)
  | 20 => v = .pointer (some ⟨b, 10, none⟩)
  | 21 => v = .int .i64 e.kind
  | 22 => v = .int .u64 (N3 : Int)
  | 23 => v = str (numB N3)
  | 24 => v = .pointer (some ⟨b, 11, none⟩)
  | 25 => v = .agg (idC e.orep e.oseq)
  | 26 => v = str (idB e.orep e.oseq)
  | 27 => v = .pointer (some ⟨b, 13, none⟩)
  | 28 => v = .agg (idC e.drep e.dseq)
  | 29 => v = str (idB e.drep e.dseq)
  | 30 => v = .pointer (some ⟨b, 15, none⟩)
  | 31 => v = str (e.name)
  | 32 => v = .pointer (some ⟨b, 16, none⟩)
  | 33 => v = vg
  | 34 => v = str (idsB e.gone)
  | 35 => v = .pointer (some ⟨b, 17, none⟩)
  | 36 => v = vb
  | 37 => v = str (idsB e.base)
  | 38 => v = .pointer (some ⟨b, 18, none⟩)
  | 39 => v = .int .i64 e.off
  | 40 => v = .int .u64 (N9 : Int)
  | 41 => v = str (numB N9)
  | 42 => v = .pointer (some ⟨b, 19, none⟩)
  | 43 => v = str (e.data)
  | 44 => v = .pointer (some ⟨b, 20, none⟩)
  | 45 => v = .int .i64 e.ward
  | 46 => v = .int .u64 (N11 : Int)
  | 47 => v = str (numB N11)
  | 48 => ∃ A, v = .slice A 12 12 ∧ Rd x (fun _ => True) A ((evF e).map str)
  | 49 => v = .tuple #[str (evB e), .int .i64 0]
  | 5 => v = .tuple #[str (evB e), .int .i64 0]
  | 50 => v = str (evB e)
  | 51 => v = .int .i64 0
  | 3 => v = str (evB e)
  | 4 => v = .int .i64 0
  | _ => True
theorem many49 {i n : Nat} (h : i < n) (hn : n = 49) : i = 0 ∨ i = 1 ∨ i = 2 ∨ i = 3 ∨ i = 4 ∨ i = 5 ∨ i = 6 ∨ i = 7 ∨ i = 8 ∨ i = 9 ∨ i = 10 ∨ i = 11 ∨ i = 12 ∨ i = 13 ∨ i = 14 ∨ i = 15 ∨ i = 16 ∨ i = 17 ∨ i = 18 ∨ i = 19 ∨ i = 20 ∨ i = 21 ∨ i = 22 ∨ i = 23 ∨ i = 24 ∨ i = 25 ∨ i = 26 ∨ i = 27 ∨ i = 28 ∨ i = 29 ∨ i = 30 ∨ i = 31 ∨ i = 32 ∨ i = 33 ∨ i = 34 ∨ i = 35 ∨ i = 36 ∨ i = 37 ∨ i = 38 ∨ i = 39 ∨ i = 40 ∨ i = 41 ∨ i = 42 ∨ i = 43 ∨ i = 44 ∨ i = 45 ∨ i = 46 ∨ i = 47 ∨ i = 48 := by omega

set_option maxHeartbeats 8000000 in
theorem refwrite_any (ok : Nat → Prop) (e : Ev) (vg vb : Value) (w : World) (hin : EvIn w ok e vg vb) (hc : checkB e = true) :
    Calls Try.prog 15 #[.agg (evC e vg vb)] w fun x w' => x = .returned (str (evB e)) ∧ Below w.heap.size w w' := by
  obtain ⟨h1, hbel⟩ := ev_box (evC e vg vb) 29 w
  obtain ⟨W, hW⟩ : ∃ W, W = (w.alloc (.cells (evC e vg vb) 29)) := ⟨_, rfl⟩
  rw [← hW] at h1 hbel
  have Hfin := Lib.hid (fine_of hc)
  have HW0 := Lib.hid hW
  have Hin := Lib.hid hin
  have Hok := Lib.hid hin.fits
  obtain ⟨N0, hN0⟩ : ∃ n, n = e.rep.toNat := ⟨_, rfl⟩
  obtain ⟨N3, hN3⟩ : ∃ n, n = e.kind.toNat := ⟨_, rfl⟩
  obtain ⟨N9, hN9⟩ : ∃ n, n = e.off.toNat := ⟨_, rfl⟩
  obtain ⟨N11, hN11⟩ : ∃ n, n = e.ward.toNat := ⟨_, rfl⟩
  have hF : evF e = [numB N0, numB e.seq, spanB e.dep zeroV, numB N3, idB e.orep e.oseq, idB e.drep e.dseq, e.name, idsB e.gone, idsB e.base, numB N9, e.data, numB N11] := by unfold evF; rw [← hN0, ← hN3, ← hN9, ← hN11]
  have hNN : N0 ≤ 8 ∧ N3 ≤ 9 ∧ N9 ≤ 200 ∧ N11 ≤ 4 := by
    have := Hfin.out.rep
    have := Hfin.out.kind
    have := Hfin.out.off
    have := Hfin.out.ward
    omega
  have hwr : IntKind.u64.wrap e.rep = (N0 : Int) ∧ IntKind.u64.wrap (e.seq : Int) = (e.seq : Int) ∧ IntKind.u64.wrap e.kind = (N3 : Int) ∧ IntKind.u64.wrap e.off = (N9 : Int) ∧ IntKind.u64.wrap e.ward = (N11 : Int) := by
    have := Hfin.out.rep
    have := Hfin.out.seq
    have := Hfin.out.kind
    have := Hfin.out.off
    have := Hfin.out.ward
    simp only [IntKind.wrap_u64]
    omega
  have HF := Lib.hid hF
  have HN := Lib.hid hNN
  have HW := Lib.hid hwr
  have H6 := Lib.hid h1
  have hb06 := hbel
  clear hF hNN hN0 hN3 hN9 hN11 hwr hc hin hW h1 hbel
  go_enter Try.func15, Try.ntmps15
  go_upto_region 1 with fail
  rw [← HW0.out]
  refine wp_region_good (rwrG N0 N3 N9 N11 w.heap.size e vg vb) 53 (by kernel_rfl) (by kernel_rfl) (by kernel_rfl) (by kernel_rfl) rfl ?_ ?_ ?_
  · intro t v x x' h hb hb'
    unfold rwrG at *
    split at h <;> first | exact h | (obtain ⟨A, rfl, h⟩ := h; exact ⟨A, rfl, h.grow hb'⟩)
  · intro i o hi a x hbx hsame hpre K hK
    have hlt := (Array.getElem?_eq_some_iff.1 hi).1
    rcases many49 hlt rfl with rfl | rfl | rfl | rfl | rfl | rfl | rfl | rfl | rfl | rfl | rfl | rfl | rfl | rfl | rfl | rfl | rfl | rfl | rfl | rfl | rfl | rfl | rfl | rfl | rfl | rfl | rfl | rfl | rfl | rfl | rfl | rfl | rfl | rfl | rfl | rfl | rfl | rfl | rfl | rfl | rfl | rfl | rfl | rfl | rfl | rfl | rfl | rfl | rfl
    all_goals (have ho := Option.some.inj hi; subst ho; clear hi hlt)
    · have hk : ∀ v x', rwrG N0 N3 N9 N11 w.heap.size e vg vb 6 v x' → Below x.heap.size x x' → K (a.put (some 6) v) x' := hK
      have a1 : a.tmps[1]?.getD undef = .pointer (some ⟨w.heap.size, 0, none⟩) := hsame 1 (by decide +kernel)
      clear hsame hpre hK
      go_simp
      exact hk _ _ rfl (Below.refl _ _)
    · have hk : ∀ v x', rwrG N0 N3 N9 N11 w.heap.size e vg vb 7 v x' → Below x.heap.size x x' → K (a.put (some 7) v) x' := hK
      have a6 : a.tmps[6]?.getD undef = .pointer (some ⟨w.heap.size, 0, none⟩) := hpre ⟨0, .data⟩ (by simp) rfl (by decide)
      clear hsame hpre hK
      go_simp
      exact hk _ _ rfl (Below.refl _ _)
    · have hk : ∀ v x', rwrG N0 N3 N9 N11 w.heap.size e vg vb 8 v x' → Below x.heap.size x x' → K (a.put (some 8) v) x' := hK
      have a7 : a.tmps[7]?.getD undef = .pointer (some ⟨w.heap.size, 0, none⟩) := hpre ⟨1, .data⟩ (by simp) rfl (by decide)
      clear hsame hpre hK
      have c0 := (H6.out.grow hbx).ev.rep
      go_simp
      exact hk _ _ rfl (Below.refl _ _)
    · have hk : ∀ v x', rwrG N0 N3 N9 N11 w.heap.size e vg vb 9 v x' → Below x.heap.size x x' → K (a.put (some 9) v) x' := hK
      have a8 : a.tmps[8]?.getD undef = .int .i64 e.rep := hpre ⟨2, .data⟩ (by simp) rfl (by decide)
      clear hsame hpre hK
      have hw := HW.out.1
      go_simp
      exact hk _ _ rfl (Below.refl _ _)
    · have hk : ∀ v x', rwrG N0 N3 N9 N11 w.heap.size e vg vb 10 v x' → Below x.heap.size x x' → K (a.put (some 10) v) x' := hK
      have a9 : a.tmps[9]?.getD undef = .int .u64 (N0 : Int) := hpre ⟨3, .data⟩ (by simp) rfl (by decide)
      clear hsame hpre hK
      go_simp
      (with_reducible refine (refnum (N0) x (by have := HN.out.1; omega)).mono ?_)
      rintro _ x' ⟨rfl, hb'⟩
      go_simp
      exact hk _ _ rfl hb'
    · have hk : ∀ v x', rwrG N0 N3 N9 N11 w.heap.size e vg vb 11 v x' → Below x.heap.size x x' → K (a.put (some 11) v) x' := hK
      have a1 : a.tmps[1]?.getD undef = .pointer (some ⟨w.heap.size, 0, none⟩) := hsame 1 (by decide +kernel)
      clear hsame hpre hK
      go_simp
      exact hk _ _ rfl (Below.refl _ _)
    · have hk : ∀ v x', rwrG N0 N3 N9 N11 w.heap.size e vg vb 12 v x' → Below x.heap.size x x' → K (a.put (some 12) v) x' := hK
      have a11 : a.tmps[11]?.getD undef = .pointer (some ⟨w.heap.size, 0, none⟩) := hpre ⟨5, .data⟩ (by simp) rfl (by decide)
      clear hsame hpre hK
      go_simp
      exact hk _ _ rfl (Below.refl _ _)
    · have hk : ∀ v x', rwrG N0 N3 N9 N11 w.heap.size e vg vb 13 v x' → Below x.heap.size x x' → K (a.put (some 13) v) x' := hK
      have a12 : a.tmps[12]?.getD undef = .pointer (some ⟨w.heap.size, 1, none⟩) := hpre ⟨6, .data⟩ (by simp) rfl (by decide)
      clear hsame hpre hK
      have c0 := (H6.out.grow hbx).ev.seq
      go_simp
      exact hk _ _ rfl (Below.refl _ _)
    · have hk : ∀ v x', rwrG N0 N3 N9 N11 w.heap.size e vg vb 14 v x' → Below x.heap.size x x' → K (a.put (some 14) v) x' := hK
      have a13 : a.tmps[13]?.getD undef = .int .u32 (e.seq : Int) := hpre ⟨7, .data⟩ (by simp) rfl (by decide)
      clear hsame hpre hK
      have hw := HW.out.2.1
      go_simp
      exact hk _ _ rfl (Below.refl _ _)
    · have hk : ∀ v x', rwrG N0 N3 N9 N11 w.heap.size e vg vb 15 v x' → Below x.heap.size x x' → K (a.put (some 15) v) x' := hK
      have a14 : a.tmps[14]?.getD undef = .int .u64 (e.seq : Int) := hpre ⟨8, .data⟩ (by simp) rfl (by decide)
      clear hsame hpre hK
      go_simp
      (with_reducible refine (refnum (e.seq) x (by have := Hfin.out.seq; omega)).mono ?_)
      rintro _ x' ⟨rfl, hb'⟩
      go_simp
      exact hk _ _ rfl hb'
    · have hk : ∀ v x', rwrG N0 N3 N9 N11 w.heap.size e vg vb 16 v x' → Below x.heap.size x x' → K (a.put (some 16) v) x' := hK
      have a1 : a.tmps[1]?.getD undef = .pointer (some ⟨w.heap.size, 0, none⟩) := hsame 1 (by decide +kernel)
      clear hsame hpre hK
      go_simp
      exact hk _ _ rfl (Below.refl _ _)
    · have hk : ∀ v x', rwrG N0 N3 N9 N11 w.heap.size e vg vb 17 v x' → Below x.heap.size x x' → K (a.put (some 17) v) x' := hK
      have a16 : a.tmps[16]?.getD undef = .pointer (some ⟨w.heap.size, 2, none⟩) := hpre ⟨10, .data⟩ (by simp) rfl (by decide)
      clear hsame hpre hK
      refine wp_load_mid 26 (.tmp 16) rfl w.heap.size 2 (eval_at a16) (av e.dep).toList _ (ev_dep (H6.out.grow hbx)) Try.underlying26 rfl vec_info ?_
      exact hk _ _ rfl (Below.refl _ _)
    · have hk : ∀ v x', rwrG N0 N3 N9 N11 w.heap.size e vg vb 18 v x' → Below x.heap.size x x' → K (a.put (some 18) v) x' := hK
      clear hsame hpre hK
      go_simp
      exact hk _ _ rfl (Below.refl _ _)
    · have hk : ∀ v x', rwrG N0 N3 N9 N11 w.heap.size e vg vb 19 v x' → Below x.heap.size x x' → K (a.put (some 19) v) x' := hK
      have a17 : a.tmps[17]?.getD undef = .agg (av e.dep) := hpre ⟨11, .data⟩ (by simp) rfl (by decide)
      have a18 : a.tmps[18]?.getD undef = .agg (av zeroV) := hpre ⟨12, .data⟩ (by simp) rfl (by decide)
      clear hsame hpre hK
      rw [zero_av] at a18
      go_simp
      (refine (refshrink_any e.dep zeroV Hok.out.dep okV_zero x).mono ?_)
      rintro _ x' ⟨rfl, hb'⟩
      go_simp
      exact hk _ _ rfl hb'
    · have hk : ∀ v x', rwrG N0 N3 N9 N11 w.heap.size e vg vb 20 v x' → Below x.heap.size x x' → K (a.put (some 20) v) x' := hK
      have a1 : a.tmps[1]?.getD undef = .pointer (some ⟨w.heap.size, 0, none⟩) := hsame 1 (by decide +kernel)
      clear hsame hpre hK
      go_simp
      exact hk _ _ rfl (Below.refl _ _)
    · have hk : ∀ v x', rwrG N0 N3 N9 N11 w.heap.size e vg vb 21 v x' → Below x.heap.size x x' → K (a.put (some 21) v) x' := hK
      have a20 : a.tmps[20]?.getD undef = .pointer (some ⟨w.heap.size, 10, none⟩) := hpre ⟨14, .data⟩ (by simp) rfl (by decide)
      clear hsame hpre hK
      have c0 := (H6.out.grow hbx).ev.kind
      go_simp
      exact hk _ _ rfl (Below.refl _ _)
    · have hk : ∀ v x', rwrG N0 N3 N9 N11 w.heap.size e vg vb 22 v x' → Below x.heap.size x x' → K (a.put (some 22) v) x' := hK
      have a21 : a.tmps[21]?.getD undef = .int .i64 e.kind := hpre ⟨15, .data⟩ (by simp) rfl (by decide)
      clear hsame hpre hK
      have hw := HW.out.2.2.1
      go_simp
      exact hk _ _ rfl (Below.refl _ _)
    · have hk : ∀ v x', rwrG N0 N3 N9 N11 w.heap.size e vg vb 23 v x' → Below x.heap.size x x' → K (a.put (some 23) v) x' := hK
      have a22 : a.tmps[22]?.getD undef = .int .u64 (N3 : Int) := hpre ⟨16, .data⟩ (by simp) rfl (by decide)
      clear hsame hpre hK
      go_simp
      (with_reducible refine (refnum (N3) x (by have := HN.out.2.1; omega)).mono ?_)
      rintro _ x' ⟨rfl, hb'⟩
      go_simp
      exact hk _ _ rfl hb'
    · have hk : ∀ v x', rwrG N0 N3 N9 N11 w.heap.size e vg vb 24 v x' → Below x.heap.size x x' → K (a.put (some 24) v) x' := hK
      have a1 : a.tmps[1]?.getD undef = .pointer (some ⟨w.heap.size, 0, none⟩) := hsame 1 (by decide +kernel)
      clear hsame hpre hK
      go_simp
      exact hk _ _ rfl (Below.refl _ _)
    · have hk : ∀ v x', rwrG N0 N3 N9 N11 w.heap.size e vg vb 25 v x' → Below x.heap.size x x' → K (a.put (some 25) v) x' := hK
      have a24 : a.tmps[24]?.getD undef = .pointer (some ⟨w.heap.size, 11, none⟩) := hpre ⟨18, .data⟩ (by simp) rfl (by decide)
      clear hsame hpre hK
      refine wp_load_mid 24 (.tmp 24) rfl w.heap.size 11 (eval_at a24) (idC e.orep e.oseq).toList _ (ev_obj (H6.out.grow hbx)) Try.underlying24 rfl id_info ?_
      exact hk _ _ rfl (Below.refl _ _)
    · have hk : ∀ v x', rwrG N0 N3 N9 N11 w.heap.size e vg vb 26 v x' → Below x.heap.size x x' → K (a.put (some 26) v) x' := hK
      have a25 : a.tmps[25]?.getD undef = .agg (idC e.orep e.oseq) := hpre ⟨19, .data⟩ (by simp) rfl (by decide)
      clear hsame hpre hK
      go_simp
      (with_reducible refine (refid_any e.orep e.oseq Hok.out.obj.2 x).mono ?_)
      rintro _ x' ⟨rfl, hb'⟩
      go_simp
      exact hk _ _ rfl hb'
    · have hk : ∀ v x', rwrG N0 N3 N9 N11 w.heap.size e vg vb 27 v x' → Below x.heap.size x x' → K (a.put (some 27) v) x' := hK
      have a1 : a.tmps[1]?.getD undef = .pointer (some ⟨w.heap.size, 0, none⟩) := hsame 1 (by decide +kernel)
      clear hsame hpre hK
      go_simp
      exact hk _ _ rfl (Below.refl _ _)
    · have hk : ∀ v x', rwrG N0 N3 N9 N11 w.heap.size e vg vb 28 v x' → Below x.heap.size x x' → K (a.put (some 28) v) x' := hK
      have a27 : a.tmps[27]?.getD undef = .pointer (some ⟨w.heap.size, 13, none⟩) := hpre ⟨21, .data⟩ (by simp) rfl (by decide)
      clear hsame hpre hK
      refine wp_load_mid 24 (.tmp 27) rfl w.heap.size 13 (eval_at a27) (idC e.drep e.dseq).toList _ (ev_dir (H6.out.grow hbx)) Try.underlying24 rfl id_info ?_
      exact hk _ _ rfl (Below.refl _ _)
    · have hk : ∀ v x', rwrG N0 N3 N9 N11 w.heap.size e vg vb 29 v x' → Below x.heap.size x x' → K (a.put (some 29) v) x' := hK
      have a28 : a.tmps[28]?.getD undef = .agg (idC e.drep e.dseq) := hpre ⟨22, .data⟩ (by simp) rfl (by decide)
      clear hsame hpre hK
      go_simp
      (with_reducible refine (refid_any e.drep e.dseq Hok.out.dir.2 x).mono ?_)
      rintro _ x' ⟨rfl, hb'⟩
      go_simp
      exact hk _ _ rfl hb'
    · have hk : ∀ v x', rwrG N0 N3 N9 N11 w.heap.size e vg vb 30 v x' → Below x.heap.size x x' → K (a.put (some 30) v) x' := hK
      have a1 : a.tmps[1]?.getD undef = .pointer (some ⟨w.heap.size, 0, none⟩) := hsame 1 (by decide +kernel)
      clear hsame hpre hK
      go_simp
      exact hk _ _ rfl (Below.refl _ _)
    · have hk : ∀ v x', rwrG N0 N3 N9 N11 w.heap.size e vg vb 31 v x' → Below x.heap.size x x' → K (a.put (some 31) v) x' := hK
      have a30 : a.tmps[30]?.getD undef = .pointer (some ⟨w.heap.size, 15, none⟩) := hpre ⟨24, .data⟩ (by simp) rfl (by decide)
      clear hsame hpre hK
      have c0 := (H6.out.grow hbx).ev.name
      go_simp
      exact hk _ _ rfl (Below.refl _ _)
    · have hk : ∀ v x', rwrG N0 N3 N9 N11 w.heap.size e vg vb 32 v x' → Below x.heap.size x x' → K (a.put (some 32) v) x' := hK
      have a1 : a.tmps[1]?.getD undef = .pointer (some ⟨w.heap.size, 0, none⟩) := hsame 1 (by decide +kernel)
      clear hsame hpre hK
      go_simp
      exact hk _ _ rfl (Below.refl _ _)
    · have hk : ∀ v x', rwrG N0 N3 N9 N11 w.heap.size e vg vb 33 v x' → Below x.heap.size x x' → K (a.put (some 33) v) x' := hK
      have a32 : a.tmps[32]?.getD undef = .pointer (some ⟨w.heap.size, 16, none⟩) := hpre ⟨26, .data⟩ (by simp) rfl (by decide)
      clear hsame hpre hK
      have c0 := (H6.out.grow hbx).ev.gone
      go_simp
      exact hk _ _ rfl (Below.refl _ _)
    · have hk : ∀ v x', rwrG N0 N3 N9 N11 w.heap.size e vg vb 34 v x' → Below x.heap.size x x' → K (a.put (some 34) v) x' := hK
      have a33 : a.tmps[33]?.getD undef = vg := hpre ⟨27, .data⟩ (by simp) rfl (by decide)
      clear hsame hpre hK
      go_simp
      (with_reducible refine (refidsb_any ok vg e.gone x (((Hin.out.grow hb06).grow hbx).gone) (by have := Hfin.out.gone.2; omega) Hfin.out.gone.1).mono ?_)
      rintro _ x' ⟨rfl, hb'⟩
      go_simp
      exact hk _ _ rfl hb'
    · have hk : ∀ v x', rwrG N0 N3 N9 N11 w.heap.size e vg vb 35 v x' → Below x.heap.size x x' → K (a.put (some 35) v) x' := hK
      have a1 : a.tmps[1]?.getD undef = .pointer (some ⟨w.heap.size, 0, none⟩) := hsame 1 (by decide +kernel)
      clear hsame hpre hK
      go_simp
      exact hk _ _ rfl (Below.refl _ _)
    · have hk : ∀ v x', rwrG N0 N3 N9 N11 w.heap.size e vg vb 36 v x' → Below x.heap.size x x' → K (a.put (some 36) v) x' := hK
      have a35 : a.tmps[35]?.getD undef = .pointer (some ⟨w.heap.size, 17, none⟩) := hpre ⟨29, .data⟩ (by simp) rfl (by decide)
      clear hsame hpre hK
      have c0 := (H6.out.grow hbx).ev.base
      go_simp
      exact hk _ _ rfl (Below.refl _ _)
    · have hk : ∀ v x', rwrG N0 N3 N9 N11 w.heap.size e vg vb 37 v x' → Below x.heap.size x x' → K (a.put (some 37) v) x' := hK
      have a36 : a.tmps[36]?.getD undef = vb := hpre ⟨30, .data⟩ (by simp) rfl (by decide)
      clear hsame hpre hK
      go_simp
      (with_reducible refine (refidsb_any ok vb e.base x (((Hin.out.grow hb06).grow hbx).base) (by have := Hfin.out.base.2; omega) Hfin.out.base.1).mono ?_)
      rintro _ x' ⟨rfl, hb'⟩
      go_simp
      exact hk _ _ rfl hb'
    · have hk : ∀ v x', rwrG N0 N3 N9 N11 w.heap.size e vg vb 38 v x' → Below x.heap.size x x' → K (a.put (some 38) v) x' := hK
      have a1 : a.tmps[1]?.getD undef = .pointer (some ⟨w.heap.size, 0, none⟩) := hsame 1 (by decide +kernel)
      clear hsame hpre hK
      go_simp
      exact hk _ _ rfl (Below.refl _ _)
    · have hk : ∀ v x', rwrG N0 N3 N9 N11 w.heap.size e vg vb 39 v x' → Below x.heap.size x x' → K (a.put (some 39) v) x' := hK
      have a38 : a.tmps[38]?.getD undef = .pointer (some ⟨w.heap.size, 18, none⟩) := hpre ⟨32, .data⟩ (by simp) rfl (by decide)
      clear hsame hpre hK
      have c0 := (H6.out.grow hbx).ev.off
      go_simp
      exact hk _ _ rfl (Below.refl _ _)
    · have hk : ∀ v x', rwrG N0 N3 N9 N11 w.heap.size e vg vb 40 v x' → Below x.heap.size x x' → K (a.put (some 40) v) x' := hK
      have a39 : a.tmps[39]?.getD undef = .int .i64 e.off := hpre ⟨33, .data⟩ (by simp) rfl (by decide)
      clear hsame hpre hK
      have hw := HW.out.2.2.2.1
      go_simp
      exact hk _ _ rfl (Below.refl _ _)
    · have hk : ∀ v x', rwrG N0 N3 N9 N11 w.heap.size e vg vb 41 v x' → Below x.heap.size x x' → K (a.put (some 41) v) x' := hK
      have a40 : a.tmps[40]?.getD undef = .int .u64 (N9 : Int) := hpre ⟨34, .data⟩ (by simp) rfl (by decide)
      clear hsame hpre hK
      go_simp
      (with_reducible refine (refnum (N9) x (by have := HN.out.2.2.1; omega)).mono ?_)
      rintro _ x' ⟨rfl, hb'⟩
      go_simp
      exact hk _ _ rfl hb'
    · have hk : ∀ v x', rwrG N0 N3 N9 N11 w.heap.size e vg vb 42 v x' → Below x.heap.size x x' → K (a.put (some 42) v) x' := hK
      have a1 : a.tmps[1]?.getD undef = .pointer (some ⟨w.heap.size, 0, none⟩) := hsame 1 (by decide +kernel)
      clear hsame hpre hK
      go_simp
      exact hk _ _ rfl (Below.refl _ _)
    · have hk : ∀ v x', rwrG N0 N3 N9 N11 w.heap.size e vg vb 43 v x' → Below x.heap.size x x' → K (a.put (some 43) v) x' := hK
      have a42 : a.tmps[42]?.getD undef = .pointer (some ⟨w.heap.size, 19, none⟩) := hpre ⟨36, .data⟩ (by simp) rfl (by decide)
      clear hsame hpre hK
      have c0 := (H6.out.grow hbx).ev.data
      go_simp
      exact hk _ _ rfl (Below.refl _ _)
    · have hk : ∀ v x', rwrG N0 N3 N9 N11 w.heap.size e vg vb 44 v x' → Below x.heap.size x x' → K (a.put (some 44) v) x' := hK
      have a1 : a.tmps[1]?.getD undef = .pointer (some ⟨w.heap.size, 0, none⟩) := hsame 1 (by decide +kernel)
      clear hsame hpre hK
      go_simp
      exact hk _ _ rfl (Below.refl _ _)
    · have hk : ∀ v x', rwrG N0 N3 N9 N11 w.heap.size e vg vb 45 v x' → Below x.heap.size x x' → K (a.put (some 45) v) x' := hK
      have a44 : a.tmps[44]?.getD undef = .pointer (some ⟨w.heap.size, 20, none⟩) := hpre ⟨38, .data⟩ (by simp) rfl (by decide)
      clear hsame hpre hK
      have c0 := (H6.out.grow hbx).ev.ward
      go_simp
      exact hk _ _ rfl (Below.refl _ _)
    · have hk : ∀ v x', rwrG N0 N3 N9 N11 w.heap.size e vg vb 46 v x' → Below x.heap.size x x' → K (a.put (some 46) v) x' := hK
      have a45 : a.tmps[45]?.getD undef = .int .i64 e.ward := hpre ⟨39, .data⟩ (by simp) rfl (by decide)
      clear hsame hpre hK
      have hw := HW.out.2.2.2.2
      go_simp
      exact hk _ _ rfl (Below.refl _ _)
    · have hk : ∀ v x', rwrG N0 N3 N9 N11 w.heap.size e vg vb 47 v x' → Below x.heap.size x x' → K (a.put (some 47) v) x' := hK
      have a46 : a.tmps[46]?.getD undef = .int .u64 (N11 : Int) := hpre ⟨40, .data⟩ (by simp) rfl (by decide)
      clear hsame hpre hK
      go_simp
      (with_reducible refine (refnum (N11) x (by have := HN.out.2.2.2; omega)).mono ?_)
      rintro _ x' ⟨rfl, hb'⟩
      go_simp
      exact hk _ _ rfl hb'
    · have hk : ∀ v x', rwrG N0 N3 N9 N11 w.heap.size e vg vb 48 v x' → Below x.heap.size x x' → K (a.put (some 48) v) x' := hK
      have a10 : a.tmps[10]?.getD undef = str (numB N0) := hpre ⟨4, .data⟩ (by simp) rfl (by decide)
      have a15 : a.tmps[15]?.getD undef = str (numB e.seq) := hpre ⟨9, .data⟩ (by simp) rfl (by decide)
      have a19 : a.tmps[19]?.getD undef = str (spanB e.dep zeroV) := hpre ⟨13, .data⟩ (by simp) rfl (by decide)
      have a23 : a.tmps[23]?.getD undef = str (numB N3) := hpre ⟨17, .data⟩ (by simp) rfl (by decide)
      have a26 : a.tmps[26]?.getD undef = str (idB e.orep e.oseq) := hpre ⟨20, .data⟩ (by simp) rfl (by decide)
      have a29 : a.tmps[29]?.getD undef = str (idB e.drep e.dseq) := hpre ⟨23, .data⟩ (by simp) rfl (by decide)
      have a31 : a.tmps[31]?.getD undef = str (e.name) := hpre ⟨25, .data⟩ (by simp) rfl (by decide)
      have a34 : a.tmps[34]?.getD undef = str (idsB e.gone) := hpre ⟨28, .data⟩ (by simp) rfl (by decide)
      have a37 : a.tmps[37]?.getD undef = str (idsB e.base) := hpre ⟨31, .data⟩ (by simp) rfl (by decide)
      have a41 : a.tmps[41]?.getD undef = str (numB N9) := hpre ⟨35, .data⟩ (by simp) rfl (by decide)
      have a43 : a.tmps[43]?.getD undef = str (e.data) := hpre ⟨37, .data⟩ (by simp) rfl (by decide)
      have a47 : a.tmps[47]?.getD undef = str (numB N11) := hpre ⟨41, .data⟩ (by simp) rfl (by decide)
      clear hsame hpre hK
      go_simp
      refine hk _ _ ⟨_, rfl, ?_⟩ ((Below.refl _ _).alloc (Nat.le_refl _) _)
      rw [HF.out]
      exact (Blk.new x _ _).rd _ trivial
    · have hk : ∀ v x', rwrG N0 N3 N9 N11 w.heap.size e vg vb 49 v x' → Below x.heap.size x x' → K (a.put (some 49) v) x' := hK
      have a48 : rwrG N0 N3 N9 N11 w.heap.size e vg vb 48 (a.tmps[48]?.getD undef) x := hpre ⟨42, .data⟩ (by simp) rfl (by decide)
      clear hsame hpre hK
      obtain ⟨A48, e48, r48⟩ := a48
      have hp : Calls Try.prog 34 #[.slice A48 12 12] x (fun x' w' => x' = .returned (.tuple #[str (evB e), .int .i64 0]) ∧ Below x.heap.size x w') := refpack_any (fun _ => True) A48 12 (evF e) x r48 (by have h : (evF e).length = 12 := rfl; omega) (by have := evB_len Hfin.out; unfold evB at this; omega) (fun f hf => by have := evF_len Hfin.out f hf; omega)
      clear r48
      go_simp
      (with_reducible refine (hp).mono ?_)
      rintro _ x' ⟨rfl, hb'⟩
      go_simp
      exact hk _ _ rfl hb'
    · have hk : ∀ v x', rwrG N0 N3 N9 N11 w.heap.size e vg vb 5 v x' → Below x.heap.size x x' → K (a.put (some 5) v) x' := hK
      have a49 : a.tmps[49]?.getD undef = .tuple #[str (evB e), .int .i64 0] := hpre ⟨43, .data⟩ (by simp) rfl (by decide)
      clear hsame hpre hK
      go_simp
      exact hk _ _ rfl (Below.refl _ _)
    · have hk : ∀ v x', rwrG N0 N3 N9 N11 w.heap.size e vg vb 50 v x' → Below x.heap.size x x' → K (a.put (some 50) v) x' := hK
      have a5 : a.tmps[5]?.getD undef = .tuple #[str (evB e), .int .i64 0] := hpre ⟨44, .data⟩ (by simp) rfl (by decide)
      clear hsame hpre hK
      go_simp
      exact hk _ _ rfl (Below.refl _ _)
    · have hk : ∀ v x', rwrG N0 N3 N9 N11 w.heap.size e vg vb 51 v x' → Below x.heap.size x x' → K (a.put (some 51) v) x' := hK
      have a5 : a.tmps[5]?.getD undef = .tuple #[str (evB e), .int .i64 0] := hpre ⟨44, .data⟩ (by simp) rfl (by decide)
      clear hsame hpre hK
      go_simp
      exact hk _ _ rfl (Below.refl _ _)
    · have hk : ∀ v x', rwrG N0 N3 N9 N11 w.heap.size e vg vb 3 v x' → Below x.heap.size x x' → K (a.put (some 3) v) x' := hK
      have a50 : a.tmps[50]?.getD undef = str (evB e) := hpre ⟨45, .data⟩ (by simp) rfl (by decide)
      clear hsame hpre hK
      go_simp
      exact hk _ _ rfl (Below.refl _ _)
    · have hk : ∀ v x', rwrG N0 N3 N9 N11 w.heap.size e vg vb 4 v x' → Below x.heap.size x x' → K (a.put (some 4) v) x' := hK
      have a51 : a.tmps[51]?.getD undef = .int .i64 0 := hpre ⟨46, .data⟩ (by simp) rfl (by decide)
      clear hsame hpre hK
      go_simp
      exact hk _ _ rfl (Below.refl _ _)
  · intro a x hbx hsame hG hsz hde
    have g3 : a.tmps[3]?.getD undef = str (evB e) := hG 47 (by decide)
    obtain ⟨tm, df⟩ := a
    have hde' : df = [] := hde
    have hsz' : tm.size = 53 := hsz
    have hbx' := hb06.trans (hbx.mono hb06.size)
    clear hsame hG hde hsz
    subst hde'
    go_wp2_with fail
    exact bodyPost_ret (v := str (evB e)) ((results_tmp rfl _ _ _).trans (by rw [Array.getElem?_eq_getElem (by omega)] at g3; rw [Array.getD_eq_getD_getElem?, Array.getElem?_setIfInBounds_self_of_lt (by rw [Array.size_setIfInBounds]; omega)]; simpa using g3)) rfl ⟨rfl, hbx'⟩
end Go.Proofs.Ytkojoahamoffcaa
