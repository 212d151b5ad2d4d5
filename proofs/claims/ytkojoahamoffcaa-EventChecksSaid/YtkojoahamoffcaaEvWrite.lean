/-
  event.Write.
-/
import Derived.Test.YtkojoahamoffcaaEvIds
import Derived.Test.YtkojoahamoffcaaEvCheck
import Derived.Test.YtkojoahamoffcaaSpShrink
namespace Go.Proofs.Ytkojoahamoffcaa
open Go.RowKit
set_option maxRecDepth 100000

/-- []byte(s): the bytes lie in a new block. -/
theorem str_bytesE (s : List UInt8) (hs : s.length ≤ 70368744177664) (w : World) : ∃ c W, (convert 9 34 (str s)).run Try.prog w = .ok (.slice (some ⟨w.heap.size, 0, none⟩) s.length c) W ∧ IsB W (fun k => w.heap.size ≤ k) (.slice (some ⟨w.heap.size, 0, none⟩) s.length c) s ∧ Below w.heap.size w W := by
  have h := run_bytes_of_string (P := Try.prog) w 9 34 5 ⟨s.toArray⟩ Try.underlying9 Try.underlying34 Try.underlying5
  have hsz : (⟨s.toArray⟩ : ByteArray).size = s.length := by simp [ByteArray.size]
  have hge := grownCap_ge w (⟨s.toArray⟩ : ByteArray).size 0 5
  have hle := grownCap_le_maxLen w (⟨s.toArray⟩ : ByteArray).size 0 5 (by rw [hsz]; unfold maxLen; omega)
  obtain ⟨c, hc⟩ : ∃ c, c = grownCap w (⟨s.toArray⟩ : ByteArray).size 0 5 := ⟨_, rfl⟩
  rw [← hc] at h hge hle
  rw [hsz] at h hge
  refine ⟨c, _, h, ⟨_, _, rfl, hge, hle, ?_⟩, ((Below.refl _ _).drew).alloc (Nat.le_refl _) _⟩
  have hrow : (w.drew.alloc (.cells (bytesRow ⟨s.toArray⟩ c) 5 ((bytesRow ⟨s.toArray⟩ c).size, (bytesRow ⟨s.toArray⟩ c).size + 1))).heap[w.heap.size]? = some (.cells (bytesRow ⟨s.toArray⟩ c) 5 ((bytesRow ⟨s.toArray⟩ c).size, (bytesRow ⟨s.toArray⟩ c).size + 1)) := by
    show (w.heap.push _)[w.heap.size]? = _
    simp
  have := (rd_of_row hrow (fun k => w.heap.size ≤ k) (Nat.le_refl _)).take (k := s.length)
  have e : (bytesRow ⟨s.toArray⟩ c).toList.take s.length = s.map u8 := by
    unfold bytesRow
    rw [Array.toList_append, List.take_append_of_le_length (by simp), List.take_of_length_le (by simp), Array.toList_map]
    rfl
  rwa [e] at this
/-- Something good in a slot: what Write leaves there. -/
def wrG (N0 N3 N9 N11 b B : Nat) (e : Ev) (vg vb : Value) (t : Nat) (v : Value) (x : World) : Prop :=
  match t with
  | 7 => v = .pointer (some ⟨b, 0, none⟩)
  | 8 => v = .pointer (some ⟨b, 0, none⟩)
  | 9 => v = .int .i64 e.rep
  | 10 => v = .int .u64 (N0 : Int)
  | 11 => IsB x (fun q => B ≤ q) v (numB N0)
  | 12 => v = .pointer (some ⟨b, 0, none⟩)
  | 13 => v = .pointer (some ⟨b, 1, none⟩)
  | 14 => v = .int .u32 (e.seq : Int)
  | 15 => v = .int .u64 (e.seq : Int)
  | 16 => IsB x (fun q => B ≤ q) v (numB e.seq)
  | 17 => v = .pointer (some ⟨b, 2, none⟩)
  | 18 => v = .agg (av e.dep)
  | 19 => v = .agg (av zeroV)
  | 20 => IsB x (fun q => B ≤ q) v (spanB e.dep zeroV)
  | 21 => v = .pointer (some ⟨b, 10, none⟩)
  | 22 => v = .int .i64 e.kind
  | 23 => v = .int .u64 (N3 : Int)
  | 24 => IsB x (fun q => B ≤ q) v (numB N3)
  | 25 => v = .pointer (some ⟨b, 11, none⟩)
  | 26 => v = .agg (idC e.orep e.oseq)
  | 27 => IsB x (fun q => B ≤ q) v (idB e.orep e.oseq)
  | 28 => v = .pointer (some ⟨b, 13, none⟩)
  | 29 => v = .agg (idC e.drep e.dseq)
  | 30 => IsB x (fun q => B ≤ q) v (idB e.drep e.dseq)
  | 31 => v = .pointer (some ⟨b, 15, none⟩)
  | 32 => v = str e.name
  | 33 => IsB x (fun q => B ≤ q) v (e.name)
  | 34 => v = .pointer (some ⟨b, 16, none⟩)
  | 35 => v = vg
  | 36 => IsB x (fun q => B ≤ q) v (idsB e.gone)
  | 37 => v = .pointer (some ⟨b, 17, none⟩)
  | 38 => v = vb
  | 39 => IsB x (fun q => B ≤ q) v (idsB e.base)
  | 40 => v = .pointer (some ⟨b, 18, none⟩)
  | 41 => v = .int .i64 e.off
  | 42 => v = .int .u64 (N9 : Int)
  | 43 => IsB x (fun q => B ≤ q) v (numB N9)
  | 44 => v = .pointer (some ⟨b, 19, none⟩)
  | 45 => v = str e.data
  | 46 => IsB x (fun q => B ≤ q) v (e.data)
  | 47 => v = .pointer (some ⟨b, 20, none⟩)
  | 48 => v = .int .i64 e.ward
  | 49 => v = .int .u64 (N11 : Int)
  | 50 => IsB x (fun q => B ≤ q) v (numB N11)
  | 51 => IsBB x (fun q => B ≤ q) v [numB N0, numB e.seq, spanB e.dep zeroV, numB N3, idB e.orep e.oseq, idB e.drep e.dseq, e.name, idsB e.gone, idsB e.base, numB N9, e.data, numB N11]
  | 52 => ∃ u, v = .tuple #[u, .int .i64 0] ∧ Own1 x B 5 u ((evB e).map u8)
  | 53 => Own1 x B 5 v ((evB e).map u8)
  | 54 => v = .int .i64 0
  | 2 => Own1 x B 5 v ((evB e).map u8)
  | 3 => v = .int .i64 0
  | _ => True
theorem many12 {i n : Nat} (h : i < n) (hn : n = 12) : i = 0 ∨ i = 1 ∨ i = 2 ∨ i = 3 ∨ i = 4 ∨ i = 5 ∨ i = 6 ∨ i = 7 ∨ i = 8 ∨ i = 9 ∨ i = 10 ∨ i = 11 := by omega
theorem many50 {i n : Nat} (h : i < n) (hn : n = 50) : i = 0 ∨ i = 1 ∨ i = 2 ∨ i = 3 ∨ i = 4 ∨ i = 5 ∨ i = 6 ∨ i = 7 ∨ i = 8 ∨ i = 9 ∨ i = 10 ∨ i = 11 ∨ i = 12 ∨ i = 13 ∨ i = 14 ∨ i = 15 ∨ i = 16 ∨ i = 17 ∨ i = 18 ∨ i = 19 ∨ i = 20 ∨ i = 21 ∨ i = 22 ∨ i = 23 ∨ i = 24 ∨ i = 25 ∨ i = 26 ∨ i = 27 ∨ i = 28 ∨ i = 29 ∨ i = 30 ∨ i = 31 ∨ i = 32 ∨ i = 33 ∨ i = 34 ∨ i = 35 ∨ i = 36 ∨ i = 37 ∨ i = 38 ∨ i = 39 ∨ i = 40 ∨ i = 41 ∨ i = 42 ∨ i = 43 ∨ i = 44 ∨ i = 45 ∨ i = 46 ∨ i = 47 ∨ i = 48 ∨ i = 49 := by omega
/-- What Write answers. -/
def WritePost (e : Ev) (w : World) (x : Ending) (w' : World) : Prop :=
  (if checkB e = true then ∃ u, x = .returned (.tuple #[u, .int .i64 0]) ∧ Own1 w' w.heap.size 5 u ((evB e).map u8) else x = .returned (.tuple #[.slice none 0 0, .int .i64 7])) ∧ Below w.heap.size w w'

set_option maxHeartbeats 8000000 in
theorem write_any (ok : Nat → Prop) (e : Ev) (vg vb : Value) (w : World) (hin : EvIn w ok e vg vb) :
    Calls Try.prog 13 #[.agg (evC e vg vb)] w (WritePost e w) := by
  obtain ⟨h1, hbel⟩ := ev_box (evC e vg vb) 29 w
  obtain ⟨W, hW⟩ : ∃ W, W = (w.alloc (.cells (evC e vg vb) 29)) := ⟨_, rfl⟩
  rw [← hW] at h1 hbel
  have RA := Lib.hid (range_exts (ev_all h1))
  have k1 := fun y : Ext W => check_any ok e vg vb y.now (hin.grow (hbel.trans (y.out.mono hbel.size)))
  have Hfine := Lib.hid (fun h : checkB e = true => fine_of h)
  unfold WritePost
  obtain ⟨c, hc⟩ : ∃ c, c = checkB e := ⟨_, rfl⟩
  simp only [← hc] at k1 Hfine ⊢
  have K1 := Lib.hid k1
  have HW0 := Lib.hid hW
  have H1 := Lib.hid h1
  have Hbel := Lib.hid hbel
  have Hin := Lib.hid hin
  have Hok := Lib.hid hin.fits
  obtain ⟨b, hb0⟩ : ∃ b, b = w.heap.size := ⟨_, rfl⟩
  clear hc k1 h1 hW hbel hin hb0 b
  cases c
  all_goals go_enter Try.func13, Try.ntmps13
  all_goals go_upto_region 1 with fail
  all_goals rw [← HW0.out]
  all_goals refine wp_plain_grow ?_
  all_goals repeat (first | (go_big_quiet_want; refine quiet_mid 29 (.tmp 1) rfl w.heap.size 0 rfl (evC e vg vb) _ RA.out Try.underlying29 rfl ev_info ?_; go_simp; go_big_quiet_on) | go_big_quiet_step ((go_at_call 9; with_reducible exact calls_grow (K1.out _))) | quiet_step ((go_at_call 9; with_reducible exact calls_grow (K1.out _))))
  all_goals refine wpQuiet_nil ?_
  all_goals rintro w6 ⟨⟨_, hb6⟩, rfl⟩
  all_goals have hb06 := below_call Hbel.out hb6
  · go_wp2_with fail
    go_ret2
    exact ⟨rfl, hb06⟩
  · have Hfin := Lib.hid (Hfine.out rfl)
    have H6 := Lib.hid (H1.out.grow hb6)
    obtain ⟨N0, hN0⟩ : ∃ n, n = e.rep.toNat := ⟨_, rfl⟩
    obtain ⟨N3, hN3⟩ : ∃ n, n = e.kind.toNat := ⟨_, rfl⟩
    obtain ⟨N9, hN9⟩ : ∃ n, n = e.off.toNat := ⟨_, rfl⟩
    obtain ⟨N11, hN11⟩ : ∃ n, n = e.ward.toNat := ⟨_, rfl⟩
    have hF : evF e = [numB N0, numB e.seq, spanB e.dep zeroV, numB N3, idB e.orep e.oseq, idB e.drep e.dseq, e.name, idsB e.gone, idsB e.base, numB N9, e.data, numB N11] := by unfold evF; rw [← hN0, ← hN3, ← hN9, ← hN11]
    have hNN : N0 ≤ 8 ∧ N3 ≤ 9 ∧ N9 ≤ 200 ∧ N11 ≤ 4 := by
      have := Hfin.out.rep
      have := Hfin.out.kind
      have := Hfin.out.off
      have := Hfin.out.ward
      omega
    have hwr : IntKind.u64.wrap e.rep = (N0 : Int) ∧ IntKind.u64.wrap (e.seq : Int) = (e.seq : Int) ∧ IntKind.u64.wrap e.kind = (N3 : Int) ∧ IntKind.u64.wrap e.off = (N9 : Int) ∧ IntKind.u64.wrap e.ward = (N11 : Int) := by
      have := Hfin.out.rep
      have := Hfin.out.seq
      have := Hfin.out.kind
      have := Hfin.out.off
      have := Hfin.out.ward
      simp only [IntKind.wrap_u64]
      omega
    have HF := Lib.hid hF
    have HN := Lib.hid hNN
    clear hF hNN hN0 hN3 hN9 hN11
    have HW := Lib.hid hwr
    clear hwr Hfine K1 RA
    go_upto_region 3 with fail
    refine wp_region_good (wrG N0 N3 N9 N11 w.heap.size w.heap.size e vg vb) 55 (by kernel_rfl) (by kernel_rfl) (by kernel_rfl) (by kernel_rfl) rfl ?_ ?_ ?_
    · intro t v x x' h hb hb'
      unfold wrG at *
      split at h <;> first | exact h | (exact IsB.grow h hb') | (exact IsBB.grow h hb') | (exact Own1.grow h hb') | (obtain ⟨u, rfl, h⟩ := h; exact ⟨u, rfl, Own1.grow h hb'⟩)
    · intro i o hi a x hbx hsame hpre K hK
      have hlt := (Array.getElem?_eq_some_iff.1 hi).1
      rcases many50 hlt rfl with rfl | rfl | rfl | rfl | rfl | rfl | rfl | rfl | rfl | rfl | rfl | rfl | rfl | rfl | rfl | rfl | rfl | rfl | rfl | rfl | rfl | rfl | rfl | rfl | rfl | rfl | rfl | rfl | rfl | rfl | rfl | rfl | rfl | rfl | rfl | rfl | rfl | rfl | rfl | rfl | rfl | rfl | rfl | rfl | rfl | rfl | rfl | rfl | rfl | rfl
      all_goals (have ho := Option.some.inj hi; subst ho; clear hi hlt)
      · have hk : ∀ v x', wrG N0 N3 N9 N11 w.heap.size w.heap.size e vg vb 7 v x' → Below x.heap.size x x' → K (a.put (some 7) v) x' := hK
        have a1 : a.tmps[1]?.getD undef = .pointer (some ⟨w.heap.size, 0, none⟩) := hsame 1 (by decide +kernel)
        clear hsame hpre hK
        go_simp
        exact hk _ _ rfl (Below.refl _ _)
      · have hk : ∀ v x', wrG N0 N3 N9 N11 w.heap.size w.heap.size e vg vb 8 v x' → Below x.heap.size x x' → K (a.put (some 8) v) x' := hK
        have a7 : a.tmps[7]?.getD undef = .pointer (some ⟨w.heap.size, 0, none⟩) := hpre ⟨0, .data⟩ (by simp) rfl (by decide)
        clear hsame hpre hK
        go_simp
        exact hk _ _ rfl (Below.refl _ _)
      · have hk : ∀ v x', wrG N0 N3 N9 N11 w.heap.size w.heap.size e vg vb 9 v x' → Below x.heap.size x x' → K (a.put (some 9) v) x' := hK
        have a8 : a.tmps[8]?.getD undef = .pointer (some ⟨w.heap.size, 0, none⟩) := hpre ⟨1, .data⟩ (by simp) rfl (by decide)
        clear hsame hpre hK
        have c0 := (H6.out.grow hbx).ev.rep
        go_simp
        exact hk _ _ rfl (Below.refl _ _)
      · have hk : ∀ v x', wrG N0 N3 N9 N11 w.heap.size w.heap.size e vg vb 10 v x' → Below x.heap.size x x' → K (a.put (some 10) v) x' := hK
        have a9 : a.tmps[9]?.getD undef = .int .i64 e.rep := hpre ⟨2, .data⟩ (by simp) rfl (by decide)
        clear hsame hpre hK
        have hw := HW.out.1
        go_simp
        exact hk _ _ rfl (Below.refl _ _)
      · have hk : ∀ v x', wrG N0 N3 N9 N11 w.heap.size w.heap.size e vg vb 11 v x' → Below x.heap.size x x' → K (a.put (some 11) v) x' := hK
        have a10 : a.tmps[10]?.getD undef = .int .u64 (N0 : Int) := hpre ⟨3, .data⟩ (by simp) rfl (by decide)
        clear hsame hpre hK
        go_simp
        refine (num_any (N0) (by have := HN.out.1; omega) x).mono ?_
        rintro _ x' ⟨v, rfl, hown, hb'⟩
        go_simp
        exact hk _ _ (hown.isB.weaken fun q hq => Nat.le_trans (Nat.le_trans hb06.size hbx.size) (hown.lt q hq).1) hb'
      · have hk : ∀ v x', wrG N0 N3 N9 N11 w.heap.size w.heap.size e vg vb 12 v x' → Below x.heap.size x x' → K (a.put (some 12) v) x' := hK
        have a1 : a.tmps[1]?.getD undef = .pointer (some ⟨w.heap.size, 0, none⟩) := hsame 1 (by decide +kernel)
        clear hsame hpre hK
        go_simp
        exact hk _ _ rfl (Below.refl _ _)
      · have hk : ∀ v x', wrG N0 N3 N9 N11 w.heap.size w.heap.size e vg vb 13 v x' → Below x.heap.size x x' → K (a.put (some 13) v) x' := hK
        have a12 : a.tmps[12]?.getD undef = .pointer (some ⟨w.heap.size, 0, none⟩) := hpre ⟨5, .data⟩ (by simp) rfl (by decide)
        clear hsame hpre hK
        go_simp
        exact hk _ _ rfl (Below.refl _ _)
      · have hk : ∀ v x', wrG N0 N3 N9 N11 w.heap.size w.heap.size e vg vb 14 v x' → Below x.heap.size x x' → K (a.put (some 14) v) x' := hK
        have a13 : a.tmps[13]?.getD undef = .pointer (some ⟨w.heap.size, 1, none⟩) := hpre ⟨6, .data⟩ (by simp) rfl (by decide)
        clear hsame hpre hK
        have c0 := (H6.out.grow hbx).ev.seq
        go_simp
        exact hk _ _ rfl (Below.refl _ _)
      · have hk : ∀ v x', wrG N0 N3 N9 N11 w.heap.size w.heap.size e vg vb 15 v x' → Below x.heap.size x x' → K (a.put (some 15) v) x' := hK
        have a14 : a.tmps[14]?.getD undef = .int .u32 (e.seq : Int) := hpre ⟨7, .data⟩ (by simp) rfl (by decide)
        clear hsame hpre hK
        have hw := HW.out.2.1
        go_simp
        exact hk _ _ rfl (Below.refl _ _)
      · have hk : ∀ v x', wrG N0 N3 N9 N11 w.heap.size w.heap.size e vg vb 16 v x' → Below x.heap.size x x' → K (a.put (some 16) v) x' := hK
        have a15 : a.tmps[15]?.getD undef = .int .u64 (e.seq : Int) := hpre ⟨8, .data⟩ (by simp) rfl (by decide)
        clear hsame hpre hK
        go_simp
        refine (num_any (e.seq) (by have := Hfin.out.seq; omega) x).mono ?_
        rintro _ x' ⟨v, rfl, hown, hb'⟩
        go_simp
        exact hk _ _ (hown.isB.weaken fun q hq => Nat.le_trans (Nat.le_trans hb06.size hbx.size) (hown.lt q hq).1) hb'
      · have hk : ∀ v x', wrG N0 N3 N9 N11 w.heap.size w.heap.size e vg vb 17 v x' → Below x.heap.size x x' → K (a.put (some 17) v) x' := hK
        have a1 : a.tmps[1]?.getD undef = .pointer (some ⟨w.heap.size, 0, none⟩) := hsame 1 (by decide +kernel)
        clear hsame hpre hK
        go_simp
        exact hk _ _ rfl (Below.refl _ _)
      · have hk : ∀ v x', wrG N0 N3 N9 N11 w.heap.size w.heap.size e vg vb 18 v x' → Below x.heap.size x x' → K (a.put (some 18) v) x' := hK
        have a17 : a.tmps[17]?.getD undef = .pointer (some ⟨w.heap.size, 2, none⟩) := hpre ⟨10, .data⟩ (by simp) rfl (by decide)
        clear hsame hpre hK
        refine wp_load_mid 26 (.tmp 17) rfl w.heap.size 2 (eval_at a17) (av e.dep).toList _ (ev_dep (H6.out.grow hbx)) Try.underlying26 rfl vec_info ?_
        exact hk _ _ rfl (Below.refl _ _)
      · have hk : ∀ v x', wrG N0 N3 N9 N11 w.heap.size w.heap.size e vg vb 19 v x' → Below x.heap.size x x' → K (a.put (some 19) v) x' := hK
        clear hsame hpre hK
        go_simp
        exact hk _ _ rfl (Below.refl _ _)
      · have hk : ∀ v x', wrG N0 N3 N9 N11 w.heap.size w.heap.size e vg vb 20 v x' → Below x.heap.size x x' → K (a.put (some 20) v) x' := hK
        have a18 : a.tmps[18]?.getD undef = .agg (av e.dep) := hpre ⟨11, .data⟩ (by simp) rfl (by decide)
        have a19 : a.tmps[19]?.getD undef = .agg (av zeroV) := hpre ⟨12, .data⟩ (by simp) rfl (by decide)
        clear hsame hpre hK
        rw [zero_av] at a19
        go_simp
        refine (shrink_any e.dep zeroV Hok.out.dep okV_zero x).mono ?_
        rintro _ x' ⟨v, rfl, hown, hb'⟩
        go_simp
        exact hk _ _ (hown.isB.weaken fun q hq => Nat.le_trans (Nat.le_trans hb06.size hbx.size) (hown.lt q hq).1) hb'
      · have hk : ∀ v x', wrG N0 N3 N9 N11 w.heap.size w.heap.size e vg vb 21 v x' → Below x.heap.size x x' → K (a.put (some 21) v) x' := hK
        have a1 : a.tmps[1]?.getD undef = .pointer (some ⟨w.heap.size, 0, none⟩) := hsame 1 (by decide +kernel)
        clear hsame hpre hK
        go_simp
        exact hk _ _ rfl (Below.refl _ _)
      · have hk : ∀ v x', wrG N0 N3 N9 N11 w.heap.size w.heap.size e vg vb 22 v x' → Below x.heap.size x x' → K (a.put (some 22) v) x' := hK
        have a21 : a.tmps[21]?.getD undef = .pointer (some ⟨w.heap.size, 10, none⟩) := hpre ⟨14, .data⟩ (by simp) rfl (by decide)
        clear hsame hpre hK
        have c0 := (H6.out.grow hbx).ev.kind
        go_simp
        exact hk _ _ rfl (Below.refl _ _)
      · have hk : ∀ v x', wrG N0 N3 N9 N11 w.heap.size w.heap.size e vg vb 23 v x' → Below x.heap.size x x' → K (a.put (some 23) v) x' := hK
        have a22 : a.tmps[22]?.getD undef = .int .i64 e.kind := hpre ⟨15, .data⟩ (by simp) rfl (by decide)
        clear hsame hpre hK
        have hw := HW.out.2.2.1
        go_simp
        exact hk _ _ rfl (Below.refl _ _)
      · have hk : ∀ v x', wrG N0 N3 N9 N11 w.heap.size w.heap.size e vg vb 24 v x' → Below x.heap.size x x' → K (a.put (some 24) v) x' := hK
        have a23 : a.tmps[23]?.getD undef = .int .u64 (N3 : Int) := hpre ⟨16, .data⟩ (by simp) rfl (by decide)
        clear hsame hpre hK
        go_simp
        refine (num_any (N3) (by have := HN.out.2.1; omega) x).mono ?_
        rintro _ x' ⟨v, rfl, hown, hb'⟩
        go_simp
        exact hk _ _ (hown.isB.weaken fun q hq => Nat.le_trans (Nat.le_trans hb06.size hbx.size) (hown.lt q hq).1) hb'
      · have hk : ∀ v x', wrG N0 N3 N9 N11 w.heap.size w.heap.size e vg vb 25 v x' → Below x.heap.size x x' → K (a.put (some 25) v) x' := hK
        have a1 : a.tmps[1]?.getD undef = .pointer (some ⟨w.heap.size, 0, none⟩) := hsame 1 (by decide +kernel)
        clear hsame hpre hK
        go_simp
        exact hk _ _ rfl (Below.refl _ _)
      · have hk : ∀ v x', wrG N0 N3 N9 N11 w.heap.size w.heap.size e vg vb 26 v x' → Below x.heap.size x x' → K (a.put (some 26) v) x' := hK
        have a25 : a.tmps[25]?.getD undef = .pointer (some ⟨w.heap.size, 11, none⟩) := hpre ⟨18, .data⟩ (by simp) rfl (by decide)
        clear hsame hpre hK
        refine wp_load_mid 24 (.tmp 25) rfl w.heap.size 11 (eval_at a25) (idC e.orep e.oseq).toList _ (ev_obj (H6.out.grow hbx)) Try.underlying24 rfl id_info ?_
        exact hk _ _ rfl (Below.refl _ _)
      · have hk : ∀ v x', wrG N0 N3 N9 N11 w.heap.size w.heap.size e vg vb 27 v x' → Below x.heap.size x x' → K (a.put (some 27) v) x' := hK
        have a26 : a.tmps[26]?.getD undef = .agg (idC e.orep e.oseq) := hpre ⟨19, .data⟩ (by simp) rfl (by decide)
        clear hsame hpre hK
        go_simp
        refine (wid_any e.orep e.oseq Hok.out.obj.2 x).mono ?_
        rintro _ x' ⟨v, rfl, hv, hb'⟩
        go_simp
        exact hk _ _ (hv.weaken fun q hq => Nat.le_trans (Nat.le_trans hb06.size hbx.size) hq) hb'
      · have hk : ∀ v x', wrG N0 N3 N9 N11 w.heap.size w.heap.size e vg vb 28 v x' → Below x.heap.size x x' → K (a.put (some 28) v) x' := hK
        have a1 : a.tmps[1]?.getD undef = .pointer (some ⟨w.heap.size, 0, none⟩) := hsame 1 (by decide +kernel)
        clear hsame hpre hK
        go_simp
        exact hk _ _ rfl (Below.refl _ _)
      · have hk : ∀ v x', wrG N0 N3 N9 N11 w.heap.size w.heap.size e vg vb 29 v x' → Below x.heap.size x x' → K (a.put (some 29) v) x' := hK
        have a28 : a.tmps[28]?.getD undef = .pointer (some ⟨w.heap.size, 13, none⟩) := hpre ⟨21, .data⟩ (by simp) rfl (by decide)
        clear hsame hpre hK
        refine wp_load_mid 24 (.tmp 28) rfl w.heap.size 13 (eval_at a28) (idC e.drep e.dseq).toList _ (ev_dir (H6.out.grow hbx)) Try.underlying24 rfl id_info ?_
        exact hk _ _ rfl (Below.refl _ _)
      · have hk : ∀ v x', wrG N0 N3 N9 N11 w.heap.size w.heap.size e vg vb 30 v x' → Below x.heap.size x x' → K (a.put (some 30) v) x' := hK
        have a29 : a.tmps[29]?.getD undef = .agg (idC e.drep e.dseq) := hpre ⟨22, .data⟩ (by simp) rfl (by decide)
        clear hsame hpre hK
        go_simp
        refine (wid_any e.drep e.dseq Hok.out.dir.2 x).mono ?_
        rintro _ x' ⟨v, rfl, hv, hb'⟩
        go_simp
        exact hk _ _ (hv.weaken fun q hq => Nat.le_trans (Nat.le_trans hb06.size hbx.size) hq) hb'
      · have hk : ∀ v x', wrG N0 N3 N9 N11 w.heap.size w.heap.size e vg vb 31 v x' → Below x.heap.size x x' → K (a.put (some 31) v) x' := hK
        have a1 : a.tmps[1]?.getD undef = .pointer (some ⟨w.heap.size, 0, none⟩) := hsame 1 (by decide +kernel)
        clear hsame hpre hK
        go_simp
        exact hk _ _ rfl (Below.refl _ _)
      · have hk : ∀ v x', wrG N0 N3 N9 N11 w.heap.size w.heap.size e vg vb 32 v x' → Below x.heap.size x x' → K (a.put (some 32) v) x' := hK
        have a31 : a.tmps[31]?.getD undef = .pointer (some ⟨w.heap.size, 15, none⟩) := hpre ⟨24, .data⟩ (by simp) rfl (by decide)
        clear hsame hpre hK
        have c0 := (H6.out.grow hbx).ev.name
        go_simp
        exact hk _ _ rfl (Below.refl _ _)
      · have hk : ∀ v x', wrG N0 N3 N9 N11 w.heap.size w.heap.size e vg vb 33 v x' → Below x.heap.size x x' → K (a.put (some 33) v) x' := hK
        have a32 : a.tmps[32]?.getD undef = str e.name := hpre ⟨25, .data⟩ (by simp) rfl (by decide)
        clear hsame hpre hK
        obtain ⟨c, x', hrun, hB, hb'⟩ := str_bytesE e.name (by have := Hfin.out.name; omega) x
        go_simp
        exact hk _ _ (hB.weaken fun q hq => Nat.le_trans (Nat.le_trans hb06.size hbx.size) hq) hb'
      · have hk : ∀ v x', wrG N0 N3 N9 N11 w.heap.size w.heap.size e vg vb 34 v x' → Below x.heap.size x x' → K (a.put (some 34) v) x' := hK
        have a1 : a.tmps[1]?.getD undef = .pointer (some ⟨w.heap.size, 0, none⟩) := hsame 1 (by decide +kernel)
        clear hsame hpre hK
        go_simp
        exact hk _ _ rfl (Below.refl _ _)
      · have hk : ∀ v x', wrG N0 N3 N9 N11 w.heap.size w.heap.size e vg vb 35 v x' → Below x.heap.size x x' → K (a.put (some 35) v) x' := hK
        have a34 : a.tmps[34]?.getD undef = .pointer (some ⟨w.heap.size, 16, none⟩) := hpre ⟨27, .data⟩ (by simp) rfl (by decide)
        clear hsame hpre hK
        have c0 := (H6.out.grow hbx).ev.gone
        go_simp
        exact hk _ _ rfl (Below.refl _ _)
      · have hk : ∀ v x', wrG N0 N3 N9 N11 w.heap.size w.heap.size e vg vb 36 v x' → Below x.heap.size x x' → K (a.put (some 36) v) x' := hK
        have a35 : a.tmps[35]?.getD undef = vg := hpre ⟨28, .data⟩ (by simp) rfl (by decide)
        clear hsame hpre hK
        go_simp
        refine (wids_any ok vg e.gone x (((Hin.out.grow hb06).grow hbx).gone) (by have := Hfin.out.gone.2; omega) (fun f hf => by have := idsF_len Hfin.out.gone.1 f hf; omega)).mono ?_
        rintro _ x' ⟨v, rfl, hv, hb'⟩
        go_simp
        exact hk _ _ (hv.weaken fun q hq => Nat.le_trans (Nat.le_trans hb06.size hbx.size) hq) hb'
      · have hk : ∀ v x', wrG N0 N3 N9 N11 w.heap.size w.heap.size e vg vb 37 v x' → Below x.heap.size x x' → K (a.put (some 37) v) x' := hK
        have a1 : a.tmps[1]?.getD undef = .pointer (some ⟨w.heap.size, 0, none⟩) := hsame 1 (by decide +kernel)
        clear hsame hpre hK
        go_simp
        exact hk _ _ rfl (Below.refl _ _)
      · have hk : ∀ v x', wrG N0 N3 N9 N11 w.heap.size w.heap.size e vg vb 38 v x' → Below x.heap.size x x' → K (a.put (some 38) v) x' := hK
        have a37 : a.tmps[37]?.getD undef = .pointer (some ⟨w.heap.size, 17, none⟩) := hpre ⟨30, .data⟩ (by simp) rfl (by decide)
        clear hsame hpre hK
        have c0 := (H6.out.grow hbx).ev.base
        go_simp
        exact hk _ _ rfl (Below.refl _ _)
      · have hk : ∀ v x', wrG N0 N3 N9 N11 w.heap.size w.heap.size e vg vb 39 v x' → Below x.heap.size x x' → K (a.put (some 39) v) x' := hK
        have a38 : a.tmps[38]?.getD undef = vb := hpre ⟨31, .data⟩ (by simp) rfl (by decide)
        clear hsame hpre hK
        go_simp
        refine (wids_any ok vb e.base x (((Hin.out.grow hb06).grow hbx).base) (by have := Hfin.out.base.2; omega) (fun f hf => by have := idsF_len Hfin.out.base.1 f hf; omega)).mono ?_
        rintro _ x' ⟨v, rfl, hv, hb'⟩
        go_simp
        exact hk _ _ (hv.weaken fun q hq => Nat.le_trans (Nat.le_trans hb06.size hbx.size) hq) hb'
      · have hk : ∀ v x', wrG N0 N3 N9 N11 w.heap.size w.heap.size e vg vb 40 v x' → Below x.heap.size x x' → K (a.put (some 40) v) x' := hK
        have a1 : a.tmps[1]?.getD undef = .pointer (some ⟨w.heap.size, 0, none⟩) := hsame 1 (by decide +kernel)
        clear hsame hpre hK
        go_simp
        exact hk _ _ rfl (Below.refl _ _)
      · have hk : ∀ v x', wrG N0 N3 N9 N11 w.heap.size w.heap.size e vg vb 41 v x' → Below x.heap.size x x' → K (a.put (some 41) v) x' := hK
        have a40 : a.tmps[40]?.getD undef = .pointer (some ⟨w.heap.size, 18, none⟩) := hpre ⟨33, .data⟩ (by simp) rfl (by decide)
        clear hsame hpre hK
        have c0 := (H6.out.grow hbx).ev.off
        go_simp
        exact hk _ _ rfl (Below.refl _ _)
      · have hk : ∀ v x', wrG N0 N3 N9 N11 w.heap.size w.heap.size e vg vb 42 v x' → Below x.heap.size x x' → K (a.put (some 42) v) x' := hK
        have a41 : a.tmps[41]?.getD undef = .int .i64 e.off := hpre ⟨34, .data⟩ (by simp) rfl (by decide)
        clear hsame hpre hK
        have hw := HW.out.2.2.2.1
        go_simp
        exact hk _ _ rfl (Below.refl _ _)
      · have hk : ∀ v x', wrG N0 N3 N9 N11 w.heap.size w.heap.size e vg vb 43 v x' → Below x.heap.size x x' → K (a.put (some 43) v) x' := hK
        have a42 : a.tmps[42]?.getD undef = .int .u64 (N9 : Int) := hpre ⟨35, .data⟩ (by simp) rfl (by decide)
        clear hsame hpre hK
        go_simp
        refine (num_any (N9) (by have := HN.out.2.2.1; omega) x).mono ?_
        rintro _ x' ⟨v, rfl, hown, hb'⟩
        go_simp
        exact hk _ _ (hown.isB.weaken fun q hq => Nat.le_trans (Nat.le_trans hb06.size hbx.size) (hown.lt q hq).1) hb'
      · have hk : ∀ v x', wrG N0 N3 N9 N11 w.heap.size w.heap.size e vg vb 44 v x' → Below x.heap.size x x' → K (a.put (some 44) v) x' := hK
        have a1 : a.tmps[1]?.getD undef = .pointer (some ⟨w.heap.size, 0, none⟩) := hsame 1 (by decide +kernel)
        clear hsame hpre hK
        go_simp
        exact hk _ _ rfl (Below.refl _ _)
      · have hk : ∀ v x', wrG N0 N3 N9 N11 w.heap.size w.heap.size e vg vb 45 v x' → Below x.heap.size x x' → K (a.put (some 45) v) x' := hK
        have a44 : a.tmps[44]?.getD undef = .pointer (some ⟨w.heap.size, 19, none⟩) := hpre ⟨37, .data⟩ (by simp) rfl (by decide)
        clear hsame hpre hK
        have c0 := (H6.out.grow hbx).ev.data
        go_simp
        exact hk _ _ rfl (Below.refl _ _)
      · have hk : ∀ v x', wrG N0 N3 N9 N11 w.heap.size w.heap.size e vg vb 46 v x' → Below x.heap.size x x' → K (a.put (some 46) v) x' := hK
        have a45 : a.tmps[45]?.getD undef = str e.data := hpre ⟨38, .data⟩ (by simp) rfl (by decide)
        clear hsame hpre hK
        obtain ⟨c, x', hrun, hB, hb'⟩ := str_bytesE e.data (by have := Hfin.out.data; omega) x
        go_simp
        exact hk _ _ (hB.weaken fun q hq => Nat.le_trans (Nat.le_trans hb06.size hbx.size) hq) hb'
      · have hk : ∀ v x', wrG N0 N3 N9 N11 w.heap.size w.heap.size e vg vb 47 v x' → Below x.heap.size x x' → K (a.put (some 47) v) x' := hK
        have a1 : a.tmps[1]?.getD undef = .pointer (some ⟨w.heap.size, 0, none⟩) := hsame 1 (by decide +kernel)
        clear hsame hpre hK
        go_simp
        exact hk _ _ rfl (Below.refl _ _)
      · have hk : ∀ v x', wrG N0 N3 N9 N11 w.heap.size w.heap.size e vg vb 48 v x' → Below x.heap.size x x' → K (a.put (some 48) v) x' := hK
        have a47 : a.tmps[47]?.getD undef = .pointer (some ⟨w.heap.size, 20, none⟩) := hpre ⟨40, .data⟩ (by simp) rfl (by decide)
        clear hsame hpre hK
        have c0 := (H6.out.grow hbx).ev.ward
        go_simp
        exact hk _ _ rfl (Below.refl _ _)
      · have hk : ∀ v x', wrG N0 N3 N9 N11 w.heap.size w.heap.size e vg vb 49 v x' → Below x.heap.size x x' → K (a.put (some 49) v) x' := hK
        have a48 : a.tmps[48]?.getD undef = .int .i64 e.ward := hpre ⟨41, .data⟩ (by simp) rfl (by decide)
        clear hsame hpre hK
        have hw := HW.out.2.2.2.2
        go_simp
        exact hk _ _ rfl (Below.refl _ _)
      · have hk : ∀ v x', wrG N0 N3 N9 N11 w.heap.size w.heap.size e vg vb 50 v x' → Below x.heap.size x x' → K (a.put (some 50) v) x' := hK
        have a49 : a.tmps[49]?.getD undef = .int .u64 (N11 : Int) := hpre ⟨42, .data⟩ (by simp) rfl (by decide)
        clear hsame hpre hK
        go_simp
        refine (num_any (N11) (by have := HN.out.2.2.2; omega) x).mono ?_
        rintro _ x' ⟨v, rfl, hown, hb'⟩
        go_simp
        exact hk _ _ (hown.isB.weaken fun q hq => Nat.le_trans (Nat.le_trans hb06.size hbx.size) (hown.lt q hq).1) hb'
      · have hk : ∀ v x', wrG N0 N3 N9 N11 w.heap.size w.heap.size e vg vb 51 v x' → Below x.heap.size x x' → K (a.put (some 51) v) x' := hK
        have a11 : wrG N0 N3 N9 N11 w.heap.size w.heap.size e vg vb 11 (a.tmps[11]?.getD undef) x := hpre ⟨4, .data⟩ (by simp) rfl (by decide)
        have a16 : wrG N0 N3 N9 N11 w.heap.size w.heap.size e vg vb 16 (a.tmps[16]?.getD undef) x := hpre ⟨9, .data⟩ (by simp) rfl (by decide)
        have a20 : wrG N0 N3 N9 N11 w.heap.size w.heap.size e vg vb 20 (a.tmps[20]?.getD undef) x := hpre ⟨13, .data⟩ (by simp) rfl (by decide)
        have a24 : wrG N0 N3 N9 N11 w.heap.size w.heap.size e vg vb 24 (a.tmps[24]?.getD undef) x := hpre ⟨17, .data⟩ (by simp) rfl (by decide)
        have a27 : wrG N0 N3 N9 N11 w.heap.size w.heap.size e vg vb 27 (a.tmps[27]?.getD undef) x := hpre ⟨20, .data⟩ (by simp) rfl (by decide)
        have a30 : wrG N0 N3 N9 N11 w.heap.size w.heap.size e vg vb 30 (a.tmps[30]?.getD undef) x := hpre ⟨23, .data⟩ (by simp) rfl (by decide)
        have a33 : wrG N0 N3 N9 N11 w.heap.size w.heap.size e vg vb 33 (a.tmps[33]?.getD undef) x := hpre ⟨26, .data⟩ (by simp) rfl (by decide)
        have a36 : wrG N0 N3 N9 N11 w.heap.size w.heap.size e vg vb 36 (a.tmps[36]?.getD undef) x := hpre ⟨29, .data⟩ (by simp) rfl (by decide)
        have a39 : wrG N0 N3 N9 N11 w.heap.size w.heap.size e vg vb 39 (a.tmps[39]?.getD undef) x := hpre ⟨32, .data⟩ (by simp) rfl (by decide)
        have a43 : wrG N0 N3 N9 N11 w.heap.size w.heap.size e vg vb 43 (a.tmps[43]?.getD undef) x := hpre ⟨36, .data⟩ (by simp) rfl (by decide)
        have a46 : wrG N0 N3 N9 N11 w.heap.size w.heap.size e vg vb 46 (a.tmps[46]?.getD undef) x := hpre ⟨39, .data⟩ (by simp) rfl (by decide)
        have a50 : wrG N0 N3 N9 N11 w.heap.size w.heap.size e vg vb 50 (a.tmps[50]?.getD undef) x := hpre ⟨43, .data⟩ (by simp) rfl (by decide)
        clear hsame hpre hK
        have b11 := a11
        obtain ⟨A11, c11, e11, _⟩ := a11
        have b16 := a16
        obtain ⟨A16, c16, e16, _⟩ := a16
        have b20 := a20
        obtain ⟨A20, c20, e20, _⟩ := a20
        have b24 := a24
        obtain ⟨A24, c24, e24, _⟩ := a24
        have b27 := a27
        obtain ⟨A27, c27, e27, _⟩ := a27
        have b30 := a30
        obtain ⟨A30, c30, e30, _⟩ := a30
        have b33 := a33
        obtain ⟨A33, c33, e33, _⟩ := a33
        have b36 := a36
        obtain ⟨A36, c36, e36, _⟩ := a36
        have b39 := a39
        obtain ⟨A39, c39, e39, _⟩ := a39
        have b43 := a43
        obtain ⟨A43, c43, e43, _⟩ := a43
        have b46 := a46
        obtain ⟨A46, c46, e46, _⟩ := a46
        have b50 := a50
        obtain ⟨A50, c50, e50, _⟩ := a50
        rw [e11] at b11
        rw [e16] at b16
        rw [e20] at b20
        rw [e24] at b24
        rw [e27] at b27
        rw [e30] at b30
        rw [e33] at b33
        rw [e36] at b36
        rw [e39] at b39
        rw [e43] at b43
        rw [e46] at b46
        rw [e50] at b50
        go_simp
        have hb' : Below x.heap.size x (x.alloc (.cells #[.slice A11 (numB N0).length c11, .slice A16 (numB e.seq).length c16, .slice A20 (spanB e.dep zeroV).length c20, .slice A24 (numB N3).length c24, .slice A27 (idB e.orep e.oseq).length c27, .slice A30 (idB e.drep e.dseq).length c30, .slice A33 (e.name).length c33, .slice A36 (idsB e.gone).length c36, .slice A39 (idsB e.base).length c39, .slice A43 (numB N9).length c43, .slice A46 (e.data).length c46, .slice A50 (numB N11).length c50] 34)) := (Below.refl _ _).alloc (Nat.le_refl _) _
        refine hk _ _ ⟨_, 12, [.slice A11 (numB N0).length c11, .slice A16 (numB e.seq).length c16, .slice A20 (spanB e.dep zeroV).length c20, .slice A24 (numB N3).length c24, .slice A27 (idB e.orep e.oseq).length c27, .slice A30 (idB e.drep e.dseq).length c30, .slice A33 (e.name).length c33, .slice A36 (idsB e.gone).length c36, .slice A39 (idsB e.base).length c39, .slice A43 (numB N9).length c43, .slice A46 (e.data).length c46, .slice A50 (numB N11).length c50], rfl, rfl, Nat.le_refl _, by decide, (Blk.new x _ _).rd _ (Nat.le_trans hb06.size hbx.size), ?_⟩ hb'
        intro i h h'
        rcases many12 h rfl with rfl | rfl | rfl | rfl | rfl | rfl | rfl | rfl | rfl | rfl | rfl | rfl
        · exact b11.grow hb'
        · exact b16.grow hb'
        · exact b20.grow hb'
        · exact b24.grow hb'
        · exact b27.grow hb'
        · exact b30.grow hb'
        · exact b33.grow hb'
        · exact b36.grow hb'
        · exact b39.grow hb'
        · exact b43.grow hb'
        · exact b46.grow hb'
        · exact b50.grow hb'
      · have hk : ∀ v x', wrG N0 N3 N9 N11 w.heap.size w.heap.size e vg vb 52 v x' → Below x.heap.size x x' → K (a.put (some 52) v) x' := hK
        have a51 : wrG N0 N3 N9 N11 w.heap.size w.heap.size e vg vb 51 (a.tmps[51]?.getD undef) x := hpre ⟨44, .data⟩ (by simp) rfl (by decide)
        clear hsame hpre hK
        have b5 := a51
        obtain ⟨A51, c51, vs51, e51, _⟩ := a51
        rw [e51] at b5
        have b51 : IsBB x (fun q => w.heap.size ≤ q) (.slice A51 12 c51) (evF e) := by rw [HF.out]; exact b5
        clear b5
        go_simp
        refine (pack_any _ _ (evF e) x b51 (by have := evB_len Hfin.out; unfold evB at this; omega)).mono ?_
        rintro _ x' ⟨hx, hb'⟩
        rw [if_pos (fun f hf => by have := evF_len Hfin.out f hf; omega)] at hx
        obtain ⟨u, rfl, hu⟩ := hx
        go_simp
        exact hk _ _ ⟨u, rfl, hu.mono (Nat.le_trans hb06.size hbx.size)⟩ hb'
      · have hk : ∀ v x', wrG N0 N3 N9 N11 w.heap.size w.heap.size e vg vb 53 v x' → Below x.heap.size x x' → K (a.put (some 53) v) x' := hK
        have a52 : wrG N0 N3 N9 N11 w.heap.size w.heap.size e vg vb 52 (a.tmps[52]?.getD undef) x := hpre ⟨45, .data⟩ (by simp) rfl (by decide)
        clear hsame hpre hK
        obtain ⟨u, e52, hu⟩ := a52
        go_simp
        exact hk _ _ hu (Below.refl _ _)
      · have hk : ∀ v x', wrG N0 N3 N9 N11 w.heap.size w.heap.size e vg vb 54 v x' → Below x.heap.size x x' → K (a.put (some 54) v) x' := hK
        have a52 : wrG N0 N3 N9 N11 w.heap.size w.heap.size e vg vb 52 (a.tmps[52]?.getD undef) x := hpre ⟨45, .data⟩ (by simp) rfl (by decide)
        clear hsame hpre hK
        obtain ⟨u, e52, hu⟩ := a52
        go_simp
        exact hk _ _ rfl (Below.refl _ _)
      · have hk : ∀ v x', wrG N0 N3 N9 N11 w.heap.size w.heap.size e vg vb 2 v x' → Below x.heap.size x x' → K (a.put (some 2) v) x' := hK
        have a53 : wrG N0 N3 N9 N11 w.heap.size w.heap.size e vg vb 53 (a.tmps[53]?.getD undef) x := hpre ⟨46, .data⟩ (by simp) rfl (by decide)
        clear hsame hpre hK
        go_simp
        exact hk _ _ a53 (Below.refl _ _)
      · have hk : ∀ v x', wrG N0 N3 N9 N11 w.heap.size w.heap.size e vg vb 3 v x' → Below x.heap.size x x' → K (a.put (some 3) v) x' := hK
        have a54 : a.tmps[54]?.getD undef = .int .i64 0 := hpre ⟨47, .data⟩ (by simp) rfl (by decide)
        clear hsame hpre hK
        go_simp
        exact hk _ _ rfl (Below.refl _ _)
    · intro a x hbx hsame hG hsz hde
      have g2 : Own1 x w.heap.size 5 (a.tmps[2]?.getD undef) ((evB e).map u8) := hG 48 (by decide)
      have g3 : a.tmps[3]?.getD undef = .int .i64 0 := hG 49 (by decide)
      obtain ⟨v2, h2⟩ : ∃ v, a.tmps[2]?.getD undef = v := ⟨_, rfl⟩
      rw [h2] at g2
      have hde' : a.defers = [] := hde
      have hbx' := hb06.trans (hbx.mono hb06.size)
      clear hsame hG hde
      go_wp2_with fail
      refine bodyPost_ret (v := .tuple #[v2, .int .i64 0]) ((results_tmp2 rfl _ _ _).trans (by rw [Array.getD_eq_getD_getElem?, Array.getD_eq_getD_getElem?, h2, g3])) hde' ⟨⟨v2, rfl, g2⟩, hbx'⟩
end Go.Proofs.Ytkojoahamoffcaa
