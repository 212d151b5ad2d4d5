/-
  span.Shrink: the bytes of a vector against a base.
-/
import Derived.Test.YtkojoahamoffcaaSpReads
import Derived.Test.YtkojoahamoffcaaStore
import Derived.Laws.MakeOwn
namespace Go.Proofs.Ytkojoahamoffcaa
open Go.RowKit
set_option maxRecDepth 100000

/-- What has been written when k places are done. -/
def hv (V B : Nat → Nat) (k : Nat) : List Value := .int .u8 (moreN V B k : Int) :: .int .u8 (moreN B V k : Int) :: (bodyB V B k).map u8
theorem hv_len (V B : Nat → Nat) (k : Nat) : (hv V B k).length = (bodyB V B k).length + 2 := by unfold hv; simp
theorem hv_full (V B : Nat → Nat) : hv V B 8 = (spanB V B).map u8 := by
  have h1 := moreN_lt V B 8
  have h2 := moreN_lt B V 8
  unfold hv spanB u8
  simp only [List.map_cons]
  rw [UInt8.toNat_ofNat', UInt8.toNat_ofNat', Nat.mod_eq_of_lt (by omega), Nat.mod_eq_of_lt (by omega)]
theorem or_eq8 : ∀ k : Fin 8, ∀ m : Fin 128, m.val < 2 ^ k.val → bits .or .u8 (m.val : Int) ((2 : Int) ^ k.val % 256) = ((m.val + 2 ^ k.val : Nat) : Int) := by decide +kernel
theorem or_eq {m k : Nat} (hm : m < 2 ^ k) (hk : k < 8) : bits .or .u8 (m : Int) ((2 : Int) ^ k % 256) = ((m + 2 ^ k : Nat) : Int) := or_eq8 ⟨k, hk⟩ ⟨m, by have : 2 ^ k ≤ 2 ^ 7 := Nat.pow_le_pow_right (by omega) (by omega); omega⟩ hm
theorem u8_len {n : Nat} (h : n < 4294967296) : u8 (UInt8.ofNat (numLen n)) = .int .u8 (((numB n).length : Nat) : Int) := by
  have := numLen32 h
  unfold u8
  rw [UInt8.toNat_ofNat', Nat.mod_eq_of_lt (by omega), numB_length]
theorem hv_more {V B : Nat → Nat} {k : Nat} (h : B k < V k) (hV : V k < 4294967296) : ((hv V B k).set 0 (.int .u8 ((moreN V B k + 2 ^ k : Nat) : Int)) ++ [.int .u8 (((numB (V k - B k)).length : Nat) : Int)]) ++ (numB (V k - B k)).map u8 = hv V B (k + 1) := by
  have e1 : moreN V B (k + 1) = moreN V B k + 2 ^ k := by show moreN V B k + (if B k < V k then 2 ^ k else 0) = _; rw [if_pos h]
  have e2 : moreN B V (k + 1) = moreN B V k := by show moreN B V k + (if V k < B k then 2 ^ k else 0) = _; rw [if_neg (by omega)]; rfl
  have e3 : bodyB V B (k + 1) = bodyB V B k ++ (UInt8.ofNat (numLen (V k - B k)) :: numB (V k - B k)) := by
    show bodyB V B k ++ entB (distN (V k) (B k)) = _
    rw [show distN (V k) (B k) = V k - B k from by unfold distN; omega, entB_pos (by omega)]
  unfold hv
  rw [e1, e2, e3, ← u8_len (by omega)]
  simp
theorem hv_less {V B : Nat → Nat} {k : Nat} (h : V k < B k) (hB : B k < 4294967296) : ((hv V B k).set 1 (.int .u8 ((moreN B V k + 2 ^ k : Nat) : Int)) ++ [.int .u8 (((numB (B k - V k)).length : Nat) : Int)]) ++ (numB (B k - V k)).map u8 = hv V B (k + 1) := by
  have e1 : moreN B V (k + 1) = moreN B V k + 2 ^ k := by show moreN B V k + (if V k < B k then 2 ^ k else 0) = _; rw [if_pos h]
  have e2 : moreN V B (k + 1) = moreN V B k := by show moreN V B k + (if B k < V k then 2 ^ k else 0) = _; rw [if_neg (by omega)]; rfl
  have e3 : bodyB V B (k + 1) = bodyB V B k ++ (UInt8.ofNat (numLen (B k - V k)) :: numB (B k - V k)) := by
    show bodyB V B k ++ entB (distN (V k) (B k)) = _
    rw [show distN (V k) (B k) = B k - V k from by unfold distN; omega, entB_pos (by omega)]
  unfold hv
  rw [e1, e2, e3, ← u8_len (by omega)]
  simp
theorem hv_same {V B : Nat → Nat} {k : Nat} (h : V k = B k) : hv V B (k + 1) = hv V B k := by
  have e1 : moreN B V (k + 1) = moreN B V k := by show moreN B V k + (if V k < B k then 2 ^ k else 0) = _; rw [if_neg (by omega)]; rfl
  have e2 : moreN V B (k + 1) = moreN V B k := by show moreN V B k + (if B k < V k then 2 ^ k else 0) = _; rw [if_neg (by omega)]; rfl
  have e3 : bodyB V B (k + 1) = bodyB V B k := by
    show bodyB V B k ++ entB (distN (V k) (B k)) = _
    rw [show distN (V k) (B k) = 0 from by unfold distN; omega, entB_zero, List.append_nil]
  unfold hv
  rw [e1, e2, e3]
set_option maxHeartbeats 400000 in
theorem shrink_any (V B : Nat → Nat) (hV : okV V) (hB : okV B) (w : World) :
    Calls Try.prog 29 #[vv V, vv B] w fun e w' => ∃ v, e = .returned v ∧ Own1 w' w.heap.size 5 v ((spanB V B).map u8) ∧ Below w.heap.size w w' := by
  obtain ⟨i0, hi, hz0, hz1, hz2⟩ := info_parts info_byte
  have hmk : ∀ u : World, (Instr.makeSlice 34 (.int .i64 2) (.int .i64 2)).run Try.prog u =
      .ok (.slice (some ⟨u.heap.size, 0, none⟩) 2 2) (u.alloc (.cells #[.int .u8 0, .int .u8 0] 5)) := fun u => by
    have h := run_make (P := Try.prog) u 34 5 i0 (.int .u8 0) Try.underlying34 hi hz0 .i64 .i64 2 2 (by omega) (Int.le_refl _) (by rw [hz2]; omega) (by omega)
    have hm : madeCells #[.int .u8 0] 2 = #[.int .u8 0, .int .u8 0] := by rw [madeCells_byte]; rfl
    simpa [hz1, Value.cells, hm] using h
  obtain ⟨h1, h2, hbel⟩ := boxes2 V B w
  obtain ⟨W, hW⟩ : ∃ W, W = ((w.alloc (.cells (av V) 26)).alloc (.cells (av B) 26)) := ⟨_, rfl⟩
  rw [← hW] at h1 h2 hbel
  have hWs : W.heap.size = w.heap.size + 2 := by rw [hW]; simp
  have HW := Lib.hid hW
  have H1 := Lib.hid h1
  have H2 := Lib.hid h2
  clear hW h1 h2
  unfold vv
  go_enter Try.func29, Try.ntmps29
  go_wp2_with fail
  go_step3
  rw [← HW.out]
  go_wp2_with (refine wpList_load_row rfl 26 (.tmp 2) rfl w.heap.size rfl 26 (av V) (0, 0) _ (by exact H1.out.alloc _) Try.underlying26 rfl vec_info ?_)
  go_step3
  go_wp2_with (refine wpList_load_row rfl 26 (.tmp 2) rfl w.heap.size rfl 26 (av V) (0, 0) _ (by exact H1.out.alloc _) Try.underlying26 rfl vec_info ?_)
  have hbW : Below w.heap.size w (W.alloc (.cells #[.int .u8 0, .int .u8 0] 5)) := hbel.alloc hbel.size _
  have hown0 : Own1 (W.alloc (.cells #[.int .u8 0, .int .u8 0] 5)) (w.heap.size + 2) 5 (.slice (some ⟨w.heap.size + 2, 0, none⟩) 2 2) (hv V B 0) := by
    refine ⟨by simp, .inr ⟨w.heap.size + 2, 2, #[.int .u8 0, .int .u8 0], rfl, by omega, ?_, ?_⟩⟩
    · rw [← hWs]; exact Blk.new W _ _
    · exact ⟨by show 2 ≤ 2; omega, by unfold maxLen; omega, rfl, rfl⟩
  have hB0 : Blk (W.alloc (.cells #[.int .u8 0, .int .u8 0] 5)) (w.heap.size + 1) 26 (av B) := H2.out.alloc _
  have HV := Lib.hid hV
  have HB := Lib.hid hB
  clear hmk hbel
  go_loopw [5, 13] (fun v i wr => ∃ k : Nat, k ≤ 8 ∧ i = .int .i64 (k : Int) ∧ Own1 wr (w.heap.size + 2) 5 v (hv V B k) ∧ Blk wr (w.heap.size + 1) 26 (av B) ∧ Below w.heap.size w wr) (fun _ i _ => 8 - (intOf i).toNat)
  case atStart => exact ⟨0, by omega, rfl, hown0, hB0, hbW⟩
  case round =>
    obtain ⟨k, hk, rfl, hown, hbB, hbw⟩ := hrel
    clear hbW hown0 hB0
    by_cases hlt : k < 8
    · have hix := fun w => index_run V k hlt w
      unfold vv at hix
      have hcB := hbB.cell k
      have hbc := av_get B hlt
      rw [hbc] at hcB
      obtain ⟨A, c, rfl, hlc, hcm, _⟩ := hown.form
      obtain ⟨g, cur, rfl, hge, hblk, hcur⟩ := hown.addr (by unfold hv; simp)
      have hlen := hv_len V B k
      have hble := bodyB_le HV.out HB.out hk
      have hm1 := moreN_lt V B k
      have hm2 := moreN_lt B V k
      have hVk := HV.out k hlt
      have hBk := HB.out k hlt
      have hHm := fun h => @hv_more V B k h hVk
      have hHl := fun h => @hv_less V B k h hBk
      have hHs := @hv_same V B k
      have hHsz := hbB.lt
      have hg1 : g ≠ w.heap.size + 1 := by omega
      have c0 := (hblk.cell 0).trans (hcur 0 (by rw [hlen]; omega))
      have c1 := (hblk.cell 1).trans (hcur 1 (by rw [hlen]; omega))
      have f0 := hblk.frozen 0
      have f1 := hblk.frozen 1
      have c0' : wr.cell? ⟨g, 0, none⟩ = some (.int .u8 (moreN V B k : Int)) := c0
      have c1' : wr.cell? ⟨g, 1, none⟩ = some (.int .u8 (moreN B V k : Int)) := c1
      have ho1 := or_eq hm1 hlt
      have ho2 := or_eq hm2 hlt
      generalize hxs : hv V B k = xs at *
      rw [hlen] at hown hlc ⊢
      have hown' : Own1 wr (w.heap.size + 2) 5 (.slice (some ⟨g, 0, none⟩) ((bodyB V B k).length + 2) c) xs := hown
      have HHm := Lib.hid hHm
      have HHl := Lib.hid hHl
      have HHs := Lib.hid hHs
      have Hown := Lib.hid hown'
      have HbB := Lib.hid hbB
      clear hHm hHl hHs hown hown' hbB hblk hcur c0 c1 hxs
      generalize V k = vk at *
      generalize B k = bk at *
      generalize moreN V B k = m1 at *
      generalize moreN B V k = m2 at *
      generalize hn : (bodyB V B k).length = n at *
      rcases Nat.lt_trichotomy bk vk with h | h | h
      · obtain ⟨N, hN⟩ : ∃ N, N = vk - bk := ⟨_, rfl⟩
        have hgr : vk = bk + N := by omega
        subst hgr
        have hsub : ((bk : Int) + (N : Int) - (bk : Int)) % 4294967296 = (N : Int) := by omega
        have hsub2 : (bk : Int) + (N : Int) - (bk : Int) = (N : Int) := by omega
        have hw64 : IntKind.u64.wrap (N : Int) = (N : Int) := by rw [IntKind.wrap_u64]; omega
        have HN0 : Hid (N < 18446744073709551616) := Lib.hid (by omega)
        have hnl : (numB N).length ≤ 8 := by rw [numB_length]; exact numLen_le N (by omega)
        have hset := Hown.out.set_ 0 (.int .u8 ((m1 : Int) + 2 ^ k))
        have hxl : (xs.set 0 (.int .u8 ((m1 : Int) + 2 ^ k))).length = n + 2 := by rw [List.length_set, hlen]
        have hfin := HHm.out h
        rw [show bk + N - bk = N by omega, show ((m1 + 2 ^ k : Nat) : Int) = (m1 : Int) + 2 ^ k from by simp] at hfin
        have hcB2 : ∀ u, (wr.setCell ⟨g, 0, none⟩ u).cell? ⟨w.heap.size + 1, k, none⟩ = some (.int .u32 (bk : Int)) := fun u => by
          have := HbB.out.far (p := ⟨g, 0, none⟩) (by show w.heap.size + 1 ≠ g; omega) u
          rw [this.cell]; exact hbc
        have hbw2 : Below w.heap.size w (wr.setCell ⟨g, 0, none⟩ (.int .u8 ((m1 : Int) + 2 ^ k))) := hbw.setCell (by show w.heap.size ≤ g; omega) _
        have hbB2 := HbB.out.far (p := ⟨g, 0, none⟩) (by show w.heap.size + 1 ≠ g; omega) (.int .u8 ((m1 : Int) + 2 ^ k))
        have Hset := Lib.hid hset
        have Hfin := Lib.hid hfin
        have HbB2 := Lib.hid hbB2
        have hgsz : g < (wr.setCell ⟨g, 0, none⟩ (.int .u8 ((m1 : Int) + 2 ^ k))).heap.size := (Hset.out.addr (by intro e; rw [e] at hxl; simp at hxl)).elim fun g2 hh => by obtain ⟨cur2, e, _, hb, _⟩ := hh; cases e; exact hb.lt
        have HVk := Lib.hid hVk
        have HBk := Lib.hid hBk
        clear hVk hBk hN hset hfin hbB2
        go_wp2_with (first | (go_at_call 28; refine (num_any N HN0.out _).mono ?_; rintro e w1 ⟨vd, rfl, hownd, hbd⟩; have hdl := fun z hz => (hownd.lt z hz).1; obtain ⟨Ad, cd, rfl, hd1, hd2, hd3⟩ := hownd.isB; clear hownd; have hb1 := below_call hbw2 hbd; have hown1 := Hset.out.grow hbd; have hb1s := hb1.size; have HbB3 := HbB2.out.grow hbd; have hB3l := HbB3.lt) | (at_builtin; refine wpList_app1_one _ elemB rfl (.tmp 56) (.tmp 60) rfl (w.heap.size + 2) (.slice (some ⟨g, 0, none⟩) (n + 2) c) _ rfl hown1 (.int .u8 (((numB N).length : Nat) : Int)) _ rfl rfl (by rw [hxl]; omega) (by rw [hxl]; omega) (by omega) ?_; intro v2 w2 hown2 hg2 hat2) | (at_builtin; refine wpList_app1 _ elemB rfl (.tmp 62) (.tmp 63) rfl (w.heap.size + 2) v2 _ rfl hown2 _ Ad (numB N).length cd ((numB N).map Go.Proofs.Ytkojoahamoffcaa.u8) (List.length_map _) rfl (hd3.grown hg2 (by intro z hz hz2; have h1 := hdl z hz2; have h2 : g = z := Option.some.inj hz; omega)) (u8_oneCell _) (by rw [List.length_append, hxl, List.length_singleton]; omega) (by rw [List.length_append, hxl, List.length_singleton]; omega) (by have := hg2.size; omega) ?_; intro v3 w3 hown3 hg3 hat3))
        go_roundw
        case rel =>
          have hg2' : ∀ z, (Value.slice (some ⟨g, 0, none⟩) (n + 2) c).ownBlock = some z → z ≠ w.heap.size + 1 := fun z hz => by have h2 : g = z := Option.some.inj hz; omega
          have hb2 : Below w.heap.size w w2 := hb1.trans (below_of_grown hg2 hb1s fun z hz => by have h2 : g = z := Option.some.inj hz; omega)
          have hv2 : ∀ z, v2.ownBlock = some z → w.heap.size + 2 ≤ z := fun z hz => (hown2.lt z hz).1
          have hb3 : Below w.heap.size w w3 := hb2.trans (below_of_grown hg3 hb2.size fun z hz => by have := hv2 z hz; omega)
          refine ⟨k + 1, by omega, by go_num, by rw [← Hfin.out]; exact hown3, ?_, hb3⟩
          exact (HbB3.grown hg2 fun e => hg2' _ e rfl).grown hg3 fun e => by have := hv2 _ e; omega
        case measure => simp [intOf]; omega
      · subst h
        go_wp2_with fail
        go_roundw
        case rel => exact ⟨k + 1, by omega, by go_num, by rw [HHs.out rfl]; exact Hown.out, HbB.out, hbw⟩
        case measure => simp [intOf]; omega
      · obtain ⟨N, hN⟩ : ∃ N, N = bk - vk := ⟨_, rfl⟩
        have hgr : bk = vk + N := by omega
        subst hgr
        have hsub : ((vk : Int) + (N : Int) - (vk : Int)) % 4294967296 = (N : Int) := by omega
        have hsub2 : (vk : Int) + (N : Int) - (vk : Int) = (N : Int) := by omega
        have hw64 : IntKind.u64.wrap (N : Int) = (N : Int) := by rw [IntKind.wrap_u64]; omega
        have HN0 : Hid (N < 18446744073709551616) := Lib.hid (by omega)
        have hnl : (numB N).length ≤ 8 := by rw [numB_length]; exact numLen_le N (by omega)
        have hset := Hown.out.set_ 1 (.int .u8 ((m2 : Int) + 2 ^ k))
        have hxl : (xs.set 1 (.int .u8 ((m2 : Int) + 2 ^ k))).length = n + 2 := by rw [List.length_set, hlen]
        have hfin := HHl.out h
        rw [show vk + N - vk = N by omega, show ((m2 + 2 ^ k : Nat) : Int) = (m2 : Int) + 2 ^ k from by simp] at hfin
        have hcB2 : ∀ u, (wr.setCell ⟨g, 1, none⟩ u).cell? ⟨w.heap.size + 1, k, none⟩ = some (.int .u32 ((vk + N : Nat) : Int)) := fun u => by
          have := HbB.out.far (p := ⟨g, 1, none⟩) (by show w.heap.size + 1 ≠ g; omega) u
          rw [this.cell]; exact hbc
        have hbw2 : Below w.heap.size w (wr.setCell ⟨g, 1, none⟩ (.int .u8 ((m2 : Int) + 2 ^ k))) := hbw.setCell (by show w.heap.size ≤ g; omega) _
        have hbB2 := HbB.out.far (p := ⟨g, 1, none⟩) (by show w.heap.size + 1 ≠ g; omega) (.int .u8 ((m2 : Int) + 2 ^ k))
        have Hset := Lib.hid hset
        have Hfin := Lib.hid hfin
        have HbB2 := Lib.hid hbB2
        have hgsz : g < (wr.setCell ⟨g, 1, none⟩ (.int .u8 ((m2 : Int) + 2 ^ k))).heap.size := (Hset.out.addr (by intro e; rw [e] at hxl; simp at hxl)).elim fun g2 hh => by obtain ⟨cur2, e, _, hb, _⟩ := hh; cases e; exact hb.lt
        have HVk := Lib.hid hVk
        have HBk := Lib.hid hBk
        clear hVk hBk hN hset hfin hbB2
        go_wp2_with (first | (go_at_call 28; refine (num_any N HN0.out _).mono ?_; rintro e w1 ⟨vd, rfl, hownd, hbd⟩; have hdl := fun z hz => (hownd.lt z hz).1; obtain ⟨Ad, cd, rfl, hd1, hd2, hd3⟩ := hownd.isB; clear hownd; have hb1 := below_call hbw2 hbd; have hown1 := Hset.out.grow hbd; have hb1s := hb1.size; have HbB3 := HbB2.out.grow hbd; have hB3l := HbB3.lt) | (at_builtin; refine wpList_app1_one _ elemB rfl (.tmp 56) (.tmp 60) rfl (w.heap.size + 2) (.slice (some ⟨g, 0, none⟩) (n + 2) c) _ rfl hown1 (.int .u8 (((numB N).length : Nat) : Int)) _ rfl rfl (by rw [hxl]; omega) (by rw [hxl]; omega) (by omega) ?_; intro v2 w2 hown2 hg2 hat2) | (at_builtin; refine wpList_app1 _ elemB rfl (.tmp 62) (.tmp 63) rfl (w.heap.size + 2) v2 _ rfl hown2 _ Ad (numB N).length cd ((numB N).map Go.Proofs.Ytkojoahamoffcaa.u8) (List.length_map _) rfl (hd3.grown hg2 (by intro z hz hz2; have h1 := hdl z hz2; have h2 : g = z := Option.some.inj hz; omega)) (u8_oneCell _) (by rw [List.length_append, hxl, List.length_singleton]; omega) (by rw [List.length_append, hxl, List.length_singleton]; omega) (by have := hg2.size; omega) ?_; intro v3 w3 hown3 hg3 hat3))
        go_roundw
        case rel =>
          have hg2' : ∀ z, (Value.slice (some ⟨g, 0, none⟩) (n + 2) c).ownBlock = some z → z ≠ w.heap.size + 1 := fun z hz => by have h2 : g = z := Option.some.inj hz; omega
          have hb2 : Below w.heap.size w w2 := hb1.trans (below_of_grown hg2 hb1s fun z hz => by have h2 : g = z := Option.some.inj hz; omega)
          have hv2 : ∀ z, v2.ownBlock = some z → w.heap.size + 2 ≤ z := fun z hz => (hown2.lt z hz).1
          have hb3 : Below w.heap.size w w3 := hb2.trans (below_of_grown hg3 hb2.size fun z hz => by have := hv2 z hz; omega)
          refine ⟨k + 1, by omega, by go_num, by rw [← Hfin.out]; exact hown3, ?_, hb3⟩
          exact (HbB3.grown hg2 fun e => hg2' _ e rfl).grown hg3 fun e => by have := hv2 _ e; omega
        case measure => simp [intOf]; omega
    · obtain rfl : k = 8 := by omega
      rw [hv_full] at hown
      go_wp2
      try rw [Exit.noGoto_ret]
      go_ret
      exact ⟨_, rfl, hown.mono (by omega), hbw⟩
end Go.Proofs.Ytkojoahamoffcaa
