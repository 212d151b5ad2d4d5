/-
  EventTurned: the law's walk.
-/
import Derived.Test.YtkojoahamoffcaaEvLives
import Derived.Test.YtkojoahamoffcaaEvRefChk
import Derived.Laws.BitsAllLaws
namespace Go.Proofs.Ytkojoahamoffcaa
open Go.RowKit
set_option maxRecDepth 100000

/-- An index out of any number, by its remainder. -/
theorem rem_indexE (n : Int) (L : Nat) (h0 : 0 < L) (hL : L ≤ 1099511627776) : ∃ m : Nat, wrap64 ((IntKind.u64.wrap n).tmod (L : Int)) = (m : Int) ∧ m < L := by
  have h1 : 0 ≤ IntKind.u64.wrap n := by simp only [IntKind.wrap_u64]; exact Int.emod_nonneg _ (by decide)
  have h2 : 0 ≤ IntKind.u64.wrap n % (L : Int) := Int.emod_nonneg _ (by omega)
  have h3 : IntKind.u64.wrap n % (L : Int) < (L : Int) := Int.emod_lt_of_pos _ (by omega)
  rw [Int.tmod_eq_emod_of_nonneg h1]
  obtain ⟨m, hm⟩ := Int.eq_ofNat_of_zero_le h2
  exact ⟨m, by rw [hm]; unfold wrap64; omega, by omega⟩
theorem xor_byteE (a : UInt8) (x : Nat) (hx : x < 256) (h0 : x ≠ 0) : ∃ c : UInt8, c ≠ a ∧ bits .xor .u8 (a.toNat : Int) (x : Int) = (c.toNat : Int) := by
  have hlt : a.toNat ^^^ x < 2 ^ 8 := Nat.xor_lt_two_pow a.toNat_lt hx
  have hc : (UInt8.ofNat (a.toNat ^^^ x)).toNat = a.toNat ^^^ x := by rw [UInt8.toNat_ofNat']; omega
  refine ⟨UInt8.ofNat (a.toNat ^^^ x), fun e => h0 ?_, ?_⟩
  · have := congrArg UInt8.toNat e
    rw [hc] at this
    have h2 : a.toNat ^^^ (a.toNat ^^^ x) = a.toNat ^^^ a.toNat := by rw [this]
    rw [← Nat.xor_assoc, Nat.xor_self, Nat.zero_xor] at h2
    exact h2
  · rw [hc]
    exact u8_xor_nat _ _ a.toNat_lt hx

/-- What is read of an event's bytes with one of them turned. -/
theorem turned_math {e : Ev} (i : Nat) (hi : i < (evB e).length) (y : UInt8) (hy : y ≠ (evB e)[i]) :
    ((readE ((evB e).set i y)).2 ≠ 0 → (readE ((evB e).set i y)).1 = zeroE) ∧ ((readE ((evB e).set i y)).2 = 0 → checkB (readE ((evB e).set i y)).1 = true ∧ sameE (readE ((evB e).set i y)).1 e = false) := by
  refine ⟨read_bad, fun h => ?_⟩
  obtain ⟨h1, h2⟩ := read_canon h
  refine ⟨h1, ?_⟩
  cases hs : sameE (readE ((evB e).set i y)).1 e
  · rfl
  · exfalso
    have := evB_congr hs
    rw [h2] at this
    have h3 : ((evB e).set i y)[i]'(by rw [List.length_set]; exact hi) = (evB e)[i] := by congr 1
    rw [List.getElem_set_self] at h3
    exact hy h3
theorem evB_pos (e : Ev) : 0 < (evB e).length := by
  have h := packB_count (evF e)
  have h2 : (evF e).length = 12 := rfl
  unfold evB
  omega

set_option maxHeartbeats 8000000 in
theorem eventturned_walk (e : Ev) (vg vb : Value) (n : Int) (x : Nat) (w : World) (hin : EvIn w (fun _ => True) e vg vb) (hx : x < 256) :
    Calls Try.prog 6 #[.agg (evC e vg vb), .int .i64 n, .int .u8 (x : Int)] w fun x w' => x = .returned (.bool true) ∧ Below w.heap.size w w' := by
  obtain ⟨h1, hbel⟩ := ev_box (evC e vg vb) 29 w
  obtain ⟨W, hW⟩ : ∃ W, W = (w.alloc (.cells (evC e vg vb) 29)) := ⟨_, rfl⟩
  rw [← hW] at h1 hbel
  have RA := Lib.hid (range_exts (ev_all h1))
  have K0 := Lib.hid (fun y : Ext W => lives08_any y.now)
  have k5 := fun y : Ext W => short08_any _ e vg vb y.now (hin.grow (hbel.trans (y.out.mono hbel.size)))
  have k6 := fun y : Ext W => refcheck_any _ e vg vb y.now (hin.grow (hbel.trans (y.out.mono hbel.size)))
  obtain ⟨b1, hb1⟩ : ∃ b, b = shortB e := ⟨_, rfl⟩
  obtain ⟨c, hc⟩ : ∃ x, x = checkB e := ⟨_, rfl⟩
  obtain ⟨z, hz⟩ : ∃ z, z = decide (x = 0) := ⟨_, rfl⟩
  have z1 : ((x : Int) == 0) = z := by rw [hz, Bool.eq_iff_iff]; simp
  have z2 : (x == 0) = z := by rw [hz, Bool.eq_iff_iff]; simp
  simp only [← hb1] at k5
  simp only [← hc] at k6
  have K5 := Lib.hid k5
  have K6 := Lib.hid k6
  have hz0 : z = false → x ≠ 0 := fun h => by rw [hz] at h; simpa using h
  have Hz := Lib.hid hz0
  have Hx := Lib.hid hx
  have Hc := Lib.hid hc
  have HW := Lib.hid hW
  have Hin := Lib.hid hin
  have H1 := Lib.hid h1
  have Hbel := Lib.hid hbel
  clear hW k5 k6 hb1 hin h1 hbel hc hz hz0 hx
  cases b1 <;> cases z <;> cases c
  all_goals go_enter Try.func6, Try.ntmps6
  all_goals go_upto_region 1 with fail
  all_goals rw [← HW.out]
  all_goals refine wp_plain_grow ?_
  all_goals repeat (first | (go_big_quiet_want; refine quiet_mid 29 (.tmp 3) rfl w.heap.size 0 rfl (evC e vg vb) _ RA.out Try.underlying29 rfl ev_info ?_; go_simp; go_big_quiet_on) | go_big_quiet_step (first | (go_at_call 7; with_reducible exact calls_grow (K0.out _)) | (go_at_call 8; with_reducible exact calls_grow (K5.out _)) | (go_at_call 10; with_reducible exact calls_grow (K6.out _))) | quiet_step (first | (go_at_call 7; with_reducible exact calls_grow (K0.out _)) | (go_at_call 8; with_reducible exact calls_grow (K5.out _)) | (go_at_call 10; with_reducible exact calls_grow (K6.out _))))
  all_goals refine wpQuiet_nil ?_
  all_goals rintro w6 ⟨⟨_, hb6⟩, rfl⟩
  all_goals have hb06 := below_call Hbel.out hb6
  · go_upto_region 2 with fail
    refine wp_region_lit ?_
    go_wp2_with (go_at_call 7; (with_reducible refine (lives08_any _).mono ?_); rintro x w7 ⟨rfl, hb7⟩)
    go_ret
    exact ⟨rfl, below_call hb06 hb7⟩
  · go_upto_region 2 with fail
    refine wp_region_lit ?_
    go_wp2_with (go_at_call 7; (with_reducible refine (lives08_any _).mono ?_); rintro x w7 ⟨rfl, hb7⟩)
    go_ret
    exact ⟨rfl, below_call hb06 hb7⟩
  · go_upto_region 2 with fail
    refine wp_region_lit ?_
    go_wp2_with (go_at_call 7; (with_reducible refine (lives08_any _).mono ?_); rintro x w7 ⟨rfl, hb7⟩)
    go_ret
    exact ⟨rfl, below_call hb06 hb7⟩
  · go_upto_region 2 with fail
    refine wp_region_lit ?_
    go_wp2_with (go_at_call 7; (with_reducible refine (lives08_any _).mono ?_); rintro x w7 ⟨rfl, hb7⟩)
    go_ret
    exact ⟨rfl, below_call hb06 hb7⟩
  · go_upto_region 2 with fail
    refine wp_region_lit ?_
    go_wp2_with (go_at_call 7; (with_reducible refine (lives08_any _).mono ?_); rintro x w7 ⟨rfl, hb7⟩)
    go_ret
    exact ⟨rfl, below_call hb06 hb7⟩
  · have H16 := Lib.hid (H1.out.grow hb6)
    have Hin6 := Lib.hid (Hin.out.grow hb06)
    have hce := Hc.out.symm
    have hlen := evB_len (fine_of hce)
    have hpos := evB_pos e
    have hx0 := Hz.out (by trivial)
    obtain ⟨m, hm, hml⟩ := rem_indexE n (evB e).length hpos (by omega)
    obtain ⟨y, hy, hxor⟩ := xor_byteE (evB e)[m] x Hx.out hx0
    obtain ⟨hbad, hgood⟩ := turned_math m hml y hy
    obtain ⟨T, hT⟩ : ∃ T, T = evB e := ⟨_, rfl⟩
    have hwr := write_ok _ e vg vb w6 Hin6.out hce
    have hrd := fun ok v u (h : IsB u ok v ((evB e).set m y)) => read_any ok v _ u h (by rw [List.length_set]; omega)
    generalize hR : readE ((evB e).set m y) = R at hbad hgood hrd
    clear hR
    have hck : ((evB e)[m].toNat : Int) = ((evB e)[m].toNat : Int) := rfl
    obtain ⟨q0, hq0⟩ : ∃ q, q = (evB e)[m].toNat := ⟨_, rfl⟩
    rw [← hq0] at hxor
    have hTl : (evB e).length = T.length := by rw [hT]
    have hel : ∀ (h : m < T.length), T[m].toNat = q0 := fun h => by subst hT; exact hq0.symm
    rw [hTl] at hm hml hpos hlen
    rw [← hT] at hwr hrd
    have Hwr := Lib.hid hwr
    have Hrd := Lib.hid hrd
    have Hbad := Lib.hid hbad
    have Hgood := Lib.hid hgood
    have Hm := Lib.hid hm
    have Hxor := Lib.hid hxor
    have Hel := Lib.hid hel
    have Hml := Lib.hid hml
    have Hlen := Lib.hid hlen
    have Hpos := Lib.hid hpos
    clear hwr hrd hbad hgood hm hxor hel hml hlen hpos hce hx0 hy hT hck hq0 hTl RA K0 K5 K6 z1 z2
    go_upto_region 3 with fail
    refine wp_region_lit ?_
    refine wpList_load_row rfl 29 (.tmp 3) rfl w.heap.size rfl 29 (evC e vg vb) (0, 0) _ H16.out Try.underlying29 rfl ev_info ?_
    go_upto_region 4 with (go_at_call 13; (with_reducible refine Hwr.out.mono ?_); rintro x w7 ⟨⟨u, rfl, hu⟩, hb7⟩; have HU := Lib.hid hu; clear hu)
    have hb07 := below_call hb06 hb7
    obtain ⟨Ax, cx, hux, hcx, hmx, _⟩ := HU.out.isB
    have hu2 := HU.out
    rw [hux] at hu2
    obtain ⟨g, cur, rfl, hg, hblk, hcur⟩ := hu2.addr (by intro e; have := congrArg List.length e; simp at this; have := Hpos.out; simp_all)
    subst hux
    have hml := Hml.out
    have hcell : w7.cell? ⟨g, m, none⟩ = some (.int .u8 (q0 : Int)) := by
      rw [hblk.cell, hcur m (by simpa using hml), List.getElem_map, ← Hel.out hml]
      rfl
    have hfz : w7.frozen? ⟨g, m, none⟩ = false := hblk.frozen m
    have hx3 := hu2.set_ m (u8 y)
    rw [← List.map_set] at hx3
    have hs6 := hb06.size
    have hs7 := hb07.size
    have h17 := H16.out.grow hb7
    have H18 := Lib.hid (h17.far (p := ⟨g, m, none⟩) (by have := H16.out.lt; show w.heap.size ≠ g; omega) (u8 y))
    have hb08 : Below w.heap.size w (w7.setCell ⟨g, m, none⟩ (u8 y)) := hb07.setCell (Nat.le_trans hs6 hg) _
    have Hx3 := Lib.hid hx3
    have hm := Hm.out
    have hxor := Hxor.out
    have hmi : (m : Int) < (T.length : Int) := by omega
    have hpos := Hpos.out
    have hlen := Hlen.out
    have hwl : IntKind.u64.wrap (T.length : Int) = (T.length : Int) := by rw [IntKind.wrap_u64]; omega
    have hl0 : ((T.length : Int) == 0) = false := by rw [beq_eq_false_iff_ne]; omega
    have hl1 : (T.length == 0) = false := by rw [beq_eq_false_iff_ne]; omega
    have Hin7 := Lib.hid (Hin6.out.grow hb7)
    clear hu2 hblk hcur hx3 h17 hml hmx
    go_upto_region 7 with fail
    clear hm hxor hmi hpos hlen hwl hl0 hl1 hcell hfz
    obtain ⟨V, hV⟩ : ∃ V, V = w7.setCell ⟨g, m, none⟩ (u8 y) := ⟨_, rfl⟩
    have hV2 : w7.setCell ⟨g, m, none⟩ (.int .u8 (y.toNat : Int)) = V := hV.symm
    rw [hV2]
    rw [← hV] at hb08 H18 Hx3
    clear hV hV2
    have hs8 := hb08.size
    have HinV := Lib.hid (Hin.out.grow hb08)
    obtain ⟨F, q⟩ := R
    have hfg := Hgood.out
    have hfb := Hbad.out
    simp only [] at hfg hfb
    have Hfg := Lib.hid hfg
    have Hfb := Lib.hid hfb
    clear hfg hfb Hgood Hbad
    refine wp_region_lit ?_
    go_upto_region 8 with (first | (go_at_call 14; (with_reducible refine (Hrd.out _ _ _ Hx3.out.isB).mono ?_); rintro x w9 ⟨vg', vb', rfl, hin9, hb9⟩; have Hin9 := Lib.hid hin9; have HB2 := Lib.hid (Blk.new w9 29 (evC zeroE (.slice none 0 0) (.slice none 0 0))); rw [zeroE_lit] at HB2; clear hin9) | (refine wpList_store_row ?_ 29 (.tmp 9) (.tmp 55) ?_ w9.heap.size (evC F vg' vb') ?_ ?_ 29 _ HB2.out ev_info rfl (evC_one Hin9.out) ?_; exact rfl; exact rfl; exact rfl; exact rfl))
    have hbZ : Below w9.heap.size w9 ((w9.alloc (.cells (evC zeroE (.slice none 0 0) (.slice none 0 0)) 29)).setRow w9.heap.size (evC F vg' vb')) := below_setRow ((Below.refl _ _).alloc (Nat.le_refl _) _) (Nat.le_refl _) _
    rw [zeroE_lit] at hbZ
    have HBZ := Lib.hid (HB2.out.setRow_ (evC F vg' vb'))
    obtain ⟨Z, hZ⟩ : ∃ Z, Z = (w9.alloc (.cells #[.int .i64 0, .int .u32 0, .int .u32 0, .int .u32 0, .int .u32 0, .int .u32 0, .int .u32 0, .int .u32 0, .int .u32 0, .int .u32 0, .int .i64 0, .int .i64 0, .int .u32 0, .int .i64 0, .int .u32 0, .string { data := #[] }, .slice none 0 0, .slice none 0 0, .int .i64 0, .string { data := #[] }, .int .i64 0] 29)).setRow w9.heap.size (evC F vg' vb') := ⟨_, rfl⟩
    rw [← hZ] at hbZ HBZ ⊢
    clear hZ HB2
    have hb09 := below_call hb08 hb9
    have hb0Z := below_call hb09 hbZ
    have HinZ := Lib.hid ((HinV.out.grow hb9).grow hbZ)
    have HFZ := Lib.hid (Hin9.out.grow hbZ)
    have H1Z := Lib.hid ((H18.out.grow hb9).grow hbZ)
    have RA := Lib.hid (range_exts (ev_all H1Z.out))
    have RB := Lib.hid (range_exts (ev_all HBZ.out))
    by_cases hq : q = 0
    · subst hq
      obtain ⟨hg1, hg2⟩ := Hfg.out rfl
      have c1 := fun y : Ext Z => refsame_any _ _ F e vg' vb' vg vb y.now (HFZ.out.grow y.out) (HinZ.out.grow y.out)
      have c2 := fun y : Ext Z => check_any _ F vg' vb' y.now (HFZ.out.grow y.out)
      simp only [hg2] at c1
      simp only [hg1] at c2
      have C1 := Lib.hid c1
      have C2 := Lib.hid c2
      clear c1 c2
      go_upto_region 10 with fail
      refine wp_plain_grow ?_
      repeat (first | (go_big_quiet_want; refine quiet_mid 29 (.tmp 3) rfl w.heap.size 0 rfl (evC e vg vb) _ RA.out Try.underlying29 rfl ev_info ?_; go_simp; go_big_quiet_on) | (go_big_quiet_want; refine quiet_mid 29 (.tmp 9) rfl w9.heap.size 0 rfl (evC F vg' vb') _ RB.out Try.underlying29 rfl ev_info ?_; go_simp; go_big_quiet_on) | go_big_quiet_step (first | (go_at_call 16; with_reducible exact calls_grow (C1.out _)) | (go_at_call 9; with_reducible exact calls_grow (C2.out _))) | quiet_step (first | (go_at_call 16; with_reducible exact calls_grow (C1.out _)) | (go_at_call 9; with_reducible exact calls_grow (C2.out _))))
      refine wpQuiet_nil ?_
      rintro w10 ⟨⟨_, hb10⟩, rfl⟩
      go_wp2_with fail
      go_ret
      exact ⟨rfl, below_call hb0Z hb10⟩
    · have hF := Hfb.out hq
      have e1 : ((q : Int) != 0) = true := by rw [bne_iff_ne]; omega
      have e2 : (q != 0) = true := by rw [bne_iff_ne]; exact hq
      have c1 := fun y : Ext Z => refsame_any _ (fun _ => True) F zeroE vg' vb' (.slice none 0 0) (.slice none 0 0) y.now (HFZ.out.grow y.out) (zeroE_in _ _)
      rw [show sameE F zeroE = true by rw [hF]; exact sameE_self _] at c1
      simp only [zeroE_lit] at c1
      have C1 := Lib.hid c1
      clear c1 hF hq
      go_upto_region 9 with fail
      refine wp_plain_grow ?_
      repeat (first | (go_big_quiet_want; refine quiet_mid 29 (.tmp 9) rfl w9.heap.size 0 rfl (evC F vg' vb') _ RB.out Try.underlying29 rfl ev_info ?_; go_simp; go_big_quiet_on) | go_big_quiet_step ((go_at_call 16; with_reducible exact calls_grow (C1.out _))) | quiet_step ((go_at_call 16; with_reducible exact calls_grow (C1.out _))))
      refine wpQuiet_nil ?_
      rintro w10 ⟨⟨_, hb10⟩, rfl⟩
      go_wp2_with fail
      go_ret
      exact ⟨rfl, below_call hb0Z hb10⟩
  · go_upto_region 2 with fail
    refine wp_region_lit ?_
    go_wp2_with (go_at_call 7; (with_reducible refine (lives08_any _).mono ?_); rintro x w7 ⟨rfl, hb7⟩)
    go_ret
    exact ⟨rfl, below_call hb06 hb7⟩
  · go_upto_region 2 with fail
    refine wp_region_lit ?_
    go_wp2_with (go_at_call 7; (with_reducible refine (lives08_any _).mono ?_); rintro x w7 ⟨rfl, hb7⟩)
    go_ret
    exact ⟨rfl, below_call hb06 hb7⟩
end Go.Proofs.Ytkojoahamoffcaa
