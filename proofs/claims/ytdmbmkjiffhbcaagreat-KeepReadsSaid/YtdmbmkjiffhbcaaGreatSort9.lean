/-
  partialInsertionSortOrdered at uint64.
-/
import Derived.Test.YtdmbmkjiffhbcaaGreatSortB
namespace Go.Proofs.YtdmbmkjiffhbcaaGreat
open Go.RowKit
set_option maxRecDepth 100000

theorem scanS_go {d : Array Nat} {b i : Nat} (h : i < b) (hl : lt64 d[i]! d[i - 1]! = false) : Sort.scanSorted lt64 d b i = Sort.scanSorted lt64 d b (i + 1) := by
  conv => lhs; rw [Sort.scanSorted]
  rw [if_pos (by simp [h, hl])]
theorem scanS_not {d : Array Nat} {b i : Nat} (hl : lt64 d[i]! d[i - 1]! = true) : Sort.scanSorted lt64 d b i = i := by
  rw [Sort.scanSorted, if_neg (by simp [hl])]
theorem scanS_out {d : Array Nat} {b i : Nat} (h : b ≤ i) : Sort.scanSorted lt64 d b i = i := by
  rw [Sort.scanSorted, if_neg (by simp; omega)]
theorem shiftUp_go {d : Array Nat} {b j : Nat} (h : j < b) (hl : lt64 d[j]! d[j - 1]! = true) : Sort.shiftUp lt64 b j d = Sort.shiftUp lt64 b (j + 1) (Sort.swp d j (j - 1)) := by
  conv => lhs; rw [Sort.shiftUp]
  rw [if_pos h, if_neg (by simp [hl])]
theorem shiftUp_not {d : Array Nat} {b j : Nat} (hl : lt64 d[j]! d[j - 1]! = false) : Sort.shiftUp lt64 b j d = d := by
  rw [Sort.shiftUp]
  split
  · rw [if_pos (by simp [hl])]
  · rfl
theorem shiftUp_out {d : Array Nat} {b j : Nat} (h : b ≤ j) : Sort.shiftUp lt64 b j d = d := by
  rw [Sort.shiftUp, if_neg (by omega)]
theorem shiftDown_go {d : Array Nat} {j : Nat} (hl : lt64 d[j + 1]! d[j]! = true) : Sort.shiftDown lt64 (j + 1) d = Sort.shiftDown lt64 j (Sort.swp d (j + 1) j) := by
  rw [Sort.shiftDown, if_neg (by simp [hl])]
theorem shiftDown_not {d : Array Nat} {j : Nat} (hl : lt64 d[j + 1]! d[j]! = false) : Sort.shiftDown lt64 (j + 1) d = d := by
  rw [Sort.shiftDown, if_pos (by simp [hl])]
theorem pi_true {a b k i : Nat} {d : Array Nat} (h : Sort.scanSorted lt64 d b i = b) : Sort.partialIns lt64 a b (k + 1) i d = (d, true) := by
  rw [Sort.partialIns]
  simp only [h, if_true]
theorem pi_short {a b k i i2 : Nat} {d : Array Nat} (h : Sort.scanSorted lt64 d b i = i2) (hb : i2 ≠ b) (hs : b - a < 50) : Sort.partialIns lt64 a b (k + 1) i d = (d, false) := by
  rw [Sort.partialIns]
  simp only [h]
  rw [if_neg hb, if_pos hs]
def D3 (a i2 : Nat) (d : Array Nat) : Array Nat := if 2 ≤ i2 - a then Sort.shiftDown lt64 (i2 - 1) (Sort.swp d i2 (i2 - 1)) else Sort.swp d i2 (i2 - 1)
def D4 (a b i2 : Nat) (d : Array Nat) : Array Nat := if 2 ≤ b - i2 then Sort.shiftUp lt64 b (i2 + 1) (D3 a i2 d) else D3 a i2 d
theorem pi_go {a b k i i2 : Nat} {d : Array Nat} (h : Sort.scanSorted lt64 d b i = i2) (hb : i2 ≠ b) (hs : ¬ b - a < 50) : Sort.partialIns lt64 a b (k + 1) i d = Sort.partialIns lt64 a b k i2 (D4 a b i2 d) := by
  rw [Sort.partialIns]
  simp only [h]
  rw [if_neg hb, if_neg hs]
  rfl
theorem d4_eq {a b i2 : Nat} {d x y : Array Nat} (h : D3 a i2 d = x) (h2 : (if 2 ≤ b - i2 then Sort.shiftUp lt64 b (i2 + 1) x else x) = y) : D4 a b i2 d = y := by
  unfold D4
  rw [h, h2]

set_option maxHeartbeats 16000000 in
theorem pins_any (g off cap n a b : Nat) (d : Array Nat) (w : World) (h : NumsAt w g off d) (hn : n = d.size) (hb : b ≤ n) (hab : a + 2 ≤ b) (hn2 : n ≤ 1152921504606846976) (hg : g < w.heap.size) :
    Calls Tryz.prog 103 #[.slice (some ⟨g, off, none⟩) n cap, .int .i64 (a : Int), .int .i64 (b : Int)] w fun e w' => e = .returned (.bool (Sort.partialInsertionSort lt64 d a b).2) ∧ NumsAt w' g off (Sort.partialInsertionSort lt64 d a b).1 ∧ (Sort.partialInsertionSort lt64 d a b).1.size = n ∧ ButS g w w' := by
  obtain ⟨R, hR⟩ : ∃ R, R = Sort.partialInsertionSort lt64 d a b := ⟨_, rfl⟩
  rw [← hR]
  unfold Sort.partialInsertionSort at hR
  obtain ⟨a1, ha1⟩ : ∃ y, y = a + 1 := ⟨_, rfl⟩
  rw [← ha1] at hR
  obtain ⟨hh, hhh⟩ : ∃ y, y = b - a := ⟨_, rfl⟩
  have W1 := Lib.hid (wr_nat ((a : Int) + 1) a1 (by omega) (by omega))
  have WH := Lib.hid (wr_nat ((b : Int) - (a : Int)) hh (by omega) (by omega))
  have HI := Lib.hid (show a + 1 ≤ a1 ∧ a1 ≤ b by omega)
  have HH := Lib.hid hhh
  have HR := Lib.hid hR
  have Hn := Lib.hid hn
  have H := Lib.hid h
  clear hR hn h ha1 hhh
  go_enter Tryz.func103, Tryz.ntmps103
  obtain ⟨w1, w2⟩ := W1.out
  go_wp2_with fail
  clear w1 w2
  go_loopw [7, 8] (fun t u wr => ∃ (i s q : Nat) (d1 : Array Nat), s + q = 5 ∧ a + 1 ≤ i ∧ i ≤ b ∧ t = .int .i64 (i : Int) ∧ u = .int .i64 (s : Int) ∧ NumsAt wr g off d1 ∧ d1.size = n ∧ Sort.partialIns lt64 a b q i d1 = R ∧ ButS g w wr) (fun _ u _ => 5 - (intOf u).toNat)
  case atStart => exact ⟨a1, 0, 5, d, rfl, HI.out.1, HI.out.2, rfl, rfl, H.out, Hn.out.symm, HR.out.symm, ButS.refl _ _⟩
  case round =>
    obtain ⟨i, s, q0, d1, hsq, hi1, hib, rfl, rfl, hnum, hsz, heq, hbut⟩ := hrel
    have Hnum := Lib.hid hnum
    have Hsz := Lib.hid hsz
    have Heq := Lib.hid heq
    clear hnum hsz heq
    rcases q0 with _ | q
    · obtain rfl : s = 5 := by omega
      have Hfin := Lib.hid (show R = (d1, false) from Heq.out.symm)
      go_wp2_with fail
      rw [Hfin.out]
      first
      | exact bodyPost_ret (results_tmp rfl _ _ _) rfl ⟨rfl, Hnum.out, Hsz.out, hbut⟩
      | exact bodyPost_end (results_tmp rfl _ _ _) rfl ⟨rfl, Hnum.out, Hsz.out, hbut⟩
    · obtain ⟨s1, hs1⟩ : ∃ y, y = s + 1 := ⟨_, rfl⟩
      have WS := Lib.hid (wr_nat ((s : Int) + 1) s1 (by omega) (by omega))
      have HS1 := Lib.hid (show s1 = s + 1 ∧ s + (q + 1) = 5 from ⟨hs1, hsq⟩)
      have e1 : decide ((s : Int) < 5) = true := by rw [decide_eq_true_iff]; omega
      have e2 : decide (s < 5) = true := by rw [decide_eq_true_iff]; omega
      clear hs1 hsq
      obtain ⟨wb, hwb⟩ : ∃ x, x = wr := ⟨wr, rfl⟩
      subst hwb
      go_wp2_with fail
      clear e1 e2
      go_loopw [7] (fun t wr => ∃ (k : Nat), i ≤ k ∧ k ≤ b ∧ t = .int .i64 (k : Int) ∧ NumsAt wr g off d1 ∧ Sort.scanSorted lt64 d1 b k = Sort.scanSorted lt64 d1 b i ∧ ButS g wb wr) (fun t _ => n + 1 - (intOf t).toNat)
      case atStart => exact ⟨i, Nat.le_refl _, hib, rfl, Hnum.out, rfl, ButS.refl _ _⟩
      case round =>
        obtain ⟨k, hik, hkb, rfl, hnum, heq, hbut2⟩ := hrel
        have Hnum2 := Lib.hid hnum
        have Heq2 := Lib.hid heq
        clear hnum heq
        have hgr := Nat.lt_of_lt_of_le hg (Nat.le_trans hbut.2.2.2.1 hbut2.2.2.2.1)
        by_cases hkb2 : k < b
        · have hkn : k < n := by omega
          obtain ⟨m, hm⟩ : ∃ m, m = k - 1 := ⟨_, rfl⟩
          have hmn : m < n := by omega
          obtain ⟨k1, hk1⟩ : ∃ y, y = k + 1 := ⟨_, rfl⟩
          obtain ⟨ka, hka⟩ : ∃ y, y = k - a := ⟨_, rfl⟩
          obtain ⟨bk, hbk⟩ : ∃ y, y = b - k := ⟨_, rfl⟩
          have WM := Lib.hid (wr_nat ((k : Int) - 1) m (by omega) (by omega))
          have WK1 := Lib.hid (wr_nat ((k : Int) + 1) k1 (by omega) (by omega))
          have WKA := Lib.hid (wr_nat ((k : Int) - (a : Int)) ka (by omega) (by omega))
          have WBK := Lib.hid (wr_nat ((b : Int) - (k : Int)) bk (by omega) (by omega))
          have e1 : decide ((k : Int) < (b : Int)) = true := by rw [decide_eq_true_iff]; omega
          have e2 : decide (k < b) = true := by rw [decide_eq_true_iff]; omega
          have Hm := Lib.hid hm
          have Hk1 := Lib.hid hk1
          have Hka := Lib.hid hka
          have Hbk := Lib.hid hbk
          have ca := fun y : Ext wr => (Hnum2.out.grow hgr y.out k (by rw [Hsz.out]; exact hkn)).1
          have ck := fun y : Ext wr => (Hnum2.out.grow hgr y.out m (by rw [Hsz.out]; exact hmn)).1
          obtain ⟨c, hc⟩ : ∃ c, c = lt64 d1[k]! d1[m]! := ⟨_, rfl⟩
          have kl := fun y : Ext wr => less_any d1[k]! d1[m]! y.now
          simp only [← hc] at kl
          have KL := Lib.hid kl
          have Hc := Lib.hid hc
          clear kl hc hm hk1 hka hbk
          go_upto_region 5 with fail
          obtain ⟨wm, wm2⟩ := WM.out
          cases c
          all_goals refine wp_region_grow (by kernel_rfl) (by kernel_rfl) ?_
          all_goals repeat (first | go_big_quiet_step ((go_at_call 104; with_reducible exact calls_grow (KL.out _))) | quiet_step ((go_at_call 104; with_reducible exact calls_grow (KL.out _))))
          all_goals refine wpQuiet_nil ?_
          all_goals rintro w4 ⟨⟨_, hb4⟩, rfl⟩
          all_goals have Hnum4 := Lib.hid (Hnum2.out.grow hgr hb4)
          all_goals have hbut4 := hbut2.trans (butS_below hb4 g)
          all_goals have hgr4 := Nat.lt_of_lt_of_le hgr hb4.size
          all_goals clear ca ck KL e1 e2 wm wm2
          · have Heq3 := Lib.hid ((scanS_go hkb2 (by rw [← Hm.out]; exact Hc.out.symm)).symm.trans Heq2.out)
            obtain ⟨w5, w6⟩ := WK1.out
            go_wp2_with fail
            clear w5 w6
            go_roundw
            case rel => exact ⟨k1, by have := Hk1.out; omega, by have := Hk1.out; omega, rfl, Hnum4.out, by rw [Hk1.out]; exact Heq3.out, hbut4⟩
            case measure => have := Hk1.out; simp [intOf]; omega
          · have Hs := Lib.hid ((scanS_not (b := b) (by rw [← Hm.out]; exact Hc.out.symm)).symm.trans Heq2.out)
            have hkne : k ≠ b := Nat.ne_of_lt hkb2
            have eb : ((k : Int) == (b : Int)) = false := by rw [beq_eq_false_iff_ne]; omega
            have eb2 : (k == b) = false := by rw [beq_eq_false_iff_ne]; exact hkne
            have eb3 : decide (k = b) = false := by rw [decide_eq_false_iff_not]; exact hkne
            clear Heq2
            by_cases h50 : hh < 50
            · have Hfin := Lib.hid (((pi_short (k := q) (a := a) Hs.out.symm hkne (by rw [← HH.out]; exact h50))).symm.trans Heq.out)
              have e1 : decide ((hh : Int) < 50) = true := by rw [decide_eq_true_iff]; omega
              have e2 : decide (hh < 50) = true := by rw [decide_eq_true_iff]; omega
              obtain ⟨w5, w6⟩ := WH.out
              go_wp2_with fail
              rw [← Hfin.out]
              first
              | exact bodyPost_ret (results_tmp rfl _ _ _) rfl ⟨rfl, Hnum4.out, Hsz.out, hbut.trans hbut4⟩
              | exact bodyPost_end (results_tmp rfl _ _ _) rfl ⟨rfl, Hnum4.out, Hsz.out, hbut.trans hbut4⟩
            · have Hstep := Lib.hid (pi_go (k := q) (a := a) Hs.out.symm hkne (by rw [← HH.out]; exact h50))
              have e1 : decide ((hh : Int) < 50) = false := by rw [decide_eq_false_iff_not]; omega
              have e2 : decide (hh < 50) = false := by rw [decide_eq_false_iff_not]; omega
              have hbutW := hbut.trans hbut4
              obtain ⟨w5, w6⟩ := WH.out
              go_upto_region 11 with fail
              clear w5 w6 e1 e2 eb eb2 eb3
              obtain ⟨wm, wm2⟩ := WM.out
              refine wp_region_fixed (fun s => match s with | 42 => .slice (some ⟨g, off, none⟩) n cap | 43 => .int .i64 (k : Int) | 44 => .slice (some ⟨g, off, none⟩) n cap | 45 => .int .i64 (k : Int) | 46 => .int .i64 (m : Int) | 47 => .slice (some ⟨g, off, none⟩) n cap | 48 => .int .i64 (k : Int) | 49 => .int .i64 (m : Int) | 50 => .pointer (some ⟨g, off + m, none⟩) | 51 => .int .u64 (d1[m]! : Int) | 52 => .slice (some ⟨g, off, none⟩) n cap | 53 => .int .i64 (k : Int) | 54 => .pointer (some ⟨g, off + k, none⟩) | 55 => .int .u64 (d1[k]! : Int) | 56 => .pointer (some ⟨g, off + k, none⟩) | 57 => .pointer (some ⟨g, off + m, none⟩) | _ => undef) (SwJ w4.drew ⟨g, off + k, none⟩ ⟨g, off + m, none⟩ (.int .u64 (d1[m]! : Int)) (.int .u64 (d1[k]! : Int)) 15 17 9 13) 133 [42, 43, 44, 45, 46, 47, 48, 49, 50, 51, 52, 53, 54, 55, 56, 57] (by kernel_rfl) (by kernel_rfl) (by kernel_rfl) (by kernel_rfl) rfl SwJ.start ?_ ?_
              · intro i0 o0 hi0 dn a0 x hJ hd hpre hsame hV K hK
                have hlt0 := (Array.getElem?_eq_some_iff.1 hi0).1
                rcases many18 hlt0 rfl with rfl | rfl | rfl | rfl | rfl | rfl | rfl | rfl | rfl | rfl | rfl | rfl | rfl | rfl | rfl | rfl | rfl | rfl
                all_goals (have ho0 := Option.some.inj hi0; subst ho0; clear hi0 hlt0)
                · have q0 : a0.tmps[0]?.getD undef = .slice (some ⟨g, off, none⟩) n cap := hsame 0 (slot_free (by decide +kernel))
                  have hJ2 := Lib.hid hJ; have hk := Lib.hid hK; clear hsame hpre hK hV hJ hd; go_simp; exact hk.out _ _ (fun s hs => by cases hs; rfl) (hJ2.out.more (by decide) (by decide))
                · have q7 : a0.tmps[7]?.getD undef = .int .i64 (k : Int) := hsame 7 (slot_free (by decide +kernel))
                  have hJ2 := Lib.hid hJ; have hk := Lib.hid hK; clear hsame hpre hK hV hJ hd; go_simp; exact hk.out _ _ (fun s hs => by cases hs; rfl) (hJ2.out.more (by decide) (by decide))
                · have q0 : a0.tmps[0]?.getD undef = .slice (some ⟨g, off, none⟩) n cap := hsame 0 (slot_free (by decide +kernel))
                  have hJ2 := Lib.hid hJ; have hk := Lib.hid hK; clear hsame hpre hK hV hJ hd; go_simp; exact hk.out _ _ (fun s hs => by cases hs; rfl) (hJ2.out.more (by decide) (by decide))
                · have q7 : a0.tmps[7]?.getD undef = .int .i64 (k : Int) := hsame 7 (slot_free (by decide +kernel))
                  have hJ2 := Lib.hid hJ; have hk := Lib.hid hK; clear hsame hpre hK hV hJ hd; go_simp; exact hk.out _ _ (fun s hs => by cases hs; rfl) (hJ2.out.more (by decide) (by decide))
                · have q45 : a0.tmps[45]?.getD undef = .int .i64 (k : Int) := hV 3 45 (hpre ⟨3, .data⟩ (by simp) rfl) rfl
                  have hJ2 := Lib.hid hJ; have hk := Lib.hid hK; clear hsame hpre hK hV hJ hd; go_simp; exact hk.out _ _ (fun s hs => by cases hs; rfl) (hJ2.out.more (by decide) (by decide))
                · have q0 : a0.tmps[0]?.getD undef = .slice (some ⟨g, off, none⟩) n cap := hsame 0 (slot_free (by decide +kernel))
                  have hJ2 := Lib.hid hJ; have hk := Lib.hid hK; clear hsame hpre hK hV hJ hd; go_simp; exact hk.out _ _ (fun s hs => by cases hs; rfl) (hJ2.out.more (by decide) (by decide))
                · have q7 : a0.tmps[7]?.getD undef = .int .i64 (k : Int) := hsame 7 (slot_free (by decide +kernel))
                  have hJ2 := Lib.hid hJ; have hk := Lib.hid hK; clear hsame hpre hK hV hJ hd; go_simp; exact hk.out _ _ (fun s hs => by cases hs; rfl) (hJ2.out.more (by decide) (by decide))
                · have q48 : a0.tmps[48]?.getD undef = .int .i64 (k : Int) := hV 6 48 (hpre ⟨6, .data⟩ (by simp) rfl) rfl
                  have hJ2 := Lib.hid hJ; have hk := Lib.hid hK; clear hsame hpre hK hV hJ hd; go_simp; exact hk.out _ _ (fun s hs => by cases hs; rfl) (hJ2.out.more (by decide) (by decide))
                · have q47 : a0.tmps[47]?.getD undef = .slice (some ⟨g, off, none⟩) n cap := hV 5 47 (hpre ⟨5, .data⟩ (by simp) rfl) rfl
                  have q49 : a0.tmps[49]?.getD undef = .int .i64 (m : Int) := hV 7 49 (hpre ⟨7, .data⟩ (by simp) rfl) rfl
                  have hJ2 := Lib.hid hJ; have hk := Lib.hid hK; clear hsame hpre hK hV hJ hd; go_simp; exact hk.out _ _ (fun s hs => by cases hs; rfl) (hJ2.out.more (by decide) (by decide))
                · have q50 : a0.tmps[50]?.getD undef = .pointer (some ⟨g, off + m, none⟩) := hV 8 50 (hpre ⟨8, .data⟩ (by simp) rfl) rfl
                  have hxX := hJ.load (.inl hd)
                  have c0 : x.cell? ⟨g, off + m, none⟩ = some (.int .u64 (d1[m]! : Int)) := by rw [hxX]; exact (Hnum4.out _ (by rw [Hsz.out]; exact hmn)).1
                  clear hxX
                  have hJ2 := Lib.hid hJ; have hk := Lib.hid hK; clear hsame hpre hK hV hJ hd; go_simp; exact hk.out _ _ (fun s hs => by cases hs; rfl) (hJ2.out.more (by decide) (by decide))
                · have q0 : a0.tmps[0]?.getD undef = .slice (some ⟨g, off, none⟩) n cap := hsame 0 (slot_free (by decide +kernel))
                  have hJ2 := Lib.hid hJ; have hk := Lib.hid hK; clear hsame hpre hK hV hJ hd; go_simp; exact hk.out _ _ (fun s hs => by cases hs; rfl) (hJ2.out.more (by decide) (by decide))
                · have q7 : a0.tmps[7]?.getD undef = .int .i64 (k : Int) := hsame 7 (slot_free (by decide +kernel))
                  have hJ2 := Lib.hid hJ; have hk := Lib.hid hK; clear hsame hpre hK hV hJ hd; go_simp; exact hk.out _ _ (fun s hs => by cases hs; rfl) (hJ2.out.more (by decide) (by decide))
                · have q52 : a0.tmps[52]?.getD undef = .slice (some ⟨g, off, none⟩) n cap := hV 10 52 (hpre ⟨10, .data⟩ (by simp) rfl) rfl
                  have q53 : a0.tmps[53]?.getD undef = .int .i64 (k : Int) := hV 11 53 (hpre ⟨11, .data⟩ (by simp) rfl) rfl
                  have hJ2 := Lib.hid hJ; have hk := Lib.hid hK; clear hsame hpre hK hV hJ hd; go_simp; exact hk.out _ _ (fun s hs => by cases hs; rfl) (hJ2.out.more (by decide) (by decide))
                · have q54 : a0.tmps[54]?.getD undef = .pointer (some ⟨g, off + k, none⟩) := hV 12 54 (hpre ⟨12, .data⟩ (by simp) rfl) rfl
                  have hxX := hJ.load (.inr hd)
                  have c0 : x.cell? ⟨g, off + k, none⟩ = some (.int .u64 (d1[k]! : Int)) := by rw [hxX]; exact (Hnum4.out _ (by rw [Hsz.out]; exact hkn)).1
                  clear hxX
                  have hJ2 := Lib.hid hJ; have hk := Lib.hid hK; clear hsame hpre hK hV hJ hd; go_simp; exact hk.out _ _ (fun s hs => by cases hs; rfl) (hJ2.out.more (by decide) (by decide))
                · have q42 : a0.tmps[42]?.getD undef = .slice (some ⟨g, off, none⟩) n cap := hV 0 42 (hpre ⟨0, .data⟩ (by simp) rfl) rfl
                  have q43 : a0.tmps[43]?.getD undef = .int .i64 (k : Int) := hV 1 43 (hpre ⟨1, .data⟩ (by simp) rfl) rfl
                  have hJ2 := Lib.hid hJ; have hk := Lib.hid hK; clear hsame hpre hK hV hJ hd; go_simp; exact hk.out _ _ (fun s hs => by cases hs; rfl) (hJ2.out.more (by decide) (by decide))
                · have q56 : a0.tmps[56]?.getD undef = .pointer (some ⟨g, off + k, none⟩) := hV 14 56 (hpre ⟨14, .data⟩ (by simp) rfl) rfl
                  have q51 : a0.tmps[51]?.getD undef = .int .u64 (d1[m]! : Int) := hV 9 51 (hpre ⟨9, .data⟩ (by simp) rfl) rfl
                  have hk : ∀ x', (SwJ w4.drew ⟨g, off + k, none⟩ ⟨g, off + m, none⟩ (.int .u64 (d1[m]! : Int)) (.int .u64 (d1[k]! : Int)) 15 17 9 13) (also dn 15) x' → K a0 x' := fun x' h2 => hK undef x' (fun s hs => by cases hs) h2
                  have hJ2 := Lib.hid (hJ.st1 (by decide) hd (hpre ⟨9, .phase⟩ (by simp) rfl) (hpre ⟨13, .phase⟩ (by simp) rfl))
                  have hxX : x = w4.drew := hJ.w0 hd
                  have c0 : x.cell? ⟨g, off + k, none⟩ = some (.int .u64 (d1[k]! : Int)) := by rw [hxX]; exact (Hnum4.out _ (by rw [Hsz.out]; exact hkn)).1
                  have z0 : x.frozen? ⟨g, off + k, none⟩ = false := by rw [hxX]; exact (Hnum4.out _ (by rw [Hsz.out]; exact hkn)).2
                  clear hsame hpre hK hV hJ hd hxX
                  go_simp
                  exact hk _ hJ2.out
                · have q44 : a0.tmps[44]?.getD undef = .slice (some ⟨g, off, none⟩) n cap := hV 2 44 (hpre ⟨2, .data⟩ (by simp) rfl) rfl
                  have q46 : a0.tmps[46]?.getD undef = .int .i64 (m : Int) := hV 4 46 (hpre ⟨4, .data⟩ (by simp) rfl) rfl
                  have hJ2 := Lib.hid hJ; have hk := Lib.hid hK; clear hsame hpre hK hV hJ hd; go_simp; exact hk.out _ _ (fun s hs => by cases hs; rfl) (hJ2.out.more (by decide) (by decide))
                · have q57 : a0.tmps[57]?.getD undef = .pointer (some ⟨g, off + m, none⟩) := hV 16 57 (hpre ⟨16, .data⟩ (by simp) rfl) rfl
                  have q55 : a0.tmps[55]?.getD undef = .int .u64 (d1[k]! : Int) := hV 13 55 (hpre ⟨13, .data⟩ (by simp) rfl) rfl
                  have hk : ∀ x', (SwJ w4.drew ⟨g, off + k, none⟩ ⟨g, off + m, none⟩ (.int .u64 (d1[m]! : Int)) (.int .u64 (d1[k]! : Int)) 15 17 9 13) (also dn 17) x' → K a0 x' := fun x' h2 => hK undef x' (fun s hs => by cases hs) h2
                  have hJ2 := Lib.hid (hJ.st2 (by decide) hd (hpre ⟨15, .chain⟩ (by simp) rfl))
                  have hxX := hJ.w1 (hpre ⟨15, .chain⟩ (by simp) rfl) hd
                  obtain ⟨u0, c0⟩ : ∃ u, x.cell? ⟨g, off + m, none⟩ = some u := by rw [hxX]; exact cell_some _ _ _ _ _ (Hnum4.out _ (by rw [Hsz.out]; exact hkn)).1 (Hnum4.out _ (by rw [Hsz.out]; exact hmn)).1
                  have z0 : x.frozen? ⟨g, off + m, none⟩ = false := by rw [hxX, World.frozen?_setCell]; exact (Hnum4.out _ (by rw [Hsz.out]; exact hmn)).2
                  clear hsame hpre hK hV hJ hd hxX
                  go_simp
                  exact hk _ hJ2.out
              · intro dn x hall hJ
                have hx := hJ.w2 (hall 17 (by decide))
                have h44 := NumsAt.grow (w' := w4.drew) Hnum4.out hgr4 ((Below.refl _ _).drew)
                have HN5 := Lib.hid (show NumsAt x g off (Sort.swp d1 k m) by rw [hx]; exact h44.swp (by rw [Hsz.out]; exact hkn) (by rw [Hsz.out]; exact hmn))
                have hbut5 : ButS g w x := by
                  rw [hx]
                  exact ((hbutW.trans (butS_below ((Below.refl w4.heap.size w4).drew) g)).trans (butS_set _ _ _ _)).trans (butS_set _ _ _ _)
                clear hx h44 hJ hall
                clear wm wm2
                obtain ⟨d2, hd2⟩ : ∃ y, y = Sort.swp d1 k m := ⟨_, rfl⟩
                rw [← hd2] at HN5
                have Hsz2 := Lib.hid (show d2.size = n by rw [hd2, swp_size]; exact Hsz.out)
                have Hd2 := Lib.hid (show d2 = Sort.swp d1 k (k - 1) by rw [hd2, Hm.out])
                clear hd2
                simp only [putAct]
                have hg5 := Nat.lt_of_lt_of_le hg hbut5.2.2.2.1
                by_cases hka : 2 ≤ k - a
                · have eT : decide ((2 : Int) ≤ (ka : Int)) = true := by rw [decide_eq_true_iff]; have := Hka.out; omega
                  have eT2 : decide (2 ≤ ka) = true := by rw [decide_eq_true_iff]; have := Hka.out; omega
                  obtain ⟨w5, w6⟩ := WKA.out
                  obtain ⟨w7, w8⟩ := WM.out
                  go_wp2_with fail
                  clear w5 w6 w7 w8 eT eT2
                  go_loopw [9] (fun t wr => ∃ (j : Nat) (d3 : Array Nat), j ≤ m ∧ t = .int .i64 (j : Int) ∧ NumsAt wr g off d3 ∧ d3.size = n ∧ Sort.shiftDown lt64 j d3 = Sort.shiftDown lt64 m d2 ∧ ButS g w wr) (fun t _ => (intOf t).toNat)
                  case atStart => exact ⟨m, d2, Nat.le_refl _, rfl, HN5.out, Hsz2.out, rfl, hbut5⟩
                  case round =>
                    obtain ⟨j, d3, hjm, rfl, hnum, hsz, heq, hbut6⟩ := hrel
                    have Hnum6 := Lib.hid hnum
                    have Hsz6 := Lib.hid hsz
                    have Heq6 := Lib.hid heq
                    clear hnum hsz heq
                    have hgr6 := Nat.lt_of_lt_of_le hg hbut6.2.2.2.1
                    by_cases hj1 : j = 0
                    · have HD3 := Lib.hid (show D3 a k d1 = d3 by unfold D3; rw [if_pos hka, ← Hd2.out, ← Hm.out, ← Heq6.out, hj1]; rfl)
                      have e1 : decide ((1 : Int) ≤ (j : Int)) = false := by rw [decide_eq_false_iff_not]; omega
                      have e2 : decide (1 ≤ j) = false := by rw [decide_eq_false_iff_not]; omega
                      clear hj1
                      go_upto_region 18 with fail
                      clear e1 e2
                      obtain ⟨wr6, hwr6⟩ : ∃ x, x = wr := ⟨wr, rfl⟩
                      subst hwr6
                      have hgX := hgr6
                      by_cases hbk : 2 ≤ b - k
                      · have eT : decide ((2 : Int) ≤ (bk : Int)) = true := by rw [decide_eq_true_iff]; have := Hbk.out; omega
                        have eT2 : decide (2 ≤ bk) = true := by rw [decide_eq_true_iff]; have := Hbk.out; omega
                        obtain ⟨k1, hk1⟩ : ∃ y, y = k + 1 := ⟨_, rfl⟩
                        have WK := Lib.hid (wr_nat ((k : Int) + 1) k1 (by omega) (by omega))
                        have hk1b : k + 1 ≤ k1 ∧ k1 ≤ b := by omega
                        have HK1 := Lib.hid hk1
                        have HK1b := Lib.hid hk1b
                        clear hk1 hk1b
                        obtain ⟨wbk, wbk2⟩ := WBK.out
                        obtain ⟨w7, w8⟩ := WK.out
                        go_wp2_with fail
                        clear wbk wbk2 w7 w8 eT eT2
                        go_loopw [10] (fun t wr => ∃ (j : Nat) (d4 : Array Nat), k + 1 ≤ j ∧ j ≤ b ∧ t = .int .i64 (j : Int) ∧ NumsAt wr g off d4 ∧ d4.size = n ∧ Sort.shiftUp lt64 b j d4 = Sort.shiftUp lt64 b (k + 1) d3 ∧ ButS g w wr) (fun t _ => n + 1 - (intOf t).toNat)
                        case atStart => exact ⟨k1, d3, HK1b.out.1, HK1b.out.2, rfl, Hnum6.out, Hsz6.out, by rw [HK1.out], hbut6⟩
                        case round =>
                          obtain ⟨j, d4, hkj, hjb, rfl, hnum, hsz, heq, hbutU⟩ := hrel
                          have HnumU := Lib.hid hnum
                          have HszU := Lib.hid hsz
                          have HeqU := Lib.hid heq
                          clear hnum hsz heq
                          have hgrU := Nat.lt_of_lt_of_le hg hbutU.2.2.2.1
                          by_cases hjb2 : j < b
                          · have hjn : j < n := by omega
                            obtain ⟨p, hp⟩ : ∃ p, p = j - 1 := ⟨_, rfl⟩
                            have hpn : p < n := by omega
                            obtain ⟨j1, hj1⟩ : ∃ y, y = j + 1 := ⟨_, rfl⟩
                            have WP := Lib.hid (wr_nat ((j : Int) - 1) p (by omega) (by omega))
                            have WJ := Lib.hid (wr_nat ((j : Int) + 1) j1 (by omega) (by omega))
                            have e1 : decide ((j : Int) < (b : Int)) = true := by rw [decide_eq_true_iff]; omega
                            have e2 : decide (j < b) = true := by rw [decide_eq_true_iff]; omega
                            have Hp := Lib.hid hp
                            have Hj1 := Lib.hid hj1
                            have ca := fun y : Ext wr => (HnumU.out.grow hgrU y.out j (by rw [HszU.out]; exact hjn)).1
                            have ck := fun y : Ext wr => (HnumU.out.grow hgrU y.out p (by rw [HszU.out]; exact hpn)).1
                            obtain ⟨c, hc⟩ : ∃ c, c = lt64 d4[j]! d4[p]! := ⟨_, rfl⟩
                            have kl := fun y : Ext wr => less_any d4[j]! d4[p]! y.now
                            simp only [← hc] at kl
                            have KL := Lib.hid kl
                            have Hc := Lib.hid hc
                            clear kl hc hp hj1
                            go_upto_region 22 with fail
                            clear e1 e2
                            obtain ⟨w7, w8⟩ := WP.out
                            cases c
                            all_goals refine wp_region_grow (by kernel_rfl) (by kernel_rfl) ?_
                            all_goals repeat (first | go_big_quiet_step ((go_at_call 104; with_reducible exact calls_grow (KL.out _))) | quiet_step ((go_at_call 104; with_reducible exact calls_grow (KL.out _))))
                            all_goals refine wpQuiet_nil ?_
                            all_goals rintro w9 ⟨⟨_, hb9⟩, rfl⟩
                            all_goals have HnumV := Lib.hid (HnumU.out.grow hgrU hb9)
                            all_goals have hbutV := hbutU.trans (butS_below hb9 g)
                            all_goals have hgrV := Nat.lt_of_lt_of_le hgrU hb9.size
                            all_goals clear ca ck KL w7 w8
                            · have HeqV := Lib.hid (show (if 2 ≤ b - k then Sort.shiftUp lt64 b (k + 1) d3 else d3) = d4 by rw [if_pos hbk, ← HeqU.out]; exact shiftUp_not (by rw [← Hp.out]; exact Hc.out.symm))
                              have Hend := Lib.hid ((Hstep.out.trans (congrArg (Sort.partialIns lt64 a b q k) (d4_eq HD3.out HeqV.out))).symm.trans Heq.out)
                              obtain ⟨w5, w6⟩ := WS.out
                              go_wp2_with fail
                              clear w5 w6
                              refine ⟨⟨k, s1, q, d4, by have := HS1.out; omega, by omega, by omega, rfl, rfl, HnumV.out, HszU.out, Hend.out, hbutV⟩, ?_⟩
                              have := HS1.out
                              simp [intOf]
                              omega
                            · go_upto_region 23 with fail
                              obtain ⟨w7, w8⟩ := WP.out
                              refine wp_region_fixed (fun s => match s with | 117 => .slice (some ⟨g, off, none⟩) n cap | 118 => .int .i64 (j : Int) | 119 => .slice (some ⟨g, off, none⟩) n cap | 120 => .int .i64 (j : Int) | 121 => .int .i64 (p : Int) | 122 => .slice (some ⟨g, off, none⟩) n cap | 123 => .int .i64 (j : Int) | 124 => .int .i64 (p : Int) | 125 => .pointer (some ⟨g, off + p, none⟩) | 126 => .int .u64 (d4[p]! : Int) | 127 => .slice (some ⟨g, off, none⟩) n cap | 128 => .int .i64 (j : Int) | 129 => .pointer (some ⟨g, off + j, none⟩) | 130 => .int .u64 (d4[j]! : Int) | 131 => .pointer (some ⟨g, off + j, none⟩) | 132 => .pointer (some ⟨g, off + p, none⟩) | _ => undef) (SwJ w9.drew ⟨g, off + j, none⟩ ⟨g, off + p, none⟩ (.int .u64 (d4[p]! : Int)) (.int .u64 (d4[j]! : Int)) 15 17 9 13) 133 [117, 118, 119, 120, 121, 122, 123, 124, 125, 126, 127, 128, 129, 130, 131, 132] (by kernel_rfl) (by kernel_rfl) (by kernel_rfl) (by kernel_rfl) rfl SwJ.start ?_ ?_
                              · intro i0 o0 hi0 dn a0 x hJ hd hpre hsame hV K hK
                                have hlt0 := (Array.getElem?_eq_some_iff.1 hi0).1
                                rcases many18 hlt0 rfl with rfl | rfl | rfl | rfl | rfl | rfl | rfl | rfl | rfl | rfl | rfl | rfl | rfl | rfl | rfl | rfl | rfl | rfl
                                all_goals (have ho0 := Option.some.inj hi0; subst ho0; clear hi0 hlt0)
                                · have q0 : a0.tmps[0]?.getD undef = .slice (some ⟨g, off, none⟩) n cap := hsame 0 (slot_free (by decide +kernel))
                                  have hJ2 := Lib.hid hJ; have hk := Lib.hid hK; clear hsame hpre hK hV hJ hd; go_simp; exact hk.out _ _ (fun s hs => by cases hs; rfl) (hJ2.out.more (by decide) (by decide))
                                · have q10 : a0.tmps[10]?.getD undef = .int .i64 (j : Int) := hsame 10 (slot_free (by decide +kernel))
                                  have hJ2 := Lib.hid hJ; have hk := Lib.hid hK; clear hsame hpre hK hV hJ hd; go_simp; exact hk.out _ _ (fun s hs => by cases hs; rfl) (hJ2.out.more (by decide) (by decide))
                                · have q0 : a0.tmps[0]?.getD undef = .slice (some ⟨g, off, none⟩) n cap := hsame 0 (slot_free (by decide +kernel))
                                  have hJ2 := Lib.hid hJ; have hk := Lib.hid hK; clear hsame hpre hK hV hJ hd; go_simp; exact hk.out _ _ (fun s hs => by cases hs; rfl) (hJ2.out.more (by decide) (by decide))
                                · have q10 : a0.tmps[10]?.getD undef = .int .i64 (j : Int) := hsame 10 (slot_free (by decide +kernel))
                                  have hJ2 := Lib.hid hJ; have hk := Lib.hid hK; clear hsame hpre hK hV hJ hd; go_simp; exact hk.out _ _ (fun s hs => by cases hs; rfl) (hJ2.out.more (by decide) (by decide))
                                · have q120 : a0.tmps[120]?.getD undef = .int .i64 (j : Int) := hV 3 120 (hpre ⟨3, .data⟩ (by simp) rfl) rfl
                                  have hJ2 := Lib.hid hJ; have hk := Lib.hid hK; clear hsame hpre hK hV hJ hd; go_simp; exact hk.out _ _ (fun s hs => by cases hs; rfl) (hJ2.out.more (by decide) (by decide))
                                · have q0 : a0.tmps[0]?.getD undef = .slice (some ⟨g, off, none⟩) n cap := hsame 0 (slot_free (by decide +kernel))
                                  have hJ2 := Lib.hid hJ; have hk := Lib.hid hK; clear hsame hpre hK hV hJ hd; go_simp; exact hk.out _ _ (fun s hs => by cases hs; rfl) (hJ2.out.more (by decide) (by decide))
                                · have q10 : a0.tmps[10]?.getD undef = .int .i64 (j : Int) := hsame 10 (slot_free (by decide +kernel))
                                  have hJ2 := Lib.hid hJ; have hk := Lib.hid hK; clear hsame hpre hK hV hJ hd; go_simp; exact hk.out _ _ (fun s hs => by cases hs; rfl) (hJ2.out.more (by decide) (by decide))
                                · have q123 : a0.tmps[123]?.getD undef = .int .i64 (j : Int) := hV 6 123 (hpre ⟨6, .data⟩ (by simp) rfl) rfl
                                  have hJ2 := Lib.hid hJ; have hk := Lib.hid hK; clear hsame hpre hK hV hJ hd; go_simp; exact hk.out _ _ (fun s hs => by cases hs; rfl) (hJ2.out.more (by decide) (by decide))
                                · have q122 : a0.tmps[122]?.getD undef = .slice (some ⟨g, off, none⟩) n cap := hV 5 122 (hpre ⟨5, .data⟩ (by simp) rfl) rfl
                                  have q124 : a0.tmps[124]?.getD undef = .int .i64 (p : Int) := hV 7 124 (hpre ⟨7, .data⟩ (by simp) rfl) rfl
                                  have hJ2 := Lib.hid hJ; have hk := Lib.hid hK; clear hsame hpre hK hV hJ hd; go_simp; exact hk.out _ _ (fun s hs => by cases hs; rfl) (hJ2.out.more (by decide) (by decide))
                                · have q125 : a0.tmps[125]?.getD undef = .pointer (some ⟨g, off + p, none⟩) := hV 8 125 (hpre ⟨8, .data⟩ (by simp) rfl) rfl
                                  have hxX := hJ.load (.inl hd)
                                  have c0 : x.cell? ⟨g, off + p, none⟩ = some (.int .u64 (d4[p]! : Int)) := by rw [hxX]; exact (HnumV.out _ (by rw [HszU.out]; exact hpn)).1
                                  clear hxX
                                  have hJ2 := Lib.hid hJ; have hk := Lib.hid hK; clear hsame hpre hK hV hJ hd; go_simp; exact hk.out _ _ (fun s hs => by cases hs; rfl) (hJ2.out.more (by decide) (by decide))
                                · have q0 : a0.tmps[0]?.getD undef = .slice (some ⟨g, off, none⟩) n cap := hsame 0 (slot_free (by decide +kernel))
                                  have hJ2 := Lib.hid hJ; have hk := Lib.hid hK; clear hsame hpre hK hV hJ hd; go_simp; exact hk.out _ _ (fun s hs => by cases hs; rfl) (hJ2.out.more (by decide) (by decide))
                                · have q10 : a0.tmps[10]?.getD undef = .int .i64 (j : Int) := hsame 10 (slot_free (by decide +kernel))
                                  have hJ2 := Lib.hid hJ; have hk := Lib.hid hK; clear hsame hpre hK hV hJ hd; go_simp; exact hk.out _ _ (fun s hs => by cases hs; rfl) (hJ2.out.more (by decide) (by decide))
                                · have q127 : a0.tmps[127]?.getD undef = .slice (some ⟨g, off, none⟩) n cap := hV 10 127 (hpre ⟨10, .data⟩ (by simp) rfl) rfl
                                  have q128 : a0.tmps[128]?.getD undef = .int .i64 (j : Int) := hV 11 128 (hpre ⟨11, .data⟩ (by simp) rfl) rfl
                                  have hJ2 := Lib.hid hJ; have hk := Lib.hid hK; clear hsame hpre hK hV hJ hd; go_simp; exact hk.out _ _ (fun s hs => by cases hs; rfl) (hJ2.out.more (by decide) (by decide))
                                · have q129 : a0.tmps[129]?.getD undef = .pointer (some ⟨g, off + j, none⟩) := hV 12 129 (hpre ⟨12, .data⟩ (by simp) rfl) rfl
                                  have hxX := hJ.load (.inr hd)
                                  have c0 : x.cell? ⟨g, off + j, none⟩ = some (.int .u64 (d4[j]! : Int)) := by rw [hxX]; exact (HnumV.out _ (by rw [HszU.out]; exact hjn)).1
                                  clear hxX
                                  have hJ2 := Lib.hid hJ; have hk := Lib.hid hK; clear hsame hpre hK hV hJ hd; go_simp; exact hk.out _ _ (fun s hs => by cases hs; rfl) (hJ2.out.more (by decide) (by decide))
                                · have q117 : a0.tmps[117]?.getD undef = .slice (some ⟨g, off, none⟩) n cap := hV 0 117 (hpre ⟨0, .data⟩ (by simp) rfl) rfl
                                  have q118 : a0.tmps[118]?.getD undef = .int .i64 (j : Int) := hV 1 118 (hpre ⟨1, .data⟩ (by simp) rfl) rfl
                                  have hJ2 := Lib.hid hJ; have hk := Lib.hid hK; clear hsame hpre hK hV hJ hd; go_simp; exact hk.out _ _ (fun s hs => by cases hs; rfl) (hJ2.out.more (by decide) (by decide))
                                · have q131 : a0.tmps[131]?.getD undef = .pointer (some ⟨g, off + j, none⟩) := hV 14 131 (hpre ⟨14, .data⟩ (by simp) rfl) rfl
                                  have q126 : a0.tmps[126]?.getD undef = .int .u64 (d4[p]! : Int) := hV 9 126 (hpre ⟨9, .data⟩ (by simp) rfl) rfl
                                  have hk : ∀ x', (SwJ w9.drew ⟨g, off + j, none⟩ ⟨g, off + p, none⟩ (.int .u64 (d4[p]! : Int)) (.int .u64 (d4[j]! : Int)) 15 17 9 13) (also dn 15) x' → K a0 x' := fun x' h2 => hK undef x' (fun s hs => by cases hs) h2
                                  have hJ2 := Lib.hid (hJ.st1 (by decide) hd (hpre ⟨9, .phase⟩ (by simp) rfl) (hpre ⟨13, .phase⟩ (by simp) rfl))
                                  have hxX : x = w9.drew := hJ.w0 hd
                                  have c0 : x.cell? ⟨g, off + j, none⟩ = some (.int .u64 (d4[j]! : Int)) := by rw [hxX]; exact (HnumV.out _ (by rw [HszU.out]; exact hjn)).1
                                  have z0 : x.frozen? ⟨g, off + j, none⟩ = false := by rw [hxX]; exact (HnumV.out _ (by rw [HszU.out]; exact hjn)).2
                                  clear hsame hpre hK hV hJ hd hxX
                                  go_simp
                                  exact hk _ hJ2.out
                                · have q119 : a0.tmps[119]?.getD undef = .slice (some ⟨g, off, none⟩) n cap := hV 2 119 (hpre ⟨2, .data⟩ (by simp) rfl) rfl
                                  have q121 : a0.tmps[121]?.getD undef = .int .i64 (p : Int) := hV 4 121 (hpre ⟨4, .data⟩ (by simp) rfl) rfl
                                  have hJ2 := Lib.hid hJ; have hk := Lib.hid hK; clear hsame hpre hK hV hJ hd; go_simp; exact hk.out _ _ (fun s hs => by cases hs; rfl) (hJ2.out.more (by decide) (by decide))
                                · have q132 : a0.tmps[132]?.getD undef = .pointer (some ⟨g, off + p, none⟩) := hV 16 132 (hpre ⟨16, .data⟩ (by simp) rfl) rfl
                                  have q130 : a0.tmps[130]?.getD undef = .int .u64 (d4[j]! : Int) := hV 13 130 (hpre ⟨13, .data⟩ (by simp) rfl) rfl
                                  have hk : ∀ x', (SwJ w9.drew ⟨g, off + j, none⟩ ⟨g, off + p, none⟩ (.int .u64 (d4[p]! : Int)) (.int .u64 (d4[j]! : Int)) 15 17 9 13) (also dn 17) x' → K a0 x' := fun x' h2 => hK undef x' (fun s hs => by cases hs) h2
                                  have hJ2 := Lib.hid (hJ.st2 (by decide) hd (hpre ⟨15, .chain⟩ (by simp) rfl))
                                  have hxX := hJ.w1 (hpre ⟨15, .chain⟩ (by simp) rfl) hd
                                  obtain ⟨u0, c0⟩ : ∃ u, x.cell? ⟨g, off + p, none⟩ = some u := by rw [hxX]; exact cell_some _ _ _ _ _ (HnumV.out _ (by rw [HszU.out]; exact hjn)).1 (HnumV.out _ (by rw [HszU.out]; exact hpn)).1
                                  have z0 : x.frozen? ⟨g, off + p, none⟩ = false := by rw [hxX, World.frozen?_setCell]; exact (HnumV.out _ (by rw [HszU.out]; exact hpn)).2
                                  clear hsame hpre hK hV hJ hd hxX
                                  go_simp
                                  exact hk _ hJ2.out
                              · intro dn x hall hJ
                                have hx := hJ.w2 (hall 17 (by decide))

                                have h44 := NumsAt.grow (w' := w9.drew) HnumV.out hgrV ((Below.refl _ _).drew)
                                have HNX := Lib.hid (show NumsAt x g off (Sort.swp d4 j p) by rw [hx]; exact h44.swp (by rw [HszU.out]; exact hjn) (by rw [HszU.out]; exact hpn))
                                have hbutX : ButS g w x := by
                                  rw [hx]
                                  exact ((hbutV.trans (butS_below ((Below.refl w9.heap.size w9).drew) g)).trans (butS_set _ _ _ _)).trans (butS_set _ _ _ _)
                                clear hx h44 hJ hall
                                clear w7 w8
                                have HeqX := Lib.hid ((shiftUp_go hjb2 (by rw [← Hp.out]; exact Hc.out.symm)).symm.trans HeqU.out)
                                rw [← Hp.out, ← Hj1.out] at HeqX
                                obtain ⟨w7, w8⟩ := WJ.out
                                simp only [putAct]
                                go_wp2_with fail
                                clear w7 w8
                                go_roundw
                                case rel => exact ⟨j1, Sort.swp d4 j p, by have := Hj1.out; omega, by have := Hj1.out; omega, rfl, HNX.out, by rw [swp_size]; exact HszU.out, HeqX.out, hbutX⟩
                                case measure => have := Hj1.out; simp [intOf]; omega
                          · have e1 : decide ((j : Int) < (b : Int)) = false := by rw [decide_eq_false_iff_not]; omega
                            have e2 : decide (j < b) = false := by rw [decide_eq_false_iff_not]; omega
                            have HeqV := Lib.hid (show (if 2 ≤ b - k then Sort.shiftUp lt64 b (k + 1) d3 else d3) = d4 by rw [if_pos hbk, ← HeqU.out]; exact shiftUp_out (by omega))
                            have Hend := Lib.hid ((Hstep.out.trans (congrArg (Sort.partialIns lt64 a b q k) (d4_eq HD3.out HeqV.out))).symm.trans Heq.out)
                            obtain ⟨w5, w6⟩ := WS.out
                            go_wp2_with fail
                            clear w5 w6
                            refine ⟨⟨k, s1, q, d4, by have := HS1.out; omega, by omega, by omega, rfl, rfl, HnumU.out, HszU.out, Hend.out, hbutU⟩, ?_⟩
                            have := HS1.out
                            simp [intOf]
                            omega
                      · have eT : decide ((2 : Int) ≤ (bk : Int)) = false := by rw [decide_eq_false_iff_not]; have := Hbk.out; omega
                        have eT2 : decide (2 ≤ bk) = false := by rw [decide_eq_false_iff_not]; have := Hbk.out; omega
                        have HeqV := Lib.hid (show (if 2 ≤ b - k then Sort.shiftUp lt64 b (k + 1) d3 else d3) = d3 by rw [if_neg hbk])
                        obtain ⟨wbk, wbk2⟩ := WBK.out
                        have Hend := Lib.hid ((Hstep.out.trans (congrArg (Sort.partialIns lt64 a b q k) (d4_eq HD3.out HeqV.out))).symm.trans Heq.out)
                        obtain ⟨w5, w6⟩ := WS.out
                        go_wp2_with fail
                        clear w5 w6
                        refine ⟨⟨k, s1, q, d3, by have := HS1.out; omega, by omega, by omega, rfl, rfl, Hnum6.out, Hsz6.out, Hend.out, hbut6⟩, ?_⟩
                        have := HS1.out
                        simp [intOf]
                        omega
                    · obtain ⟨p, hj⟩ : ∃ y, j = y + 1 := ⟨j - 1, by omega⟩
                      have hjn : j < n := by omega
                      have hpn : p < n := by omega
                      have WP := Lib.hid (wr_nat ((j : Int) - 1) p (by omega) (by omega))
                      have e1 : decide ((1 : Int) ≤ (j : Int)) = true := by rw [decide_eq_true_iff]; omega
                      have e2 : decide (1 ≤ j) = true := by rw [decide_eq_true_iff]; omega
                      have Hj := Lib.hid hj
                      have ca := fun y : Ext wr => (Hnum6.out.grow hgr6 y.out j (by rw [Hsz6.out]; exact hjn)).1
                      have ck := fun y : Ext wr => (Hnum6.out.grow hgr6 y.out p (by rw [Hsz6.out]; exact hpn)).1
                      obtain ⟨c, hc⟩ : ∃ c, c = lt64 d3[j]! d3[p]! := ⟨_, rfl⟩
                      have kl := fun y : Ext wr => less_any d3[j]! d3[p]! y.now
                      simp only [← hc] at kl
                      have KL := Lib.hid kl
                      have Hc2 := Lib.hid hc
                      clear kl hc hj
                      go_upto_region 16 with fail
                      clear e1 e2
                      obtain ⟨w7, w8⟩ := WP.out
                      cases c
                      all_goals refine wp_region_grow (by kernel_rfl) (by kernel_rfl) ?_
                      all_goals repeat (first | go_big_quiet_step ((go_at_call 104; with_reducible exact calls_grow (KL.out _))) | quiet_step ((go_at_call 104; with_reducible exact calls_grow (KL.out _))))
                      all_goals refine wpQuiet_nil ?_
                      all_goals rintro w7x ⟨⟨_, hb7⟩, rfl⟩
                      all_goals have Hnum7 := Lib.hid (Hnum6.out.grow hgr6 hb7)
                      all_goals have hbut7 := hbut6.trans (butS_below hb7 g)
                      all_goals have hgr7 := Nat.lt_of_lt_of_le hgr6 hb7.size
                      all_goals clear ca ck KL w7 w8
                      · have HD3 := Lib.hid (show D3 a k d1 = d3 by unfold D3; rw [if_pos hka, ← Hd2.out, ← Hm.out, ← Heq6.out, Hj.out]; exact shiftDown_not (by rw [← Hj.out]; exact Hc2.out.symm))
                        have hgX := hgr7
                        by_cases hbk : 2 ≤ b - k
                        · have eT : decide ((2 : Int) ≤ (bk : Int)) = true := by rw [decide_eq_true_iff]; have := Hbk.out; omega
                          have eT2 : decide (2 ≤ bk) = true := by rw [decide_eq_true_iff]; have := Hbk.out; omega
                          obtain ⟨k1, hk1⟩ : ∃ y, y = k + 1 := ⟨_, rfl⟩
                          have WK := Lib.hid (wr_nat ((k : Int) + 1) k1 (by omega) (by omega))
                          have hk1b : k + 1 ≤ k1 ∧ k1 ≤ b := by omega
                          have HK1 := Lib.hid hk1
                          have HK1b := Lib.hid hk1b
                          clear hk1 hk1b
                          obtain ⟨wbk, wbk2⟩ := WBK.out
                          obtain ⟨w7, w8⟩ := WK.out
                          go_wp2_with fail
                          clear wbk wbk2 w7 w8 eT eT2
                          go_loopw [10] (fun t wr => ∃ (j : Nat) (d4 : Array Nat), k + 1 ≤ j ∧ j ≤ b ∧ t = .int .i64 (j : Int) ∧ NumsAt wr g off d4 ∧ d4.size = n ∧ Sort.shiftUp lt64 b j d4 = Sort.shiftUp lt64 b (k + 1) d3 ∧ ButS g w wr) (fun t _ => n + 1 - (intOf t).toNat)
                          case atStart => exact ⟨k1, d3, HK1b.out.1, HK1b.out.2, rfl, Hnum7.out, Hsz6.out, by rw [HK1.out], hbut7⟩
                          case round =>
                            obtain ⟨j, d4, hkj, hjb, rfl, hnum, hsz, heq, hbutU⟩ := hrel
                            have HnumU := Lib.hid hnum
                            have HszU := Lib.hid hsz
                            have HeqU := Lib.hid heq
                            clear hnum hsz heq
                            have hgrU := Nat.lt_of_lt_of_le hg hbutU.2.2.2.1
                            by_cases hjb2 : j < b
                            · have hjn : j < n := by omega
                              obtain ⟨p, hp⟩ : ∃ p, p = j - 1 := ⟨_, rfl⟩
                              have hpn : p < n := by omega
                              obtain ⟨j1, hj1⟩ : ∃ y, y = j + 1 := ⟨_, rfl⟩
                              have WP := Lib.hid (wr_nat ((j : Int) - 1) p (by omega) (by omega))
                              have WJ := Lib.hid (wr_nat ((j : Int) + 1) j1 (by omega) (by omega))
                              have e1 : decide ((j : Int) < (b : Int)) = true := by rw [decide_eq_true_iff]; omega
                              have e2 : decide (j < b) = true := by rw [decide_eq_true_iff]; omega
                              have Hp := Lib.hid hp
                              have Hj1 := Lib.hid hj1
                              have ca := fun y : Ext wr => (HnumU.out.grow hgrU y.out j (by rw [HszU.out]; exact hjn)).1
                              have ck := fun y : Ext wr => (HnumU.out.grow hgrU y.out p (by rw [HszU.out]; exact hpn)).1
                              obtain ⟨c, hc⟩ : ∃ c, c = lt64 d4[j]! d4[p]! := ⟨_, rfl⟩
                              have kl := fun y : Ext wr => less_any d4[j]! d4[p]! y.now
                              simp only [← hc] at kl
                              have KL := Lib.hid kl
                              have Hc := Lib.hid hc
                              clear kl hc hp hj1
                              go_upto_region 22 with fail
                              clear e1 e2
                              obtain ⟨w7, w8⟩ := WP.out
                              cases c
                              all_goals refine wp_region_grow (by kernel_rfl) (by kernel_rfl) ?_
                              all_goals repeat (first | go_big_quiet_step ((go_at_call 104; with_reducible exact calls_grow (KL.out _))) | quiet_step ((go_at_call 104; with_reducible exact calls_grow (KL.out _))))
                              all_goals refine wpQuiet_nil ?_
                              all_goals rintro w9 ⟨⟨_, hb9⟩, rfl⟩
                              all_goals have HnumV := Lib.hid (HnumU.out.grow hgrU hb9)
                              all_goals have hbutV := hbutU.trans (butS_below hb9 g)
                              all_goals have hgrV := Nat.lt_of_lt_of_le hgrU hb9.size
                              all_goals clear ca ck KL w7 w8
                              · have HeqV := Lib.hid (show (if 2 ≤ b - k then Sort.shiftUp lt64 b (k + 1) d3 else d3) = d4 by rw [if_pos hbk, ← HeqU.out]; exact shiftUp_not (by rw [← Hp.out]; exact Hc.out.symm))
                                have Hend := Lib.hid ((Hstep.out.trans (congrArg (Sort.partialIns lt64 a b q k) (d4_eq HD3.out HeqV.out))).symm.trans Heq.out)
                                obtain ⟨w5, w6⟩ := WS.out
                                go_wp2_with fail
                                clear w5 w6
                                refine ⟨⟨k, s1, q, d4, by have := HS1.out; omega, by omega, by omega, rfl, rfl, HnumV.out, HszU.out, Hend.out, hbutV⟩, ?_⟩
                                have := HS1.out
                                simp [intOf]
                                omega
                              · go_upto_region 23 with fail
                                obtain ⟨w7, w8⟩ := WP.out
                                refine wp_region_fixed (fun s => match s with | 117 => .slice (some ⟨g, off, none⟩) n cap | 118 => .int .i64 (j : Int) | 119 => .slice (some ⟨g, off, none⟩) n cap | 120 => .int .i64 (j : Int) | 121 => .int .i64 (p : Int) | 122 => .slice (some ⟨g, off, none⟩) n cap | 123 => .int .i64 (j : Int) | 124 => .int .i64 (p : Int) | 125 => .pointer (some ⟨g, off + p, none⟩) | 126 => .int .u64 (d4[p]! : Int) | 127 => .slice (some ⟨g, off, none⟩) n cap | 128 => .int .i64 (j : Int) | 129 => .pointer (some ⟨g, off + j, none⟩) | 130 => .int .u64 (d4[j]! : Int) | 131 => .pointer (some ⟨g, off + j, none⟩) | 132 => .pointer (some ⟨g, off + p, none⟩) | _ => undef) (SwJ w9.drew ⟨g, off + j, none⟩ ⟨g, off + p, none⟩ (.int .u64 (d4[p]! : Int)) (.int .u64 (d4[j]! : Int)) 15 17 9 13) 133 [117, 118, 119, 120, 121, 122, 123, 124, 125, 126, 127, 128, 129, 130, 131, 132] (by kernel_rfl) (by kernel_rfl) (by kernel_rfl) (by kernel_rfl) rfl SwJ.start ?_ ?_
                                · intro i0 o0 hi0 dn a0 x hJ hd hpre hsame hV K hK
                                  have hlt0 := (Array.getElem?_eq_some_iff.1 hi0).1
                                  rcases many18 hlt0 rfl with rfl | rfl | rfl | rfl | rfl | rfl | rfl | rfl | rfl | rfl | rfl | rfl | rfl | rfl | rfl | rfl | rfl | rfl
                                  all_goals (have ho0 := Option.some.inj hi0; subst ho0; clear hi0 hlt0)
                                  · have q0 : a0.tmps[0]?.getD undef = .slice (some ⟨g, off, none⟩) n cap := hsame 0 (slot_free (by decide +kernel))
                                    have hJ2 := Lib.hid hJ; have hk := Lib.hid hK; clear hsame hpre hK hV hJ hd; go_simp; exact hk.out _ _ (fun s hs => by cases hs; rfl) (hJ2.out.more (by decide) (by decide))
                                  · have q10 : a0.tmps[10]?.getD undef = .int .i64 (j : Int) := hsame 10 (slot_free (by decide +kernel))
                                    have hJ2 := Lib.hid hJ; have hk := Lib.hid hK; clear hsame hpre hK hV hJ hd; go_simp; exact hk.out _ _ (fun s hs => by cases hs; rfl) (hJ2.out.more (by decide) (by decide))
                                  · have q0 : a0.tmps[0]?.getD undef = .slice (some ⟨g, off, none⟩) n cap := hsame 0 (slot_free (by decide +kernel))
                                    have hJ2 := Lib.hid hJ; have hk := Lib.hid hK; clear hsame hpre hK hV hJ hd; go_simp; exact hk.out _ _ (fun s hs => by cases hs; rfl) (hJ2.out.more (by decide) (by decide))
                                  · have q10 : a0.tmps[10]?.getD undef = .int .i64 (j : Int) := hsame 10 (slot_free (by decide +kernel))
                                    have hJ2 := Lib.hid hJ; have hk := Lib.hid hK; clear hsame hpre hK hV hJ hd; go_simp; exact hk.out _ _ (fun s hs => by cases hs; rfl) (hJ2.out.more (by decide) (by decide))
                                  · have q120 : a0.tmps[120]?.getD undef = .int .i64 (j : Int) := hV 3 120 (hpre ⟨3, .data⟩ (by simp) rfl) rfl
                                    have hJ2 := Lib.hid hJ; have hk := Lib.hid hK; clear hsame hpre hK hV hJ hd; go_simp; exact hk.out _ _ (fun s hs => by cases hs; rfl) (hJ2.out.more (by decide) (by decide))
                                  · have q0 : a0.tmps[0]?.getD undef = .slice (some ⟨g, off, none⟩) n cap := hsame 0 (slot_free (by decide +kernel))
                                    have hJ2 := Lib.hid hJ; have hk := Lib.hid hK; clear hsame hpre hK hV hJ hd; go_simp; exact hk.out _ _ (fun s hs => by cases hs; rfl) (hJ2.out.more (by decide) (by decide))
                                  · have q10 : a0.tmps[10]?.getD undef = .int .i64 (j : Int) := hsame 10 (slot_free (by decide +kernel))
                                    have hJ2 := Lib.hid hJ; have hk := Lib.hid hK; clear hsame hpre hK hV hJ hd; go_simp; exact hk.out _ _ (fun s hs => by cases hs; rfl) (hJ2.out.more (by decide) (by decide))
                                  · have q123 : a0.tmps[123]?.getD undef = .int .i64 (j : Int) := hV 6 123 (hpre ⟨6, .data⟩ (by simp) rfl) rfl
                                    have hJ2 := Lib.hid hJ; have hk := Lib.hid hK; clear hsame hpre hK hV hJ hd; go_simp; exact hk.out _ _ (fun s hs => by cases hs; rfl) (hJ2.out.more (by decide) (by decide))
                                  · have q122 : a0.tmps[122]?.getD undef = .slice (some ⟨g, off, none⟩) n cap := hV 5 122 (hpre ⟨5, .data⟩ (by simp) rfl) rfl
                                    have q124 : a0.tmps[124]?.getD undef = .int .i64 (p : Int) := hV 7 124 (hpre ⟨7, .data⟩ (by simp) rfl) rfl
                                    have hJ2 := Lib.hid hJ; have hk := Lib.hid hK; clear hsame hpre hK hV hJ hd; go_simp; exact hk.out _ _ (fun s hs => by cases hs; rfl) (hJ2.out.more (by decide) (by decide))
                                  · have q125 : a0.tmps[125]?.getD undef = .pointer (some ⟨g, off + p, none⟩) := hV 8 125 (hpre ⟨8, .data⟩ (by simp) rfl) rfl
                                    have hxX := hJ.load (.inl hd)
                                    have c0 : x.cell? ⟨g, off + p, none⟩ = some (.int .u64 (d4[p]! : Int)) := by rw [hxX]; exact (HnumV.out _ (by rw [HszU.out]; exact hpn)).1
                                    clear hxX
                                    have hJ2 := Lib.hid hJ; have hk := Lib.hid hK; clear hsame hpre hK hV hJ hd; go_simp; exact hk.out _ _ (fun s hs => by cases hs; rfl) (hJ2.out.more (by decide) (by decide))
                                  · have q0 : a0.tmps[0]?.getD undef = .slice (some ⟨g, off, none⟩) n cap := hsame 0 (slot_free (by decide +kernel))
                                    have hJ2 := Lib.hid hJ; have hk := Lib.hid hK; clear hsame hpre hK hV hJ hd; go_simp; exact hk.out _ _ (fun s hs => by cases hs; rfl) (hJ2.out.more (by decide) (by decide))
                                  · have q10 : a0.tmps[10]?.getD undef = .int .i64 (j : Int) := hsame 10 (slot_free (by decide +kernel))
                                    have hJ2 := Lib.hid hJ; have hk := Lib.hid hK; clear hsame hpre hK hV hJ hd; go_simp; exact hk.out _ _ (fun s hs => by cases hs; rfl) (hJ2.out.more (by decide) (by decide))
                                  · have q127 : a0.tmps[127]?.getD undef = .slice (some ⟨g, off, none⟩) n cap := hV 10 127 (hpre ⟨10, .data⟩ (by simp) rfl) rfl
                                    have q128 : a0.tmps[128]?.getD undef = .int .i64 (j : Int) := hV 11 128 (hpre ⟨11, .data⟩ (by simp) rfl) rfl
                                    have hJ2 := Lib.hid hJ; have hk := Lib.hid hK; clear hsame hpre hK hV hJ hd; go_simp; exact hk.out _ _ (fun s hs => by cases hs; rfl) (hJ2.out.more (by decide) (by decide))
                                  · have q129 : a0.tmps[129]?.getD undef = .pointer (some ⟨g, off + j, none⟩) := hV 12 129 (hpre ⟨12, .data⟩ (by simp) rfl) rfl
                                    have hxX := hJ.load (.inr hd)
                                    have c0 : x.cell? ⟨g, off + j, none⟩ = some (.int .u64 (d4[j]! : Int)) := by rw [hxX]; exact (HnumV.out _ (by rw [HszU.out]; exact hjn)).1
                                    clear hxX
                                    have hJ2 := Lib.hid hJ; have hk := Lib.hid hK; clear hsame hpre hK hV hJ hd; go_simp; exact hk.out _ _ (fun s hs => by cases hs; rfl) (hJ2.out.more (by decide) (by decide))
                                  · have q117 : a0.tmps[117]?.getD undef = .slice (some ⟨g, off, none⟩) n cap := hV 0 117 (hpre ⟨0, .data⟩ (by simp) rfl) rfl
                                    have q118 : a0.tmps[118]?.getD undef = .int .i64 (j : Int) := hV 1 118 (hpre ⟨1, .data⟩ (by simp) rfl) rfl
                                    have hJ2 := Lib.hid hJ; have hk := Lib.hid hK; clear hsame hpre hK hV hJ hd; go_simp; exact hk.out _ _ (fun s hs => by cases hs; rfl) (hJ2.out.more (by decide) (by decide))
                                  · have q131 : a0.tmps[131]?.getD undef = .pointer (some ⟨g, off + j, none⟩) := hV 14 131 (hpre ⟨14, .data⟩ (by simp) rfl) rfl
                                    have q126 : a0.tmps[126]?.getD undef = .int .u64 (d4[p]! : Int) := hV 9 126 (hpre ⟨9, .data⟩ (by simp) rfl) rfl
                                    have hk : ∀ x', (SwJ w9.drew ⟨g, off + j, none⟩ ⟨g, off + p, none⟩ (.int .u64 (d4[p]! : Int)) (.int .u64 (d4[j]! : Int)) 15 17 9 13) (also dn 15) x' → K a0 x' := fun x' h2 => hK undef x' (fun s hs => by cases hs) h2
                                    have hJ2 := Lib.hid (hJ.st1 (by decide) hd (hpre ⟨9, .phase⟩ (by simp) rfl) (hpre ⟨13, .phase⟩ (by simp) rfl))
                                    have hxX : x = w9.drew := hJ.w0 hd
                                    have c0 : x.cell? ⟨g, off + j, none⟩ = some (.int .u64 (d4[j]! : Int)) := by rw [hxX]; exact (HnumV.out _ (by rw [HszU.out]; exact hjn)).1
                                    have z0 : x.frozen? ⟨g, off + j, none⟩ = false := by rw [hxX]; exact (HnumV.out _ (by rw [HszU.out]; exact hjn)).2
                                    clear hsame hpre hK hV hJ hd hxX
                                    go_simp
                                    exact hk _ hJ2.out
                                  · have q119 : a0.tmps[119]?.getD undef = .slice (some ⟨g, off, none⟩) n cap := hV 2 119 (hpre ⟨2, .data⟩ (by simp) rfl) rfl
                                    have q121 : a0.tmps[121]?.getD undef = .int .i64 (p : Int) := hV 4 121 (hpre ⟨4, .data⟩ (by simp) rfl) rfl
                                    have hJ2 := Lib.hid hJ; have hk := Lib.hid hK; clear hsame hpre hK hV hJ hd; go_simp; exact hk.out _ _ (fun s hs => by cases hs; rfl) (hJ2.out.more (by decide) (by decide))
                                  · have q132 : a0.tmps[132]?.getD undef = .pointer (some ⟨g, off + p, none⟩) := hV 16 132 (hpre ⟨16, .data⟩ (by simp) rfl) rfl
                                    have q130 : a0.tmps[130]?.getD undef = .int .u64 (d4[j]! : Int) := hV 13 130 (hpre ⟨13, .data⟩ (by simp) rfl) rfl
                                    have hk : ∀ x', (SwJ w9.drew ⟨g, off + j, none⟩ ⟨g, off + p, none⟩ (.int .u64 (d4[p]! : Int)) (.int .u64 (d4[j]! : Int)) 15 17 9 13) (also dn 17) x' → K a0 x' := fun x' h2 => hK undef x' (fun s hs => by cases hs) h2
                                    have hJ2 := Lib.hid (hJ.st2 (by decide) hd (hpre ⟨15, .chain⟩ (by simp) rfl))
                                    have hxX := hJ.w1 (hpre ⟨15, .chain⟩ (by simp) rfl) hd
                                    obtain ⟨u0, c0⟩ : ∃ u, x.cell? ⟨g, off + p, none⟩ = some u := by rw [hxX]; exact cell_some _ _ _ _ _ (HnumV.out _ (by rw [HszU.out]; exact hjn)).1 (HnumV.out _ (by rw [HszU.out]; exact hpn)).1
                                    have z0 : x.frozen? ⟨g, off + p, none⟩ = false := by rw [hxX, World.frozen?_setCell]; exact (HnumV.out _ (by rw [HszU.out]; exact hpn)).2
                                    clear hsame hpre hK hV hJ hd hxX
                                    go_simp
                                    exact hk _ hJ2.out
                                · intro dn x hall hJ
                                  have hx := hJ.w2 (hall 17 (by decide))

                                  have h44 := NumsAt.grow (w' := w9.drew) HnumV.out hgrV ((Below.refl _ _).drew)
                                  have HNX := Lib.hid (show NumsAt x g off (Sort.swp d4 j p) by rw [hx]; exact h44.swp (by rw [HszU.out]; exact hjn) (by rw [HszU.out]; exact hpn))
                                  have hbutX : ButS g w x := by
                                    rw [hx]
                                    exact ((hbutV.trans (butS_below ((Below.refl w9.heap.size w9).drew) g)).trans (butS_set _ _ _ _)).trans (butS_set _ _ _ _)
                                  clear hx h44 hJ hall
                                  clear w7 w8
                                  have HeqX := Lib.hid ((shiftUp_go hjb2 (by rw [← Hp.out]; exact Hc.out.symm)).symm.trans HeqU.out)
                                  rw [← Hp.out, ← Hj1.out] at HeqX
                                  obtain ⟨w7, w8⟩ := WJ.out
                                  simp only [putAct]
                                  go_wp2_with fail
                                  clear w7 w8
                                  go_roundw
                                  case rel => exact ⟨j1, Sort.swp d4 j p, by have := Hj1.out; omega, by have := Hj1.out; omega, rfl, HNX.out, by rw [swp_size]; exact HszU.out, HeqX.out, hbutX⟩
                                  case measure => have := Hj1.out; simp [intOf]; omega
                            · have e1 : decide ((j : Int) < (b : Int)) = false := by rw [decide_eq_false_iff_not]; omega
                              have e2 : decide (j < b) = false := by rw [decide_eq_false_iff_not]; omega
                              have HeqV := Lib.hid (show (if 2 ≤ b - k then Sort.shiftUp lt64 b (k + 1) d3 else d3) = d4 by rw [if_pos hbk, ← HeqU.out]; exact shiftUp_out (by omega))
                              have Hend := Lib.hid ((Hstep.out.trans (congrArg (Sort.partialIns lt64 a b q k) (d4_eq HD3.out HeqV.out))).symm.trans Heq.out)
                              obtain ⟨w5, w6⟩ := WS.out
                              go_wp2_with fail
                              clear w5 w6
                              refine ⟨⟨k, s1, q, d4, by have := HS1.out; omega, by omega, by omega, rfl, rfl, HnumU.out, HszU.out, Hend.out, hbutU⟩, ?_⟩
                              have := HS1.out
                              simp [intOf]
                              omega
                        · have eT : decide ((2 : Int) ≤ (bk : Int)) = false := by rw [decide_eq_false_iff_not]; have := Hbk.out; omega
                          have eT2 : decide (2 ≤ bk) = false := by rw [decide_eq_false_iff_not]; have := Hbk.out; omega
                          have HeqV := Lib.hid (show (if 2 ≤ b - k then Sort.shiftUp lt64 b (k + 1) d3 else d3) = d3 by rw [if_neg hbk])
                          obtain ⟨wbk, wbk2⟩ := WBK.out
                          have Hend := Lib.hid ((Hstep.out.trans (congrArg (Sort.partialIns lt64 a b q k) (d4_eq HD3.out HeqV.out))).symm.trans Heq.out)
                          obtain ⟨w5, w6⟩ := WS.out
                          go_wp2_with fail
                          clear w5 w6
                          refine ⟨⟨k, s1, q, d3, by have := HS1.out; omega, by omega, by omega, rfl, rfl, Hnum7.out, Hsz6.out, Hend.out, hbut7⟩, ?_⟩
                          have := HS1.out
                          simp [intOf]
                          omega
                      · go_upto_region 17 with fail
                        obtain ⟨w7, w8⟩ := WP.out
                        refine wp_region_fixed (fun s => match s with | 79 => .slice (some ⟨g, off, none⟩) n cap | 80 => .int .i64 (j : Int) | 81 => .slice (some ⟨g, off, none⟩) n cap | 82 => .int .i64 (j : Int) | 83 => .int .i64 (p : Int) | 84 => .slice (some ⟨g, off, none⟩) n cap | 85 => .int .i64 (j : Int) | 86 => .int .i64 (p : Int) | 87 => .pointer (some ⟨g, off + p, none⟩) | 88 => .int .u64 (d3[p]! : Int) | 89 => .slice (some ⟨g, off, none⟩) n cap | 90 => .int .i64 (j : Int) | 91 => .pointer (some ⟨g, off + j, none⟩) | 92 => .int .u64 (d3[j]! : Int) | 93 => .pointer (some ⟨g, off + j, none⟩) | 94 => .pointer (some ⟨g, off + p, none⟩) | _ => undef) (SwJ w7x.drew ⟨g, off + j, none⟩ ⟨g, off + p, none⟩ (.int .u64 (d3[p]! : Int)) (.int .u64 (d3[j]! : Int)) 15 17 9 13) 133 [79, 80, 81, 82, 83, 84, 85, 86, 87, 88, 89, 90, 91, 92, 93, 94] (by kernel_rfl) (by kernel_rfl) (by kernel_rfl) (by kernel_rfl) rfl SwJ.start ?_ ?_
                        · intro i0 o0 hi0 dn a0 x hJ hd hpre hsame hV K hK
                          have hlt0 := (Array.getElem?_eq_some_iff.1 hi0).1
                          rcases many18 hlt0 rfl with rfl | rfl | rfl | rfl | rfl | rfl | rfl | rfl | rfl | rfl | rfl | rfl | rfl | rfl | rfl | rfl | rfl | rfl
                          all_goals (have ho0 := Option.some.inj hi0; subst ho0; clear hi0 hlt0)
                          · have q0 : a0.tmps[0]?.getD undef = .slice (some ⟨g, off, none⟩) n cap := hsame 0 (slot_free (by decide +kernel))
                            have hJ2 := Lib.hid hJ; have hk := Lib.hid hK; clear hsame hpre hK hV hJ hd; go_simp; exact hk.out _ _ (fun s hs => by cases hs; rfl) (hJ2.out.more (by decide) (by decide))
                          · have q9 : a0.tmps[9]?.getD undef = .int .i64 (j : Int) := hsame 9 (slot_free (by decide +kernel))
                            have hJ2 := Lib.hid hJ; have hk := Lib.hid hK; clear hsame hpre hK hV hJ hd; go_simp; exact hk.out _ _ (fun s hs => by cases hs; rfl) (hJ2.out.more (by decide) (by decide))
                          · have q0 : a0.tmps[0]?.getD undef = .slice (some ⟨g, off, none⟩) n cap := hsame 0 (slot_free (by decide +kernel))
                            have hJ2 := Lib.hid hJ; have hk := Lib.hid hK; clear hsame hpre hK hV hJ hd; go_simp; exact hk.out _ _ (fun s hs => by cases hs; rfl) (hJ2.out.more (by decide) (by decide))
                          · have q9 : a0.tmps[9]?.getD undef = .int .i64 (j : Int) := hsame 9 (slot_free (by decide +kernel))
                            have hJ2 := Lib.hid hJ; have hk := Lib.hid hK; clear hsame hpre hK hV hJ hd; go_simp; exact hk.out _ _ (fun s hs => by cases hs; rfl) (hJ2.out.more (by decide) (by decide))
                          · have q82 : a0.tmps[82]?.getD undef = .int .i64 (j : Int) := hV 3 82 (hpre ⟨3, .data⟩ (by simp) rfl) rfl
                            have hJ2 := Lib.hid hJ; have hk := Lib.hid hK; clear hsame hpre hK hV hJ hd; go_simp; exact hk.out _ _ (fun s hs => by cases hs; rfl) (hJ2.out.more (by decide) (by decide))
                          · have q0 : a0.tmps[0]?.getD undef = .slice (some ⟨g, off, none⟩) n cap := hsame 0 (slot_free (by decide +kernel))
                            have hJ2 := Lib.hid hJ; have hk := Lib.hid hK; clear hsame hpre hK hV hJ hd; go_simp; exact hk.out _ _ (fun s hs => by cases hs; rfl) (hJ2.out.more (by decide) (by decide))
                          · have q9 : a0.tmps[9]?.getD undef = .int .i64 (j : Int) := hsame 9 (slot_free (by decide +kernel))
                            have hJ2 := Lib.hid hJ; have hk := Lib.hid hK; clear hsame hpre hK hV hJ hd; go_simp; exact hk.out _ _ (fun s hs => by cases hs; rfl) (hJ2.out.more (by decide) (by decide))
                          · have q85 : a0.tmps[85]?.getD undef = .int .i64 (j : Int) := hV 6 85 (hpre ⟨6, .data⟩ (by simp) rfl) rfl
                            have hJ2 := Lib.hid hJ; have hk := Lib.hid hK; clear hsame hpre hK hV hJ hd; go_simp; exact hk.out _ _ (fun s hs => by cases hs; rfl) (hJ2.out.more (by decide) (by decide))
                          · have q84 : a0.tmps[84]?.getD undef = .slice (some ⟨g, off, none⟩) n cap := hV 5 84 (hpre ⟨5, .data⟩ (by simp) rfl) rfl
                            have q86 : a0.tmps[86]?.getD undef = .int .i64 (p : Int) := hV 7 86 (hpre ⟨7, .data⟩ (by simp) rfl) rfl
                            have hJ2 := Lib.hid hJ; have hk := Lib.hid hK; clear hsame hpre hK hV hJ hd; go_simp; exact hk.out _ _ (fun s hs => by cases hs; rfl) (hJ2.out.more (by decide) (by decide))
                          · have q87 : a0.tmps[87]?.getD undef = .pointer (some ⟨g, off + p, none⟩) := hV 8 87 (hpre ⟨8, .data⟩ (by simp) rfl) rfl
                            have hxX := hJ.load (.inl hd)
                            have c0 : x.cell? ⟨g, off + p, none⟩ = some (.int .u64 (d3[p]! : Int)) := by rw [hxX]; exact (Hnum7.out _ (by rw [Hsz6.out]; exact hpn)).1
                            clear hxX
                            have hJ2 := Lib.hid hJ; have hk := Lib.hid hK; clear hsame hpre hK hV hJ hd; go_simp; exact hk.out _ _ (fun s hs => by cases hs; rfl) (hJ2.out.more (by decide) (by decide))
                          · have q0 : a0.tmps[0]?.getD undef = .slice (some ⟨g, off, none⟩) n cap := hsame 0 (slot_free (by decide +kernel))
                            have hJ2 := Lib.hid hJ; have hk := Lib.hid hK; clear hsame hpre hK hV hJ hd; go_simp; exact hk.out _ _ (fun s hs => by cases hs; rfl) (hJ2.out.more (by decide) (by decide))
                          · have q9 : a0.tmps[9]?.getD undef = .int .i64 (j : Int) := hsame 9 (slot_free (by decide +kernel))
                            have hJ2 := Lib.hid hJ; have hk := Lib.hid hK; clear hsame hpre hK hV hJ hd; go_simp; exact hk.out _ _ (fun s hs => by cases hs; rfl) (hJ2.out.more (by decide) (by decide))
                          · have q89 : a0.tmps[89]?.getD undef = .slice (some ⟨g, off, none⟩) n cap := hV 10 89 (hpre ⟨10, .data⟩ (by simp) rfl) rfl
                            have q90 : a0.tmps[90]?.getD undef = .int .i64 (j : Int) := hV 11 90 (hpre ⟨11, .data⟩ (by simp) rfl) rfl
                            have hJ2 := Lib.hid hJ; have hk := Lib.hid hK; clear hsame hpre hK hV hJ hd; go_simp; exact hk.out _ _ (fun s hs => by cases hs; rfl) (hJ2.out.more (by decide) (by decide))
                          · have q91 : a0.tmps[91]?.getD undef = .pointer (some ⟨g, off + j, none⟩) := hV 12 91 (hpre ⟨12, .data⟩ (by simp) rfl) rfl
                            have hxX := hJ.load (.inr hd)
                            have c0 : x.cell? ⟨g, off + j, none⟩ = some (.int .u64 (d3[j]! : Int)) := by rw [hxX]; exact (Hnum7.out _ (by rw [Hsz6.out]; exact hjn)).1
                            clear hxX
                            have hJ2 := Lib.hid hJ; have hk := Lib.hid hK; clear hsame hpre hK hV hJ hd; go_simp; exact hk.out _ _ (fun s hs => by cases hs; rfl) (hJ2.out.more (by decide) (by decide))
                          · have q79 : a0.tmps[79]?.getD undef = .slice (some ⟨g, off, none⟩) n cap := hV 0 79 (hpre ⟨0, .data⟩ (by simp) rfl) rfl
                            have q80 : a0.tmps[80]?.getD undef = .int .i64 (j : Int) := hV 1 80 (hpre ⟨1, .data⟩ (by simp) rfl) rfl
                            have hJ2 := Lib.hid hJ; have hk := Lib.hid hK; clear hsame hpre hK hV hJ hd; go_simp; exact hk.out _ _ (fun s hs => by cases hs; rfl) (hJ2.out.more (by decide) (by decide))
                          · have q93 : a0.tmps[93]?.getD undef = .pointer (some ⟨g, off + j, none⟩) := hV 14 93 (hpre ⟨14, .data⟩ (by simp) rfl) rfl
                            have q88 : a0.tmps[88]?.getD undef = .int .u64 (d3[p]! : Int) := hV 9 88 (hpre ⟨9, .data⟩ (by simp) rfl) rfl
                            have hk : ∀ x', (SwJ w7x.drew ⟨g, off + j, none⟩ ⟨g, off + p, none⟩ (.int .u64 (d3[p]! : Int)) (.int .u64 (d3[j]! : Int)) 15 17 9 13) (also dn 15) x' → K a0 x' := fun x' h2 => hK undef x' (fun s hs => by cases hs) h2
                            have hJ2 := Lib.hid (hJ.st1 (by decide) hd (hpre ⟨9, .phase⟩ (by simp) rfl) (hpre ⟨13, .phase⟩ (by simp) rfl))
                            have hxX : x = w7x.drew := hJ.w0 hd
                            have c0 : x.cell? ⟨g, off + j, none⟩ = some (.int .u64 (d3[j]! : Int)) := by rw [hxX]; exact (Hnum7.out _ (by rw [Hsz6.out]; exact hjn)).1
                            have z0 : x.frozen? ⟨g, off + j, none⟩ = false := by rw [hxX]; exact (Hnum7.out _ (by rw [Hsz6.out]; exact hjn)).2
                            clear hsame hpre hK hV hJ hd hxX
                            go_simp
                            exact hk _ hJ2.out
                          · have q81 : a0.tmps[81]?.getD undef = .slice (some ⟨g, off, none⟩) n cap := hV 2 81 (hpre ⟨2, .data⟩ (by simp) rfl) rfl
                            have q83 : a0.tmps[83]?.getD undef = .int .i64 (p : Int) := hV 4 83 (hpre ⟨4, .data⟩ (by simp) rfl) rfl
                            have hJ2 := Lib.hid hJ; have hk := Lib.hid hK; clear hsame hpre hK hV hJ hd; go_simp; exact hk.out _ _ (fun s hs => by cases hs; rfl) (hJ2.out.more (by decide) (by decide))
                          · have q94 : a0.tmps[94]?.getD undef = .pointer (some ⟨g, off + p, none⟩) := hV 16 94 (hpre ⟨16, .data⟩ (by simp) rfl) rfl
                            have q92 : a0.tmps[92]?.getD undef = .int .u64 (d3[j]! : Int) := hV 13 92 (hpre ⟨13, .data⟩ (by simp) rfl) rfl
                            have hk : ∀ x', (SwJ w7x.drew ⟨g, off + j, none⟩ ⟨g, off + p, none⟩ (.int .u64 (d3[p]! : Int)) (.int .u64 (d3[j]! : Int)) 15 17 9 13) (also dn 17) x' → K a0 x' := fun x' h2 => hK undef x' (fun s hs => by cases hs) h2
                            have hJ2 := Lib.hid (hJ.st2 (by decide) hd (hpre ⟨15, .chain⟩ (by simp) rfl))
                            have hxX := hJ.w1 (hpre ⟨15, .chain⟩ (by simp) rfl) hd
                            obtain ⟨u0, c0⟩ : ∃ u, x.cell? ⟨g, off + p, none⟩ = some u := by rw [hxX]; exact cell_some _ _ _ _ _ (Hnum7.out _ (by rw [Hsz6.out]; exact hjn)).1 (Hnum7.out _ (by rw [Hsz6.out]; exact hpn)).1
                            have z0 : x.frozen? ⟨g, off + p, none⟩ = false := by rw [hxX, World.frozen?_setCell]; exact (Hnum7.out _ (by rw [Hsz6.out]; exact hpn)).2
                            clear hsame hpre hK hV hJ hd hxX
                            go_simp
                            exact hk _ hJ2.out
                        · intro dn x hall hJ
                          have hx := hJ.w2 (hall 17 (by decide))
                          have h44 := NumsAt.grow (w' := w7x.drew) Hnum7.out hgr7 ((Below.refl _ _).drew)
                          have HNX := Lib.hid (show NumsAt x g off (Sort.swp d3 j p) by rw [hx]; exact h44.swp (by rw [Hsz6.out]; exact hjn) (by rw [Hsz6.out]; exact hpn))
                          have hbutX : ButS g w x := by
                            rw [hx]
                            exact ((hbut7.trans (butS_below ((Below.refl w7x.heap.size w7x).drew) g)).trans (butS_set _ _ _ _)).trans (butS_set _ _ _ _)
                          clear hx h44 hJ hall
                          clear w7 w8
                          have HeqX := Lib.hid (show Sort.shiftDown lt64 p (Sort.swp d3 j p) = Sort.shiftDown lt64 m d2 by rw [← Heq6.out, Hj.out]; exact (shiftDown_go (by rw [← Hj.out]; exact Hc2.out.symm)).symm)
                          obtain ⟨w7, w8⟩ := WP.out
                          simp only [putAct]
                          go_wp2_with fail
                          clear w7 w8
                          go_roundw
                          case rel => exact ⟨p, Sort.swp d3 j p, by have := Hj.out; omega, rfl, HNX.out, by rw [swp_size]; exact Hsz6.out, HeqX.out, hbutX⟩
                          case measure => have := Hj.out; simp [intOf]; omega
                · have eT : decide ((2 : Int) ≤ (ka : Int)) = false := by rw [decide_eq_false_iff_not]; have := Hka.out; omega
                  have eT2 : decide (2 ≤ ka) = false := by rw [decide_eq_false_iff_not]; have := Hka.out; omega
                  have HD3 := Lib.hid (show D3 a k d1 = d2 by unfold D3; rw [if_neg hka, ← Hd2.out])
                  obtain ⟨w5, w6⟩ := WKA.out
                  go_upto_region 18 with fail
                  clear w5 w6 eT eT2
                  have hgX := hg5
                  by_cases hbk : 2 ≤ b - k
                  · have eT : decide ((2 : Int) ≤ (bk : Int)) = true := by rw [decide_eq_true_iff]; have := Hbk.out; omega
                    have eT2 : decide (2 ≤ bk) = true := by rw [decide_eq_true_iff]; have := Hbk.out; omega
                    obtain ⟨k1, hk1⟩ : ∃ y, y = k + 1 := ⟨_, rfl⟩
                    have WK := Lib.hid (wr_nat ((k : Int) + 1) k1 (by omega) (by omega))
                    have hk1b : k + 1 ≤ k1 ∧ k1 ≤ b := by omega
                    have HK1 := Lib.hid hk1
                    have HK1b := Lib.hid hk1b
                    clear hk1 hk1b
                    obtain ⟨wbk, wbk2⟩ := WBK.out
                    obtain ⟨w7, w8⟩ := WK.out
                    go_wp2_with fail
                    clear wbk wbk2 w7 w8 eT eT2
                    go_loopw [10] (fun t wr => ∃ (j : Nat) (d4 : Array Nat), k + 1 ≤ j ∧ j ≤ b ∧ t = .int .i64 (j : Int) ∧ NumsAt wr g off d4 ∧ d4.size = n ∧ Sort.shiftUp lt64 b j d4 = Sort.shiftUp lt64 b (k + 1) d2 ∧ ButS g w wr) (fun t _ => n + 1 - (intOf t).toNat)
                    case atStart => exact ⟨k1, d2, HK1b.out.1, HK1b.out.2, rfl, HN5.out, Hsz2.out, by rw [HK1.out], hbut5⟩
                    case round =>
                      obtain ⟨j, d4, hkj, hjb, rfl, hnum, hsz, heq, hbutU⟩ := hrel
                      have HnumU := Lib.hid hnum
                      have HszU := Lib.hid hsz
                      have HeqU := Lib.hid heq
                      clear hnum hsz heq
                      have hgrU := Nat.lt_of_lt_of_le hg hbutU.2.2.2.1
                      by_cases hjb2 : j < b
                      · have hjn : j < n := by omega
                        obtain ⟨p, hp⟩ : ∃ p, p = j - 1 := ⟨_, rfl⟩
                        have hpn : p < n := by omega
                        obtain ⟨j1, hj1⟩ : ∃ y, y = j + 1 := ⟨_, rfl⟩
                        have WP := Lib.hid (wr_nat ((j : Int) - 1) p (by omega) (by omega))
                        have WJ := Lib.hid (wr_nat ((j : Int) + 1) j1 (by omega) (by omega))
                        have e1 : decide ((j : Int) < (b : Int)) = true := by rw [decide_eq_true_iff]; omega
                        have e2 : decide (j < b) = true := by rw [decide_eq_true_iff]; omega
                        have Hp := Lib.hid hp
                        have Hj1 := Lib.hid hj1
                        have ca := fun y : Ext wr => (HnumU.out.grow hgrU y.out j (by rw [HszU.out]; exact hjn)).1
                        have ck := fun y : Ext wr => (HnumU.out.grow hgrU y.out p (by rw [HszU.out]; exact hpn)).1
                        obtain ⟨c, hc⟩ : ∃ c, c = lt64 d4[j]! d4[p]! := ⟨_, rfl⟩
                        have kl := fun y : Ext wr => less_any d4[j]! d4[p]! y.now
                        simp only [← hc] at kl
                        have KL := Lib.hid kl
                        have Hc := Lib.hid hc
                        clear kl hc hp hj1
                        go_upto_region 22 with fail
                        clear e1 e2
                        obtain ⟨w7, w8⟩ := WP.out
                        cases c
                        all_goals refine wp_region_grow (by kernel_rfl) (by kernel_rfl) ?_
                        all_goals repeat (first | go_big_quiet_step ((go_at_call 104; with_reducible exact calls_grow (KL.out _))) | quiet_step ((go_at_call 104; with_reducible exact calls_grow (KL.out _))))
                        all_goals refine wpQuiet_nil ?_
                        all_goals rintro w9 ⟨⟨_, hb9⟩, rfl⟩
                        all_goals have HnumV := Lib.hid (HnumU.out.grow hgrU hb9)
                        all_goals have hbutV := hbutU.trans (butS_below hb9 g)
                        all_goals have hgrV := Nat.lt_of_lt_of_le hgrU hb9.size
                        all_goals clear ca ck KL w7 w8
                        · have HeqV := Lib.hid (show (if 2 ≤ b - k then Sort.shiftUp lt64 b (k + 1) d2 else d2) = d4 by rw [if_pos hbk, ← HeqU.out]; exact shiftUp_not (by rw [← Hp.out]; exact Hc.out.symm))
                          have Hend := Lib.hid ((Hstep.out.trans (congrArg (Sort.partialIns lt64 a b q k) (d4_eq HD3.out HeqV.out))).symm.trans Heq.out)
                          obtain ⟨w5, w6⟩ := WS.out
                          go_wp2_with fail
                          clear w5 w6
                          refine ⟨⟨k, s1, q, d4, by have := HS1.out; omega, by omega, by omega, rfl, rfl, HnumV.out, HszU.out, Hend.out, hbutV⟩, ?_⟩
                          have := HS1.out
                          simp [intOf]
                          omega
                        · go_upto_region 23 with fail
                          obtain ⟨w7, w8⟩ := WP.out
                          refine wp_region_fixed (fun s => match s with | 117 => .slice (some ⟨g, off, none⟩) n cap | 118 => .int .i64 (j : Int) | 119 => .slice (some ⟨g, off, none⟩) n cap | 120 => .int .i64 (j : Int) | 121 => .int .i64 (p : Int) | 122 => .slice (some ⟨g, off, none⟩) n cap | 123 => .int .i64 (j : Int) | 124 => .int .i64 (p : Int) | 125 => .pointer (some ⟨g, off + p, none⟩) | 126 => .int .u64 (d4[p]! : Int) | 127 => .slice (some ⟨g, off, none⟩) n cap | 128 => .int .i64 (j : Int) | 129 => .pointer (some ⟨g, off + j, none⟩) | 130 => .int .u64 (d4[j]! : Int) | 131 => .pointer (some ⟨g, off + j, none⟩) | 132 => .pointer (some ⟨g, off + p, none⟩) | _ => undef) (SwJ w9.drew ⟨g, off + j, none⟩ ⟨g, off + p, none⟩ (.int .u64 (d4[p]! : Int)) (.int .u64 (d4[j]! : Int)) 15 17 9 13) 133 [117, 118, 119, 120, 121, 122, 123, 124, 125, 126, 127, 128, 129, 130, 131, 132] (by kernel_rfl) (by kernel_rfl) (by kernel_rfl) (by kernel_rfl) rfl SwJ.start ?_ ?_
                          · intro i0 o0 hi0 dn a0 x hJ hd hpre hsame hV K hK
                            have hlt0 := (Array.getElem?_eq_some_iff.1 hi0).1
                            rcases many18 hlt0 rfl with rfl | rfl | rfl | rfl | rfl | rfl | rfl | rfl | rfl | rfl | rfl | rfl | rfl | rfl | rfl | rfl | rfl | rfl
                            all_goals (have ho0 := Option.some.inj hi0; subst ho0; clear hi0 hlt0)
                            · have q0 : a0.tmps[0]?.getD undef = .slice (some ⟨g, off, none⟩) n cap := hsame 0 (slot_free (by decide +kernel))
                              have hJ2 := Lib.hid hJ; have hk := Lib.hid hK; clear hsame hpre hK hV hJ hd; go_simp; exact hk.out _ _ (fun s hs => by cases hs; rfl) (hJ2.out.more (by decide) (by decide))
                            · have q10 : a0.tmps[10]?.getD undef = .int .i64 (j : Int) := hsame 10 (slot_free (by decide +kernel))
                              have hJ2 := Lib.hid hJ; have hk := Lib.hid hK; clear hsame hpre hK hV hJ hd; go_simp; exact hk.out _ _ (fun s hs => by cases hs; rfl) (hJ2.out.more (by decide) (by decide))
                            · have q0 : a0.tmps[0]?.getD undef = .slice (some ⟨g, off, none⟩) n cap := hsame 0 (slot_free (by decide +kernel))
                              have hJ2 := Lib.hid hJ; have hk := Lib.hid hK; clear hsame hpre hK hV hJ hd; go_simp; exact hk.out _ _ (fun s hs => by cases hs; rfl) (hJ2.out.more (by decide) (by decide))
                            · have q10 : a0.tmps[10]?.getD undef = .int .i64 (j : Int) := hsame 10 (slot_free (by decide +kernel))
                              have hJ2 := Lib.hid hJ; have hk := Lib.hid hK; clear hsame hpre hK hV hJ hd; go_simp; exact hk.out _ _ (fun s hs => by cases hs; rfl) (hJ2.out.more (by decide) (by decide))
                            · have q120 : a0.tmps[120]?.getD undef = .int .i64 (j : Int) := hV 3 120 (hpre ⟨3, .data⟩ (by simp) rfl) rfl
                              have hJ2 := Lib.hid hJ; have hk := Lib.hid hK; clear hsame hpre hK hV hJ hd; go_simp; exact hk.out _ _ (fun s hs => by cases hs; rfl) (hJ2.out.more (by decide) (by decide))
                            · have q0 : a0.tmps[0]?.getD undef = .slice (some ⟨g, off, none⟩) n cap := hsame 0 (slot_free (by decide +kernel))
                              have hJ2 := Lib.hid hJ; have hk := Lib.hid hK; clear hsame hpre hK hV hJ hd; go_simp; exact hk.out _ _ (fun s hs => by cases hs; rfl) (hJ2.out.more (by decide) (by decide))
                            · have q10 : a0.tmps[10]?.getD undef = .int .i64 (j : Int) := hsame 10 (slot_free (by decide +kernel))
                              have hJ2 := Lib.hid hJ; have hk := Lib.hid hK; clear hsame hpre hK hV hJ hd; go_simp; exact hk.out _ _ (fun s hs => by cases hs; rfl) (hJ2.out.more (by decide) (by decide))
                            · have q123 : a0.tmps[123]?.getD undef = .int .i64 (j : Int) := hV 6 123 (hpre ⟨6, .data⟩ (by simp) rfl) rfl
                              have hJ2 := Lib.hid hJ; have hk := Lib.hid hK; clear hsame hpre hK hV hJ hd; go_simp; exact hk.out _ _ (fun s hs => by cases hs; rfl) (hJ2.out.more (by decide) (by decide))
                            · have q122 : a0.tmps[122]?.getD undef = .slice (some ⟨g, off, none⟩) n cap := hV 5 122 (hpre ⟨5, .data⟩ (by simp) rfl) rfl
                              have q124 : a0.tmps[124]?.getD undef = .int .i64 (p : Int) := hV 7 124 (hpre ⟨7, .data⟩ (by simp) rfl) rfl
                              have hJ2 := Lib.hid hJ; have hk := Lib.hid hK; clear hsame hpre hK hV hJ hd; go_simp; exact hk.out _ _ (fun s hs => by cases hs; rfl) (hJ2.out.more (by decide) (by decide))
                            · have q125 : a0.tmps[125]?.getD undef = .pointer (some ⟨g, off + p, none⟩) := hV 8 125 (hpre ⟨8, .data⟩ (by simp) rfl) rfl
                              have hxX := hJ.load (.inl hd)
                              have c0 : x.cell? ⟨g, off + p, none⟩ = some (.int .u64 (d4[p]! : Int)) := by rw [hxX]; exact (HnumV.out _ (by rw [HszU.out]; exact hpn)).1
                              clear hxX
                              have hJ2 := Lib.hid hJ; have hk := Lib.hid hK; clear hsame hpre hK hV hJ hd; go_simp; exact hk.out _ _ (fun s hs => by cases hs; rfl) (hJ2.out.more (by decide) (by decide))
                            · have q0 : a0.tmps[0]?.getD undef = .slice (some ⟨g, off, none⟩) n cap := hsame 0 (slot_free (by decide +kernel))
                              have hJ2 := Lib.hid hJ; have hk := Lib.hid hK; clear hsame hpre hK hV hJ hd; go_simp; exact hk.out _ _ (fun s hs => by cases hs; rfl) (hJ2.out.more (by decide) (by decide))
                            · have q10 : a0.tmps[10]?.getD undef = .int .i64 (j : Int) := hsame 10 (slot_free (by decide +kernel))
                              have hJ2 := Lib.hid hJ; have hk := Lib.hid hK; clear hsame hpre hK hV hJ hd; go_simp; exact hk.out _ _ (fun s hs => by cases hs; rfl) (hJ2.out.more (by decide) (by decide))
                            · have q127 : a0.tmps[127]?.getD undef = .slice (some ⟨g, off, none⟩) n cap := hV 10 127 (hpre ⟨10, .data⟩ (by simp) rfl) rfl
                              have q128 : a0.tmps[128]?.getD undef = .int .i64 (j : Int) := hV 11 128 (hpre ⟨11, .data⟩ (by simp) rfl) rfl
                              have hJ2 := Lib.hid hJ; have hk := Lib.hid hK; clear hsame hpre hK hV hJ hd; go_simp; exact hk.out _ _ (fun s hs => by cases hs; rfl) (hJ2.out.more (by decide) (by decide))
                            · have q129 : a0.tmps[129]?.getD undef = .pointer (some ⟨g, off + j, none⟩) := hV 12 129 (hpre ⟨12, .data⟩ (by simp) rfl) rfl
                              have hxX := hJ.load (.inr hd)
                              have c0 : x.cell? ⟨g, off + j, none⟩ = some (.int .u64 (d4[j]! : Int)) := by rw [hxX]; exact (HnumV.out _ (by rw [HszU.out]; exact hjn)).1
                              clear hxX
                              have hJ2 := Lib.hid hJ; have hk := Lib.hid hK; clear hsame hpre hK hV hJ hd; go_simp; exact hk.out _ _ (fun s hs => by cases hs; rfl) (hJ2.out.more (by decide) (by decide))
                            · have q117 : a0.tmps[117]?.getD undef = .slice (some ⟨g, off, none⟩) n cap := hV 0 117 (hpre ⟨0, .data⟩ (by simp) rfl) rfl
                              have q118 : a0.tmps[118]?.getD undef = .int .i64 (j : Int) := hV 1 118 (hpre ⟨1, .data⟩ (by simp) rfl) rfl
                              have hJ2 := Lib.hid hJ; have hk := Lib.hid hK; clear hsame hpre hK hV hJ hd; go_simp; exact hk.out _ _ (fun s hs => by cases hs; rfl) (hJ2.out.more (by decide) (by decide))
                            · have q131 : a0.tmps[131]?.getD undef = .pointer (some ⟨g, off + j, none⟩) := hV 14 131 (hpre ⟨14, .data⟩ (by simp) rfl) rfl
                              have q126 : a0.tmps[126]?.getD undef = .int .u64 (d4[p]! : Int) := hV 9 126 (hpre ⟨9, .data⟩ (by simp) rfl) rfl
                              have hk : ∀ x', (SwJ w9.drew ⟨g, off + j, none⟩ ⟨g, off + p, none⟩ (.int .u64 (d4[p]! : Int)) (.int .u64 (d4[j]! : Int)) 15 17 9 13) (also dn 15) x' → K a0 x' := fun x' h2 => hK undef x' (fun s hs => by cases hs) h2
                              have hJ2 := Lib.hid (hJ.st1 (by decide) hd (hpre ⟨9, .phase⟩ (by simp) rfl) (hpre ⟨13, .phase⟩ (by simp) rfl))
                              have hxX : x = w9.drew := hJ.w0 hd
                              have c0 : x.cell? ⟨g, off + j, none⟩ = some (.int .u64 (d4[j]! : Int)) := by rw [hxX]; exact (HnumV.out _ (by rw [HszU.out]; exact hjn)).1
                              have z0 : x.frozen? ⟨g, off + j, none⟩ = false := by rw [hxX]; exact (HnumV.out _ (by rw [HszU.out]; exact hjn)).2
                              clear hsame hpre hK hV hJ hd hxX
                              go_simp
                              exact hk _ hJ2.out
                            · have q119 : a0.tmps[119]?.getD undef = .slice (some ⟨g, off, none⟩) n cap := hV 2 119 (hpre ⟨2, .data⟩ (by simp) rfl) rfl
                              have q121 : a0.tmps[121]?.getD undef = .int .i64 (p : Int) := hV 4 121 (hpre ⟨4, .data⟩ (by simp) rfl) rfl
                              have hJ2 := Lib.hid hJ; have hk := Lib.hid hK; clear hsame hpre hK hV hJ hd; go_simp; exact hk.out _ _ (fun s hs => by cases hs; rfl) (hJ2.out.more (by decide) (by decide))
                            · have q132 : a0.tmps[132]?.getD undef = .pointer (some ⟨g, off + p, none⟩) := hV 16 132 (hpre ⟨16, .data⟩ (by simp) rfl) rfl
                              have q130 : a0.tmps[130]?.getD undef = .int .u64 (d4[j]! : Int) := hV 13 130 (hpre ⟨13, .data⟩ (by simp) rfl) rfl
                              have hk : ∀ x', (SwJ w9.drew ⟨g, off + j, none⟩ ⟨g, off + p, none⟩ (.int .u64 (d4[p]! : Int)) (.int .u64 (d4[j]! : Int)) 15 17 9 13) (also dn 17) x' → K a0 x' := fun x' h2 => hK undef x' (fun s hs => by cases hs) h2
                              have hJ2 := Lib.hid (hJ.st2 (by decide) hd (hpre ⟨15, .chain⟩ (by simp) rfl))
                              have hxX := hJ.w1 (hpre ⟨15, .chain⟩ (by simp) rfl) hd
                              obtain ⟨u0, c0⟩ : ∃ u, x.cell? ⟨g, off + p, none⟩ = some u := by rw [hxX]; exact cell_some _ _ _ _ _ (HnumV.out _ (by rw [HszU.out]; exact hjn)).1 (HnumV.out _ (by rw [HszU.out]; exact hpn)).1
                              have z0 : x.frozen? ⟨g, off + p, none⟩ = false := by rw [hxX, World.frozen?_setCell]; exact (HnumV.out _ (by rw [HszU.out]; exact hpn)).2
                              clear hsame hpre hK hV hJ hd hxX
                              go_simp
                              exact hk _ hJ2.out
                          · intro dn x hall hJ
                            have hx := hJ.w2 (hall 17 (by decide))

                            have h44 := NumsAt.grow (w' := w9.drew) HnumV.out hgrV ((Below.refl _ _).drew)
                            have HNX := Lib.hid (show NumsAt x g off (Sort.swp d4 j p) by rw [hx]; exact h44.swp (by rw [HszU.out]; exact hjn) (by rw [HszU.out]; exact hpn))
                            have hbutX : ButS g w x := by
                              rw [hx]
                              exact ((hbutV.trans (butS_below ((Below.refl w9.heap.size w9).drew) g)).trans (butS_set _ _ _ _)).trans (butS_set _ _ _ _)
                            clear hx h44 hJ hall
                            clear w7 w8
                            have HeqX := Lib.hid ((shiftUp_go hjb2 (by rw [← Hp.out]; exact Hc.out.symm)).symm.trans HeqU.out)
                            rw [← Hp.out, ← Hj1.out] at HeqX
                            obtain ⟨w7, w8⟩ := WJ.out
                            simp only [putAct]
                            go_wp2_with fail
                            clear w7 w8
                            go_roundw
                            case rel => exact ⟨j1, Sort.swp d4 j p, by have := Hj1.out; omega, by have := Hj1.out; omega, rfl, HNX.out, by rw [swp_size]; exact HszU.out, HeqX.out, hbutX⟩
                            case measure => have := Hj1.out; simp [intOf]; omega
                      · have e1 : decide ((j : Int) < (b : Int)) = false := by rw [decide_eq_false_iff_not]; omega
                        have e2 : decide (j < b) = false := by rw [decide_eq_false_iff_not]; omega
                        have HeqV := Lib.hid (show (if 2 ≤ b - k then Sort.shiftUp lt64 b (k + 1) d2 else d2) = d4 by rw [if_pos hbk, ← HeqU.out]; exact shiftUp_out (by omega))
                        have Hend := Lib.hid ((Hstep.out.trans (congrArg (Sort.partialIns lt64 a b q k) (d4_eq HD3.out HeqV.out))).symm.trans Heq.out)
                        obtain ⟨w5, w6⟩ := WS.out
                        go_wp2_with fail
                        clear w5 w6
                        refine ⟨⟨k, s1, q, d4, by have := HS1.out; omega, by omega, by omega, rfl, rfl, HnumU.out, HszU.out, Hend.out, hbutU⟩, ?_⟩
                        have := HS1.out
                        simp [intOf]
                        omega
                  · have eT : decide ((2 : Int) ≤ (bk : Int)) = false := by rw [decide_eq_false_iff_not]; have := Hbk.out; omega
                    have eT2 : decide (2 ≤ bk) = false := by rw [decide_eq_false_iff_not]; have := Hbk.out; omega
                    have HeqV := Lib.hid (show (if 2 ≤ b - k then Sort.shiftUp lt64 b (k + 1) d2 else d2) = d2 by rw [if_neg hbk])
                    obtain ⟨wbk, wbk2⟩ := WBK.out
                    have Hend := Lib.hid ((Hstep.out.trans (congrArg (Sort.partialIns lt64 a b q k) (d4_eq HD3.out HeqV.out))).symm.trans Heq.out)
                    obtain ⟨w5, w6⟩ := WS.out
                    go_wp2_with fail
                    clear w5 w6
                    refine ⟨⟨k, s1, q, d2, by have := HS1.out; omega, by omega, by omega, rfl, rfl, HN5.out, Hsz2.out, Hend.out, hbut5⟩, ?_⟩
                    have := HS1.out
                    simp [intOf]
                    omega
        · obtain rfl : k = b := by omega
          have Hfin := Lib.hid ((pi_true (k := q) (a := a) (Heq2.out.symm.trans (scanS_out (Nat.le_refl _)))).symm.trans Heq.out)
          have e1 : decide ((k : Int) < (k : Int)) = false := by rw [decide_eq_false_iff_not]; omega
          have e2 : decide (k < k) = false := by rw [decide_eq_false_iff_not]; omega
          go_upto_region 5 with fail
          refine wp_region_grow (by kernel_rfl) (by kernel_rfl) ?_
          repeat (first | go_big_quiet_step (fail) | quiet_step (fail))
          refine wpQuiet_nil ?_
          rintro w4 ⟨⟨_, hb4⟩, rfl⟩
          have Hnum4 := Lib.hid (Hnum2.out.grow hgr hb4)
          have hbut4 := hbut2.trans (butS_below hb4 g)
          clear e1 e2
          go_wp2_with fail
          rw [← Hfin.out]
          first
          | exact bodyPost_ret (results_tmp rfl _ _ _) rfl ⟨rfl, Hnum4.out, Hsz.out, hbut.trans hbut4⟩
          | exact bodyPost_end (results_tmp rfl _ _ _) rfl ⟨rfl, Hnum4.out, Hsz.out, hbut.trans hbut4⟩
end Go.Proofs.YtdmbmkjiffhbcaaGreat
