/-
  partitionEqualOrdered at uint64.
  partitionOrdered at uint64.
-/
import Derived.Test.YtdmbmkjiffhbcaaGreatSortA
namespace Go.Proofs.YtdmbmkjiffhbcaaGreat
open Go.RowKit
set_option maxRecDepth 100000

theorem scanUp_go {p : Nat → Bool} {d : Array Nat} {i j : Nat} (h : i ≤ j) (hp : p d[i]! = true) : Sort.scanUp p d j i = Sort.scanUp p d j (i + 1) := by
  conv => lhs; rw [Sort.scanUp]
  rw [if_pos (by simp [h, hp])]
theorem scanUp_out {p : Nat → Bool} {d : Array Nat} {i j : Nat} (h : j < i) : Sort.scanUp p d j i = i := by
  rw [Sort.scanUp, if_neg (by simp; omega)]
theorem scanUp_not {p : Nat → Bool} {d : Array Nat} {i j : Nat} (hp : p d[i]! = false) : Sort.scanUp p d j i = i := by
  rw [Sort.scanUp, if_neg (by simp [hp])]
theorem scanDown_go {p : Nat → Bool} {d : Array Nat} {i j : Nat} (h : i ≤ j + 1) (hp : p d[j + 1]! = true) : Sort.scanDown p d i (j + 1) = Sort.scanDown p d i j := by
  rw [Sort.scanDown, if_pos (by simp [h, hp])]
theorem scanDown_out {p : Nat → Bool} {d : Array Nat} {i j : Nat} (h : j < i) : Sort.scanDown p d i j = j := by
  cases j with
  | zero => rfl
  | succ j => rw [Sort.scanDown, if_neg (by simp; omega)]
theorem scanDown_not {p : Nat → Bool} {d : Array Nat} {i j : Nat} (hp : p d[j]! = false) : Sort.scanDown p d i j = j := by
  cases j with
  | zero => rfl
  | succ j => rw [Sort.scanDown, if_neg (by simp [hp])]
theorem partEq_stop {a i j k l : Nat} {d : Array Nat} (h1 : Sort.scanUp (fun x => !lt64 d[a]! x) d j i = k) (h2 : Sort.scanDown (fun x => lt64 d[a]! x) d k j = l) (h : l < k) : Sort.partEqLoop lt64 a i j d = (k, d) := by
  rw [Sort.partEqLoop]
  simp only [h1, h2]
  rw [if_pos h]
theorem partEq_go {a i j k l : Nat} {d : Array Nat} (h1 : Sort.scanUp (fun x => !lt64 d[a]! x) d j i = k) (h2 : Sort.scanDown (fun x => lt64 d[a]! x) d k j = l) (h : k ≤ l) (hi : i ≤ k) (hl : l ≤ j) (hl1 : 1 ≤ l) :
    Sort.partEqLoop lt64 a i j d = Sort.partEqLoop lt64 a (k + 1) (l - 1) (Sort.swp d k l) := by
  conv => lhs; rw [Sort.partEqLoop]
  simp only [h1, h2]
  rw [if_neg (by omega), dif_pos (by omega)]

set_option maxHeartbeats 8000000 in
theorem partEq_any (g off cap n a b pv : Nat) (d : Array Nat) (w : World) (h : NumsAt w g off d) (hn : n = d.size) (hb : b ≤ n) (hab : a + 2 ≤ b) (hpn : pv < n) (hn2 : n ≤ 1152921504606846976) (hg : g < w.heap.size) :
    Calls Tryz.prog 105 #[.slice (some ⟨g, off, none⟩) n cap, .int .i64 (a : Int), .int .i64 (b : Int), .int .i64 (pv : Int)] w fun e w' => e = .returned (.int .i64 ((Sort.partitionEqual lt64 d a b pv).1 : Int)) ∧ NumsAt w' g off (Sort.partitionEqual lt64 d a b pv).2 ∧ (Sort.partitionEqual lt64 d a b pv).2.size = n ∧ ButS g w w' := by
  obtain ⟨R, hR⟩ : ∃ R, R = Sort.partitionEqual lt64 d a b pv := ⟨_, rfl⟩
  rw [← hR]
  unfold Sort.partitionEqual at hR
  obtain ⟨d0, hd0⟩ : ∃ y, y = Sort.swp d a pv := ⟨_, rfl⟩
  rw [← hd0] at hR
  obtain ⟨a1, ha1⟩ : ∃ y, y = a + 1 := ⟨_, rfl⟩
  obtain ⟨b1, hb1⟩ : ∃ y, y = b - 1 := ⟨_, rfl⟩
  rw [← ha1, ← hb1] at hR
  have hsz0 : d0.size = n := by rw [hd0, swp_size, hn]
  have han : a < n := by omega
  have W1 := Lib.hid (wr_nat ((a : Int) + 1) a1 (by omega) (by omega))
  have W3 := Lib.hid (wr_nat ((b : Int) - 1) b1 (by omega) (by omega))
  have HI := Lib.hid (show a + 1 ≤ a1 ∧ a1 ≤ b1 + 2 ∧ b1 < n by omega)
  have Hd0 := Lib.hid hd0
  have Hsz0 := Lib.hid hsz0
  have HR := Lib.hid hR
  have Hn := Lib.hid hn
  have H := Lib.hid h
  clear hd0 hsz0 hR hn h ha1 hb1
  go_enter Tryz.func105, Tryz.ntmps105
  go_upto_region 1 with fail
  refine wp_swap16 11 0 1 3 g off n cap a pv (d[a]!) (d[pv]!) (fun s => match s with | 11 => .slice (some ⟨g, off, none⟩) n cap | 12 => .int .i64 (a : Int) | 13 => .slice (some ⟨g, off, none⟩) n cap | 14 => .int .i64 (pv : Int) | 15 => .slice (some ⟨g, off, none⟩) n cap | 16 => .int .i64 (pv : Int) | 17 => .pointer (some ⟨g, off + pv, none⟩) | 18 => .int .u64 (d[pv]! : Int) | 19 => .slice (some ⟨g, off, none⟩) n cap | 20 => .int .i64 (a : Int) | 21 => .pointer (some ⟨g, off + a, none⟩) | 22 => .int .u64 (d[a]! : Int) | 23 => .pointer (some ⟨g, off + a, none⟩) | 24 => .pointer (some ⟨g, off + pv, none⟩) | _ => undef) 84 [11, 12, 13, 14, 15, 16, 17, 18, 19, 20, 21, 22, 23, 24] (by kernel_rfl) (by kernel_rfl) (by kernel_rfl) (by kernel_rfl) rfl (by kernel_rfl) (by kernel_rfl) (by kernel_rfl) rfl rfl rfl (by first | assumption | omega) (by first | assumption | omega) ⟨rfl, rfl, rfl, rfl, rfl, rfl, rfl, rfl, rfl, rfl, rfl, rfl, rfl, rfl⟩ (H.out _ (by rw [← Hn.out]; exact han)).1 (H.out _ (by rw [← Hn.out]; exact han)).2 (H.out _ (by rw [← Hn.out]; exact hpn)).1 (H.out _ (by rw [← Hn.out]; exact hpn)).2 ?_
  · intro dn x hall hJ
    have hx := hJ.w2 (hall 15 (by decide))
    have h44 := NumsAt.grow (w' := w.drew) H.out hg ((Below.refl _ _).drew)
    have HN5 := Lib.hid (show NumsAt x g off d0 by rw [hx, Hd0.out]; exact h44.swp (by rw [← Hn.out]; exact han) (by rw [← Hn.out]; exact hpn))
    have hbut5 : ButS g w x := by
      rw [hx]
      exact ((butS_below ((Below.refl w.heap.size w).drew) g).trans (butS_set _ _ _ _)).trans (butS_set _ _ _ _)
    clear hx h44 hJ hall
    simp only [putAct]
    obtain ⟨w1, w2⟩ := W1.out
    obtain ⟨w3, w4⟩ := W3.out
    go_wp2_with fail
    clear w1 w2 w3 w4
    go_loopw [9, 10] (fun t u wr => ∃ (i j : Nat) (d1 : Array Nat), a + 1 ≤ i ∧ i ≤ j + 2 ∧ j < n ∧ t = .int .i64 (i : Int) ∧ u = .int .i64 (j : Int) ∧ NumsAt wr g off d1 ∧ d1.size = n ∧ Sort.partEqLoop lt64 a i j d1 = R ∧ ButS g w wr) (fun t u _ => (intOf u + 1 - intOf t).toNat)
    case atStart => exact ⟨a1, b1, d0, HI.out.1, HI.out.2.1, HI.out.2.2, rfl, rfl, HN5.out, Hsz0.out, HR.out.symm, hbut5⟩
    case round =>
      obtain ⟨i, j, d1, hi1, hij, hjn, rfl, rfl, hnum, hsz, heq, hbut⟩ := hrel
      have Hnum := Lib.hid hnum
      have Hsz := Lib.hid hsz
      have Heq := Lib.hid heq
      clear hnum hsz heq
      obtain ⟨wb, hwb⟩ : ∃ x, x = wr := ⟨wr, rfl⟩
      subst hwb
      go_wp2_with fail
      go_loopw [9] (fun t wr => ∃ (k : Nat), i ≤ k ∧ k ≤ j + 2 ∧ t = .int .i64 (k : Int) ∧ NumsAt wr g off d1 ∧ Sort.scanUp (fun x => !lt64 d1[a]! x) d1 j k = Sort.scanUp (fun x => !lt64 d1[a]! x) d1 j i ∧ ButS g wb wr) (fun t _ => n + 2 - (intOf t).toNat)
      case atStart => exact ⟨i, Nat.le_refl _, hij, rfl, Hnum.out, rfl, ButS.refl _ _⟩
      case round =>
        obtain ⟨k, hik, hkj, rfl, hnum, heq, hbut2⟩ := hrel
        have Hnum2 := Lib.hid hnum
        have Heq2 := Lib.hid heq
        clear hnum heq
        have hgr := Nat.lt_of_lt_of_le hg (Nat.le_trans hbut.2.2.2.1 hbut2.2.2.2.1)
        by_cases hkj2 : k ≤ j
        · have hkn : k < n := by omega
          obtain ⟨k1, hk1⟩ : ∃ y, y = k + 1 := ⟨_, rfl⟩
          have W5 := Lib.hid (wr_nat ((k : Int) + 1) k1 (by omega) (by omega))
          have Hk1 := Lib.hid hk1
          have e1 : decide ((k : Int) ≤ (j : Int)) = true := by rw [decide_eq_true_iff]; omega
          have e2 : decide (k ≤ j) = true := by rw [decide_eq_true_iff]; omega
          have ca := fun y : Ext wr => (Hnum2.out.grow hgr y.out a (by rw [Hsz.out]; exact han)).1
          have ck := fun y : Ext wr => (Hnum2.out.grow hgr y.out k (by rw [Hsz.out]; exact hkn)).1
          obtain ⟨c, hc⟩ : ∃ c, c = lt64 d1[a]! d1[k]! := ⟨_, rfl⟩
          have kl := fun y : Ext wr => less_any d1[a]! d1[k]! y.now
          simp only [← hc] at kl
          have KL := Lib.hid kl
          have Hc := Lib.hid hc
          clear kl hc hk1
          go_upto_region 3 with fail
          cases c
          all_goals refine wp_region_grow (by kernel_rfl) (by kernel_rfl) ?_
          all_goals repeat (first | go_big_quiet_step ((go_at_call 104; with_reducible exact calls_grow (KL.out _))) | quiet_step ((go_at_call 104; with_reducible exact calls_grow (KL.out _))))
          all_goals refine wpQuiet_nil ?_
          all_goals rintro w4 ⟨⟨_, hb4⟩, rfl⟩
          all_goals have Hnum4 := Lib.hid (Hnum2.out.grow hgr hb4)
          all_goals have hbut4 := hbut2.trans (butS_below hb4 g)
          all_goals have hgr4 := Nat.lt_of_lt_of_le hgr hb4.size
          all_goals clear ca ck KL e1 e2
          · have Heq3 := Lib.hid ((scanUp_go (p := fun x => !lt64 d1[a]! x) hkj2 (by show (!lt64 d1[a]! d1[k]!) = true; rw [← Hc.out]; rfl)).symm.trans Heq2.out)
            obtain ⟨w5, w6⟩ := W5.out
            go_wp2_with fail
            clear w5 w6
            go_roundw
            case rel => exact ⟨k1, by have := Hk1.out; omega, by have := Hk1.out; omega, rfl, Hnum4.out, by rw [Hk1.out]; exact Heq3.out, hbut4⟩
            case measure => have := Hk1.out; simp [intOf]; omega
          · have Hs := Lib.hid ((scanUp_not (p := fun x => !lt64 d1[a]! x) (by show (!lt64 d1[a]! d1[k]!) = false; rw [← Hc.out]; rfl)).symm.trans Heq2.out)
            clear Heq2
            go_wp2_with fail
            go_loopw [10] (fun t wr => ∃ (l : Nat), l ≤ j ∧ k ≤ l + 2 ∧ t = .int .i64 (l : Int) ∧ NumsAt wr g off d1 ∧ Sort.scanDown (fun x => lt64 d1[a]! x) d1 k l = Sort.scanDown (fun x => lt64 d1[a]! x) d1 k j ∧ ButS g wb wr) (fun t _ => (intOf t).toNat)
            case atStart => exact ⟨j, Nat.le_refl _, hkj, rfl, Hnum4.out, rfl, hbut4⟩
            case round =>
              obtain ⟨l, hlj, hkl, rfl, hnum, heq, hbut6⟩ := hrel
              have Hnum6 := Lib.hid hnum
              have Heq6 := Lib.hid heq
              clear hnum heq
              have hgr6 := Nat.lt_of_lt_of_le hg (Nat.le_trans hbut.2.2.2.1 hbut6.2.2.2.1)
              by_cases hkl2 : k ≤ l
              · obtain ⟨m, hm⟩ : ∃ m, l = m + 1 := ⟨l - 1, by omega⟩
                have hln : l < n := by omega
                have hkn : k < n := by omega
                have W7 := Lib.hid (wr_nat ((l : Int) - 1) m (by omega) (by omega))
                have e1 : decide ((k : Int) ≤ (l : Int)) = true := by rw [decide_eq_true_iff]; omega
                have e2 : decide (k ≤ l) = true := by rw [decide_eq_true_iff]; omega
                have hkm : k ≤ m + 1 := by omega
                have Hm := Lib.hid hm
                have ca := fun y : Ext wr => (Hnum6.out.grow hgr6 y.out a (by rw [Hsz.out]; exact han)).1
                have ck := fun y : Ext wr => (Hnum6.out.grow hgr6 y.out l (by rw [Hsz.out]; exact hln)).1
                obtain ⟨c, hc⟩ : ∃ c, c = lt64 d1[a]! d1[l]! := ⟨_, rfl⟩
                have kl := fun y : Ext wr => less_any d1[a]! d1[l]! y.now
                simp only [← hc] at kl
                have KL := Lib.hid kl
                have Hc2 := Lib.hid hc
                clear kl hc hm
                go_upto_region 5 with fail
                cases c
                all_goals refine wp_region_grow (by kernel_rfl) (by kernel_rfl) ?_
                all_goals repeat (first | go_big_quiet_step ((go_at_call 104; with_reducible exact calls_grow (KL.out _))) | quiet_step ((go_at_call 104; with_reducible exact calls_grow (KL.out _))))
                all_goals refine wpQuiet_nil ?_
                all_goals rintro w8 ⟨⟨_, hb8⟩, rfl⟩
                all_goals have Hnum8 := Lib.hid (Hnum6.out.grow hgr6 hb8)
                all_goals have hbut8 := hbut6.trans (butS_below hb8 g)
                all_goals have hgr8 := Nat.lt_of_lt_of_le hgr6 hb8.size
                all_goals clear ca ck KL e1 e2
                · have Hs2 := Lib.hid ((scanDown_not (p := fun x => lt64 d1[a]! x) (by show lt64 d1[a]! d1[l]! = false; exact Hc2.out.symm)).symm.trans Heq6.out)
                  have Hstep := Lib.hid (partEq_go Hs.out.symm Hs2.out.symm hkl2 hik hlj (by have := Hm.out; omega))
                  have e1 : decide ((l : Int) < (k : Int)) = false := by rw [decide_eq_false_iff_not]; omega
                  have e2 : decide (l < k) = false := by rw [decide_eq_false_iff_not]; omega
                  go_upto_region 8 with fail
                  clear e1 e2
                  refine wp_swap16 65 0 9 10 g off n cap k l (d1[k]!) (d1[l]!) (fun s => match s with | 65 => .slice (some ⟨g, off, none⟩) n cap | 66 => .int .i64 (k : Int) | 67 => .slice (some ⟨g, off, none⟩) n cap | 68 => .int .i64 (l : Int) | 69 => .slice (some ⟨g, off, none⟩) n cap | 70 => .int .i64 (l : Int) | 71 => .pointer (some ⟨g, off + l, none⟩) | 72 => .int .u64 (d1[l]! : Int) | 73 => .slice (some ⟨g, off, none⟩) n cap | 74 => .int .i64 (k : Int) | 75 => .pointer (some ⟨g, off + k, none⟩) | 76 => .int .u64 (d1[k]! : Int) | 77 => .pointer (some ⟨g, off + k, none⟩) | 78 => .pointer (some ⟨g, off + l, none⟩) | _ => undef) 84 [65, 66, 67, 68, 69, 70, 71, 72, 73, 74, 75, 76, 77, 78] (by kernel_rfl) (by kernel_rfl) (by kernel_rfl) (by kernel_rfl) rfl (by kernel_rfl) (by kernel_rfl) (by kernel_rfl) rfl rfl rfl (by first | assumption | omega) (by first | assumption | omega) ⟨rfl, rfl, rfl, rfl, rfl, rfl, rfl, rfl, rfl, rfl, rfl, rfl, rfl, rfl⟩ (Hnum8.out _ (by rw [Hsz.out]; exact hkn)).1 (Hnum8.out _ (by rw [Hsz.out]; exact hkn)).2 (Hnum8.out _ (by rw [Hsz.out]; exact hln)).1 (Hnum8.out _ (by rw [Hsz.out]; exact hln)).2 ?_
                  · intro dn x hall hJ
                    have hx := hJ.w2 (hall 15 (by decide))
                    have h44 := NumsAt.grow (w' := w8.drew) Hnum8.out hgr8 ((Below.refl _ _).drew)
                    have HN9 := Lib.hid (show NumsAt x g off (Sort.swp d1 k l) by rw [hx]; exact h44.swp (by rw [Hsz.out]; exact hkn) (by rw [Hsz.out]; exact hln))
                    have hbut9 : ButS g w x := by
                      rw [hx]
                      exact (((hbut.trans hbut8).trans (butS_below ((Below.refl w8.heap.size w8).drew) g)).trans (butS_set _ _ _ _)).trans (butS_set _ _ _ _)
                    clear hx h44 hJ hall
                    obtain ⟨k1, hk1⟩ : ∃ y, y = k + 1 := ⟨_, rfl⟩
                    have W5 := Lib.hid (wr_nat ((k : Int) + 1) k1 (by omega) (by omega))
                    have Hk1 := Lib.hid hk1
                    clear hk1
                    obtain ⟨w5, w6⟩ := W5.out
                    obtain ⟨w7, w8'⟩ := W7.out
                    simp only [putAct]
                    go_wp2_with fail
                    clear w5 w6 w7 w8'
                    refine ⟨⟨k1, m, Sort.swp d1 k l, by have := Hk1.out; omega, by have := Hk1.out; have := Hm.out; omega, by have := Hm.out; omega, rfl, rfl, HN9.out, by rw [swp_size]; exact Hsz.out, ?_, hbut9⟩, ?_⟩
                    · rw [Hk1.out, ← Heq.out, Hstep.out]
                      congr 1
                      have := Hm.out
                      omega
                    · have := Hk1.out
                      have := Hm.out
                      simp [intOf]
                      omega
                · have Heq7 := Lib.hid ((scanDown_go (p := fun x => lt64 d1[a]! x) (i := k) (j := m) (d := d1) hkm (by show lt64 d1[a]! d1[m + 1]! = true; rw [← Hm.out]; exact Hc2.out.symm)))
                  have Heq7 := Lib.hid (show Sort.scanDown (fun x => lt64 d1[a]! x) d1 k m = Sort.scanDown (fun x => lt64 d1[a]! x) d1 k j by rw [← Heq7.out, ← Hm.out]; exact Heq6.out)
                  obtain ⟨w7, w8'⟩ := W7.out
                  go_wp2_with fail
                  clear w7 w8'
                  go_roundw
                  case rel => exact ⟨m, by have := Hm.out; omega, by omega, rfl, Hnum8.out, Heq7.out, hbut8⟩
                  case measure => have := Hm.out; simp [intOf]; omega
              · have e1 : decide ((k : Int) ≤ (l : Int)) = false := by rw [decide_eq_false_iff_not]; omega
                have e2 : decide (k ≤ l) = false := by rw [decide_eq_false_iff_not]; omega
                have Hs2 := Lib.hid ((scanDown_out (p := fun x => lt64 d1[a]! x) (d := d1) (by omega : l < k)).symm.trans Heq6.out)
                have Hfin := Lib.hid ((partEq_stop Hs.out.symm Hs2.out.symm (by omega)).symm.trans Heq.out)
                go_upto_region 5 with fail
                refine wp_region_grow (by kernel_rfl) (by kernel_rfl) ?_
                repeat (first | go_big_quiet_step (fail) | quiet_step (fail))
                refine wpQuiet_nil ?_
                rintro w8 ⟨⟨_, hb8⟩, rfl⟩
                have Hnum8 := Lib.hid (Hnum6.out.grow hgr6 hb8)
                have hbut8 := hbut6.trans (butS_below hb8 g)
                clear e1 e2
                have e1 : decide ((l : Int) < (k : Int)) = true := by rw [decide_eq_true_iff]; omega
                have e2 : decide (l < k) = true := by rw [decide_eq_true_iff]; omega
                go_wp2_with fail
                have hpost : (Value.int .i64 (k : Int) = Value.int .i64 (R.1 : Int)) ∧ NumsAt w8 g off R.2 ∧ R.2.size = n := by
                  rw [← Hfin.out]
                  exact ⟨rfl, Hnum8.out, Hsz.out⟩
                first
                | refine bodyPost_ret (results_tmp rfl _ _ _) rfl ⟨?_, hpost.2.1, hpost.2.2, hbut.trans hbut8⟩
                  exact congrArg _ hpost.1
                | refine bodyPost_end (results_tmp rfl _ _ _) rfl ⟨?_, hpost.2.1, hpost.2.2, hbut.trans hbut8⟩
                  exact congrArg _ hpost.1
        · have e1 : decide ((k : Int) ≤ (j : Int)) = false := by rw [decide_eq_false_iff_not]; omega
          have e2 : decide (k ≤ j) = false := by rw [decide_eq_false_iff_not]; omega
          have Hs := Lib.hid ((scanUp_out (p := fun x => !lt64 d1[a]! x) (d := d1) (by omega : j < k)).symm.trans Heq2.out)
          go_upto_region 3 with fail
          refine wp_region_grow (by kernel_rfl) (by kernel_rfl) ?_
          repeat (first | go_big_quiet_step (fail) | quiet_step (fail))
          refine wpQuiet_nil ?_
          rintro w4 ⟨⟨_, hb4⟩, rfl⟩
          have Hnum4 := Lib.hid (Hnum2.out.grow hgr hb4)
          have hbut4 := hbut2.trans (butS_below hb4 g)
          clear Heq2 e1 e2
          go_wp2_with fail
          go_loopw [10] (fun t wr => ∃ (l : Nat), l ≤ j ∧ k ≤ l + 2 ∧ t = .int .i64 (l : Int) ∧ NumsAt wr g off d1 ∧ Sort.scanDown (fun x => lt64 d1[a]! x) d1 k l = Sort.scanDown (fun x => lt64 d1[a]! x) d1 k j ∧ ButS g wb wr) (fun t _ => (intOf t).toNat)
          case atStart => exact ⟨j, Nat.le_refl _, hkj, rfl, Hnum4.out, rfl, hbut4⟩
          case round =>
            obtain ⟨l, hlj, hkl, rfl, hnum, heq, hbut6⟩ := hrel
            have Hnum6 := Lib.hid hnum
            have Heq6 := Lib.hid heq
            clear hnum heq
            have hgr6 := Nat.lt_of_lt_of_le hg (Nat.le_trans hbut.2.2.2.1 hbut6.2.2.2.1)
            by_cases hkl2 : k ≤ l
            · obtain ⟨m, hm⟩ : ∃ m, l = m + 1 := ⟨l - 1, by omega⟩
              have hln : l < n := by omega
              have hkn : k < n := by omega
              have W7 := Lib.hid (wr_nat ((l : Int) - 1) m (by omega) (by omega))
              have e1 : decide ((k : Int) ≤ (l : Int)) = true := by rw [decide_eq_true_iff]; omega
              have e2 : decide (k ≤ l) = true := by rw [decide_eq_true_iff]; omega
              have hkm : k ≤ m + 1 := by omega
              have Hm := Lib.hid hm
              have ca := fun y : Ext wr => (Hnum6.out.grow hgr6 y.out a (by rw [Hsz.out]; exact han)).1
              have ck := fun y : Ext wr => (Hnum6.out.grow hgr6 y.out l (by rw [Hsz.out]; exact hln)).1
              obtain ⟨c, hc⟩ : ∃ c, c = lt64 d1[a]! d1[l]! := ⟨_, rfl⟩
              have kl := fun y : Ext wr => less_any d1[a]! d1[l]! y.now
              simp only [← hc] at kl
              have KL := Lib.hid kl
              have Hc2 := Lib.hid hc
              clear kl hc hm
              go_upto_region 5 with fail
              cases c
              all_goals refine wp_region_grow (by kernel_rfl) (by kernel_rfl) ?_
              all_goals repeat (first | go_big_quiet_step ((go_at_call 104; with_reducible exact calls_grow (KL.out _))) | quiet_step ((go_at_call 104; with_reducible exact calls_grow (KL.out _))))
              all_goals refine wpQuiet_nil ?_
              all_goals rintro w8 ⟨⟨_, hb8⟩, rfl⟩
              all_goals have Hnum8 := Lib.hid (Hnum6.out.grow hgr6 hb8)
              all_goals have hbut8 := hbut6.trans (butS_below hb8 g)
              all_goals have hgr8 := Nat.lt_of_lt_of_le hgr6 hb8.size
              all_goals clear ca ck KL e1 e2
              · have Hs2 := Lib.hid ((scanDown_not (p := fun x => lt64 d1[a]! x) (by show lt64 d1[a]! d1[l]! = false; exact Hc2.out.symm)).symm.trans Heq6.out)
                have Hstep := Lib.hid (partEq_go Hs.out.symm Hs2.out.symm hkl2 hik hlj (by have := Hm.out; omega))
                have e1 : decide ((l : Int) < (k : Int)) = false := by rw [decide_eq_false_iff_not]; omega
                have e2 : decide (l < k) = false := by rw [decide_eq_false_iff_not]; omega
                go_upto_region 8 with fail
                clear e1 e2
                refine wp_swap16 65 0 9 10 g off n cap k l (d1[k]!) (d1[l]!) (fun s => match s with | 65 => .slice (some ⟨g, off, none⟩) n cap | 66 => .int .i64 (k : Int) | 67 => .slice (some ⟨g, off, none⟩) n cap | 68 => .int .i64 (l : Int) | 69 => .slice (some ⟨g, off, none⟩) n cap | 70 => .int .i64 (l : Int) | 71 => .pointer (some ⟨g, off + l, none⟩) | 72 => .int .u64 (d1[l]! : Int) | 73 => .slice (some ⟨g, off, none⟩) n cap | 74 => .int .i64 (k : Int) | 75 => .pointer (some ⟨g, off + k, none⟩) | 76 => .int .u64 (d1[k]! : Int) | 77 => .pointer (some ⟨g, off + k, none⟩) | 78 => .pointer (some ⟨g, off + l, none⟩) | _ => undef) 84 [65, 66, 67, 68, 69, 70, 71, 72, 73, 74, 75, 76, 77, 78] (by kernel_rfl) (by kernel_rfl) (by kernel_rfl) (by kernel_rfl) rfl (by kernel_rfl) (by kernel_rfl) (by kernel_rfl) rfl rfl rfl (by first | assumption | omega) (by first | assumption | omega) ⟨rfl, rfl, rfl, rfl, rfl, rfl, rfl, rfl, rfl, rfl, rfl, rfl, rfl, rfl⟩ (Hnum8.out _ (by rw [Hsz.out]; exact hkn)).1 (Hnum8.out _ (by rw [Hsz.out]; exact hkn)).2 (Hnum8.out _ (by rw [Hsz.out]; exact hln)).1 (Hnum8.out _ (by rw [Hsz.out]; exact hln)).2 ?_
                · intro dn x hall hJ
                  have hx := hJ.w2 (hall 15 (by decide))
                  have h44 := NumsAt.grow (w' := w8.drew) Hnum8.out hgr8 ((Below.refl _ _).drew)
                  have HN9 := Lib.hid (show NumsAt x g off (Sort.swp d1 k l) by rw [hx]; exact h44.swp (by rw [Hsz.out]; exact hkn) (by rw [Hsz.out]; exact hln))
                  have hbut9 : ButS g w x := by
                    rw [hx]
                    exact (((hbut.trans hbut8).trans (butS_below ((Below.refl w8.heap.size w8).drew) g)).trans (butS_set _ _ _ _)).trans (butS_set _ _ _ _)
                  clear hx h44 hJ hall
                  obtain ⟨k1, hk1⟩ : ∃ y, y = k + 1 := ⟨_, rfl⟩
                  have W5 := Lib.hid (wr_nat ((k : Int) + 1) k1 (by omega) (by omega))
                  have Hk1 := Lib.hid hk1
                  clear hk1
                  obtain ⟨w5, w6⟩ := W5.out
                  obtain ⟨w7, w8'⟩ := W7.out
                  simp only [putAct]
                  go_wp2_with fail
                  clear w5 w6 w7 w8'
                  refine ⟨⟨k1, m, Sort.swp d1 k l, by have := Hk1.out; omega, by have := Hk1.out; have := Hm.out; omega, by have := Hm.out; omega, rfl, rfl, HN9.out, by rw [swp_size]; exact Hsz.out, ?_, hbut9⟩, ?_⟩
                  · rw [Hk1.out, ← Heq.out, Hstep.out]
                    congr 1
                    have := Hm.out
                    omega
                  · have := Hk1.out
                    have := Hm.out
                    simp [intOf]
                    omega
              · have Heq7 := Lib.hid ((scanDown_go (p := fun x => lt64 d1[a]! x) (i := k) (j := m) (d := d1) hkm (by show lt64 d1[a]! d1[m + 1]! = true; rw [← Hm.out]; exact Hc2.out.symm)))
                have Heq7 := Lib.hid (show Sort.scanDown (fun x => lt64 d1[a]! x) d1 k m = Sort.scanDown (fun x => lt64 d1[a]! x) d1 k j by rw [← Heq7.out, ← Hm.out]; exact Heq6.out)
                obtain ⟨w7, w8'⟩ := W7.out
                go_wp2_with fail
                clear w7 w8'
                go_roundw
                case rel => exact ⟨m, by have := Hm.out; omega, by omega, rfl, Hnum8.out, Heq7.out, hbut8⟩
                case measure => have := Hm.out; simp [intOf]; omega
            · have e1 : decide ((k : Int) ≤ (l : Int)) = false := by rw [decide_eq_false_iff_not]; omega
              have e2 : decide (k ≤ l) = false := by rw [decide_eq_false_iff_not]; omega
              have Hs2 := Lib.hid ((scanDown_out (p := fun x => lt64 d1[a]! x) (d := d1) (by omega : l < k)).symm.trans Heq6.out)
              have Hfin := Lib.hid ((partEq_stop Hs.out.symm Hs2.out.symm (by omega)).symm.trans Heq.out)
              go_upto_region 5 with fail
              refine wp_region_grow (by kernel_rfl) (by kernel_rfl) ?_
              repeat (first | go_big_quiet_step (fail) | quiet_step (fail))
              refine wpQuiet_nil ?_
              rintro w8 ⟨⟨_, hb8⟩, rfl⟩
              have Hnum8 := Lib.hid (Hnum6.out.grow hgr6 hb8)
              have hbut8 := hbut6.trans (butS_below hb8 g)
              clear e1 e2
              have e1 : decide ((l : Int) < (k : Int)) = true := by rw [decide_eq_true_iff]; omega
              have e2 : decide (l < k) = true := by rw [decide_eq_true_iff]; omega
              go_wp2_with fail
              have hpost : (Value.int .i64 (k : Int) = Value.int .i64 (R.1 : Int)) ∧ NumsAt w8 g off R.2 ∧ R.2.size = n := by
                rw [← Hfin.out]
                exact ⟨rfl, Hnum8.out, Hsz.out⟩
              first
              | refine bodyPost_ret (results_tmp rfl _ _ _) rfl ⟨?_, hpost.2.1, hpost.2.2, hbut.trans hbut8⟩
                exact congrArg _ hpost.1
              | refine bodyPost_end (results_tmp rfl _ _ _) rfl ⟨?_, hpost.2.1, hpost.2.2, hbut.trans hbut8⟩
                exact congrArg _ hpost.1
end Go.Proofs.YtdmbmkjiffhbcaaGreat

namespace Go.Proofs.YtdmbmkjiffhbcaaGreat
open Go.RowKit
set_option maxRecDepth 100000

theorem part_stop {a b pv k l : Nat} {d d0 : Array Nat} (hd : d0 = Sort.swp d a pv) (h1 : Sort.scanUp (fun x => lt64 x d0[a]!) d0 (b - 1) (a + 1) = k) (h2 : Sort.scanDown (fun x => !lt64 x d0[a]!) d0 k (b - 1) = l) (h : l < k) : Sort.partition lt64 d a b pv = (l, true, Sort.swp d0 l a) := by
  unfold Sort.partition
  subst hd
  simp only [h1, h2]
  rw [if_pos h]
theorem part_go {a b pv k l : Nat} {d d0 : Array Nat} (hd : d0 = Sort.swp d a pv) (h1 : Sort.scanUp (fun x => lt64 x d0[a]!) d0 (b - 1) (a + 1) = k) (h2 : Sort.scanDown (fun x => !lt64 x d0[a]!) d0 k (b - 1) = l) (h : k ≤ l) :
    Sort.partition lt64 d a b pv = ((Sort.partLoop lt64 a (k + 1) (l - 1) (Sort.swp d0 k l)).1, false, Sort.swp (Sort.partLoop lt64 a (k + 1) (l - 1) (Sort.swp d0 k l)).2 (Sort.partLoop lt64 a (k + 1) (l - 1) (Sort.swp d0 k l)).1 a) := by
  unfold Sort.partition
  subst hd
  simp only [h1, h2]
  rw [if_neg (by omega)]
theorem partL_stop {a i j k l : Nat} {d : Array Nat} (h1 : Sort.scanUp (fun x => lt64 x d[a]!) d j i = k) (h2 : Sort.scanDown (fun x => !lt64 x d[a]!) d k j = l) (h : l < k) : Sort.partLoop lt64 a i j d = (l, d) := by
  rw [Sort.partLoop]
  simp only [h1, h2]
  rw [if_pos h]
theorem partL_go {a i j k l : Nat} {d : Array Nat} (h1 : Sort.scanUp (fun x => lt64 x d[a]!) d j i = k) (h2 : Sort.scanDown (fun x => !lt64 x d[a]!) d k j = l) (h : k ≤ l) (hi : i ≤ k) (hl : l ≤ j) (hl1 : 1 ≤ l) :
    Sort.partLoop lt64 a i j d = Sort.partLoop lt64 a (k + 1) (l - 1) (Sort.swp d k l) := by
  conv => lhs; rw [Sort.partLoop]
  simp only [h1, h2]
  rw [if_neg (by omega), dif_pos (by omega)]

set_option maxHeartbeats 16000000 in
theorem part_any (g off cap n a b pv : Nat) (d : Array Nat) (w : World) (h : NumsAt w g off d) (hn : n = d.size) (hb : b ≤ n) (hab : a + 2 ≤ b) (hpn : pv < n) (hn2 : n ≤ 1152921504606846976) (hg : g < w.heap.size) :
    Calls Tryz.prog 106 #[.slice (some ⟨g, off, none⟩) n cap, .int .i64 (a : Int), .int .i64 (b : Int), .int .i64 (pv : Int)] w fun e w' => e = .returned (.tuple #[.int .i64 ((Sort.partition lt64 d a b pv).1 : Int), .bool (Sort.partition lt64 d a b pv).2.1]) ∧ NumsAt w' g off (Sort.partition lt64 d a b pv).2.2 ∧ (Sort.partition lt64 d a b pv).2.2.size = n ∧ ButS g w w' := by
  obtain ⟨R, hR⟩ : ∃ R, R = Sort.partition lt64 d a b pv := ⟨_, rfl⟩
  rw [← hR]
  obtain ⟨d0, hd0⟩ : ∃ y, y = Sort.swp d a pv := ⟨_, rfl⟩
  obtain ⟨a1, ha1⟩ : ∃ y, y = a + 1 := ⟨_, rfl⟩
  obtain ⟨b1, hb1⟩ : ∃ y, y = b - 1 := ⟨_, rfl⟩
  have hsz0 : d0.size = n := by rw [hd0, swp_size, hn]
  have han : a < n := by omega
  have W1 := Lib.hid (wr_nat ((a : Int) + 1) a1 (by omega) (by omega))
  have W3 := Lib.hid (wr_nat ((b : Int) - 1) b1 (by omega) (by omega))
  have hi1A : a + 1 ≤ a1 := by omega
  have hijA : a1 ≤ b1 + 2 := by omega
  have hjnA : b1 < n := by omega
  have Hd0 := Lib.hid hd0
  have HszA := Lib.hid hsz0
  have HR := Lib.hid hR
  have Hn := Lib.hid hn
  have H := Lib.hid h
  have Ha1 := Lib.hid ha1
  have Hb1 := Lib.hid hb1
  clear hd0 hsz0 hR hn h ha1 hb1
  go_enter Tryz.func106, Tryz.ntmps106
  go_upto_region 1 with fail
  refine wp_swap16 12 0 1 3 g off n cap a pv (d[a]!) (d[pv]!) (fun s => match s with | 12 => .slice (some ⟨g, off, none⟩) n cap | 13 => .int .i64 (a : Int) | 14 => .slice (some ⟨g, off, none⟩) n cap | 15 => .int .i64 (pv : Int) | 16 => .slice (some ⟨g, off, none⟩) n cap | 17 => .int .i64 (pv : Int) | 18 => .pointer (some ⟨g, off + pv, none⟩) | 19 => .int .u64 (d[pv]! : Int) | 20 => .slice (some ⟨g, off, none⟩) n cap | 21 => .int .i64 (a : Int) | 22 => .pointer (some ⟨g, off + a, none⟩) | 23 => .int .u64 (d[a]! : Int) | 24 => .pointer (some ⟨g, off + a, none⟩) | 25 => .pointer (some ⟨g, off + pv, none⟩) | _ => undef) 168 [12, 13, 14, 15, 16, 17, 18, 19, 20, 21, 22, 23, 24, 25] (by kernel_rfl) (by kernel_rfl) (by kernel_rfl) (by kernel_rfl) rfl (by kernel_rfl) (by kernel_rfl) (by kernel_rfl) rfl rfl rfl (by first | assumption | omega) (by first | assumption | omega) ⟨rfl, rfl, rfl, rfl, rfl, rfl, rfl, rfl, rfl, rfl, rfl, rfl, rfl, rfl⟩ (H.out _ (by rw [← Hn.out]; exact han)).1 (H.out _ (by rw [← Hn.out]; exact han)).2 (H.out _ (by rw [← Hn.out]; exact hpn)).1 (H.out _ (by rw [← Hn.out]; exact hpn)).2 ?_
  · intro dn x hall hJ
    have hx := hJ.w2 (hall 15 (by decide))
    have h44 := NumsAt.grow (w' := w.drew) H.out hg ((Below.refl _ _).drew)
    have HBA := Lib.hid (show NumsAt x g off d0 by rw [hx, Hd0.out]; exact h44.swp (by rw [← Hn.out]; exact han) (by rw [← Hn.out]; exact hpn))
    have hBA : ButS g w x := by
      rw [hx]
      exact ((butS_below ((Below.refl w.heap.size w).drew) g).trans (butS_set _ _ _ _)).trans (butS_set _ _ _ _)
    clear hx h44 hJ hall
    obtain ⟨wbA, hwb⟩ : ∃ y, y = x := ⟨x, rfl⟩
    subst hwb
    simp only [putAct]
    obtain ⟨w1, w2⟩ := W1.out
    obtain ⟨w3, w4⟩ := W3.out
    go_wp2_with fail
    clear w1 w2 w3 w4
    go_loopw [10] (fun t wr => ∃ (k : Nat), a1 ≤ k ∧ k ≤ b1 + 2 ∧ t = .int .i64 (k : Int) ∧ NumsAt wr g off d0 ∧ Sort.scanUp (fun x => lt64 x d0[a]!) d0 b1 k = Sort.scanUp (fun x => lt64 x d0[a]!) d0 b1 a1 ∧ ButS g wbA wr) (fun t _ => n + 3 - (intOf t).toNat)
    case atStart => exact ⟨a1, Nat.le_refl _, hijA, rfl, HBA.out, rfl, ButS.refl _ _⟩
    case round =>
      obtain ⟨kA, hikA, hkjA, rfl, hnum, heq, hbut2⟩ := hrel
      have Hnum2 := Lib.hid hnum
      have Heq2 := Lib.hid heq
      clear hnum heq
      have hgr := Nat.lt_of_lt_of_le hg (Nat.le_trans hBA.2.2.2.1 hbut2.2.2.2.1)
      by_cases hkj2 : kA ≤ b1
      · have hkn : kA < n := by omega
        obtain ⟨k1, hk1⟩ : ∃ y, y = kA + 1 := ⟨_, rfl⟩
        have W5 := Lib.hid (wr_nat ((kA : Int) + 1) k1 (by omega) (by omega))
        have Hk1 := Lib.hid hk1
        have e1 : decide ((kA : Int) ≤ (b1 : Int)) = true := by rw [decide_eq_true_iff]; omega
        have e2 : decide (kA ≤ b1) = true := by rw [decide_eq_true_iff]; omega
        have ca := fun y : Ext wr => (Hnum2.out.grow hgr y.out a (by rw [HszA.out]; exact han)).1
        have ck := fun y : Ext wr => (Hnum2.out.grow hgr y.out kA (by rw [HszA.out]; exact hkn)).1
        obtain ⟨c, hc⟩ : ∃ c, c = lt64 d0[kA]! d0[a]! := ⟨_, rfl⟩
        have kl := fun y : Ext wr => less_any d0[kA]! d0[a]! y.now
        simp only [← hc] at kl
        have KL := Lib.hid kl
        have Hc := Lib.hid hc
        clear kl hc hk1
        go_upto_region 3 with fail
        cases c
        all_goals refine wp_region_grow (by kernel_rfl) (by kernel_rfl) ?_
        all_goals repeat (first | go_big_quiet_step ((go_at_call 104; with_reducible exact calls_grow (KL.out _))) | quiet_step ((go_at_call 104; with_reducible exact calls_grow (KL.out _))))
        all_goals refine wpQuiet_nil ?_
        all_goals rintro w4 ⟨⟨_, hb4⟩, rfl⟩
        all_goals have Hnum4A := Lib.hid (Hnum2.out.grow hgr hb4)
        all_goals have hbut4A := hbut2.trans (butS_below hb4 g)
        all_goals clear ca ck KL e1 e2
        · have HsA := Lib.hid ((scanUp_not (p := (fun x => lt64 x d0[a]!)) (by show lt64 d0[kA]! d0[a]! = false; exact Hc.out.symm)).symm.trans Heq2.out)
          clear Heq2 W5 Hk1 hkn hkj2
          go_wp2_with fail
          go_loopw [11] (fun t wr => ∃ (l : Nat), l ≤ b1 ∧ kA ≤ l + 2 ∧ t = .int .i64 (l : Int) ∧ NumsAt wr g off d0 ∧ Sort.scanDown (fun x => !lt64 x d0[a]!) d0 kA l = Sort.scanDown (fun x => !lt64 x d0[a]!) d0 kA b1 ∧ ButS g wbA wr) (fun t _ => (intOf t).toNat)
          case atStart => exact ⟨b1, Nat.le_refl _, hkjA, rfl, Hnum4A.out, rfl, hbut4A⟩
          case round =>
            obtain ⟨lA, hljA, hklA, rfl, hnum, heq, hbut6⟩ := hrel
            have Hnum6 := Lib.hid hnum
            have Heq6 := Lib.hid heq
            clear hnum heq
            have hgr6 := Nat.lt_of_lt_of_le hg (Nat.le_trans hBA.2.2.2.1 hbut6.2.2.2.1)
            by_cases hkl2A : kA ≤ lA
            · obtain ⟨mA, hm⟩ : ∃ m, lA = m + 1 := ⟨lA - 1, by omega⟩
              have hlnA : lA < n := by omega
              have hknA : kA < n := by omega
              have W7A := Lib.hid (wr_nat ((lA : Int) - 1) mA (by omega) (by omega))
              have e1 : decide ((kA : Int) ≤ (lA : Int)) = true := by rw [decide_eq_true_iff]; omega
              have e2 : decide (kA ≤ lA) = true := by rw [decide_eq_true_iff]; omega
              have hkm : kA ≤ mA + 1 := by omega
              have HmA := Lib.hid hm
              have ca := fun y : Ext wr => (Hnum6.out.grow hgr6 y.out a (by rw [HszA.out]; exact han)).1
              have ck := fun y : Ext wr => (Hnum6.out.grow hgr6 y.out lA (by rw [HszA.out]; exact hlnA)).1
              obtain ⟨c, hc⟩ : ∃ c, c = lt64 d0[lA]! d0[a]! := ⟨_, rfl⟩
              have kl := fun y : Ext wr => less_any d0[lA]! d0[a]! y.now
              simp only [← hc] at kl
              have KL := Lib.hid kl
              have Hc2 := Lib.hid hc
              clear kl hc hm
              go_upto_region 5 with fail
              cases c
              all_goals refine wp_region_grow (by kernel_rfl) (by kernel_rfl) ?_
              all_goals repeat (first | go_big_quiet_step ((go_at_call 104; with_reducible exact calls_grow (KL.out _))) | quiet_step ((go_at_call 104; with_reducible exact calls_grow (KL.out _))))
              all_goals refine wpQuiet_nil ?_
              all_goals rintro w8A ⟨⟨_, hb8⟩, rfl⟩
              all_goals have Hnum8A := Lib.hid (Hnum6.out.grow hgr6 hb8)
              all_goals have hbut8A := hbut6.trans (butS_below hb8 g)
              all_goals have hgr8A := Nat.lt_of_lt_of_le hgr6 hb8.size
              all_goals clear ca ck KL e1 e2
              · have Heq7 := Lib.hid ((scanDown_go (p := (fun x => !lt64 x d0[a]!)) (i := kA) (j := mA) (d := d0) hkm (by show (!lt64 d0[mA + 1]! d0[a]!) = true; rw [← HmA.out, ← Hc2.out]; rfl)))
                have Heq7 := Lib.hid (show Sort.scanDown (fun x => !lt64 x d0[a]!) d0 kA mA = Sort.scanDown (fun x => !lt64 x d0[a]!) d0 kA b1 by rw [← Heq7.out, ← HmA.out]; exact Heq6.out)
                obtain ⟨w7, w8'⟩ := W7A.out
                go_wp2_with fail
                clear w7 w8'
                go_roundw
                case rel => exact ⟨mA, by have := HmA.out; omega, by omega, rfl, Hnum8A.out, Heq7.out, hbut8A⟩
                case measure => have := HmA.out; simp [intOf]; omega
              · have Hs2A := Lib.hid ((scanDown_not (p := (fun x => !lt64 x d0[a]!)) (by show (!lt64 d0[lA]! d0[a]!) = false; rw [← Hc2.out]; rfl)).symm.trans Heq6.out)
                clear Heq6
                have e1 : decide ((lA : Int) < (kA : Int)) = false := by rw [decide_eq_false_iff_not]; omega
                have e2 : decide (lA < kA) = false := by rw [decide_eq_false_iff_not]; omega
                obtain ⟨R2, hR2⟩ : ∃ y, y = Sort.partLoop lt64 a (kA + 1) (lA - 1) (Sort.swp d0 kA lA) := ⟨_, rfl⟩
                have hfin := HR.out.trans (part_go Hd0.out (by rw [← Hb1.out, ← Ha1.out]; exact HsA.out.symm) (by rw [← Hb1.out]; exact Hs2A.out.symm) hkl2A)
                rw [← hR2] at hfin
                have HR2 := Lib.hid hfin
                have HR3 := Lib.hid hR2
                clear hfin hR2
                go_upto_region 10 with fail
                clear e1 e2
                refine wp_swap16 81 0 10 11 g off n cap kA lA (d0[kA]!) (d0[lA]!) (fun s => match s with | 81 => .slice (some ⟨g, off, none⟩) n cap | 82 => .int .i64 (kA : Int) | 83 => .slice (some ⟨g, off, none⟩) n cap | 84 => .int .i64 (lA : Int) | 85 => .slice (some ⟨g, off, none⟩) n cap | 86 => .int .i64 (lA : Int) | 87 => .pointer (some ⟨g, off + lA, none⟩) | 88 => .int .u64 (d0[lA]! : Int) | 89 => .slice (some ⟨g, off, none⟩) n cap | 90 => .int .i64 (kA : Int) | 91 => .pointer (some ⟨g, off + kA, none⟩) | 92 => .int .u64 (d0[kA]! : Int) | 93 => .pointer (some ⟨g, off + kA, none⟩) | 94 => .pointer (some ⟨g, off + lA, none⟩) | _ => undef) 168 [81, 82, 83, 84, 85, 86, 87, 88, 89, 90, 91, 92, 93, 94] (by kernel_rfl) (by kernel_rfl) (by kernel_rfl) (by kernel_rfl) rfl (by kernel_rfl) (by kernel_rfl) (by kernel_rfl) rfl rfl rfl (by first | assumption | omega) (by first | assumption | omega) ⟨rfl, rfl, rfl, rfl, rfl, rfl, rfl, rfl, rfl, rfl, rfl, rfl, rfl, rfl⟩ (Hnum8A.out _ (by rw [HszA.out]; exact hknA)).1 (Hnum8A.out _ (by rw [HszA.out]; exact hknA)).2 (Hnum8A.out _ (by rw [HszA.out]; exact hlnA)).1 (Hnum8A.out _ (by rw [HszA.out]; exact hlnA)).2 ?_
                · intro dn x hall hJ
                  have hx := hJ.w2 (hall 15 (by decide))
                  have h44 := NumsAt.grow (w' := w8A.drew) Hnum8A.out hgr8A ((Below.refl _ _).drew)
                  have HN9 := Lib.hid (show NumsAt x g off (Sort.swp d0 kA lA) by rw [hx]; exact h44.swp (by rw [HszA.out]; exact hknA) (by rw [HszA.out]; exact hlnA))
                  have hbut9 : ButS g w x := by
                    rw [hx]
                    exact (((hBA.trans hbut8A).trans (butS_below ((Below.refl w8A.heap.size w8A).drew) g)).trans (butS_set _ _ _ _)).trans (butS_set _ _ _ _)
                  clear hx h44 hJ hall
                  obtain ⟨k2, hk2⟩ : ∃ y, y = kA + 1 := ⟨_, rfl⟩
                  have W5 := Lib.hid (wr_nat ((kA : Int) + 1) k2 (by omega) (by omega))
                  have hst : a + 1 ≤ k2 ∧ k2 ≤ mA + 2 ∧ mA < n := by have := HmA.out; omega
                  have Hst := Lib.hid hst
                  have HR3 := Lib.hid (show Sort.partLoop lt64 a k2 mA (Sort.swp d0 kA lA) = R2 by rw [HR3.out, hk2]; congr 1; have := HmA.out; omega)
                  clear hk2 hst
                  obtain ⟨w5, w6⟩ := W5.out
                  obtain ⟨w7, w8'⟩ := W7A.out
                  simp only [putAct]
                  go_wp2_with fail
                  clear w5 w6 w7 w8'
                  go_loopw [10, 11] (fun t u wr => ∃ (i j : Nat) (d1 : Array Nat), a + 1 ≤ i ∧ i ≤ j + 2 ∧ j < n ∧ t = .int .i64 (i : Int) ∧ u = .int .i64 (j : Int) ∧ NumsAt wr g off d1 ∧ d1.size = n ∧ Sort.partLoop lt64 a i j d1 = R2 ∧ ButS g w wr) (fun t u _ => (intOf u + 1 - intOf t).toNat)
                  case atStart => exact ⟨k2, mA, _, Hst.out.1, Hst.out.2.1, Hst.out.2.2, rfl, rfl, HN9.out, by rw [swp_size]; exact HszA.out, HR3.out, hbut9⟩
                  case round =>
                    obtain ⟨i, j, d1, hi1B, hijB, hjnB, rfl, rfl, hnum, hsz, heq, hBB⟩ := hrel
                    have HBB := Lib.hid hnum
                    have HszB := Lib.hid hsz
                    have HeqB := Lib.hid heq
                    clear hnum hsz heq
                    obtain ⟨wbB, hwb⟩ : ∃ x, x = wr := ⟨wr, rfl⟩
                    subst hwb
                    go_wp2_with fail
                    go_loopw [10] (fun t wr => ∃ (k : Nat), i ≤ k ∧ k ≤ j + 2 ∧ t = .int .i64 (k : Int) ∧ NumsAt wr g off d1 ∧ Sort.scanUp (fun x => lt64 x d1[a]!) d1 j k = Sort.scanUp (fun x => lt64 x d1[a]!) d1 j i ∧ ButS g wbB wr) (fun t _ => n + 3 - (intOf t).toNat)
                    case atStart => exact ⟨i, Nat.le_refl _, hijB, rfl, HBB.out, rfl, ButS.refl _ _⟩
                    case round =>
                      obtain ⟨kB, hikB, hkjB, rfl, hnum, heq, hbut2⟩ := hrel
                      have Hnum2 := Lib.hid hnum
                      have Heq2 := Lib.hid heq
                      clear hnum heq
                      have hgr := Nat.lt_of_lt_of_le hg (Nat.le_trans hBB.2.2.2.1 hbut2.2.2.2.1)
                      by_cases hkj2 : kB ≤ j
                      · have hkn : kB < n := by omega
                        obtain ⟨k1, hk1⟩ : ∃ y, y = kB + 1 := ⟨_, rfl⟩
                        have W5 := Lib.hid (wr_nat ((kB : Int) + 1) k1 (by omega) (by omega))
                        have Hk1 := Lib.hid hk1
                        have e1 : decide ((kB : Int) ≤ (j : Int)) = true := by rw [decide_eq_true_iff]; omega
                        have e2 : decide (kB ≤ j) = true := by rw [decide_eq_true_iff]; omega
                        have ca := fun y : Ext wr => (Hnum2.out.grow hgr y.out a (by rw [HszB.out]; exact han)).1
                        have ck := fun y : Ext wr => (Hnum2.out.grow hgr y.out kB (by rw [HszB.out]; exact hkn)).1
                        obtain ⟨c, hc⟩ : ∃ c, c = lt64 d1[kB]! d1[a]! := ⟨_, rfl⟩
                        have kl := fun y : Ext wr => less_any d1[kB]! d1[a]! y.now
                        simp only [← hc] at kl
                        have KL := Lib.hid kl
                        have Hc := Lib.hid hc
                        clear kl hc hk1
                        go_upto_region 13 with fail
                        cases c
                        all_goals refine wp_region_grow (by kernel_rfl) (by kernel_rfl) ?_
                        all_goals repeat (first | go_big_quiet_step ((go_at_call 104; with_reducible exact calls_grow (KL.out _))) | quiet_step ((go_at_call 104; with_reducible exact calls_grow (KL.out _))))
                        all_goals refine wpQuiet_nil ?_
                        all_goals rintro w4 ⟨⟨_, hb4⟩, rfl⟩
                        all_goals have Hnum4B := Lib.hid (Hnum2.out.grow hgr hb4)
                        all_goals have hbut4B := hbut2.trans (butS_below hb4 g)
                        all_goals clear ca ck KL e1 e2
                        · have HsB := Lib.hid ((scanUp_not (p := (fun x => lt64 x d1[a]!)) (by show lt64 d1[kB]! d1[a]! = false; exact Hc.out.symm)).symm.trans Heq2.out)
                          clear Heq2 W5 Hk1 hkn hkj2
                          go_wp2_with fail
                          go_loopw [11] (fun t wr => ∃ (l : Nat), l ≤ j ∧ kB ≤ l + 2 ∧ t = .int .i64 (l : Int) ∧ NumsAt wr g off d1 ∧ Sort.scanDown (fun x => !lt64 x d1[a]!) d1 kB l = Sort.scanDown (fun x => !lt64 x d1[a]!) d1 kB j ∧ ButS g wbB wr) (fun t _ => (intOf t).toNat)
                          case atStart => exact ⟨j, Nat.le_refl _, hkjB, rfl, Hnum4B.out, rfl, hbut4B⟩
                          case round =>
                            obtain ⟨lB, hljB, hklB, rfl, hnum, heq, hbut6⟩ := hrel
                            have Hnum6 := Lib.hid hnum
                            have Heq6 := Lib.hid heq
                            clear hnum heq
                            have hgr6 := Nat.lt_of_lt_of_le hg (Nat.le_trans hBB.2.2.2.1 hbut6.2.2.2.1)
                            by_cases hkl2B : kB ≤ lB
                            · obtain ⟨mB, hm⟩ : ∃ m, lB = m + 1 := ⟨lB - 1, by omega⟩
                              have hlnB : lB < n := by omega
                              have hknB : kB < n := by omega
                              have W7B := Lib.hid (wr_nat ((lB : Int) - 1) mB (by omega) (by omega))
                              have e1 : decide ((kB : Int) ≤ (lB : Int)) = true := by rw [decide_eq_true_iff]; omega
                              have e2 : decide (kB ≤ lB) = true := by rw [decide_eq_true_iff]; omega
                              have hkm : kB ≤ mB + 1 := by omega
                              have HmB := Lib.hid hm
                              have ca := fun y : Ext wr => (Hnum6.out.grow hgr6 y.out a (by rw [HszB.out]; exact han)).1
                              have ck := fun y : Ext wr => (Hnum6.out.grow hgr6 y.out lB (by rw [HszB.out]; exact hlnB)).1
                              obtain ⟨c, hc⟩ : ∃ c, c = lt64 d1[lB]! d1[a]! := ⟨_, rfl⟩
                              have kl := fun y : Ext wr => less_any d1[lB]! d1[a]! y.now
                              simp only [← hc] at kl
                              have KL := Lib.hid kl
                              have Hc2 := Lib.hid hc
                              clear kl hc hm
                              go_upto_region 15 with fail
                              cases c
                              all_goals refine wp_region_grow (by kernel_rfl) (by kernel_rfl) ?_
                              all_goals repeat (first | go_big_quiet_step ((go_at_call 104; with_reducible exact calls_grow (KL.out _))) | quiet_step ((go_at_call 104; with_reducible exact calls_grow (KL.out _))))
                              all_goals refine wpQuiet_nil ?_
                              all_goals rintro w8B ⟨⟨_, hb8⟩, rfl⟩
                              all_goals have Hnum8B := Lib.hid (Hnum6.out.grow hgr6 hb8)
                              all_goals have hbut8B := hbut6.trans (butS_below hb8 g)
                              all_goals have hgr8B := Nat.lt_of_lt_of_le hgr6 hb8.size
                              all_goals clear ca ck KL e1 e2
                              · have Heq7 := Lib.hid ((scanDown_go (p := (fun x => !lt64 x d1[a]!)) (i := kB) (j := mB) (d := d1) hkm (by show (!lt64 d1[mB + 1]! d1[a]!) = true; rw [← HmB.out, ← Hc2.out]; rfl)))
                                have Heq7 := Lib.hid (show Sort.scanDown (fun x => !lt64 x d1[a]!) d1 kB mB = Sort.scanDown (fun x => !lt64 x d1[a]!) d1 kB j by rw [← Heq7.out, ← HmB.out]; exact Heq6.out)
                                obtain ⟨w7, w8'⟩ := W7B.out
                                go_wp2_with fail
                                clear w7 w8'
                                go_roundw
                                case rel => exact ⟨mB, by have := HmB.out; omega, by omega, rfl, Hnum8B.out, Heq7.out, hbut8B⟩
                                case measure => have := HmB.out; simp [intOf]; omega
                              · have Hs2B := Lib.hid ((scanDown_not (p := (fun x => !lt64 x d1[a]!)) (by show (!lt64 d1[lB]! d1[a]!) = false; rw [← Hc2.out]; rfl)).symm.trans Heq6.out)
                                clear Heq6
                                have e1 : decide ((lB : Int) < (kB : Int)) = false := by rw [decide_eq_false_iff_not]; omega
                                have e2 : decide (lB < kB) = false := by rw [decide_eq_false_iff_not]; omega
                                have Hstep := Lib.hid (partL_go HsB.out.symm Hs2B.out.symm hkl2B hikB hljB (by have := HmB.out; omega))
                                go_upto_region 18 with fail
                                clear e1 e2
                                refine wp_swap16 135 0 10 11 g off n cap kB lB (d1[kB]!) (d1[lB]!) (fun s => match s with | 135 => .slice (some ⟨g, off, none⟩) n cap | 136 => .int .i64 (kB : Int) | 137 => .slice (some ⟨g, off, none⟩) n cap | 138 => .int .i64 (lB : Int) | 139 => .slice (some ⟨g, off, none⟩) n cap | 140 => .int .i64 (lB : Int) | 141 => .pointer (some ⟨g, off + lB, none⟩) | 142 => .int .u64 (d1[lB]! : Int) | 143 => .slice (some ⟨g, off, none⟩) n cap | 144 => .int .i64 (kB : Int) | 145 => .pointer (some ⟨g, off + kB, none⟩) | 146 => .int .u64 (d1[kB]! : Int) | 147 => .pointer (some ⟨g, off + kB, none⟩) | 148 => .pointer (some ⟨g, off + lB, none⟩) | _ => undef) 168 [135, 136, 137, 138, 139, 140, 141, 142, 143, 144, 145, 146, 147, 148] (by kernel_rfl) (by kernel_rfl) (by kernel_rfl) (by kernel_rfl) rfl (by kernel_rfl) (by kernel_rfl) (by kernel_rfl) rfl rfl rfl (by first | assumption | omega) (by first | assumption | omega) ⟨rfl, rfl, rfl, rfl, rfl, rfl, rfl, rfl, rfl, rfl, rfl, rfl, rfl, rfl⟩ (Hnum8B.out _ (by rw [HszB.out]; exact hknB)).1 (Hnum8B.out _ (by rw [HszB.out]; exact hknB)).2 (Hnum8B.out _ (by rw [HszB.out]; exact hlnB)).1 (Hnum8B.out _ (by rw [HszB.out]; exact hlnB)).2 ?_
                                · intro dn x hall hJ
                                  have hx := hJ.w2 (hall 15 (by decide))
                                  have h44 := NumsAt.grow (w' := w8B.drew) Hnum8B.out hgr8B ((Below.refl _ _).drew)
                                  have HN9 := Lib.hid (show NumsAt x g off (Sort.swp d1 kB lB) by rw [hx]; exact h44.swp (by rw [HszB.out]; exact hknB) (by rw [HszB.out]; exact hlnB))
                                  have hbut9 : ButS g w x := by
                                    rw [hx]
                                    exact (((hBB.trans hbut8B).trans (butS_below ((Below.refl w8B.heap.size w8B).drew) g)).trans (butS_set _ _ _ _)).trans (butS_set _ _ _ _)
                                  clear hx h44 hJ hall
                                  obtain ⟨k1, hk1⟩ : ∃ y, y = kB + 1 := ⟨_, rfl⟩
                                  have W5 := Lib.hid (wr_nat ((kB : Int) + 1) k1 (by omega) (by omega))
                                  have Hk1 := Lib.hid hk1
                                  clear hk1
                                  obtain ⟨w5, w6⟩ := W5.out
                                  obtain ⟨w7, w8'⟩ := W7B.out
                                  simp only [putAct]
                                  go_wp2_with fail
                                  clear w5 w6 w7 w8'
                                  refine ⟨⟨k1, mB, Sort.swp d1 kB lB, by have := Hk1.out; omega, by have := Hk1.out; have := HmB.out; omega, by have := HmB.out; omega, rfl, rfl, HN9.out, by rw [swp_size]; exact HszB.out, ?_, hbut9⟩, ?_⟩
                                  · rw [Hk1.out, ← HeqB.out, Hstep.out]
                                    congr 1
                                    have := HmB.out
                                    omega
                                  · have := Hk1.out
                                    have := HmB.out
                                    simp [intOf]
                                    omega
                            · have e1 : decide ((kB : Int) ≤ (lB : Int)) = false := by rw [decide_eq_false_iff_not]; omega
                              have e2 : decide (kB ≤ lB) = false := by rw [decide_eq_false_iff_not]; omega
                              have hlnB : lB < n := by omega
                              have hlkB : lB < kB := by omega
                              have Hs2B := Lib.hid ((scanDown_out (p := (fun x => !lt64 x d1[a]!)) (d := d1) hlkB).symm.trans Heq6.out)
                              clear Heq6
                              go_upto_region 15 with fail
                              refine wp_region_grow (by kernel_rfl) (by kernel_rfl) ?_
                              repeat (first | go_big_quiet_step (fail) | quiet_step (fail))
                              refine wpQuiet_nil ?_
                              rintro w8B ⟨⟨_, hb8⟩, rfl⟩
                              have Hnum8B := Lib.hid (Hnum6.out.grow hgr6 hb8)
                              have hbut8B := hbut6.trans (butS_below hb8 g)
                              have hgr8B := Nat.lt_of_lt_of_le hgr6 hb8.size
                              clear e1 e2
                              have e1 : decide ((lB : Int) < (kB : Int)) = true := by rw [decide_eq_true_iff]; omega
                              have e2 : decide (lB < kB) = true := by rw [decide_eq_true_iff]; omega
                              go_upto_region 21 with fail
                              clear e1 e2
                              refine wp_swap16 153 0 11 1 g off n cap lB a (d1[lB]!) (d1[a]!) (fun s => match s with | 153 => .slice (some ⟨g, off, none⟩) n cap | 154 => .int .i64 (lB : Int) | 155 => .slice (some ⟨g, off, none⟩) n cap | 156 => .int .i64 (a : Int) | 157 => .slice (some ⟨g, off, none⟩) n cap | 158 => .int .i64 (a : Int) | 159 => .pointer (some ⟨g, off + a, none⟩) | 160 => .int .u64 (d1[a]! : Int) | 161 => .slice (some ⟨g, off, none⟩) n cap | 162 => .int .i64 (lB : Int) | 163 => .pointer (some ⟨g, off + lB, none⟩) | 164 => .int .u64 (d1[lB]! : Int) | 165 => .pointer (some ⟨g, off + lB, none⟩) | 166 => .pointer (some ⟨g, off + a, none⟩) | _ => undef) 168 [153, 154, 155, 156, 157, 158, 159, 160, 161, 162, 163, 164, 165, 166] (by kernel_rfl) (by kernel_rfl) (by kernel_rfl) (by kernel_rfl) rfl (by kernel_rfl) (by kernel_rfl) (by kernel_rfl) rfl rfl rfl (by first | assumption | omega) (by first | assumption | omega) ⟨rfl, rfl, rfl, rfl, rfl, rfl, rfl, rfl, rfl, rfl, rfl, rfl, rfl, rfl⟩ (Hnum8B.out _ (by rw [HszB.out]; exact hlnB)).1 (Hnum8B.out _ (by rw [HszB.out]; exact hlnB)).2 (Hnum8B.out _ (by rw [HszB.out]; exact han)).1 (Hnum8B.out _ (by rw [HszB.out]; exact han)).2 ?_
                              · intro dn x hall hJ
                                have hx := hJ.w2 (hall 15 (by decide))
                                have h44 := NumsAt.grow (w' := w8B.drew) Hnum8B.out hgr8B ((Below.refl _ _).drew)
                                have HN9 := Lib.hid (show NumsAt x g off (Sort.swp d1 lB a) by rw [hx]; exact h44.swp (by rw [HszB.out]; exact hlnB) (by rw [HszB.out]; exact han))
                                have hbut9 : ButS g w x := by
                                  rw [hx]
                                  exact (((hBB.trans hbut8B).trans (butS_below ((Below.refl w8B.heap.size w8B).drew) g)).trans (butS_set _ _ _ _)).trans (butS_set _ _ _ _)
                                clear hx h44 hJ hall
                                have Hfin := Lib.hid ((partL_stop HsB.out.symm Hs2B.out.symm hlkB).symm.trans HeqB.out)
                                have Hfin := Lib.hid (show R = (lB, false, Sort.swp d1 lB a) by rw [HR2.out, ← Hfin.out])
                                simp only [putAct]
                                go_wp2_with fail
                                rw [Hfin.out]
                                first
                                | exact bodyPost_ret (results_tmp2 rfl _ _ _) rfl ⟨rfl, HN9.out, by rw [swp_size]; exact HszB.out, hbut9⟩
                                | exact bodyPost_end (results_tmp2 rfl _ _ _) rfl ⟨rfl, HN9.out, by rw [swp_size]; exact HszB.out, hbut9⟩
                        · have Heq3 := Lib.hid ((scanUp_go (p := (fun x => lt64 x d1[a]!)) hkj2 (by show lt64 d1[kB]! d1[a]! = true; exact Hc.out.symm)).symm.trans Heq2.out)
                          obtain ⟨w5, w6⟩ := W5.out
                          go_wp2_with fail
                          clear w5 w6
                          go_roundw
                          case rel => exact ⟨k1, by have := Hk1.out; omega, by have := Hk1.out; omega, rfl, Hnum4B.out, by rw [Hk1.out]; exact Heq3.out, hbut4B⟩
                          case measure => have := Hk1.out; simp [intOf]; omega
                      · have e1 : decide ((kB : Int) ≤ (j : Int)) = false := by rw [decide_eq_false_iff_not]; omega
                        have e2 : decide (kB ≤ j) = false := by rw [decide_eq_false_iff_not]; omega
                        have HsB := Lib.hid ((scanUp_out (p := (fun x => lt64 x d1[a]!)) (d := d1) (by omega : j < kB)).symm.trans Heq2.out)
                        go_upto_region 13 with fail
                        refine wp_region_grow (by kernel_rfl) (by kernel_rfl) ?_
                        repeat (first | go_big_quiet_step (fail) | quiet_step (fail))
                        refine wpQuiet_nil ?_
                        rintro w4 ⟨⟨_, hb4⟩, rfl⟩
                        have Hnum4B := Lib.hid (Hnum2.out.grow hgr hb4)
                        have hbut4B := hbut2.trans (butS_below hb4 g)
                        clear Heq2 e1 e2 hkj2
                        go_wp2_with fail
                        go_loopw [11] (fun t wr => ∃ (l : Nat), l ≤ j ∧ kB ≤ l + 2 ∧ t = .int .i64 (l : Int) ∧ NumsAt wr g off d1 ∧ Sort.scanDown (fun x => !lt64 x d1[a]!) d1 kB l = Sort.scanDown (fun x => !lt64 x d1[a]!) d1 kB j ∧ ButS g wbB wr) (fun t _ => (intOf t).toNat)
                        case atStart => exact ⟨j, Nat.le_refl _, hkjB, rfl, Hnum4B.out, rfl, hbut4B⟩
                        case round =>
                          obtain ⟨lB, hljB, hklB, rfl, hnum, heq, hbut6⟩ := hrel
                          have Hnum6 := Lib.hid hnum
                          have Heq6 := Lib.hid heq
                          clear hnum heq
                          have hgr6 := Nat.lt_of_lt_of_le hg (Nat.le_trans hBB.2.2.2.1 hbut6.2.2.2.1)
                          by_cases hkl2B : kB ≤ lB
                          · obtain ⟨mB, hm⟩ : ∃ m, lB = m + 1 := ⟨lB - 1, by omega⟩
                            have hlnB : lB < n := by omega
                            have hknB : kB < n := by omega
                            have W7B := Lib.hid (wr_nat ((lB : Int) - 1) mB (by omega) (by omega))
                            have e1 : decide ((kB : Int) ≤ (lB : Int)) = true := by rw [decide_eq_true_iff]; omega
                            have e2 : decide (kB ≤ lB) = true := by rw [decide_eq_true_iff]; omega
                            have hkm : kB ≤ mB + 1 := by omega
                            have HmB := Lib.hid hm
                            have ca := fun y : Ext wr => (Hnum6.out.grow hgr6 y.out a (by rw [HszB.out]; exact han)).1
                            have ck := fun y : Ext wr => (Hnum6.out.grow hgr6 y.out lB (by rw [HszB.out]; exact hlnB)).1
                            obtain ⟨c, hc⟩ : ∃ c, c = lt64 d1[lB]! d1[a]! := ⟨_, rfl⟩
                            have kl := fun y : Ext wr => less_any d1[lB]! d1[a]! y.now
                            simp only [← hc] at kl
                            have KL := Lib.hid kl
                            have Hc2 := Lib.hid hc
                            clear kl hc hm
                            go_upto_region 15 with fail
                            cases c
                            all_goals refine wp_region_grow (by kernel_rfl) (by kernel_rfl) ?_
                            all_goals repeat (first | go_big_quiet_step ((go_at_call 104; with_reducible exact calls_grow (KL.out _))) | quiet_step ((go_at_call 104; with_reducible exact calls_grow (KL.out _))))
                            all_goals refine wpQuiet_nil ?_
                            all_goals rintro w8B ⟨⟨_, hb8⟩, rfl⟩
                            all_goals have Hnum8B := Lib.hid (Hnum6.out.grow hgr6 hb8)
                            all_goals have hbut8B := hbut6.trans (butS_below hb8 g)
                            all_goals have hgr8B := Nat.lt_of_lt_of_le hgr6 hb8.size
                            all_goals clear ca ck KL e1 e2
                            · have Heq7 := Lib.hid ((scanDown_go (p := (fun x => !lt64 x d1[a]!)) (i := kB) (j := mB) (d := d1) hkm (by show (!lt64 d1[mB + 1]! d1[a]!) = true; rw [← HmB.out, ← Hc2.out]; rfl)))
                              have Heq7 := Lib.hid (show Sort.scanDown (fun x => !lt64 x d1[a]!) d1 kB mB = Sort.scanDown (fun x => !lt64 x d1[a]!) d1 kB j by rw [← Heq7.out, ← HmB.out]; exact Heq6.out)
                              obtain ⟨w7, w8'⟩ := W7B.out
                              go_wp2_with fail
                              clear w7 w8'
                              go_roundw
                              case rel => exact ⟨mB, by have := HmB.out; omega, by omega, rfl, Hnum8B.out, Heq7.out, hbut8B⟩
                              case measure => have := HmB.out; simp [intOf]; omega
                            · have Hs2B := Lib.hid ((scanDown_not (p := (fun x => !lt64 x d1[a]!)) (by show (!lt64 d1[lB]! d1[a]!) = false; rw [← Hc2.out]; rfl)).symm.trans Heq6.out)
                              clear Heq6
                              have e1 : decide ((lB : Int) < (kB : Int)) = false := by rw [decide_eq_false_iff_not]; omega
                              have e2 : decide (lB < kB) = false := by rw [decide_eq_false_iff_not]; omega
                              have Hstep := Lib.hid (partL_go HsB.out.symm Hs2B.out.symm hkl2B hikB hljB (by have := HmB.out; omega))
                              go_upto_region 18 with fail
                              clear e1 e2
                              refine wp_swap16 135 0 10 11 g off n cap kB lB (d1[kB]!) (d1[lB]!) (fun s => match s with | 135 => .slice (some ⟨g, off, none⟩) n cap | 136 => .int .i64 (kB : Int) | 137 => .slice (some ⟨g, off, none⟩) n cap | 138 => .int .i64 (lB : Int) | 139 => .slice (some ⟨g, off, none⟩) n cap | 140 => .int .i64 (lB : Int) | 141 => .pointer (some ⟨g, off + lB, none⟩) | 142 => .int .u64 (d1[lB]! : Int) | 143 => .slice (some ⟨g, off, none⟩) n cap | 144 => .int .i64 (kB : Int) | 145 => .pointer (some ⟨g, off + kB, none⟩) | 146 => .int .u64 (d1[kB]! : Int) | 147 => .pointer (some ⟨g, off + kB, none⟩) | 148 => .pointer (some ⟨g, off + lB, none⟩) | _ => undef) 168 [135, 136, 137, 138, 139, 140, 141, 142, 143, 144, 145, 146, 147, 148] (by kernel_rfl) (by kernel_rfl) (by kernel_rfl) (by kernel_rfl) rfl (by kernel_rfl) (by kernel_rfl) (by kernel_rfl) rfl rfl rfl (by first | assumption | omega) (by first | assumption | omega) ⟨rfl, rfl, rfl, rfl, rfl, rfl, rfl, rfl, rfl, rfl, rfl, rfl, rfl, rfl⟩ (Hnum8B.out _ (by rw [HszB.out]; exact hknB)).1 (Hnum8B.out _ (by rw [HszB.out]; exact hknB)).2 (Hnum8B.out _ (by rw [HszB.out]; exact hlnB)).1 (Hnum8B.out _ (by rw [HszB.out]; exact hlnB)).2 ?_
                              · intro dn x hall hJ
                                have hx := hJ.w2 (hall 15 (by decide))
                                have h44 := NumsAt.grow (w' := w8B.drew) Hnum8B.out hgr8B ((Below.refl _ _).drew)
                                have HN9 := Lib.hid (show NumsAt x g off (Sort.swp d1 kB lB) by rw [hx]; exact h44.swp (by rw [HszB.out]; exact hknB) (by rw [HszB.out]; exact hlnB))
                                have hbut9 : ButS g w x := by
                                  rw [hx]
                                  exact (((hBB.trans hbut8B).trans (butS_below ((Below.refl w8B.heap.size w8B).drew) g)).trans (butS_set _ _ _ _)).trans (butS_set _ _ _ _)
                                clear hx h44 hJ hall
                                obtain ⟨k1, hk1⟩ : ∃ y, y = kB + 1 := ⟨_, rfl⟩
                                have W5 := Lib.hid (wr_nat ((kB : Int) + 1) k1 (by omega) (by omega))
                                have Hk1 := Lib.hid hk1
                                clear hk1
                                obtain ⟨w5, w6⟩ := W5.out
                                obtain ⟨w7, w8'⟩ := W7B.out
                                simp only [putAct]
                                go_wp2_with fail
                                clear w5 w6 w7 w8'
                                refine ⟨⟨k1, mB, Sort.swp d1 kB lB, by have := Hk1.out; omega, by have := Hk1.out; have := HmB.out; omega, by have := HmB.out; omega, rfl, rfl, HN9.out, by rw [swp_size]; exact HszB.out, ?_, hbut9⟩, ?_⟩
                                · rw [Hk1.out, ← HeqB.out, Hstep.out]
                                  congr 1
                                  have := HmB.out
                                  omega
                                · have := Hk1.out
                                  have := HmB.out
                                  simp [intOf]
                                  omega
                          · have e1 : decide ((kB : Int) ≤ (lB : Int)) = false := by rw [decide_eq_false_iff_not]; omega
                            have e2 : decide (kB ≤ lB) = false := by rw [decide_eq_false_iff_not]; omega
                            have hlnB : lB < n := by omega
                            have hlkB : lB < kB := by omega
                            have Hs2B := Lib.hid ((scanDown_out (p := (fun x => !lt64 x d1[a]!)) (d := d1) hlkB).symm.trans Heq6.out)
                            clear Heq6
                            go_upto_region 15 with fail
                            refine wp_region_grow (by kernel_rfl) (by kernel_rfl) ?_
                            repeat (first | go_big_quiet_step (fail) | quiet_step (fail))
                            refine wpQuiet_nil ?_
                            rintro w8B ⟨⟨_, hb8⟩, rfl⟩
                            have Hnum8B := Lib.hid (Hnum6.out.grow hgr6 hb8)
                            have hbut8B := hbut6.trans (butS_below hb8 g)
                            have hgr8B := Nat.lt_of_lt_of_le hgr6 hb8.size
                            clear e1 e2
                            have e1 : decide ((lB : Int) < (kB : Int)) = true := by rw [decide_eq_true_iff]; omega
                            have e2 : decide (lB < kB) = true := by rw [decide_eq_true_iff]; omega
                            go_upto_region 21 with fail
                            clear e1 e2
                            refine wp_swap16 153 0 11 1 g off n cap lB a (d1[lB]!) (d1[a]!) (fun s => match s with | 153 => .slice (some ⟨g, off, none⟩) n cap | 154 => .int .i64 (lB : Int) | 155 => .slice (some ⟨g, off, none⟩) n cap | 156 => .int .i64 (a : Int) | 157 => .slice (some ⟨g, off, none⟩) n cap | 158 => .int .i64 (a : Int) | 159 => .pointer (some ⟨g, off + a, none⟩) | 160 => .int .u64 (d1[a]! : Int) | 161 => .slice (some ⟨g, off, none⟩) n cap | 162 => .int .i64 (lB : Int) | 163 => .pointer (some ⟨g, off + lB, none⟩) | 164 => .int .u64 (d1[lB]! : Int) | 165 => .pointer (some ⟨g, off + lB, none⟩) | 166 => .pointer (some ⟨g, off + a, none⟩) | _ => undef) 168 [153, 154, 155, 156, 157, 158, 159, 160, 161, 162, 163, 164, 165, 166] (by kernel_rfl) (by kernel_rfl) (by kernel_rfl) (by kernel_rfl) rfl (by kernel_rfl) (by kernel_rfl) (by kernel_rfl) rfl rfl rfl (by first | assumption | omega) (by first | assumption | omega) ⟨rfl, rfl, rfl, rfl, rfl, rfl, rfl, rfl, rfl, rfl, rfl, rfl, rfl, rfl⟩ (Hnum8B.out _ (by rw [HszB.out]; exact hlnB)).1 (Hnum8B.out _ (by rw [HszB.out]; exact hlnB)).2 (Hnum8B.out _ (by rw [HszB.out]; exact han)).1 (Hnum8B.out _ (by rw [HszB.out]; exact han)).2 ?_
                            · intro dn x hall hJ
                              have hx := hJ.w2 (hall 15 (by decide))
                              have h44 := NumsAt.grow (w' := w8B.drew) Hnum8B.out hgr8B ((Below.refl _ _).drew)
                              have HN9 := Lib.hid (show NumsAt x g off (Sort.swp d1 lB a) by rw [hx]; exact h44.swp (by rw [HszB.out]; exact hlnB) (by rw [HszB.out]; exact han))
                              have hbut9 : ButS g w x := by
                                rw [hx]
                                exact (((hBB.trans hbut8B).trans (butS_below ((Below.refl w8B.heap.size w8B).drew) g)).trans (butS_set _ _ _ _)).trans (butS_set _ _ _ _)
                              clear hx h44 hJ hall
                              have Hfin := Lib.hid ((partL_stop HsB.out.symm Hs2B.out.symm hlkB).symm.trans HeqB.out)
                              have Hfin := Lib.hid (show R = (lB, false, Sort.swp d1 lB a) by rw [HR2.out, ← Hfin.out])
                              simp only [putAct]
                              go_wp2_with fail
                              rw [Hfin.out]
                              first
                              | exact bodyPost_ret (results_tmp2 rfl _ _ _) rfl ⟨rfl, HN9.out, by rw [swp_size]; exact HszB.out, hbut9⟩
                              | exact bodyPost_end (results_tmp2 rfl _ _ _) rfl ⟨rfl, HN9.out, by rw [swp_size]; exact HszB.out, hbut9⟩
            · have e1 : decide ((kA : Int) ≤ (lA : Int)) = false := by rw [decide_eq_false_iff_not]; omega
              have e2 : decide (kA ≤ lA) = false := by rw [decide_eq_false_iff_not]; omega
              have hlnA : lA < n := by omega
              have hlkA : lA < kA := by omega
              have Hs2A := Lib.hid ((scanDown_out (p := (fun x => !lt64 x d0[a]!)) (d := d0) hlkA).symm.trans Heq6.out)
              clear Heq6
              go_upto_region 5 with fail
              refine wp_region_grow (by kernel_rfl) (by kernel_rfl) ?_
              repeat (first | go_big_quiet_step (fail) | quiet_step (fail))
              refine wpQuiet_nil ?_
              rintro w8A ⟨⟨_, hb8⟩, rfl⟩
              have Hnum8A := Lib.hid (Hnum6.out.grow hgr6 hb8)
              have hbut8A := hbut6.trans (butS_below hb8 g)
              have hgr8A := Nat.lt_of_lt_of_le hgr6 hb8.size
              clear e1 e2
              have e1 : decide ((lA : Int) < (kA : Int)) = true := by rw [decide_eq_true_iff]; omega
              have e2 : decide (lA < kA) = true := by rw [decide_eq_true_iff]; omega
              have Hfin := Lib.hid (HR.out.trans (part_stop Hd0.out (by rw [← Hb1.out, ← Ha1.out]; exact HsA.out.symm) (by rw [← Hb1.out]; exact Hs2A.out.symm) hlkA))
              go_upto_region 8 with fail
              clear e1 e2
              refine wp_swap16 66 0 11 1 g off n cap lA a (d0[lA]!) (d0[a]!) (fun s => match s with | 66 => .slice (some ⟨g, off, none⟩) n cap | 67 => .int .i64 (lA : Int) | 68 => .slice (some ⟨g, off, none⟩) n cap | 69 => .int .i64 (a : Int) | 70 => .slice (some ⟨g, off, none⟩) n cap | 71 => .int .i64 (a : Int) | 72 => .pointer (some ⟨g, off + a, none⟩) | 73 => .int .u64 (d0[a]! : Int) | 74 => .slice (some ⟨g, off, none⟩) n cap | 75 => .int .i64 (lA : Int) | 76 => .pointer (some ⟨g, off + lA, none⟩) | 77 => .int .u64 (d0[lA]! : Int) | 78 => .pointer (some ⟨g, off + lA, none⟩) | 79 => .pointer (some ⟨g, off + a, none⟩) | _ => undef) 168 [66, 67, 68, 69, 70, 71, 72, 73, 74, 75, 76, 77, 78, 79] (by kernel_rfl) (by kernel_rfl) (by kernel_rfl) (by kernel_rfl) rfl (by kernel_rfl) (by kernel_rfl) (by kernel_rfl) rfl rfl rfl (by first | assumption | omega) (by first | assumption | omega) ⟨rfl, rfl, rfl, rfl, rfl, rfl, rfl, rfl, rfl, rfl, rfl, rfl, rfl, rfl⟩ (Hnum8A.out _ (by rw [HszA.out]; exact hlnA)).1 (Hnum8A.out _ (by rw [HszA.out]; exact hlnA)).2 (Hnum8A.out _ (by rw [HszA.out]; exact han)).1 (Hnum8A.out _ (by rw [HszA.out]; exact han)).2 ?_
              · intro dn x hall hJ
                have hx := hJ.w2 (hall 15 (by decide))
                have h44 := NumsAt.grow (w' := w8A.drew) Hnum8A.out hgr8A ((Below.refl _ _).drew)
                have HN9 := Lib.hid (show NumsAt x g off (Sort.swp d0 lA a) by rw [hx]; exact h44.swp (by rw [HszA.out]; exact hlnA) (by rw [HszA.out]; exact han))
                have hbut9 : ButS g w x := by
                  rw [hx]
                  exact (((hBA.trans hbut8A).trans (butS_below ((Below.refl w8A.heap.size w8A).drew) g)).trans (butS_set _ _ _ _)).trans (butS_set _ _ _ _)
                clear hx h44 hJ hall
                simp only [putAct]
                go_wp2_with fail
                rw [Hfin.out]
                first
                | exact bodyPost_ret (results_tmp2 rfl _ _ _) rfl ⟨rfl, HN9.out, by rw [swp_size]; exact HszA.out, hbut9⟩
                | exact bodyPost_end (results_tmp2 rfl _ _ _) rfl ⟨rfl, HN9.out, by rw [swp_size]; exact HszA.out, hbut9⟩
        · have Heq3 := Lib.hid ((scanUp_go (p := (fun x => lt64 x d0[a]!)) hkj2 (by show lt64 d0[kA]! d0[a]! = true; exact Hc.out.symm)).symm.trans Heq2.out)
          obtain ⟨w5, w6⟩ := W5.out
          go_wp2_with fail
          clear w5 w6
          go_roundw
          case rel => exact ⟨k1, by have := Hk1.out; omega, by have := Hk1.out; omega, rfl, Hnum4A.out, by rw [Hk1.out]; exact Heq3.out, hbut4A⟩
          case measure => have := Hk1.out; simp [intOf]; omega
      · have e1 : decide ((kA : Int) ≤ (b1 : Int)) = false := by rw [decide_eq_false_iff_not]; omega
        have e2 : decide (kA ≤ b1) = false := by rw [decide_eq_false_iff_not]; omega
        have HsA := Lib.hid ((scanUp_out (p := (fun x => lt64 x d0[a]!)) (d := d0) (by omega : b1 < kA)).symm.trans Heq2.out)
        go_upto_region 3 with fail
        refine wp_region_grow (by kernel_rfl) (by kernel_rfl) ?_
        repeat (first | go_big_quiet_step (fail) | quiet_step (fail))
        refine wpQuiet_nil ?_
        rintro w4 ⟨⟨_, hb4⟩, rfl⟩
        have Hnum4A := Lib.hid (Hnum2.out.grow hgr hb4)
        have hbut4A := hbut2.trans (butS_below hb4 g)
        clear Heq2 e1 e2 hkj2
        go_wp2_with fail
        go_loopw [11] (fun t wr => ∃ (l : Nat), l ≤ b1 ∧ kA ≤ l + 2 ∧ t = .int .i64 (l : Int) ∧ NumsAt wr g off d0 ∧ Sort.scanDown (fun x => !lt64 x d0[a]!) d0 kA l = Sort.scanDown (fun x => !lt64 x d0[a]!) d0 kA b1 ∧ ButS g wbA wr) (fun t _ => (intOf t).toNat)
        case atStart => exact ⟨b1, Nat.le_refl _, hkjA, rfl, Hnum4A.out, rfl, hbut4A⟩
        case round =>
          obtain ⟨lA, hljA, hklA, rfl, hnum, heq, hbut6⟩ := hrel
          have Hnum6 := Lib.hid hnum
          have Heq6 := Lib.hid heq
          clear hnum heq
          have hgr6 := Nat.lt_of_lt_of_le hg (Nat.le_trans hBA.2.2.2.1 hbut6.2.2.2.1)
          by_cases hkl2A : kA ≤ lA
          · obtain ⟨mA, hm⟩ : ∃ m, lA = m + 1 := ⟨lA - 1, by omega⟩
            have hlnA : lA < n := by omega
            have hknA : kA < n := by omega
            have W7A := Lib.hid (wr_nat ((lA : Int) - 1) mA (by omega) (by omega))
            have e1 : decide ((kA : Int) ≤ (lA : Int)) = true := by rw [decide_eq_true_iff]; omega
            have e2 : decide (kA ≤ lA) = true := by rw [decide_eq_true_iff]; omega
            have hkm : kA ≤ mA + 1 := by omega
            have HmA := Lib.hid hm
            have ca := fun y : Ext wr => (Hnum6.out.grow hgr6 y.out a (by rw [HszA.out]; exact han)).1
            have ck := fun y : Ext wr => (Hnum6.out.grow hgr6 y.out lA (by rw [HszA.out]; exact hlnA)).1
            obtain ⟨c, hc⟩ : ∃ c, c = lt64 d0[lA]! d0[a]! := ⟨_, rfl⟩
            have kl := fun y : Ext wr => less_any d0[lA]! d0[a]! y.now
            simp only [← hc] at kl
            have KL := Lib.hid kl
            have Hc2 := Lib.hid hc
            clear kl hc hm
            go_upto_region 5 with fail
            cases c
            all_goals refine wp_region_grow (by kernel_rfl) (by kernel_rfl) ?_
            all_goals repeat (first | go_big_quiet_step ((go_at_call 104; with_reducible exact calls_grow (KL.out _))) | quiet_step ((go_at_call 104; with_reducible exact calls_grow (KL.out _))))
            all_goals refine wpQuiet_nil ?_
            all_goals rintro w8A ⟨⟨_, hb8⟩, rfl⟩
            all_goals have Hnum8A := Lib.hid (Hnum6.out.grow hgr6 hb8)
            all_goals have hbut8A := hbut6.trans (butS_below hb8 g)
            all_goals have hgr8A := Nat.lt_of_lt_of_le hgr6 hb8.size
            all_goals clear ca ck KL e1 e2
            · have Heq7 := Lib.hid ((scanDown_go (p := (fun x => !lt64 x d0[a]!)) (i := kA) (j := mA) (d := d0) hkm (by show (!lt64 d0[mA + 1]! d0[a]!) = true; rw [← HmA.out, ← Hc2.out]; rfl)))
              have Heq7 := Lib.hid (show Sort.scanDown (fun x => !lt64 x d0[a]!) d0 kA mA = Sort.scanDown (fun x => !lt64 x d0[a]!) d0 kA b1 by rw [← Heq7.out, ← HmA.out]; exact Heq6.out)
              obtain ⟨w7, w8'⟩ := W7A.out
              go_wp2_with fail
              clear w7 w8'
              go_roundw
              case rel => exact ⟨mA, by have := HmA.out; omega, by omega, rfl, Hnum8A.out, Heq7.out, hbut8A⟩
              case measure => have := HmA.out; simp [intOf]; omega
            · have Hs2A := Lib.hid ((scanDown_not (p := (fun x => !lt64 x d0[a]!)) (by show (!lt64 d0[lA]! d0[a]!) = false; rw [← Hc2.out]; rfl)).symm.trans Heq6.out)
              clear Heq6
              have e1 : decide ((lA : Int) < (kA : Int)) = false := by rw [decide_eq_false_iff_not]; omega
              have e2 : decide (lA < kA) = false := by rw [decide_eq_false_iff_not]; omega
              obtain ⟨R2, hR2⟩ : ∃ y, y = Sort.partLoop lt64 a (kA + 1) (lA - 1) (Sort.swp d0 kA lA) := ⟨_, rfl⟩
              have hfin := HR.out.trans (part_go Hd0.out (by rw [← Hb1.out, ← Ha1.out]; exact HsA.out.symm) (by rw [← Hb1.out]; exact Hs2A.out.symm) hkl2A)
              rw [← hR2] at hfin
              have HR2 := Lib.hid hfin
              have HR3 := Lib.hid hR2
              clear hfin hR2
              go_upto_region 10 with fail
              clear e1 e2
              refine wp_swap16 81 0 10 11 g off n cap kA lA (d0[kA]!) (d0[lA]!) (fun s => match s with | 81 => .slice (some ⟨g, off, none⟩) n cap | 82 => .int .i64 (kA : Int) | 83 => .slice (some ⟨g, off, none⟩) n cap | 84 => .int .i64 (lA : Int) | 85 => .slice (some ⟨g, off, none⟩) n cap | 86 => .int .i64 (lA : Int) | 87 => .pointer (some ⟨g, off + lA, none⟩) | 88 => .int .u64 (d0[lA]! : Int) | 89 => .slice (some ⟨g, off, none⟩) n cap | 90 => .int .i64 (kA : Int) | 91 => .pointer (some ⟨g, off + kA, none⟩) | 92 => .int .u64 (d0[kA]! : Int) | 93 => .pointer (some ⟨g, off + kA, none⟩) | 94 => .pointer (some ⟨g, off + lA, none⟩) | _ => undef) 168 [81, 82, 83, 84, 85, 86, 87, 88, 89, 90, 91, 92, 93, 94] (by kernel_rfl) (by kernel_rfl) (by kernel_rfl) (by kernel_rfl) rfl (by kernel_rfl) (by kernel_rfl) (by kernel_rfl) rfl rfl rfl (by first | assumption | omega) (by first | assumption | omega) ⟨rfl, rfl, rfl, rfl, rfl, rfl, rfl, rfl, rfl, rfl, rfl, rfl, rfl, rfl⟩ (Hnum8A.out _ (by rw [HszA.out]; exact hknA)).1 (Hnum8A.out _ (by rw [HszA.out]; exact hknA)).2 (Hnum8A.out _ (by rw [HszA.out]; exact hlnA)).1 (Hnum8A.out _ (by rw [HszA.out]; exact hlnA)).2 ?_
              · intro dn x hall hJ
                have hx := hJ.w2 (hall 15 (by decide))
                have h44 := NumsAt.grow (w' := w8A.drew) Hnum8A.out hgr8A ((Below.refl _ _).drew)
                have HN9 := Lib.hid (show NumsAt x g off (Sort.swp d0 kA lA) by rw [hx]; exact h44.swp (by rw [HszA.out]; exact hknA) (by rw [HszA.out]; exact hlnA))
                have hbut9 : ButS g w x := by
                  rw [hx]
                  exact (((hBA.trans hbut8A).trans (butS_below ((Below.refl w8A.heap.size w8A).drew) g)).trans (butS_set _ _ _ _)).trans (butS_set _ _ _ _)
                clear hx h44 hJ hall
                obtain ⟨k2, hk2⟩ : ∃ y, y = kA + 1 := ⟨_, rfl⟩
                have W5 := Lib.hid (wr_nat ((kA : Int) + 1) k2 (by omega) (by omega))
                have hst : a + 1 ≤ k2 ∧ k2 ≤ mA + 2 ∧ mA < n := by have := HmA.out; omega
                have Hst := Lib.hid hst
                have HR3 := Lib.hid (show Sort.partLoop lt64 a k2 mA (Sort.swp d0 kA lA) = R2 by rw [HR3.out, hk2]; congr 1; have := HmA.out; omega)
                clear hk2 hst
                obtain ⟨w5, w6⟩ := W5.out
                obtain ⟨w7, w8'⟩ := W7A.out
                simp only [putAct]
                go_wp2_with fail
                clear w5 w6 w7 w8'
                go_loopw [10, 11] (fun t u wr => ∃ (i j : Nat) (d1 : Array Nat), a + 1 ≤ i ∧ i ≤ j + 2 ∧ j < n ∧ t = .int .i64 (i : Int) ∧ u = .int .i64 (j : Int) ∧ NumsAt wr g off d1 ∧ d1.size = n ∧ Sort.partLoop lt64 a i j d1 = R2 ∧ ButS g w wr) (fun t u _ => (intOf u + 1 - intOf t).toNat)
                case atStart => exact ⟨k2, mA, _, Hst.out.1, Hst.out.2.1, Hst.out.2.2, rfl, rfl, HN9.out, by rw [swp_size]; exact HszA.out, HR3.out, hbut9⟩
                case round =>
                  obtain ⟨i, j, d1, hi1B, hijB, hjnB, rfl, rfl, hnum, hsz, heq, hBB⟩ := hrel
                  have HBB := Lib.hid hnum
                  have HszB := Lib.hid hsz
                  have HeqB := Lib.hid heq
                  clear hnum hsz heq
                  obtain ⟨wbB, hwb⟩ : ∃ x, x = wr := ⟨wr, rfl⟩
                  subst hwb
                  go_wp2_with fail
                  go_loopw [10] (fun t wr => ∃ (k : Nat), i ≤ k ∧ k ≤ j + 2 ∧ t = .int .i64 (k : Int) ∧ NumsAt wr g off d1 ∧ Sort.scanUp (fun x => lt64 x d1[a]!) d1 j k = Sort.scanUp (fun x => lt64 x d1[a]!) d1 j i ∧ ButS g wbB wr) (fun t _ => n + 3 - (intOf t).toNat)
                  case atStart => exact ⟨i, Nat.le_refl _, hijB, rfl, HBB.out, rfl, ButS.refl _ _⟩
                  case round =>
                    obtain ⟨kB, hikB, hkjB, rfl, hnum, heq, hbut2⟩ := hrel
                    have Hnum2 := Lib.hid hnum
                    have Heq2 := Lib.hid heq
                    clear hnum heq
                    have hgr := Nat.lt_of_lt_of_le hg (Nat.le_trans hBB.2.2.2.1 hbut2.2.2.2.1)
                    by_cases hkj2 : kB ≤ j
                    · have hkn : kB < n := by omega
                      obtain ⟨k1, hk1⟩ : ∃ y, y = kB + 1 := ⟨_, rfl⟩
                      have W5 := Lib.hid (wr_nat ((kB : Int) + 1) k1 (by omega) (by omega))
                      have Hk1 := Lib.hid hk1
                      have e1 : decide ((kB : Int) ≤ (j : Int)) = true := by rw [decide_eq_true_iff]; omega
                      have e2 : decide (kB ≤ j) = true := by rw [decide_eq_true_iff]; omega
                      have ca := fun y : Ext wr => (Hnum2.out.grow hgr y.out a (by rw [HszB.out]; exact han)).1
                      have ck := fun y : Ext wr => (Hnum2.out.grow hgr y.out kB (by rw [HszB.out]; exact hkn)).1
                      obtain ⟨c, hc⟩ : ∃ c, c = lt64 d1[kB]! d1[a]! := ⟨_, rfl⟩
                      have kl := fun y : Ext wr => less_any d1[kB]! d1[a]! y.now
                      simp only [← hc] at kl
                      have KL := Lib.hid kl
                      have Hc := Lib.hid hc
                      clear kl hc hk1
                      go_upto_region 13 with fail
                      cases c
                      all_goals refine wp_region_grow (by kernel_rfl) (by kernel_rfl) ?_
                      all_goals repeat (first | go_big_quiet_step ((go_at_call 104; with_reducible exact calls_grow (KL.out _))) | quiet_step ((go_at_call 104; with_reducible exact calls_grow (KL.out _))))
                      all_goals refine wpQuiet_nil ?_
                      all_goals rintro w4 ⟨⟨_, hb4⟩, rfl⟩
                      all_goals have Hnum4B := Lib.hid (Hnum2.out.grow hgr hb4)
                      all_goals have hbut4B := hbut2.trans (butS_below hb4 g)
                      all_goals clear ca ck KL e1 e2
                      · have HsB := Lib.hid ((scanUp_not (p := (fun x => lt64 x d1[a]!)) (by show lt64 d1[kB]! d1[a]! = false; exact Hc.out.symm)).symm.trans Heq2.out)
                        clear Heq2 W5 Hk1 hkn hkj2
                        go_wp2_with fail
                        go_loopw [11] (fun t wr => ∃ (l : Nat), l ≤ j ∧ kB ≤ l + 2 ∧ t = .int .i64 (l : Int) ∧ NumsAt wr g off d1 ∧ Sort.scanDown (fun x => !lt64 x d1[a]!) d1 kB l = Sort.scanDown (fun x => !lt64 x d1[a]!) d1 kB j ∧ ButS g wbB wr) (fun t _ => (intOf t).toNat)
                        case atStart => exact ⟨j, Nat.le_refl _, hkjB, rfl, Hnum4B.out, rfl, hbut4B⟩
                        case round =>
                          obtain ⟨lB, hljB, hklB, rfl, hnum, heq, hbut6⟩ := hrel
                          have Hnum6 := Lib.hid hnum
                          have Heq6 := Lib.hid heq
                          clear hnum heq
                          have hgr6 := Nat.lt_of_lt_of_le hg (Nat.le_trans hBB.2.2.2.1 hbut6.2.2.2.1)
                          by_cases hkl2B : kB ≤ lB
                          · obtain ⟨mB, hm⟩ : ∃ m, lB = m + 1 := ⟨lB - 1, by omega⟩
                            have hlnB : lB < n := by omega
                            have hknB : kB < n := by omega
                            have W7B := Lib.hid (wr_nat ((lB : Int) - 1) mB (by omega) (by omega))
                            have e1 : decide ((kB : Int) ≤ (lB : Int)) = true := by rw [decide_eq_true_iff]; omega
                            have e2 : decide (kB ≤ lB) = true := by rw [decide_eq_true_iff]; omega
                            have hkm : kB ≤ mB + 1 := by omega
                            have HmB := Lib.hid hm
                            have ca := fun y : Ext wr => (Hnum6.out.grow hgr6 y.out a (by rw [HszB.out]; exact han)).1
                            have ck := fun y : Ext wr => (Hnum6.out.grow hgr6 y.out lB (by rw [HszB.out]; exact hlnB)).1
                            obtain ⟨c, hc⟩ : ∃ c, c = lt64 d1[lB]! d1[a]! := ⟨_, rfl⟩
                            have kl := fun y : Ext wr => less_any d1[lB]! d1[a]! y.now
                            simp only [← hc] at kl
                            have KL := Lib.hid kl
                            have Hc2 := Lib.hid hc
                            clear kl hc hm
                            go_upto_region 15 with fail
                            cases c
                            all_goals refine wp_region_grow (by kernel_rfl) (by kernel_rfl) ?_
                            all_goals repeat (first | go_big_quiet_step ((go_at_call 104; with_reducible exact calls_grow (KL.out _))) | quiet_step ((go_at_call 104; with_reducible exact calls_grow (KL.out _))))
                            all_goals refine wpQuiet_nil ?_
                            all_goals rintro w8B ⟨⟨_, hb8⟩, rfl⟩
                            all_goals have Hnum8B := Lib.hid (Hnum6.out.grow hgr6 hb8)
                            all_goals have hbut8B := hbut6.trans (butS_below hb8 g)
                            all_goals have hgr8B := Nat.lt_of_lt_of_le hgr6 hb8.size
                            all_goals clear ca ck KL e1 e2
                            · have Heq7 := Lib.hid ((scanDown_go (p := (fun x => !lt64 x d1[a]!)) (i := kB) (j := mB) (d := d1) hkm (by show (!lt64 d1[mB + 1]! d1[a]!) = true; rw [← HmB.out, ← Hc2.out]; rfl)))
                              have Heq7 := Lib.hid (show Sort.scanDown (fun x => !lt64 x d1[a]!) d1 kB mB = Sort.scanDown (fun x => !lt64 x d1[a]!) d1 kB j by rw [← Heq7.out, ← HmB.out]; exact Heq6.out)
                              obtain ⟨w7, w8'⟩ := W7B.out
                              go_wp2_with fail
                              clear w7 w8'
                              go_roundw
                              case rel => exact ⟨mB, by have := HmB.out; omega, by omega, rfl, Hnum8B.out, Heq7.out, hbut8B⟩
                              case measure => have := HmB.out; simp [intOf]; omega
                            · have Hs2B := Lib.hid ((scanDown_not (p := (fun x => !lt64 x d1[a]!)) (by show (!lt64 d1[lB]! d1[a]!) = false; rw [← Hc2.out]; rfl)).symm.trans Heq6.out)
                              clear Heq6
                              have e1 : decide ((lB : Int) < (kB : Int)) = false := by rw [decide_eq_false_iff_not]; omega
                              have e2 : decide (lB < kB) = false := by rw [decide_eq_false_iff_not]; omega
                              have Hstep := Lib.hid (partL_go HsB.out.symm Hs2B.out.symm hkl2B hikB hljB (by have := HmB.out; omega))
                              go_upto_region 18 with fail
                              clear e1 e2
                              refine wp_swap16 135 0 10 11 g off n cap kB lB (d1[kB]!) (d1[lB]!) (fun s => match s with | 135 => .slice (some ⟨g, off, none⟩) n cap | 136 => .int .i64 (kB : Int) | 137 => .slice (some ⟨g, off, none⟩) n cap | 138 => .int .i64 (lB : Int) | 139 => .slice (some ⟨g, off, none⟩) n cap | 140 => .int .i64 (lB : Int) | 141 => .pointer (some ⟨g, off + lB, none⟩) | 142 => .int .u64 (d1[lB]! : Int) | 143 => .slice (some ⟨g, off, none⟩) n cap | 144 => .int .i64 (kB : Int) | 145 => .pointer (some ⟨g, off + kB, none⟩) | 146 => .int .u64 (d1[kB]! : Int) | 147 => .pointer (some ⟨g, off + kB, none⟩) | 148 => .pointer (some ⟨g, off + lB, none⟩) | _ => undef) 168 [135, 136, 137, 138, 139, 140, 141, 142, 143, 144, 145, 146, 147, 148] (by kernel_rfl) (by kernel_rfl) (by kernel_rfl) (by kernel_rfl) rfl (by kernel_rfl) (by kernel_rfl) (by kernel_rfl) rfl rfl rfl (by first | assumption | omega) (by first | assumption | omega) ⟨rfl, rfl, rfl, rfl, rfl, rfl, rfl, rfl, rfl, rfl, rfl, rfl, rfl, rfl⟩ (Hnum8B.out _ (by rw [HszB.out]; exact hknB)).1 (Hnum8B.out _ (by rw [HszB.out]; exact hknB)).2 (Hnum8B.out _ (by rw [HszB.out]; exact hlnB)).1 (Hnum8B.out _ (by rw [HszB.out]; exact hlnB)).2 ?_
                              · intro dn x hall hJ
                                have hx := hJ.w2 (hall 15 (by decide))
                                have h44 := NumsAt.grow (w' := w8B.drew) Hnum8B.out hgr8B ((Below.refl _ _).drew)
                                have HN9 := Lib.hid (show NumsAt x g off (Sort.swp d1 kB lB) by rw [hx]; exact h44.swp (by rw [HszB.out]; exact hknB) (by rw [HszB.out]; exact hlnB))
                                have hbut9 : ButS g w x := by
                                  rw [hx]
                                  exact (((hBB.trans hbut8B).trans (butS_below ((Below.refl w8B.heap.size w8B).drew) g)).trans (butS_set _ _ _ _)).trans (butS_set _ _ _ _)
                                clear hx h44 hJ hall
                                obtain ⟨k1, hk1⟩ : ∃ y, y = kB + 1 := ⟨_, rfl⟩
                                have W5 := Lib.hid (wr_nat ((kB : Int) + 1) k1 (by omega) (by omega))
                                have Hk1 := Lib.hid hk1
                                clear hk1
                                obtain ⟨w5, w6⟩ := W5.out
                                obtain ⟨w7, w8'⟩ := W7B.out
                                simp only [putAct]
                                go_wp2_with fail
                                clear w5 w6 w7 w8'
                                refine ⟨⟨k1, mB, Sort.swp d1 kB lB, by have := Hk1.out; omega, by have := Hk1.out; have := HmB.out; omega, by have := HmB.out; omega, rfl, rfl, HN9.out, by rw [swp_size]; exact HszB.out, ?_, hbut9⟩, ?_⟩
                                · rw [Hk1.out, ← HeqB.out, Hstep.out]
                                  congr 1
                                  have := HmB.out
                                  omega
                                · have := Hk1.out
                                  have := HmB.out
                                  simp [intOf]
                                  omega
                          · have e1 : decide ((kB : Int) ≤ (lB : Int)) = false := by rw [decide_eq_false_iff_not]; omega
                            have e2 : decide (kB ≤ lB) = false := by rw [decide_eq_false_iff_not]; omega
                            have hlnB : lB < n := by omega
                            have hlkB : lB < kB := by omega
                            have Hs2B := Lib.hid ((scanDown_out (p := (fun x => !lt64 x d1[a]!)) (d := d1) hlkB).symm.trans Heq6.out)
                            clear Heq6
                            go_upto_region 15 with fail
                            refine wp_region_grow (by kernel_rfl) (by kernel_rfl) ?_
                            repeat (first | go_big_quiet_step (fail) | quiet_step (fail))
                            refine wpQuiet_nil ?_
                            rintro w8B ⟨⟨_, hb8⟩, rfl⟩
                            have Hnum8B := Lib.hid (Hnum6.out.grow hgr6 hb8)
                            have hbut8B := hbut6.trans (butS_below hb8 g)
                            have hgr8B := Nat.lt_of_lt_of_le hgr6 hb8.size
                            clear e1 e2
                            have e1 : decide ((lB : Int) < (kB : Int)) = true := by rw [decide_eq_true_iff]; omega
                            have e2 : decide (lB < kB) = true := by rw [decide_eq_true_iff]; omega
                            go_upto_region 21 with fail
                            clear e1 e2
                            refine wp_swap16 153 0 11 1 g off n cap lB a (d1[lB]!) (d1[a]!) (fun s => match s with | 153 => .slice (some ⟨g, off, none⟩) n cap | 154 => .int .i64 (lB : Int) | 155 => .slice (some ⟨g, off, none⟩) n cap | 156 => .int .i64 (a : Int) | 157 => .slice (some ⟨g, off, none⟩) n cap | 158 => .int .i64 (a : Int) | 159 => .pointer (some ⟨g, off + a, none⟩) | 160 => .int .u64 (d1[a]! : Int) | 161 => .slice (some ⟨g, off, none⟩) n cap | 162 => .int .i64 (lB : Int) | 163 => .pointer (some ⟨g, off + lB, none⟩) | 164 => .int .u64 (d1[lB]! : Int) | 165 => .pointer (some ⟨g, off + lB, none⟩) | 166 => .pointer (some ⟨g, off + a, none⟩) | _ => undef) 168 [153, 154, 155, 156, 157, 158, 159, 160, 161, 162, 163, 164, 165, 166] (by kernel_rfl) (by kernel_rfl) (by kernel_rfl) (by kernel_rfl) rfl (by kernel_rfl) (by kernel_rfl) (by kernel_rfl) rfl rfl rfl (by first | assumption | omega) (by first | assumption | omega) ⟨rfl, rfl, rfl, rfl, rfl, rfl, rfl, rfl, rfl, rfl, rfl, rfl, rfl, rfl⟩ (Hnum8B.out _ (by rw [HszB.out]; exact hlnB)).1 (Hnum8B.out _ (by rw [HszB.out]; exact hlnB)).2 (Hnum8B.out _ (by rw [HszB.out]; exact han)).1 (Hnum8B.out _ (by rw [HszB.out]; exact han)).2 ?_
                            · intro dn x hall hJ
                              have hx := hJ.w2 (hall 15 (by decide))
                              have h44 := NumsAt.grow (w' := w8B.drew) Hnum8B.out hgr8B ((Below.refl _ _).drew)
                              have HN9 := Lib.hid (show NumsAt x g off (Sort.swp d1 lB a) by rw [hx]; exact h44.swp (by rw [HszB.out]; exact hlnB) (by rw [HszB.out]; exact han))
                              have hbut9 : ButS g w x := by
                                rw [hx]
                                exact (((hBB.trans hbut8B).trans (butS_below ((Below.refl w8B.heap.size w8B).drew) g)).trans (butS_set _ _ _ _)).trans (butS_set _ _ _ _)
                              clear hx h44 hJ hall
                              have Hfin := Lib.hid ((partL_stop HsB.out.symm Hs2B.out.symm hlkB).symm.trans HeqB.out)
                              have Hfin := Lib.hid (show R = (lB, false, Sort.swp d1 lB a) by rw [HR2.out, ← Hfin.out])
                              simp only [putAct]
                              go_wp2_with fail
                              rw [Hfin.out]
                              first
                              | exact bodyPost_ret (results_tmp2 rfl _ _ _) rfl ⟨rfl, HN9.out, by rw [swp_size]; exact HszB.out, hbut9⟩
                              | exact bodyPost_end (results_tmp2 rfl _ _ _) rfl ⟨rfl, HN9.out, by rw [swp_size]; exact HszB.out, hbut9⟩
                      · have Heq3 := Lib.hid ((scanUp_go (p := (fun x => lt64 x d1[a]!)) hkj2 (by show lt64 d1[kB]! d1[a]! = true; exact Hc.out.symm)).symm.trans Heq2.out)
                        obtain ⟨w5, w6⟩ := W5.out
                        go_wp2_with fail
                        clear w5 w6
                        go_roundw
                        case rel => exact ⟨k1, by have := Hk1.out; omega, by have := Hk1.out; omega, rfl, Hnum4B.out, by rw [Hk1.out]; exact Heq3.out, hbut4B⟩
                        case measure => have := Hk1.out; simp [intOf]; omega
                    · have e1 : decide ((kB : Int) ≤ (j : Int)) = false := by rw [decide_eq_false_iff_not]; omega
                      have e2 : decide (kB ≤ j) = false := by rw [decide_eq_false_iff_not]; omega
                      have HsB := Lib.hid ((scanUp_out (p := (fun x => lt64 x d1[a]!)) (d := d1) (by omega : j < kB)).symm.trans Heq2.out)
                      go_upto_region 13 with fail
                      refine wp_region_grow (by kernel_rfl) (by kernel_rfl) ?_
                      repeat (first | go_big_quiet_step (fail) | quiet_step (fail))
                      refine wpQuiet_nil ?_
                      rintro w4 ⟨⟨_, hb4⟩, rfl⟩
                      have Hnum4B := Lib.hid (Hnum2.out.grow hgr hb4)
                      have hbut4B := hbut2.trans (butS_below hb4 g)
                      clear Heq2 e1 e2 hkj2
                      go_wp2_with fail
                      go_loopw [11] (fun t wr => ∃ (l : Nat), l ≤ j ∧ kB ≤ l + 2 ∧ t = .int .i64 (l : Int) ∧ NumsAt wr g off d1 ∧ Sort.scanDown (fun x => !lt64 x d1[a]!) d1 kB l = Sort.scanDown (fun x => !lt64 x d1[a]!) d1 kB j ∧ ButS g wbB wr) (fun t _ => (intOf t).toNat)
                      case atStart => exact ⟨j, Nat.le_refl _, hkjB, rfl, Hnum4B.out, rfl, hbut4B⟩
                      case round =>
                        obtain ⟨lB, hljB, hklB, rfl, hnum, heq, hbut6⟩ := hrel
                        have Hnum6 := Lib.hid hnum
                        have Heq6 := Lib.hid heq
                        clear hnum heq
                        have hgr6 := Nat.lt_of_lt_of_le hg (Nat.le_trans hBB.2.2.2.1 hbut6.2.2.2.1)
                        by_cases hkl2B : kB ≤ lB
                        · obtain ⟨mB, hm⟩ : ∃ m, lB = m + 1 := ⟨lB - 1, by omega⟩
                          have hlnB : lB < n := by omega
                          have hknB : kB < n := by omega
                          have W7B := Lib.hid (wr_nat ((lB : Int) - 1) mB (by omega) (by omega))
                          have e1 : decide ((kB : Int) ≤ (lB : Int)) = true := by rw [decide_eq_true_iff]; omega
                          have e2 : decide (kB ≤ lB) = true := by rw [decide_eq_true_iff]; omega
                          have hkm : kB ≤ mB + 1 := by omega
                          have HmB := Lib.hid hm
                          have ca := fun y : Ext wr => (Hnum6.out.grow hgr6 y.out a (by rw [HszB.out]; exact han)).1
                          have ck := fun y : Ext wr => (Hnum6.out.grow hgr6 y.out lB (by rw [HszB.out]; exact hlnB)).1
                          obtain ⟨c, hc⟩ : ∃ c, c = lt64 d1[lB]! d1[a]! := ⟨_, rfl⟩
                          have kl := fun y : Ext wr => less_any d1[lB]! d1[a]! y.now
                          simp only [← hc] at kl
                          have KL := Lib.hid kl
                          have Hc2 := Lib.hid hc
                          clear kl hc hm
                          go_upto_region 15 with fail
                          cases c
                          all_goals refine wp_region_grow (by kernel_rfl) (by kernel_rfl) ?_
                          all_goals repeat (first | go_big_quiet_step ((go_at_call 104; with_reducible exact calls_grow (KL.out _))) | quiet_step ((go_at_call 104; with_reducible exact calls_grow (KL.out _))))
                          all_goals refine wpQuiet_nil ?_
                          all_goals rintro w8B ⟨⟨_, hb8⟩, rfl⟩
                          all_goals have Hnum8B := Lib.hid (Hnum6.out.grow hgr6 hb8)
                          all_goals have hbut8B := hbut6.trans (butS_below hb8 g)
                          all_goals have hgr8B := Nat.lt_of_lt_of_le hgr6 hb8.size
                          all_goals clear ca ck KL e1 e2
                          · have Heq7 := Lib.hid ((scanDown_go (p := (fun x => !lt64 x d1[a]!)) (i := kB) (j := mB) (d := d1) hkm (by show (!lt64 d1[mB + 1]! d1[a]!) = true; rw [← HmB.out, ← Hc2.out]; rfl)))
                            have Heq7 := Lib.hid (show Sort.scanDown (fun x => !lt64 x d1[a]!) d1 kB mB = Sort.scanDown (fun x => !lt64 x d1[a]!) d1 kB j by rw [← Heq7.out, ← HmB.out]; exact Heq6.out)
                            obtain ⟨w7, w8'⟩ := W7B.out
                            go_wp2_with fail
                            clear w7 w8'
                            go_roundw
                            case rel => exact ⟨mB, by have := HmB.out; omega, by omega, rfl, Hnum8B.out, Heq7.out, hbut8B⟩
                            case measure => have := HmB.out; simp [intOf]; omega
                          · have Hs2B := Lib.hid ((scanDown_not (p := (fun x => !lt64 x d1[a]!)) (by show (!lt64 d1[lB]! d1[a]!) = false; rw [← Hc2.out]; rfl)).symm.trans Heq6.out)
                            clear Heq6
                            have e1 : decide ((lB : Int) < (kB : Int)) = false := by rw [decide_eq_false_iff_not]; omega
                            have e2 : decide (lB < kB) = false := by rw [decide_eq_false_iff_not]; omega
                            have Hstep := Lib.hid (partL_go HsB.out.symm Hs2B.out.symm hkl2B hikB hljB (by have := HmB.out; omega))
                            go_upto_region 18 with fail
                            clear e1 e2
                            refine wp_swap16 135 0 10 11 g off n cap kB lB (d1[kB]!) (d1[lB]!) (fun s => match s with | 135 => .slice (some ⟨g, off, none⟩) n cap | 136 => .int .i64 (kB : Int) | 137 => .slice (some ⟨g, off, none⟩) n cap | 138 => .int .i64 (lB : Int) | 139 => .slice (some ⟨g, off, none⟩) n cap | 140 => .int .i64 (lB : Int) | 141 => .pointer (some ⟨g, off + lB, none⟩) | 142 => .int .u64 (d1[lB]! : Int) | 143 => .slice (some ⟨g, off, none⟩) n cap | 144 => .int .i64 (kB : Int) | 145 => .pointer (some ⟨g, off + kB, none⟩) | 146 => .int .u64 (d1[kB]! : Int) | 147 => .pointer (some ⟨g, off + kB, none⟩) | 148 => .pointer (some ⟨g, off + lB, none⟩) | _ => undef) 168 [135, 136, 137, 138, 139, 140, 141, 142, 143, 144, 145, 146, 147, 148] (by kernel_rfl) (by kernel_rfl) (by kernel_rfl) (by kernel_rfl) rfl (by kernel_rfl) (by kernel_rfl) (by kernel_rfl) rfl rfl rfl (by first | assumption | omega) (by first | assumption | omega) ⟨rfl, rfl, rfl, rfl, rfl, rfl, rfl, rfl, rfl, rfl, rfl, rfl, rfl, rfl⟩ (Hnum8B.out _ (by rw [HszB.out]; exact hknB)).1 (Hnum8B.out _ (by rw [HszB.out]; exact hknB)).2 (Hnum8B.out _ (by rw [HszB.out]; exact hlnB)).1 (Hnum8B.out _ (by rw [HszB.out]; exact hlnB)).2 ?_
                            · intro dn x hall hJ
                              have hx := hJ.w2 (hall 15 (by decide))
                              have h44 := NumsAt.grow (w' := w8B.drew) Hnum8B.out hgr8B ((Below.refl _ _).drew)
                              have HN9 := Lib.hid (show NumsAt x g off (Sort.swp d1 kB lB) by rw [hx]; exact h44.swp (by rw [HszB.out]; exact hknB) (by rw [HszB.out]; exact hlnB))
                              have hbut9 : ButS g w x := by
                                rw [hx]
                                exact (((hBB.trans hbut8B).trans (butS_below ((Below.refl w8B.heap.size w8B).drew) g)).trans (butS_set _ _ _ _)).trans (butS_set _ _ _ _)
                              clear hx h44 hJ hall
                              obtain ⟨k1, hk1⟩ : ∃ y, y = kB + 1 := ⟨_, rfl⟩
                              have W5 := Lib.hid (wr_nat ((kB : Int) + 1) k1 (by omega) (by omega))
                              have Hk1 := Lib.hid hk1
                              clear hk1
                              obtain ⟨w5, w6⟩ := W5.out
                              obtain ⟨w7, w8'⟩ := W7B.out
                              simp only [putAct]
                              go_wp2_with fail
                              clear w5 w6 w7 w8'
                              refine ⟨⟨k1, mB, Sort.swp d1 kB lB, by have := Hk1.out; omega, by have := Hk1.out; have := HmB.out; omega, by have := HmB.out; omega, rfl, rfl, HN9.out, by rw [swp_size]; exact HszB.out, ?_, hbut9⟩, ?_⟩
                              · rw [Hk1.out, ← HeqB.out, Hstep.out]
                                congr 1
                                have := HmB.out
                                omega
                              · have := Hk1.out
                                have := HmB.out
                                simp [intOf]
                                omega
                        · have e1 : decide ((kB : Int) ≤ (lB : Int)) = false := by rw [decide_eq_false_iff_not]; omega
                          have e2 : decide (kB ≤ lB) = false := by rw [decide_eq_false_iff_not]; omega
                          have hlnB : lB < n := by omega
                          have hlkB : lB < kB := by omega
                          have Hs2B := Lib.hid ((scanDown_out (p := (fun x => !lt64 x d1[a]!)) (d := d1) hlkB).symm.trans Heq6.out)
                          clear Heq6
                          go_upto_region 15 with fail
                          refine wp_region_grow (by kernel_rfl) (by kernel_rfl) ?_
                          repeat (first | go_big_quiet_step (fail) | quiet_step (fail))
                          refine wpQuiet_nil ?_
                          rintro w8B ⟨⟨_, hb8⟩, rfl⟩
                          have Hnum8B := Lib.hid (Hnum6.out.grow hgr6 hb8)
                          have hbut8B := hbut6.trans (butS_below hb8 g)
                          have hgr8B := Nat.lt_of_lt_of_le hgr6 hb8.size
                          clear e1 e2
                          have e1 : decide ((lB : Int) < (kB : Int)) = true := by rw [decide_eq_true_iff]; omega
                          have e2 : decide (lB < kB) = true := by rw [decide_eq_true_iff]; omega
                          go_upto_region 21 with fail
                          clear e1 e2
                          refine wp_swap16 153 0 11 1 g off n cap lB a (d1[lB]!) (d1[a]!) (fun s => match s with | 153 => .slice (some ⟨g, off, none⟩) n cap | 154 => .int .i64 (lB : Int) | 155 => .slice (some ⟨g, off, none⟩) n cap | 156 => .int .i64 (a : Int) | 157 => .slice (some ⟨g, off, none⟩) n cap | 158 => .int .i64 (a : Int) | 159 => .pointer (some ⟨g, off + a, none⟩) | 160 => .int .u64 (d1[a]! : Int) | 161 => .slice (some ⟨g, off, none⟩) n cap | 162 => .int .i64 (lB : Int) | 163 => .pointer (some ⟨g, off + lB, none⟩) | 164 => .int .u64 (d1[lB]! : Int) | 165 => .pointer (some ⟨g, off + lB, none⟩) | 166 => .pointer (some ⟨g, off + a, none⟩) | _ => undef) 168 [153, 154, 155, 156, 157, 158, 159, 160, 161, 162, 163, 164, 165, 166] (by kernel_rfl) (by kernel_rfl) (by kernel_rfl) (by kernel_rfl) rfl (by kernel_rfl) (by kernel_rfl) (by kernel_rfl) rfl rfl rfl (by first | assumption | omega) (by first | assumption | omega) ⟨rfl, rfl, rfl, rfl, rfl, rfl, rfl, rfl, rfl, rfl, rfl, rfl, rfl, rfl⟩ (Hnum8B.out _ (by rw [HszB.out]; exact hlnB)).1 (Hnum8B.out _ (by rw [HszB.out]; exact hlnB)).2 (Hnum8B.out _ (by rw [HszB.out]; exact han)).1 (Hnum8B.out _ (by rw [HszB.out]; exact han)).2 ?_
                          · intro dn x hall hJ
                            have hx := hJ.w2 (hall 15 (by decide))
                            have h44 := NumsAt.grow (w' := w8B.drew) Hnum8B.out hgr8B ((Below.refl _ _).drew)
                            have HN9 := Lib.hid (show NumsAt x g off (Sort.swp d1 lB a) by rw [hx]; exact h44.swp (by rw [HszB.out]; exact hlnB) (by rw [HszB.out]; exact han))
                            have hbut9 : ButS g w x := by
                              rw [hx]
                              exact (((hBB.trans hbut8B).trans (butS_below ((Below.refl w8B.heap.size w8B).drew) g)).trans (butS_set _ _ _ _)).trans (butS_set _ _ _ _)
                            clear hx h44 hJ hall
                            have Hfin := Lib.hid ((partL_stop HsB.out.symm Hs2B.out.symm hlkB).symm.trans HeqB.out)
                            have Hfin := Lib.hid (show R = (lB, false, Sort.swp d1 lB a) by rw [HR2.out, ← Hfin.out])
                            simp only [putAct]
                            go_wp2_with fail
                            rw [Hfin.out]
                            first
                            | exact bodyPost_ret (results_tmp2 rfl _ _ _) rfl ⟨rfl, HN9.out, by rw [swp_size]; exact HszB.out, hbut9⟩
                            | exact bodyPost_end (results_tmp2 rfl _ _ _) rfl ⟨rfl, HN9.out, by rw [swp_size]; exact HszB.out, hbut9⟩
          · have e1 : decide ((kA : Int) ≤ (lA : Int)) = false := by rw [decide_eq_false_iff_not]; omega
            have e2 : decide (kA ≤ lA) = false := by rw [decide_eq_false_iff_not]; omega
            have hlnA : lA < n := by omega
            have hlkA : lA < kA := by omega
            have Hs2A := Lib.hid ((scanDown_out (p := (fun x => !lt64 x d0[a]!)) (d := d0) hlkA).symm.trans Heq6.out)
            clear Heq6
            go_upto_region 5 with fail
            refine wp_region_grow (by kernel_rfl) (by kernel_rfl) ?_
            repeat (first | go_big_quiet_step (fail) | quiet_step (fail))
            refine wpQuiet_nil ?_
            rintro w8A ⟨⟨_, hb8⟩, rfl⟩
            have Hnum8A := Lib.hid (Hnum6.out.grow hgr6 hb8)
            have hbut8A := hbut6.trans (butS_below hb8 g)
            have hgr8A := Nat.lt_of_lt_of_le hgr6 hb8.size
            clear e1 e2
            have e1 : decide ((lA : Int) < (kA : Int)) = true := by rw [decide_eq_true_iff]; omega
            have e2 : decide (lA < kA) = true := by rw [decide_eq_true_iff]; omega
            have Hfin := Lib.hid (HR.out.trans (part_stop Hd0.out (by rw [← Hb1.out, ← Ha1.out]; exact HsA.out.symm) (by rw [← Hb1.out]; exact Hs2A.out.symm) hlkA))
            go_upto_region 8 with fail
            clear e1 e2
            refine wp_swap16 66 0 11 1 g off n cap lA a (d0[lA]!) (d0[a]!) (fun s => match s with | 66 => .slice (some ⟨g, off, none⟩) n cap | 67 => .int .i64 (lA : Int) | 68 => .slice (some ⟨g, off, none⟩) n cap | 69 => .int .i64 (a : Int) | 70 => .slice (some ⟨g, off, none⟩) n cap | 71 => .int .i64 (a : Int) | 72 => .pointer (some ⟨g, off + a, none⟩) | 73 => .int .u64 (d0[a]! : Int) | 74 => .slice (some ⟨g, off, none⟩) n cap | 75 => .int .i64 (lA : Int) | 76 => .pointer (some ⟨g, off + lA, none⟩) | 77 => .int .u64 (d0[lA]! : Int) | 78 => .pointer (some ⟨g, off + lA, none⟩) | 79 => .pointer (some ⟨g, off + a, none⟩) | _ => undef) 168 [66, 67, 68, 69, 70, 71, 72, 73, 74, 75, 76, 77, 78, 79] (by kernel_rfl) (by kernel_rfl) (by kernel_rfl) (by kernel_rfl) rfl (by kernel_rfl) (by kernel_rfl) (by kernel_rfl) rfl rfl rfl (by first | assumption | omega) (by first | assumption | omega) ⟨rfl, rfl, rfl, rfl, rfl, rfl, rfl, rfl, rfl, rfl, rfl, rfl, rfl, rfl⟩ (Hnum8A.out _ (by rw [HszA.out]; exact hlnA)).1 (Hnum8A.out _ (by rw [HszA.out]; exact hlnA)).2 (Hnum8A.out _ (by rw [HszA.out]; exact han)).1 (Hnum8A.out _ (by rw [HszA.out]; exact han)).2 ?_
            · intro dn x hall hJ
              have hx := hJ.w2 (hall 15 (by decide))
              have h44 := NumsAt.grow (w' := w8A.drew) Hnum8A.out hgr8A ((Below.refl _ _).drew)
              have HN9 := Lib.hid (show NumsAt x g off (Sort.swp d0 lA a) by rw [hx]; exact h44.swp (by rw [HszA.out]; exact hlnA) (by rw [HszA.out]; exact han))
              have hbut9 : ButS g w x := by
                rw [hx]
                exact (((hBA.trans hbut8A).trans (butS_below ((Below.refl w8A.heap.size w8A).drew) g)).trans (butS_set _ _ _ _)).trans (butS_set _ _ _ _)
              clear hx h44 hJ hall
              simp only [putAct]
              go_wp2_with fail
              rw [Hfin.out]
              first
              | exact bodyPost_ret (results_tmp2 rfl _ _ _) rfl ⟨rfl, HN9.out, by rw [swp_size]; exact HszA.out, hbut9⟩
              | exact bodyPost_end (results_tmp2 rfl _ _ _) rfl ⟨rfl, HN9.out, by rw [swp_size]; exact HszA.out, hbut9⟩
end Go.Proofs.YtdmbmkjiffhbcaaGreat
