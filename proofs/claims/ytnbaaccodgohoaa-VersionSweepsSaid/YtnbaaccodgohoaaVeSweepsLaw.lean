/-
  The walk of VersionSweeps.
-/
import Derived.Test.YtnbaaccodgohoaaVeLives
import Derived.Test.YtnbaaccodgohoaaVeHeads
import Derived.Test.YtnbaaccodgohoaaVeRef3
import Derived.Test.YtnbaaccodgohoaaVeFits
import Derived.Test.YtnbaaccodgohoaaVeGood
namespace Go.Proofs.Ytnbaaccodgohoaa
open Go.RowKit
set_option maxRecDepth 100000

theorem head_gone {x : Ver} (h : headV x = true) (B : Nat → Nat) : goneV x.by_ B = false := by
  refine gone_no fun k hk h2 => ?_
  have := (eqV_iff.1 h) k hk
  unfold zeroV at this
  omega
theorem heads_swept (L : List Ver) (B : Nat → Nat) : (L.filter fun x => !goneV x.by_ B).filter headV = L.filter headV := by
  rw [List.filter_filter]
  congr 1
  funext x
  cases h : headV x with
  | false => rfl
  | true => rw [head_gone h]; rfl

def swG (v uo : Value) (BV : Array Value) (M LH : List Ver) (q : Bool) (s : Nat) (u : Value) (x : World) : Prop := match s with | 17 => u = uo | 18 => u = v | 19 => u = .agg BV | 20 => IsL kVer x (fun _ => True) u M | 21 => u = .bool true | 22 => u = .bool true | 23 => u = v | 24 => u = .agg BV | 25 => u = .bool q | 26 => u = v | 27 => u = .agg BV | 28 => u = .bool q | 29 => u = .bool true | 30 => u = .bool true | 31 => u = .bool true | 32 => u = uo | 33 => IsL kVer x (fun _ => True) u LH | 34 => u = v | 35 => IsL kVer x (fun _ => True) u LH | 36 => u = .bool true | 37 => u = .bool true | 4 => u = .bool true | _ => True

set_option maxHeartbeats 4000000 in
theorem versionsweeps_walk (v : Value) (L : List Ver) (B : Nat → Nat) (w : World) (hL : IsL kVer w (fun _ => True) v L) (_ : okV B) :
    Calls Try.prog 5 #[v, vv B] w fun e w' => e = .returned (.bool true) ∧ Below w.heap.size w w' := by
  have Hl := Lib.hid fun z => lives11_any z
  obtain ⟨BV, hBV⟩ : ∃ A, A = av B := ⟨_, rfl⟩
  obtain ⟨wb, hwb⟩ : ∃ wb, wb = w.alloc (.cells BV 37) := ⟨_, rfl⟩
  have Hbox := Lib.hid (show Blk wb w.heap.size 37 BV by rw [hwb]; exact Blk.new w _ _)
  have Hbel := Lib.hid (show Below w.heap.size w wb by rw [hwb]; exact (Below.refl _ w).alloc (Nat.le_refl _) _)
  have HL := Lib.hid (show IsL kVer wb (fun _ => True) v L from hL.grow Hbel.out)
  have HW := Lib.hid hwb
  have HBV := Lib.hid hBV
  unfold vv
  rw [← hBV]
  clear hL hBV hwb
  go_enter Try.func5, Try.ntmps5
  go_upto_region 1 with fail
  rw [← HW.out]
  go_upto_region 3 with (first | (go_at_call 8; go_must (refine (Hl.out _).mono ?_; rintro e1 w1 ⟨rfl, hb1⟩)) | (go_at_call 13; go_must (refine (fits11_any _ _ _ _ (HL.out.grow hb1)).mono ?_; rintro e2 w2 ⟨⟨q, rfl, hq⟩, hb2⟩; have Hb2 := Lib.hid (below_call hb1 hb2); have Hq := Lib.hid hq; clear hb1 hb2 hq; cases q)))
  · go_ret
    exact ⟨rfl, below_call (below_call Hbel.out Hb2.out) hb1⟩
  · obtain ⟨hsv, hlv, hdv⟩ := Hq.out (by trivial)
    have hdv' : ∀ x ∈ L, x.data.length ≤ 1000 := fun x hx => Nat.le_trans (hdv x hx) (by omega)
    have HL2 := Lib.hid (HL.out.grow Hb2.out)
    have RB := Lib.hid ((Hbox.out.grow Hb2.out).range 0 BV.toList fun j u hu => by rw [Nat.zero_add, ← Array.getElem?_toList]; exact hu)
    have HinfB := Lib.hid (show (Try.prog.info? 37).map (·.size) = some BV.toList.length by rw [HBV.out]; exact vec_info)
    have hsw := sweep_any _ v L B w2 HL2.out hdv' (by omega)
    unfold vv at hsw
    rw [← HBV.out] at hsw
    have Hsw := Lib.hid hsw
    clear hsw
    go_upto_region 4 with (first | (refine wpList_load_mid (op := ⟨some 15, _, _, _, _, _⟩) rfl 37 (.tmp 3) rfl w.heap.size 0 rfl _ _ RB.out Try.underlying37 rfl HinfB.out ?_) | (go_at_call 23; go_must (refine Hsw.out.mono ?_; rintro e3 w5 ⟨⟨uo, rfl, hown⟩, hb3⟩)))
    have Hb5 := Lib.hid (below_call (below_call Hbel.out Hb2.out) hb3)
    have HL5 := Lib.hid (HL2.out.grow hb3)
    have Ho5 := Lib.hid hown.isL
    have Hbx5 := Lib.hid (Hbox.out.grow (below_call Hb2.out hb3))
    clear hb3 hown
    obtain ⟨M, hM⟩ : ∃ M, M = L.filter fun x => !goneV x.by_ B := ⟨_, rfl⟩
    rw [← hM] at Ho5
    have hMd : ∀ x ∈ M, x.data.length ≤ 1000 := fun x hx => by rw [hM] at hx; exact hdv' x ((List.mem_filter.1 hx).1)
    have hMl : M.length ≤ 1000 := by rw [hM]; exact Nat.le_trans (List.length_filter_le _ _) (by omega)
    have hMh : M.filter headV = L.filter headV := by rw [hM]; exact heads_swept L B
    have HRS := Lib.hid (show ∀ z : World, Below w5.heap.size w5 z → Calls Try.prog 24 #[v, .agg BV] z fun e w' => (∃ u, e = .returned u ∧ OwnV w' z.heap.size u M) ∧ Below z.heap.size z w' from fun z hz => by
      have := refsweep_any _ v L B z (HL5.out.grow hz) (by omega)
      unfold vv at this
      rw [← HBV.out] at this
      rw [hM]; exact this)
    obtain ⟨q, hq⟩ : ∃ q, q = L.any fun x => headV x && !hasV B x.rep x.seq := ⟨_, rfl⟩
    have HU1 := Lib.hid (show ∀ z : World, Below w5.heap.size w5 z → Calls Try.prog 25 #[v, .agg BV] z fun e w' => e = .returned (.bool q) ∧ Below z.heap.size z w' from fun z hz => by
      have := unseen_any _ v L B z (HL5.out.grow hz)
      unfold vv at this
      rw [← HBV.out, ← hq] at this
      exact this)
    have HU2 := Lib.hid (show ∀ z : World, Below w5.heap.size w5 z → Calls Try.prog 26 #[v, .agg BV] z fun e w' => e = .returned (.bool q) ∧ Below z.heap.size z w' from fun z hz => by
      have := refunseen_any _ v L B z (HL5.out.grow hz)
      unfold vv at this
      rw [← HBV.out, ← hq] at this
      exact this)
    have HH1 := Lib.hid (show ∀ z : World, Below w5.heap.size w5 z → Calls Try.prog 19 #[uo] z fun e w' => (∃ u, e = .returned u ∧ OwnV w' z.heap.size u (L.filter headV)) ∧ Below z.heap.size z w' from fun z hz => by
      have := heads_any _ uo M z (Ho5.out.grow hz) hMd hMl
      rw [hMh] at this; exact this)
    have HH2 := Lib.hid (show ∀ z : World, Below w5.heap.size w5 z → Calls Try.prog 19 #[v] z fun e w' => (∃ u, e = .returned u ∧ OwnV w' z.heap.size u (L.filter headV)) ∧ Below z.heap.size z w' from fun z hz => heads_any _ v L z (HL5.out.grow hz) hdv' (by omega))
    clear hsv hlv hdv hdv' hM hMd hMl hMh hq
    obtain ⟨LH, hLH⟩ : ∃ X, X = L.filter headV := ⟨_, rfl⟩
    rw [← hLH] at HH1 HH2
    clear hLH
    refine wp_region_goodg (swG v uo BV M LH q) 38 (by kernel_rfl) (by kernel_rfl) (by kernel_rfl) (by kernel_rfl) rfl ?_ ?_ ?_
    · intro t v x x' h hb hb'
      unfold swG at *
      split at h <;> first | exact h | exact h.grow hb'
    · intro i o hi a x hbx hsame hpre K hK
      have hlt : i < 22 := (Array.getElem?_eq_some_iff.1 hi).1
      rcases (show i = 0 ∨ i = 1 ∨ i = 2 ∨ i = 3 ∨ i = 4 ∨ i = 5 ∨ i = 6 ∨ i = 7 ∨ i = 8 ∨ i = 9 ∨ i = 10 ∨ i = 11 ∨ i = 12 ∨ i = 13 ∨ i = 14 ∨ i = 15 ∨ i = 16 ∨ i = 17 ∨ i = 18 ∨ i = 19 ∨ i = 20 ∨ i = 21 by omega) with rfl | rfl | rfl | rfl | rfl | rfl | rfl | rfl | rfl | rfl | rfl | rfl | rfl | rfl | rfl | rfl | rfl | rfl | rfl | rfl | rfl | rfl
      all_goals (have ho := Option.some.inj hi; subst ho; clear hi hlt)
      · have q5 : a.tmps[5]?.getD undef = uo := hsame 5 (by decide +kernel)
        refine step_plain rfl ?_
        have hk := Lib.hid (show ∀ v7 x', swG v uo BV M LH q 17 v7 x' → Below x.heap.size x x' → K (a.put (some 17) v7) x' from hK)
        have Hbx := Lib.hid hbx
        clear hsame hpre hK hbx
        go_simp
        exact hk.out _ _ rfl (Below.refl _ _)
      · have q0 : a.tmps[0]?.getD undef = v := hsame 0 (by decide +kernel)
        refine step_plain rfl ?_
        have hk := Lib.hid (show ∀ v7 x', swG v uo BV M LH q 18 v7 x' → Below x.heap.size x x' → K (a.put (some 18) v7) x' from hK)
        have Hbx := Lib.hid hbx
        clear hsame hpre hK hbx
        go_simp
        exact hk.out _ _ rfl (Below.refl _ _)
      · have q3 : a.tmps[3]?.getD undef = .pointer (some ⟨w.heap.size, 0, none⟩) := hsame 3 (by decide +kernel)
        refine step_plain rfl ?_
        have hk := Lib.hid (show ∀ v7 x', swG v uo BV M LH q 19 v7 x' → Below x.heap.size x x' → K (a.put (some 19) v7) x' from hK)
        have Hbx := Lib.hid hbx
        clear hsame hpre hK hbx
        refine wp_load_mid 37 (.tmp 3) rfl w.heap.size 0 (eval_at q3) BV.toList _ ((Hbx5.out.grow Hbx.out).range 0 BV.toList fun j u hu => by rw [Nat.zero_add, ← Array.getElem?_toList]; exact hu) Try.underlying37 rfl HinfB.out ?_
        exact hk.out _ _ rfl (Below.refl _ _)
      · have q18 : a.tmps[18]?.getD undef = v := hpre ⟨1, .data⟩ (by simp) rfl (by decide)
        have q19 : a.tmps[19]?.getD undef = .agg BV := hpre ⟨2, .data⟩ (by simp) rfl (by decide)
        refine step_plain rfl ?_
        have hk := Lib.hid (show ∀ v7 x', swG v uo BV M LH q 20 v7 x' → Below x.heap.size x x' → K (a.put (some 20) v7) x' from hK)
        have Hbx := Lib.hid hbx
        clear hsame hpre hK hbx
        go_simp
        refine (HRS.out x Hbx.out).mono ?_
        rintro e7 w7 ⟨⟨u7, rfl, hown7⟩, hb7⟩
        go_simp
        exact hk.out _ _ (hown7.isL.weaken fun _ _ => trivial) hb7
      · have q17 : a.tmps[17]?.getD undef = uo := hpre ⟨0, .data⟩ (by simp) rfl (by decide)
        have q20 : swG v uo BV M LH q 20 (a.tmps[20]?.getD undef) x := hpre ⟨3, .data⟩ (by simp) rfl (by decide)
        refine step_plain rfl ?_
        have hk := Lib.hid (show ∀ v7 x', swG v uo BV M LH q 21 v7 x' → Below x.heap.size x x' → K (a.put (some 21) v7) x' from hK)
        have Hbx := Lib.hid hbx
        clear hsame hpre hK hbx
        have q20b : IsL kVer x (fun _ => True) (a.tmps[20]?.getD undef) M := q20
        obtain ⟨u20, hu20⟩ : ∃ u, u = a.tmps[20]?.getD undef := ⟨_, rfl⟩
        rw [← hu20] at q20b
        have q20c : a.tmps[20]?.getD undef = u20 := hu20.symm
        clear q20 hu20
        go_simp
        refine (refsame_any _ _ uo u20 M x (Ho5.out.grow Hbx.out) q20b).mono ?_
        rintro e7 w7 ⟨rfl, hb7⟩
        go_simp
        exact hk.out _ _ rfl hb7
      · have q21 : a.tmps[21]?.getD undef = .bool true := hpre ⟨4, .data⟩ (by simp) rfl (by decide)
        refine step_plain rfl ?_
        have hk := Lib.hid (show ∀ v7 x', swG v uo BV M LH q 22 v7 x' → Below x.heap.size x x' → K (a.put (some 22) v7) x' from hK)
        have Hbx := Lib.hid hbx
        clear hsame hpre hK hbx
        go_simp
        exact hk.out _ _ rfl (Below.refl _ _)
      · have q0 : a.tmps[0]?.getD undef = v := hsame 0 (by decide +kernel)
        have w22 : a.tmps[22]?.getD undef = .bool true := hpre ⟨5, .guard⟩ (by simp) rfl (by decide)
        refine step_wanted (wanted_of (j := 5) (t := 22) (b := true) rfl rfl w22) ?_
        have hk := Lib.hid (show ∀ v7 x', swG v uo BV M LH q 23 v7 x' → Below x.heap.size x x' → K (a.put (some 23) v7) x' from hK)
        have Hbx := Lib.hid hbx
        clear hsame hpre hK hbx w22
        go_simp
        exact hk.out _ _ rfl (Below.refl _ _)
      · have q3 : a.tmps[3]?.getD undef = .pointer (some ⟨w.heap.size, 0, none⟩) := hsame 3 (by decide +kernel)
        have w22 : a.tmps[22]?.getD undef = .bool true := hpre ⟨5, .guard⟩ (by simp) rfl (by decide)
        refine step_wanted (wanted_of (j := 5) (t := 22) (b := true) rfl rfl w22) ?_
        have hk := Lib.hid (show ∀ v7 x', swG v uo BV M LH q 24 v7 x' → Below x.heap.size x x' → K (a.put (some 24) v7) x' from hK)
        have Hbx := Lib.hid hbx
        clear hsame hpre hK hbx w22
        refine wp_load_mid 37 (.tmp 3) rfl w.heap.size 0 (eval_at q3) BV.toList _ ((Hbx5.out.grow Hbx.out).range 0 BV.toList fun j u hu => by rw [Nat.zero_add, ← Array.getElem?_toList]; exact hu) Try.underlying37 rfl HinfB.out ?_
        exact hk.out _ _ rfl (Below.refl _ _)
      · have q23 : a.tmps[23]?.getD undef = v := hpre ⟨6, .data⟩ (by simp) rfl (by decide)
        have q24 : a.tmps[24]?.getD undef = .agg BV := hpre ⟨7, .data⟩ (by simp) rfl (by decide)
        have w22 : a.tmps[22]?.getD undef = .bool true := hpre ⟨5, .guard⟩ (by simp) rfl (by decide)
        refine step_wanted (wanted_of (j := 5) (t := 22) (b := true) rfl rfl w22) ?_
        have hk := Lib.hid (show ∀ v7 x', swG v uo BV M LH q 25 v7 x' → Below x.heap.size x x' → K (a.put (some 25) v7) x' from hK)
        have Hbx := Lib.hid hbx
        clear hsame hpre hK hbx w22
        go_simp
        refine (HU1.out x Hbx.out).mono ?_
        rintro e7 w7 ⟨rfl, hb7⟩
        go_simp
        exact hk.out _ _ rfl hb7
      · have q0 : a.tmps[0]?.getD undef = v := hsame 0 (by decide +kernel)
        have w22 : a.tmps[22]?.getD undef = .bool true := hpre ⟨5, .guard⟩ (by simp) rfl (by decide)
        refine step_wanted (wanted_of (j := 5) (t := 22) (b := true) rfl rfl w22) ?_
        have hk := Lib.hid (show ∀ v7 x', swG v uo BV M LH q 26 v7 x' → Below x.heap.size x x' → K (a.put (some 26) v7) x' from hK)
        have Hbx := Lib.hid hbx
        clear hsame hpre hK hbx w22
        go_simp
        exact hk.out _ _ rfl (Below.refl _ _)
      · have q3 : a.tmps[3]?.getD undef = .pointer (some ⟨w.heap.size, 0, none⟩) := hsame 3 (by decide +kernel)
        have w22 : a.tmps[22]?.getD undef = .bool true := hpre ⟨5, .guard⟩ (by simp) rfl (by decide)
        refine step_wanted (wanted_of (j := 5) (t := 22) (b := true) rfl rfl w22) ?_
        have hk := Lib.hid (show ∀ v7 x', swG v uo BV M LH q 27 v7 x' → Below x.heap.size x x' → K (a.put (some 27) v7) x' from hK)
        have Hbx := Lib.hid hbx
        clear hsame hpre hK hbx w22
        refine wp_load_mid 37 (.tmp 3) rfl w.heap.size 0 (eval_at q3) BV.toList _ ((Hbx5.out.grow Hbx.out).range 0 BV.toList fun j u hu => by rw [Nat.zero_add, ← Array.getElem?_toList]; exact hu) Try.underlying37 rfl HinfB.out ?_
        exact hk.out _ _ rfl (Below.refl _ _)
      · have q26 : a.tmps[26]?.getD undef = v := hpre ⟨9, .data⟩ (by simp) rfl (by decide)
        have q27 : a.tmps[27]?.getD undef = .agg BV := hpre ⟨10, .data⟩ (by simp) rfl (by decide)
        have w22 : a.tmps[22]?.getD undef = .bool true := hpre ⟨5, .guard⟩ (by simp) rfl (by decide)
        refine step_wanted (wanted_of (j := 5) (t := 22) (b := true) rfl rfl w22) ?_
        have hk := Lib.hid (show ∀ v7 x', swG v uo BV M LH q 28 v7 x' → Below x.heap.size x x' → K (a.put (some 28) v7) x' from hK)
        have Hbx := Lib.hid hbx
        clear hsame hpre hK hbx w22
        go_simp
        refine (HU2.out x Hbx.out).mono ?_
        rintro e7 w7 ⟨rfl, hb7⟩
        go_simp
        exact hk.out _ _ rfl hb7
      · have q25 : a.tmps[25]?.getD undef = .bool q := hpre ⟨8, .data⟩ (by simp) rfl (by decide)
        have q28 : a.tmps[28]?.getD undef = .bool q := hpre ⟨11, .data⟩ (by simp) rfl (by decide)
        have w22 : a.tmps[22]?.getD undef = .bool true := hpre ⟨5, .guard⟩ (by simp) rfl (by decide)
        refine step_wanted (wanted_of (j := 5) (t := 22) (b := true) rfl rfl w22) ?_
        have hk := Lib.hid (show ∀ v7 x', swG v uo BV M LH q 29 v7 x' → Below x.heap.size x x' → K (a.put (some 29) v7) x' from hK)
        have Hbx := Lib.hid hbx
        clear hsame hpre hK hbx w22
        cases q <;> go_simp <;> exact hk.out _ _ rfl (Below.refl _ _)
      · have q22 : a.tmps[22]?.getD undef = .bool true := hpre ⟨5, .data⟩ (by simp) rfl (by decide)
        have q29 : a.tmps[29]?.getD undef = .bool true := hpre ⟨12, .data⟩ (by simp) rfl (by decide)
        refine step_plain rfl ?_
        have hk := Lib.hid (show ∀ v7 x', swG v uo BV M LH q 30 v7 x' → Below x.heap.size x x' → K (a.put (some 30) v7) x' from hK)
        have Hbx := Lib.hid hbx
        clear hsame hpre hK hbx
        go_simp
        exact hk.out _ _ rfl (Below.refl _ _)
      · have q30 : a.tmps[30]?.getD undef = .bool true := hpre ⟨13, .data⟩ (by simp) rfl (by decide)
        refine step_plain rfl ?_
        have hk := Lib.hid (show ∀ v7 x', swG v uo BV M LH q 31 v7 x' → Below x.heap.size x x' → K (a.put (some 31) v7) x' from hK)
        have Hbx := Lib.hid hbx
        clear hsame hpre hK hbx
        go_simp
        exact hk.out _ _ rfl (Below.refl _ _)
      · have q5 : a.tmps[5]?.getD undef = uo := hsame 5 (by decide +kernel)
        have w31 : a.tmps[31]?.getD undef = .bool true := hpre ⟨14, .guard⟩ (by simp) rfl (by decide)
        refine step_wanted (wanted_of (j := 14) (t := 31) (b := true) rfl rfl w31) ?_
        have hk := Lib.hid (show ∀ v7 x', swG v uo BV M LH q 32 v7 x' → Below x.heap.size x x' → K (a.put (some 32) v7) x' from hK)
        have Hbx := Lib.hid hbx
        clear hsame hpre hK hbx w31
        go_simp
        exact hk.out _ _ rfl (Below.refl _ _)
      · have q32 : a.tmps[32]?.getD undef = uo := hpre ⟨15, .data⟩ (by simp) rfl (by decide)
        have w31 : a.tmps[31]?.getD undef = .bool true := hpre ⟨14, .guard⟩ (by simp) rfl (by decide)
        refine step_wanted (wanted_of (j := 14) (t := 31) (b := true) rfl rfl w31) ?_
        have hk := Lib.hid (show ∀ v7 x', swG v uo BV M LH q 33 v7 x' → Below x.heap.size x x' → K (a.put (some 33) v7) x' from hK)
        have Hbx := Lib.hid hbx
        clear hsame hpre hK hbx w31
        go_simp
        refine (HH1.out x Hbx.out).mono ?_
        rintro e7 w7 ⟨⟨u7, rfl, hown7⟩, hb7⟩
        go_simp
        exact hk.out _ _ (hown7.isL.weaken fun _ _ => trivial) hb7
      · have q0 : a.tmps[0]?.getD undef = v := hsame 0 (by decide +kernel)
        have w31 : a.tmps[31]?.getD undef = .bool true := hpre ⟨14, .guard⟩ (by simp) rfl (by decide)
        refine step_wanted (wanted_of (j := 14) (t := 31) (b := true) rfl rfl w31) ?_
        have hk := Lib.hid (show ∀ v7 x', swG v uo BV M LH q 34 v7 x' → Below x.heap.size x x' → K (a.put (some 34) v7) x' from hK)
        have Hbx := Lib.hid hbx
        clear hsame hpre hK hbx w31
        go_simp
        exact hk.out _ _ rfl (Below.refl _ _)
      · have q34 : a.tmps[34]?.getD undef = v := hpre ⟨17, .data⟩ (by simp) rfl (by decide)
        have w31 : a.tmps[31]?.getD undef = .bool true := hpre ⟨14, .guard⟩ (by simp) rfl (by decide)
        refine step_wanted (wanted_of (j := 14) (t := 31) (b := true) rfl rfl w31) ?_
        have hk := Lib.hid (show ∀ v7 x', swG v uo BV M LH q 35 v7 x' → Below x.heap.size x x' → K (a.put (some 35) v7) x' from hK)
        have Hbx := Lib.hid hbx
        clear hsame hpre hK hbx w31
        go_simp
        refine (HH2.out x Hbx.out).mono ?_
        rintro e7 w7 ⟨⟨u7, rfl, hown7⟩, hb7⟩
        go_simp
        exact hk.out _ _ (hown7.isL.weaken fun _ _ => trivial) hb7
      · have q33 : swG v uo BV M LH q 33 (a.tmps[33]?.getD undef) x := hpre ⟨16, .data⟩ (by simp) rfl (by decide)
        have q35 : swG v uo BV M LH q 35 (a.tmps[35]?.getD undef) x := hpre ⟨18, .data⟩ (by simp) rfl (by decide)
        have w31 : a.tmps[31]?.getD undef = .bool true := hpre ⟨14, .guard⟩ (by simp) rfl (by decide)
        refine step_wanted (wanted_of (j := 14) (t := 31) (b := true) rfl rfl w31) ?_
        have hk := Lib.hid (show ∀ v7 x', swG v uo BV M LH q 36 v7 x' → Below x.heap.size x x' → K (a.put (some 36) v7) x' from hK)
        have Hbx := Lib.hid hbx
        clear hsame hpre hK hbx w31
        have q33b : IsL kVer x (fun _ => True) (a.tmps[33]?.getD undef) LH := q33
        have q35b : IsL kVer x (fun _ => True) (a.tmps[35]?.getD undef) LH := q35
        obtain ⟨u33, hu33⟩ : ∃ u, u = a.tmps[33]?.getD undef := ⟨_, rfl⟩
        obtain ⟨u35, hu35⟩ : ∃ u, u = a.tmps[35]?.getD undef := ⟨_, rfl⟩
        rw [← hu33] at q33b
        rw [← hu35] at q35b
        have q33c : a.tmps[33]?.getD undef = u33 := hu33.symm
        have q35c : a.tmps[35]?.getD undef = u35 := hu35.symm
        clear q33 q35 hu33 hu35
        go_simp
        refine (refsame_any _ _ u33 u35 LH x q33b q35b).mono ?_
        rintro e7 w7 ⟨rfl, hb7⟩
        go_simp
        exact hk.out _ _ rfl hb7
      · have q31 : a.tmps[31]?.getD undef = .bool true := hpre ⟨14, .data⟩ (by simp) rfl (by decide)
        have q36 : a.tmps[36]?.getD undef = .bool true := hpre ⟨19, .data⟩ (by simp) rfl (by decide)
        refine step_plain rfl ?_
        have hk := Lib.hid (show ∀ v7 x', swG v uo BV M LH q 37 v7 x' → Below x.heap.size x x' → K (a.put (some 37) v7) x' from hK)
        have Hbx := Lib.hid hbx
        clear hsame hpre hK hbx
        go_simp
        exact hk.out _ _ rfl (Below.refl _ _)
      · have q37 : a.tmps[37]?.getD undef = .bool true := hpre ⟨20, .data⟩ (by simp) rfl (by decide)
        refine step_plain rfl ?_
        have hk := Lib.hid (show ∀ v7 x', swG v uo BV M LH q 4 v7 x' → Below x.heap.size x x' → K (a.put (some 4) v7) x' from hK)
        have Hbx := Lib.hid hbx
        clear hsame hpre hK hbx
        go_simp
        exact hk.out _ _ rfl (Below.refl _ _)
    · intro a x hbx hsame hG hsz hde
      have q4 : a.tmps[4]?.getD undef = .bool true := hG 21 (by decide)
      have hde' : a.defers = [] := hde
      have Hbx := Lib.hid hbx
      clear hbx hsame hG
      go_wp2_with fail
      exact bodyPost_ret (results_tmp Try.results5 _ _ _) hde' ⟨by rw [Array.getD_eq_getD_getElem?, q4], below_call Hb5.out Hbx.out⟩
end Go.Proofs.Ytnbaaccodgohoaa
