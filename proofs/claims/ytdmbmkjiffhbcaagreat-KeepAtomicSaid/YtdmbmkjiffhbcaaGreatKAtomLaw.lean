/-
  The walk of KeepAtomic.
-/
import Derived.Test.YtdmbmkjiffhbcaaGreatKCommCut
import Derived.Test.YtdmbmkjiffhbcaaGreatKLikeLaw
import Derived.Test.YtdmbmkjiffhbcaaGreatKRefCh
import Derived.Test.YtdmbmkjiffhbcaaGreatKOpOpen
namespace Go.Proofs.YtdmbmkjiffhbcaaGreat
open Go.RowKit
set_option maxRecDepth 100000

theorem IsL.fr {α : Type} {K : Kind α} {w w' : World} {Fp Fp' : Nat → Prop} {v : Value} {L : List α} (h : IsL K w (fun k => k < w.heap.size ∧ ¬ Fp k) v L) (hf : Fr Fp Fp' w w') : IsL K w' (fun k => k < w'.heap.size ∧ ¬ Fp' k) v L :=
  h.move fun k hk hl => ⟨⟨Nat.lt_of_lt_of_le hl hf.size, (hf.block k hl hk.2).1⟩, (hf.block k hl hk.2).2⟩
theorem RepL.agree {G G' : Nat → Option (List UInt8)} {l : PairL} (h : RepL G l) (e : ∀ k, k < 18446744073709551616 → G' k = G k) : RepL G' l := ⟨h.rise, h.most, fun k v hk => by rw [e k hk]; exact h.holds k v hk⟩
theorem puts_keys {w : World} {ok : Nat → Prop} {v : Value} {L : List PutM} (h : IsL kPut w ok v L) : ∀ p ∈ L, p.key < 18446744073709551616 := by
  intro p hp
  obtain ⟨i, hi, rfl⟩ := List.getElem_of_mem hp
  obtain ⟨A, c, _, _, _, hel⟩ := put_at h
  obtain ⟨b, off, _, _, _, hc⟩ := hel (by intro e; subst e; cases hi)
  obtain ⟨_, _, _, _, _, h, _⟩ := hc i hi
  exact h
theorem isL_len {α : Type} {K : Kind α} {w : World} {ok : Nat → Prop} {v : Value} {L : List α} (h : IsL K w ok v L) : ∃ A c, v = .slice A L.length c ∧ L.length ≤ c ∧ c ≤ maxLen := by
  obtain ⟨A, c, _, e, h1, h2, _⟩ := h
  exact ⟨A, c, e, h1, h2⟩

set_option maxHeartbeats 2000000 in
theorem keepatomic_walk (v1 : Value) (L1 : List PutM) (v2 : Value) (L2 : List PutM) (vo : Value) (o : OpK) (w : World) (hv1 : IsL kPut w (fun _ => True) v1 L1) (hv2 : IsL kPut w (fun _ => True) v2 L2) (ho : IsOpK w (fun _ => True) vo o) :
    Calls Tryz.prog 3 #[v1, v2, vo] w fun e w' => e = .returned (.bool true) ∧ Below w.heap.size w w' := by
  obtain ⟨Ap, np, Ak, nk, rfl, hk⟩ := ho
  have hv1' : IsL kPut w (fun k => k < w.heap.size) v1 L1 := hv1.move fun k _ hk => ⟨hk, rfl⟩
  have hv2' : IsL kPut w (fun k => k < w.heap.size) v2 L2 := hv2.move fun k _ hk => ⟨hk, rfl⟩
  have hk' : IsL (kInt .i64) w (fun k => k < w.heap.size) (.slice Ak o.choice.kept.length nk) o.choice.kept := hk.move fun k _ hk => ⟨hk, rfl⟩
  have hkey1 := puts_keys hv1'
  have hkey2 := puts_keys hv2'
  have hnk : o.choice.kept.length ≤ nk ∧ nk ≤ maxLen := by
    obtain ⟨A, c, e, h1, h2⟩ := isL_len hk'
    cases e
    exact ⟨h1, h2⟩
  unfold maxLen at hnk
  obtain ⟨okind, oputs, oafter, ch⟩ := o
  dsimp only at hk' hnk ⊢
  obtain ⟨pl, hpl⟩ : ∃ pl, pl = oputs.length := ⟨_, rfl⟩
  rw [← hpl]
  have hb0 : Below w.heap.size w (w.alloc (.cells #[.int .i64 okind, .slice Ap pl np, .int .i64 oafter, .slice Ak ch.kept.length nk, .int .i64 ch.torn, .int .i64 ch.half] 27)) := (Below.refl _ _).alloc (Nat.le_refl _) _
  have hB0 : Blk (w.alloc (.cells #[.int .i64 okind, .slice Ap pl np, .int .i64 oafter, .slice Ak ch.kept.length nk, .int .i64 ch.torn, .int .i64 ch.half] 27)) w.heap.size 27 #[.int .i64 okind, .slice Ap pl np, .int .i64 oafter, .slice Ak ch.kept.length nk, .int .i64 ch.torn, .int .i64 ch.half] := Blk.new _ _ _
  obtain ⟨w0, hw0⟩ : ∃ w0, w0 = w.alloc (.cells #[.int .i64 okind, .slice Ap pl np, .int .i64 oafter, .slice Ak ch.kept.length nk, .int .i64 ch.torn, .int .i64 ch.half] 27) := ⟨_, rfl⟩
  rw [← hw0] at hb0 hB0
  have hp1 := fun (z : World) (hz : Below w.heap.size w z) => puts_any _ v1 L1 z (hv1'.grow hz)
  have hp2 := fun (z : World) (hz : Below w.heap.size w z) => puts_any _ v2 L2 z (hv2'.grow hz)
  obtain ⟨B1, hB1⟩ : ∃ B1, B1 = putsB L1 := ⟨_, rfl⟩
  obtain ⟨B2, hB2⟩ : ∃ B2, B2 = putsB L2 := ⟨_, rfl⟩
  rw [← hB1] at hp1
  rw [← hB2] at hp2
  have Hp1 := Lib.hid hp1
  have Hp2 := Lib.hid hp2
  have HB1 := Lib.hid hB1
  have HB2 := Lib.hid hB2
  have Hv1 := Lib.hid hv1'
  have Hv2 := Lib.hid hv2'
  have Hkl := Lib.hid hk'
  have Hkey1 := Lib.hid hkey1
  have Hkey2 := Lib.hid hkey2
  have Hb0 := Lib.hid hb0
  have HBx := Lib.hid hB0
  have Hw0 := Lib.hid hw0
  have hwl : w.heap.size < w0.heap.size := hB0.lt
  clear hv1 hv2 hk hv1' hv2' hk' hp1 hp2 hB1 hB2 hkey1 hkey2 hb0 hB0 hw0 hpl
  go_enter Tryz.func3, Tryz.ntmps3
  go_wp2_with fail
  rw [← Hw0.out]
  refine (klives_any _).mono ?_
  rintro e wa ⟨rfl, hba⟩
  have Hba := Lib.hid (below_call Hb0.out hba)
  have HBa := Lib.hid (HBx.out.grow hba)
  clear hba
  go_wp2_with fail
  refine (Hp1.out _ Hba.out).mono ?_
  rintro e wb ⟨rfl, hbb⟩
  have Hbb := Lib.hid (below_call Hba.out hbb)
  have HBb := Lib.hid (HBa.out.grow hbb)
  clear hbb HBa Hba
  cases B1 with
  | false =>
    go_wp2_with fail
    refine (klives_any _).mono ?_
    rintro e wc ⟨rfl, hbc⟩
    go_wp2_with fail
    go_ret
    exact ⟨rfl, below_call Hbb.out hbc⟩
  | true =>
  go_wp2_with fail
  refine (Hp2.out _ Hbb.out).mono ?_
  rintro e w3 ⟨rfl, hb3⟩
  have Hb3 := Lib.hid (below_call Hbb.out hb3)
  have HB3 := Lib.hid (HBb.out.grow hb3)
  have z3 := (HBb.out.grow hb3).cell 3
  simp only [List.getElem?_toArray, List.getElem?_cons_zero, List.getElem?_cons_succ] at z3
  clear hb3 HBb Hbb
  cases B2 with
  | false =>
    go_wp2_with fail
    refine (klives_any _).mono ?_
    rintro e wd ⟨rfl, hbd⟩
    go_wp2_with fail
    go_ret
    exact ⟨rfl, below_call Hb3.out hbd⟩
  | true =>
  by_cases h70 : 70 < ch.kept.length
  case pos =>
    have h70I : (70 : Int) < (ch.kept.length : Int) := by omega
    go_wp2_with fail
    refine (klives_any _).mono ?_
    rintro e wd ⟨rfl, hbd⟩
    go_wp2_with fail
    go_ret
    exact ⟨rfl, below_call Hb3.out hbd⟩
  case neg =>
  have h70I : ¬ (70 : Int) < (ch.kept.length : Int) := by omega
  obtain ⟨D1, ho1, hi1, hl1, hn1, hc1, hlo1⟩ := open_new 60 (by decide) (by decide)
  have hs1 : sideN D1 = 29 := by unfold sideN; rw [hn1]
  have hf1 : D1.Few 10 := ⟨by rw [hlo1]; decide, by rw [hc1]; decide⟩
  obtain ⟨J1, hJ1⟩ : ∃ J1 : JM, J1 = ⟨1, 0, 0, 0, false⟩ := ⟨_, rfl⟩
  rw [← hJ1] at ho1 hi1
  have hJ1u : J1.used = 0 := by rw [hJ1]
  have hJ1n : J1.number = 1 := by rw [hJ1]
  have hlen1 : L1.length ≤ 8 := (putsB_all HB1.out.symm).1
  have hlen2 : L2.length ≤ 8 := (putsB_all HB2.out.symm).1
  obtain ⟨C1, hC1⟩ : ∃ C1, C1 = cutL 300 L1 := ⟨_, rfl⟩
  obtain ⟨C2, hC2⟩ : ∃ C2, C2 = cutL 300 L2 := ⟨_, rfl⟩
  have hCl1 : C1.length ≤ 8 := by rw [hC1, cutL_length]; exact hlen1
  have hCl2 : C2.length ≤ 8 := by rw [hC2, cutL_length]; exact hlen2
  have hCv1 : ∀ p ∈ C1, p.val.length ≤ 300 := by rw [hC1]; exact cutL_val 300 L1
  have hCv2 : ∀ p ∈ C2, p.val.length ≤ 300 := by rw [hC2]; exact cutL_val 300 L2
  have hCk1 : ∀ p ∈ C1, p.key < 18446744073709551616 := by
    intro p hp
    rw [hC1] at hp
    obtain ⟨q, hq, rfl⟩ := List.mem_map.1 hp
    exact Hkey1.out q hq
  have hCk2 : ∀ p ∈ C2, p.key < 18446744073709551616 := by
    intro p hp
    rw [hC2] at hp
    obtain ⟨q, hq, rfl⟩ := List.mem_map.1 hp
    exact Hkey2.out q hq
  have hr1 := short_rec0 C1 300 (by decide) hCl1 hCk1 hCv1
  have hr2 := short_rec0 C2 300 (by decide) hCl2 hCk2 hCv2
  have hg1 := short_few C1 300 (by decide) hCv1
  have hg2 := short_few C2 300 (by decide) hCv2
  have hrl1 := (recsB_one (precM C1 []).1).2
  have hrl2 := (recsB_one (precM C2 []).1).2
  obtain ⟨G1, hG1⟩ : ∃ G1, G1 = putsG noneG C1 := ⟨_, rfl⟩
  obtain ⟨G2, hG2⟩ : ∃ G2, G2 = putsG G1 C2 := ⟨_, rfl⟩
  have hGl1 : ∀ k l, G1 k = some l → l.length ≤ 300 := by rw [hG1]; exact putsG_most 300 C1 noneG (fun k l h => by cases h) hCv1
  have hGl2 : ∀ k l, G2 k = some l → l.length ≤ 300 := by rw [hG2]; exact putsG_most 300 C2 G1 hGl1 hCv2
  obtain ⟨R1, hR1⟩ : ∃ R1, R1 = applyR [] C1 := ⟨_, rfl⟩
  obtain ⟨R2, hR2⟩ : ∃ R2, R2 = applyR R1 C2 := ⟨_, rfl⟩
  have hrep1 : RepL G1 R1 := by rw [hG1, hR1]; exact RepL.nil.apply C1 hCk1
  have hrep2 : RepL G2 R2 := by rw [hG2, hR2]; exact hrep1.apply C2 hCk2
  have hRl1 : R1.length ≤ 100 := by
    have := applyR_length [] C1
    rw [hR1]
    simp only [List.length_nil] at this
    omega
  obtain ⟨kk, hkk, hkw⟩ := mod_idx oafter 30 (by omega) (by omega)
  rw [show ((30 : Nat) : Int) = 30 from rfl] at hkw
  have H1 := Lib.hid (And.intro hr1.1 (And.intro hg1 (show (recsB [(precM C1 []).1]).length ≤ 2600 by have := hr1.2; omega)))
  have H2 := Lib.hid (And.intro hr2.1 (And.intro hg2 (And.intro (show (recsB [(precM C2 []).1]).length ≤ 2600 by have := hr2.2; omega) (And.intro hr2.2 hr1.2))))
  have Ho1 := Lib.hid ho1
  have Hi1 := Lib.hid hi1
  have Hl1 := Lib.hid hl1
  have Hf1 := Lib.hid hf1
  have Hn1 := Lib.hid hn1
  have Hs1 := Lib.hid hs1
  have HJ1u := Lib.hid hJ1u
  have HJ1n := Lib.hid hJ1n
  have HC1 := Lib.hid hC1
  have HC2 := Lib.hid hC2
  have HCl1 := Lib.hid hCl1
  have HCl2 := Lib.hid hCl2
  have HCk1 := Lib.hid hCk1
  have HCk2 := Lib.hid hCk2
  have HG1 := Lib.hid hG1
  have HG2 := Lib.hid hG2
  have HGl1 := Lib.hid hGl1
  have HGl2 := Lib.hid hGl2
  have HR1 := Lib.hid hR1
  have HR2 := Lib.hid hR2
  have Hrep1 := Lib.hid hrep1
  have Hrep2 := Lib.hid hrep2
  have HRl1 := Lib.hid hRl1
  have Hlen1 := Lib.hid hlen1
  have Hlen2 := Lib.hid hlen2
  clear ho1 hi1 hl1 hf1 hn1 hs1 hc1 hlo1 hJ1 hJ1u hJ1n hC1 hC2 hCl1 hCl2 hCv1 hCv2 hCk1 hCk2 hr1 hr2 hg1 hg2 hrl1 hrl2 hG1 hG2 hGl1 hGl2 hR1 hR2 hrep1 hrep2 hRl1 hlen1 hlen2 Hp1 Hp2
  go_wp2_with fail
  clear z3 h70I
  refine (new_ok 60 w3 (by decide) (by decide)).mono ?_
  rintro e w4 ⟨g, F1, rfl, hd1, hb1⟩
  have Hd1 := Lib.hid hd1
  have Hb1 := Lib.hid hb1
  clear hd1 hb1
  go_wp2_with fail
  have ho := kopen_ok w3.heap.size F1 g (newD 60) D1 w4 (newD_few 60 900000) Hd1.out J1 [] Ho1.out Hi1.out noneG rfl (by simp)
  refine ho.mono ?_
  rintro e w5 ⟨kb, Fp5, n5, rfl, hk5, hn5, hkw5, hfr5⟩
  obtain rfl : n5 = 0 := by simpa using hn5
  have hb5 : Below w3.heap.size w3 w5 := Hb1.out.trans (hfr5.below (fun k hk => (Hd1.out.low k hk).1) Hb1.out.size)
  have Hk5 := Lib.hid hk5
  have Hb5 := Lib.hid hb5
  have Hs3 := Lib.hid Hb3.out.size
  have Hlow5 := Lib.hid hk5.low
  clear ho hk5 hb5 hfr5 hn5 Hd1 Hb1 Ho1
  have hct1 := kcut_any (fun k => k < w.heap.size) v1 L1 300 (by decide) w5 (Hv1.out.grow (below_call Hb3.out Hb5.out)) (by have := Hlen1.out; omega)
  rw [← HC1.out] at hct1
  have Hct1 := Lib.hid hct1
  clear hct1
  go_wp2_with fail
  refine Hct1.out.mono ?_
  rintro e w6 ⟨⟨x1, rfl, hx1⟩, hb6⟩
  have hct2 := kcut_any (fun k => k < w.heap.size) v2 L2 300 (by decide) w6 (Hv2.out.grow (below_call (below_call Hb3.out Hb5.out) hb6)) (by have := Hlen2.out; omega)
  rw [← HC2.out] at hct2
  have Hct2 := Lib.hid hct2
  have Hx1 := Lib.hid hx1
  have Hb6 := Lib.hid hb6
  clear hct2 hx1 hb6
  go_wp2_with fail
  refine Hct2.out.mono ?_
  rintro e w7 ⟨⟨x2, rfl, hx2⟩, hb7⟩
  have hb57 := below_call Hb6.out hb7
  have hs6 := Hb6.out.size
  have hx1' : IsL kPut w7 (fun k => k < w7.heap.size ∧ ¬ Fp5 k) x1 C1 := (Hx1.out.grow hb7).move fun k hk hl => ⟨⟨hl, fun hF => by
    have := Hlow5.out k hF
    have := Hs3.out
    rcases hk with h | h
    · omega
    · omega⟩, rfl⟩
  have hx2' : IsL kPut w7 (fun k => k < w7.heap.size ∧ ¬ Fp5 k) x2 C2 := hx2.move fun k hk hl => ⟨⟨hl, fun hF => by
    have := Hlow5.out k hF
    have := Hs3.out
    rcases hk with h | h
    · omega
    · omega⟩, rfl⟩
  have hcm1 := kcommit_short w3.heap.size Fp5 _ kb g D1 J1 [] 0 10 noneG x1 C1 w7 (Hk5.out.grow hb57) Hf1.out (by decide) (by rw [Hn1.out]; decide) Hl1.out (by rw [HJ1n.out]; decide) hx1' (fun k hk => hk) H1.out.2.1 H1.out.1 (by rw [Hs1.out, HJ1u.out]; have := H1.out.2.2; omega) (by have := HCl1.out; omega) (fun k l h => by cases h)
  have Hcm1 := Lib.hid hcm1
  have Hx1 := Lib.hid hx1'
  have Hx2 := Lib.hid hx2'
  have Hb7 := Lib.hid (below_call Hb5.out hb57)
  obtain ⟨A1, c1, hxe1, _, _⟩ := isL_len hx1'
  obtain ⟨A2, c2, hxe2, _, _⟩ := isL_len hx2'
  subst hxe1 hxe2
  clear hcm1 hx1' hx2' hx2 hb7 hb57 Hct1 Hct2 Hb6 hs6
  go_wp2_with fail
  refine Hcm1.out.mono ?_
  rintro e w8 ⟨rfl, Fp8, D8, J8, Ls8, hk8, hfr8, hln8, hf8, hl8, hu8, hnu8, hfl8, hor8⟩
  rw [← HG1.out, Nat.zero_add] at hk8
  have hkept8 : Kept Ls8 G1 := by
    rcases hor8 with ⟨e1, _, _, rfl⟩ | ⟨_, rfl⟩
    · rw [HG1.out, e1]; exact Kept.nil
    · rw [HG1.out]; exact Kept.nil.add C1 HCk1.out H1.out.1
  have hx18 := Hx1.out.fr hfr8
  have hx28 := Hx2.out.fr hfr8
  have hb8 : Below w3.heap.size w3 w8 := Hb7.out.trans (hfr8.below (fun k hk => (Hlow5.out k hk).1) Hb7.out.size)
  have hs8 : sideN D8 = 29 := by unfold sideN; rw [hln8, Hn1.out]
  have hu8' : J8.used ≤ 2600 := by rw [HJ1u.out] at hu8; have := H1.out.2.2; omega
  have hn8' : J8.number + 1 ≤ 4611686018427387904 := by rw [HJ1n.out] at hnu8; omega
  have hfl8' : Ls8.flatten.length ≤ 2560 := by simp only [List.flatten_nil, List.length_nil] at hfl8; have := H2.out.2.2.2.2; omega
  have Hk8 := Lib.hid hk8
  have Hkept8 := Lib.hid hkept8
  have Hb8 := Lib.hid hb8
  have Hs8 := Lib.hid hs8
  have Hlen8 := Lib.hid (show D8.sure.length ≤ 4096 by rw [hln8, Hn1.out]; decide)
  have Hu8 := Lib.hid hu8'
  have Hn8 := Lib.hid hn8'
  have Hf8 := Lib.hid hf8
  have Hfl8 := Lib.hid hfl8'
  have Hlow8 := Lib.hid hk8.low
  have Hx28 := Lib.hid hx28
  have hap1 := apply_any (fun _ => False) _ (.slice none 0 0) [] (.slice A1 C1.length c1) C1 w8 IsL.nil hx18 (by simp only [List.length_nil]; have := HCl1.out; omega)
  rw [← HR1.out] at hap1
  have Hap1 := Lib.hid hap1
  clear hk8 hkept8 hx18 hx28 hb8 hs8 hu8 hu8' hnu8 hn8' hf8 hl8 hln8 hfl8 hfl8' hor8 hfr8 hap1 Hcm1 Hx1 Hx2 Hb7 Hk5 Hf1 Hn1 Hl1 Hs1 HJ1u HJ1n H1
  go_wp2_with fail
  refine Hap1.out.mono ?_
  rintro e w9 ⟨⟨y1, rfl, hy1⟩, hb9⟩
  have hap2 := apply_any _ _ y1 R1 (.slice A2 C2.length c2) C2 w9 hy1 (Hx28.out.grow hb9) (by have := HCl2.out; have := HRl1.out; omega)
  rw [← HR2.out] at hap2
  have Hap2 := Lib.hid hap2
  have Hy1 := Lib.hid hy1
  have Hb9 := Lib.hid hb9
  clear hap2 hy1 hb9
  go_wp2_with fail
  refine Hap2.out.mono ?_
  rintro e w10 ⟨⟨y2, rfl, hy2⟩, hb10⟩
  have hb810 := below_call Hb9.out hb10
  have hs9 := Hb9.out.size
  have hs10 := hb10.size
  have hy1' : IsL kPairR w10 (fun k => k < w10.heap.size ∧ ¬ Fp8 k) y1 R1 := (Hy1.out.grow hb10).move fun k hk hl => ⟨⟨hl, fun hF => by
    have := (Hlow8.out k hF).2
    rcases hk with h | h
    · exact h
    · omega⟩, rfl⟩
  have hy2' : IsL kPairR w10 (fun k => k < w10.heap.size ∧ ¬ Fp8 k) y2 R2 := hy2.move fun k hk hl => ⟨⟨hl, fun hF => by
    have := (Hlow8.out k hF).2
    rcases hk with (h | h) | h
    · exact h
    · omega
    · omega⟩, rfl⟩
  have hx2t : IsL kPut w10 (fun k => k < w10.heap.size ∧ ¬ Fp8 k) (.slice A2 C2.length c2) C2 := (Hx28.out.grow hb810).move fun k hk hl => ⟨⟨hl, hk.2⟩, rfl⟩
  have hb10' : Below w3.heap.size w3 w10 := below_call Hb8.out hb810
  have hBw := HB3.out.grow hb10'
  have z2 := hBw.cell 2
  have z3 := hBw.cell 3
  have z4 := hBw.cell 4
  have z5 := hBw.cell 5
  simp only [List.getElem?_toArray, List.getElem?_cons_zero, List.getElem?_cons_succ] at z2 z3 z4 z5
  have hpln := kplan_ok w3.heap.size Fp8 (fun k => k < w.heap.size) kb g D8 J8 Ls8 C1.length G1 (kk : Int) (.slice Ak ch.kept.length nk) ch w10 (Hk8.out.grow hb810) (Hkl.out.grow (below_call Hb3.out hb10')) (fun k hk => by have := Hs3.out; omega) (by omega) (by omega)
  have Hpln := Lib.hid hpln
  have Hy1 := Lib.hid hy1'
  have Hy2 := Lib.hid hy2'
  have Hx2 := Lib.hid hx2t
  have Hb10 := Lib.hid hb10'
  obtain ⟨Ay1, cy1, hye1, _, _⟩ := isL_len hy1'
  obtain ⟨Ay2, cy2, hye2, _, _⟩ := isL_len hy2'
  subst hye1 hye2
  clear hpln hy1' hy2' hx2t hb10' hBw hy2 hb10 hb810 hs9 hs10 Hap1 Hap2 Hb9 Hk8 Hb8 Hx28
  go_wp2_with fail
  refine Hpln.out.mono ?_
  rintro e w11 ⟨rfl, Fp11, hk11, hfr11⟩
  have hb11 : Below w3.heap.size w3 w11 := Hb10.out.trans (hfr11.below (fun k hk => (Hlow8.out k hk).1) Hb10.out.size)
  have hlow11 := hk11.low
  have hcc := kcommit_cut w3.heap.size Fp11 _ kb g (D8.plan (kk : Int) ch) J8 Ls8 C1.length (10 + 2100) G1 (.slice A2 C2.length c2) C2 w11 hk11 (plan_few Hf8.out _ _) (by decide) Hlen8.out Hn8.out (Hx2.out.fr hfr11) (fun k hk => hk) H2.out.2.1 H2.out.1
    (by have e : sideN (D8.plan (kk : Int) ch) = sideN D8 := rfl
        rw [e, Hs8.out]; have := Hu8.out; have := H2.out.2.2.1; omega) (by have := HCl1.out; have := HCl2.out; omega) (fun k l h => by have := HGl1.out k l h; omega)
  have Hcc := Lib.hid hcc
  have Hy1 := Lib.hid (Hy1.out.fr hfr11)
  have Hy2 := Lib.hid (Hy2.out.fr hfr11)
  have Hb11 := Lib.hid hb11
  have Hlow11 := Lib.hid hlow11
  clear hcc hb11 hk11 hfr11 hlow11 Hpln Hx2 Hb10 z2 z3 z4 z5
  go_wp2_with fail
  refine Hcc.out.mono ?_
  rintro e w12 ⟨er, X, n3, s3, u3, D12, Gd12, Fp12, rfl, hd12, hfr12, hgf12, hbase12, hcont, hfX, hf12, hcase⟩
  have hb12 : Below w3.heap.size w3 w12 := Hb11.out.trans (hfr12.below (fun k hk => (Hlow11.out k hk).1) Hb11.out.size)
  obtain ⟨Gy, hkX, hgy, hsumX⟩ : ∃ Gy, Kept X Gy ∧ (Gy = G2 ∨ (er = 6 ∧ Gy = G1)) ∧ X.flatten.length ≤ 549755813888 := by
    have hfl := Hfl8.out
    have hfl2 := H2.out.2.2.2.1
    have hsum1 : (Ls8 ++ [(precM C2 []).1]).flatten.length ≤ 549755813888 := by
      rw [List.flatten_append, List.length_append]
      simp only [List.flatten_cons, List.flatten_nil, List.append_nil]
      omega
    have hk2 : Kept (Ls8 ++ [(precM C2 []).1]) G2 := by rw [HG2.out]; exact Hkept8.out.add C2 HCk2.out H2.out.1
    rcases hcase with ⟨h0, hX⟩ | ⟨h6, hne, hX | hX⟩
    · by_cases hnil : C2 = []
      · rw [if_pos hnil] at hX
        refine ⟨G2, ?_, .inl rfl, by rw [hX]; omega⟩
        have e : G2 = G1 := by rw [HG2.out, hnil]; rfl
        rw [hX, e]
        exact Hkept8.out
      · rw [if_neg hnil] at hX
        rw [hX]
        exact ⟨G2, hk2, .inl rfl, hsum1⟩
    · rw [hX]; exact ⟨G1, Hkept8.out, .inr ⟨h6, rfl⟩, by omega⟩
    · rw [hX]; exact ⟨G2, hk2, .inl rfl, hsum1⟩
  have hGy : ∀ k l, Gy k = some l → l.length ≤ 300 := by
    rcases hgy with h | ⟨_, h⟩
    · rw [h]; exact HGl2.out
    · rw [h]; exact HGl1.out
  obtain ⟨Gx, hread, hagree⟩ := hkX.read
  have hoc := open_cont (hcont.onK ch) rfl hfX
  have hfew14 : ({ D12.cut ch with off := false } : Dev).Few 900000 := on_few ((cut_few hf12 ch).mono (by decide))
  have hy1w := (Hy1.out.fr hfr12).weaken (ok' := fun k => k < w12.heap.size ∧ ¬ Gd12 k) fun k hk => ⟨hk.1, fun h => hk.2 (hgf12 k h)⟩
  have hy2w := (Hy2.out.fr hfr12).weaken (ok' := fun k => k < w12.heap.size ∧ ¬ Gd12 k) fun k hk => ⟨hk.1, fun h => hk.2 (hgf12 k h)⟩
  have hBw := HB3.out.grow hb12
  have z3 := hBw.cell 3
  have z4 := hBw.cell 4
  have z5 := hBw.cell 5
  simp only [List.getElem?_toArray, List.getElem?_cons_zero, List.getElem?_cons_succ] at z3 z4 z5
  have hcut := cut_any w3.heap.size Gd12 g D12 (fun k => k < w.heap.size) (.slice Ak ch.kept.length nk) ch w12 hd12 (Hkl.out.grow (below_call Hb3.out hb12)) (by have := hf12.1; omega)
  have Hcut := Lib.hid hcut
  have Hgb := Lib.hid (fun k (hk : Gd12 k) => hbase12 k (hgf12 k hk))
  have Hy1 := Lib.hid hy1w
  have Hy2 := Lib.hid hy2w
  have Hb12 := Lib.hid hb12
  have Hgy := Lib.hid hgy
  have HGy := Lib.hid hGy
  have HsumX := Lib.hid hsumX
  have Hread := Lib.hid hread
  have Hagree := Lib.hid hagree
  have Hoc := Lib.hid hoc
  have Hfew14 := Lib.hid hfew14
  clear hd12 hfr12 hgf12 hbase12 hcont hfX hf12 hcase hb12 hkX hgy hsumX hGy hread hagree hoc hfew14 hy1w hy2w hBw hcut Hcc Hb11
  go_wp2_with fail
  clear z3 z4 z5
  refine Hcut.out.mono ?_
  rintro e w13 ⟨rfl, hd13, hfr13⟩
  have hon := on_any w3.heap.size Gd12 g (D12.cut ch) w13 hd13
  have Hon := Lib.hid hon
  have Hy1 := Lib.hid (Hy1.out.fr hfr13)
  have Hy2 := Lib.hid (Hy2.out.fr hfr13)
  have Hb13 := Lib.hid (Hb12.out.trans (hfr13.below Hgb.out Hb12.out.size))
  clear hon hd13 hfr13 Hcut Hb12
  go_wp2_with fail
  refine Hon.out.mono ?_
  rintro e w14 ⟨rfl, hd14, hfr14⟩
  have hop := kopen_ok w3.heap.size Gd12 g { D12.cut ch with off := false } { D12.cut ch with off := false } w14 Hfew14.out hd14 _ X Hoc.out.1 Hoc.out.2 Gx Hread.out HsumX.out
  have Hop := Lib.hid hop
  have Hy1 := Lib.hid (Hy1.out.fr hfr14)
  have Hy2 := Lib.hid (Hy2.out.fr hfr14)
  have Hb14 := Lib.hid (Hb13.out.trans (hfr14.below Hgb.out Hb13.out.size))
  clear hop hd14 hfr14 Hon Hb13
  go_wp2_with fail
  refine Hop.out.mono ?_
  rintro e w15 ⟨kb2, Fp15, n15, rfl, hk15, hn15, hkw15, hfr15⟩
  obtain ⟨_, Gd15, F15, _, hsees, _, _⟩ := hk15.sees
  have hb15 : Below w3.heap.size w3 w15 := Hb14.out.trans (hfr15.below Hgb.out Hb14.out.size)
  have hGx : ∀ k l, k < 18446744073709551616 → Gx k = some l → l.length ≤ 65535 := fun k l hk h => by
    rw [Hagree.out k hk] at h
    have := HGy.out k l h
    omega
  have hlk2 := like_any F15 _ kb2 n15 Gx (.slice Ay2 R2.length cy2) R2 w15 hsees (by have := HsumX.out; omega) hGx (Hy2.out.fr hfr15)
  have hlk1 := fun (z : World) (hz : Below w15.heap.size w15 z) => like_any F15 _ kb2 n15 Gx (.slice Ay1 R1.length cy1) R1 z (hsees.grow hz) (by have := HsumX.out; omega) hGx ((Hy1.out.fr hfr15).grow hz)
  have Hlk2 := Lib.hid hlk2
  have Hlk1 := Lib.hid hlk1
  have Hb15 := Lib.hid (Hb3.out.trans (hb15.mono Hb3.out.size))
  clear hk15 hsees hfr15 hb15 hlk1 hlk2 hGx hn15 Hop Hb14 Hy1 Hy2
  go_wp2_with fail
  refine Hlk2.out.mono ?_
  rintro e w16 ⟨⟨Bn, rfl, hBn⟩, hb16⟩
  have Hb16 := Lib.hid (below_call Hb15.out hb16)
  have HBn := Lib.hid hBn
  have Hb16s := Lib.hid hb16
  clear hBn hb16
  cases Bn with
  | true =>
    go_wp2_with fail
    go_ret
    exact ⟨rfl, Hb16.out⟩
  | false =>
    have h61 : er = 6 ∧ Gy = G1 := by
      rcases Hgy.out with h | h
      · have := HBn.out (Hrep2.out.agree fun k hk => by rw [Hagree.out k hk, h])
        cases this
      · exact h
    obtain ⟨rfl, hG1⟩ := h61
    have HG1y := Lib.hid hG1
    clear hG1
    go_wp2_with fail
    refine (Hlk1.out _ Hb16s.out).mono ?_
    rintro e w17 ⟨⟨Bw, rfl, hBw⟩, hb17⟩
    have hT : Bw = true := hBw (Hrep1.out.agree fun k hk => by rw [Hagree.out k hk, HG1y.out])
    subst hT
    go_wp2_with fail
    go_ret
    exact ⟨rfl, below_call Hb16.out hb17⟩
end Go.Proofs.YtdmbmkjiffhbcaaGreat
