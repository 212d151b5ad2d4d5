/-
  The walk of KeepLast.
-/
import Derived.Test.YtfkpjokhcomgoaaKKeep
import Derived.Test.YtfkpjokhcomgoaaKMaps
namespace Go.Proofs.Ytfkpjokhcomgoaa
open Go.RowKit Go.Maps
set_option maxRecDepth 100000

def strG (G : Nat → Option (List UInt8)) : Nat → Option Value := fun k => (G k).map str
/-- Pairs of which only those of some keys are left. -/
def onlyG (G : Nat → Option (List UInt8)) (ys : List Nat) : Nat → Option (List UInt8) := fun k => if k ∈ ys then G k else none
def lessG (G : Nat → Option (List UInt8)) (ys : List Nat) : Nat → Option (List UInt8) := fun k => if k ∈ ys then none else G k
theorem MapU.same {w : World} {g n : Nat} {F F' : Nat → Option Value} (h : MapU w g n F) (hF : ∀ k, k < 18446744073709551616 → F' k = F k) : MapU w g n F' := by
  obtain ⟨D, h1, h2⟩ := h
  exact ⟨D, h1, fun k hk => by rw [hF k hk]; exact h2 k hk⟩
theorem keysL (L : List PutM) (i : Nat) (hi : i < L.length) : (L.drop i).map (·.key) = L[i].key :: (L.drop (i + 1)).map (·.key) := by rw [List.drop_eq_getElem_cons hi]; rfl
theorem ButS.of_below {w w' : World} (h : Below w.heap.size w w') (g : Nat) : ButS g w w' := ⟨h.os, h.tape, h.output, h.size, fun k hk _ => h.block k hk⟩
theorem Bts_grown {g : Nat} {w w1 w2 : World} (h : ButS g w w1) (hg : w1.grownBy w2 (some g)) : ButS g w w2 := h.trans ⟨hg.os, hg.tape, hg.output, hg.size, fun k hk hne => hg.block k hk (fun e => hne (Option.some.inj e))⟩
theorem less_step (G : Nat → Option (List UInt8)) (ks : List Nat) (x y : Nat) : strG (lessG G (x :: ks)) y = updU (strG (lessG G ks)) x none y := by
  unfold updU strG lessG
  by_cases e : y = x
  · subst e; simp
  · simp [e]

set_option maxHeartbeats 2000000 in
theorem keeplast_walk (v1 : Value) (L1 : List PutM) (v2 : Value) (L2 : List PutM) (w : World) (hv1 : IsL kPut w (fun _ => True) v1 L1) (hv2 : IsL kPut w (fun _ => True) v2 L2) :
    Calls Try.prog 4 #[v1, v2] w fun e w' => e = .returned (.bool true) ∧ Below w.heap.size w w' := by
  have hv1' : IsL kPut w (fun k => k < w.heap.size) v1 L1 := hv1.move fun k _ hk => ⟨hk, rfl⟩
  have hv2' : IsL kPut w (fun k => k < w.heap.size) v2 L2 := hv2.move fun k _ hk => ⟨hk, rfl⟩
  have hkey1 : ∀ p ∈ L1, p.key < 18446744073709551616 := by
    intro p hp
    obtain ⟨i, hi, rfl⟩ := List.getElem_of_mem hp
    obtain ⟨A, c, _, _, _, hel⟩ := put_at hv1'
    obtain ⟨b, off, _, _, _, hc⟩ := hel (by intro e; subst e; cases hi)
    obtain ⟨_, _, _, _, _, h, _⟩ := hc i hi
    exact h
  have hkey2 : ∀ p ∈ L2, p.key < 18446744073709551616 := by
    intro p hp
    obtain ⟨i, hi, rfl⟩ := List.getElem_of_mem hp
    obtain ⟨A, c, _, _, _, hel⟩ := put_at hv2'
    obtain ⟨b, off, _, _, _, hc⟩ := hel (by intro e; subst e; cases hi)
    obtain ⟨_, _, _, _, _, h, _⟩ := hc i hi
    exact h
  have hp1 := fun (z : World) (hz : Below w.heap.size w z) => puts_any _ v1 L1 z (hv1'.grow hz)
  have hp2 := fun (z : World) (hz : Below w.heap.size w z) => puts_any _ v2 L2 z (hv2'.grow hz)
  obtain ⟨B1, hB1⟩ : ∃ B1, B1 = putsB L1 := ⟨_, rfl⟩
  obtain ⟨B2, hB2⟩ : ∃ B2, B2 = putsB L2 := ⟨_, rfl⟩
  rw [← hB1] at hp1
  rw [← hB2] at hp2
  have Hp1 := Lib.hid hp1
  have Hp2 := Lib.hid hp2
  have HB1 := Lib.hid hB1
  have HB2 := Lib.hid hB2
  have Hv1 := Lib.hid hv1'
  have Hv2 := Lib.hid hv2'
  have Hkey1 := Lib.hid hkey1
  have Hkey2 := Lib.hid hkey2
  clear hv1 hv2 hv1' hv2' hp1 hp2 hB1 hB2 hkey1 hkey2
  go_enter Try.func4, Try.ntmps4
  go_wp2_with fail
  refine (klives_any _).mono ?_
  rintro e wa ⟨rfl, hba⟩
  have Hba := Lib.hid hba
  clear hba
  go_wp2_with fail
  refine (Hp1.out _ Hba.out).mono ?_
  rintro e wb ⟨rfl, hbb⟩
  have Hbb := Lib.hid (below_call Hba.out hbb)
  clear hbb
  cases B1 with
  | false =>
    go_wp2_with fail
    refine (klives_any _).mono ?_
    rintro e w03 ⟨rfl, hbc⟩
    go_wp2_with fail
    go_ret
    exact ⟨rfl, below_call Hbb.out hbc⟩
  | true =>
  go_wp2_with fail
  refine (Hp2.out _ Hbb.out).mono ?_
  rintro e w03 ⟨rfl, hbc⟩
  have Hbc := Lib.hid (below_call Hbb.out hbc)
  clear hbc
  cases B2 with
  | false =>
    go_wp2_with fail
    refine (klives_any _).mono ?_
    rintro e wd ⟨rfl, hbd⟩
    go_wp2_with fail
    go_ret
    exact ⟨rfl, below_call Hbc.out hbd⟩
  | true =>
  obtain ⟨D1, ho1, hi1, hl1, hn1, hc1, hlo1⟩ := open_new 100 (by decide) (by decide)
  have hs1 : sideN D1 = 49 := by unfold sideN; rw [hn1]
  have hf1 : D1.Few 10 := ⟨by rw [hlo1]; decide, by rw [hc1]; decide⟩
  obtain ⟨J1, hJ1⟩ : ∃ J1 : JM, J1 = ⟨1, 0, 0, 0, false⟩ := ⟨_, rfl⟩
  rw [← hJ1] at ho1 hi1
  have hJ1u : J1.used = 0 := by rw [hJ1]
  have hJ1n : J1.number = 1 := by rw [hJ1]
  have h81 := putsB_all HB1.out.symm
  have h82 := putsB_all HB2.out.symm
  have hlen1 : L1.length ≤ 8 := h81.1
  have hlen2 : L2.length ≤ 8 := h82.1
  obtain ⟨C1, hC1⟩ : ∃ C1, C1 = cutL 300 L1 := ⟨_, rfl⟩
  obtain ⟨C2, hC2⟩ : ∃ C2, C2 = cutL 300 L2 := ⟨_, rfl⟩
  have hCl1 : C1.length ≤ 8 := by rw [hC1, cutL_length]; exact hlen1
  have hCl2 : C2.length ≤ 8 := by rw [hC2, cutL_length]; exact hlen2
  have hCv1 : ∀ p ∈ C1, p.val.length ≤ 300 := by rw [hC1]; exact cutL_val 300 L1
  have hCv2 : ∀ p ∈ C2, p.val.length ≤ 300 := by rw [hC2]; exact cutL_val 300 L2
  have hCk1 : ∀ p ∈ C1, p.key < 18446744073709551616 := by
    intro p hp
    rw [hC1] at hp
    obtain ⟨q, hq, rfl⟩ := List.mem_map.1 hp
    exact Hkey1.out q hq
  have hCk2 : ∀ p ∈ C2, p.key < 18446744073709551616 := by
    intro p hp
    rw [hC2] at hp
    obtain ⟨q, hq, rfl⟩ := List.mem_map.1 hp
    exact Hkey2.out q hq
  have hr1 := short_rec0 C1 300 (by decide) hCl1 hCk1 hCv1
  have hr2 := short_rec0 C2 300 (by decide) hCl2 hCk2 hCv2
  have hg1 := short_few C1 300 (by decide) hCv1
  have hg2 := short_few C2 300 (by decide) hCv2
  have hrl1 := (recsB_one (precM C1 []).1).2
  have hrl2 := (recsB_one (precM C2 []).1).2
  have H1 := Lib.hid (And.intro hr1.1 (And.intro hg1 (show (recsB [(precM C1 []).1]).length ≤ 2600 by have := hr1.2; omega)))
  have H2 := Lib.hid (And.intro hr2.1 (And.intro hg2 (show (recsB [(precM C2 []).1]).length ≤ 2600 by have := hr2.2; omega)))
  obtain ⟨G1, hG1⟩ : ∃ G1, G1 = putsG noneG C1 := ⟨_, rfl⟩
  obtain ⟨G2, hG2⟩ : ∃ G2, G2 = putsG G1 C2 := ⟨_, rfl⟩
  have hGl1 : ∀ k l, G1 k = some l → l.length ≤ 300 := by rw [hG1]; exact putsG_most 300 C1 noneG (fun k l h => by cases h) hCv1
  have hGl2 : ∀ k l, G2 k = some l → l.length ≤ 300 := by rw [hG2]; exact putsG_most 300 C2 G1 hGl1 hCv2
  have Ho1 := Lib.hid ho1
  have Hi1 := Lib.hid hi1
  have Hl1 := Lib.hid hl1
  have Hf1 := Lib.hid hf1
  have Hn1 := Lib.hid hn1
  have Hs1 := Lib.hid hs1
  have HJ1u := Lib.hid hJ1u
  have HJ1n := Lib.hid hJ1n
  have HC1 := Lib.hid hC1
  have HC2 := Lib.hid hC2
  have HCl1 := Lib.hid hCl1
  have HCl2 := Lib.hid hCl2
  have HCk2 := Lib.hid hCk2
  have HCv2 := Lib.hid hCv2
  have HG1 := Lib.hid hG1
  have HG2 := Lib.hid hG2
  have HGl1 := Lib.hid hGl1
  have HGl2 := Lib.hid hGl2
  have Hlen1 := Lib.hid hlen1
  have Hlen2 := Lib.hid hlen2
  clear ho1 hi1 hl1 hf1 hn1 hs1 hc1 hlo1 hJ1 hJ1u hJ1n hC1 hC2 hCl1 hCl2 hCv1 hCv2 hCk1 hCk2 hr1 hr2 hg1 hg2 hrl1 hrl2 hG1 hG2 hGl1 hGl2 h81 h82 hlen1 hlen2 Hp1 Hp2
  go_wp2_with fail
  refine (new_ok 100 w03 (by decide) (by decide)).mono ?_
  rintro e w1 ⟨g, F1, rfl, hd1, hb1⟩
  have Hd1 := Lib.hid hd1
  have Hb1 := Lib.hid hb1
  clear hd1 hb1
  go_wp2_with fail
  have ho := kopen_ok w03.heap.size F1 g (newD 100) D1 w1 (newD_few 100 900000) Hd1.out J1 [] Ho1.out Hi1.out noneG rfl (by simp)
  refine ho.mono ?_
  rintro e w2 ⟨kb, Fp2, n2, rfl, hk2, hn2, hkw, hfr2⟩
  obtain rfl : n2 = 0 := by simpa using hn2
  have hb2 : Below w03.heap.size w03 w2 := Hb1.out.trans (hfr2.below (fun k hk => (Hd1.out.low k hk).1) Hb1.out.size)
  have Hk2 := Lib.hid hk2
  have Hb2 := Lib.hid hb2
  have hs2c := hb2.size
  have Hsc := Lib.hid Hbc.out.size
  clear ho hk2 hb2 hfr2 hn2 Hd1 Hb1 Ho1
  have hct1 := kcut_any (fun k => k < w.heap.size) v1 L1 300 (by decide) w2 (Hv1.out.grow (below_call Hbc.out Hb2.out)) (by have := Hlen1.out; omega)
  rw [← HC1.out] at hct1
  have Hct1 := Lib.hid hct1
  clear hct1
  go_wp2_with fail
  refine Hct1.out.mono ?_
  rintro e w3 ⟨⟨x1, rfl, hx1⟩, hb3⟩
  have hct2 := kcut_any (fun k => k < w.heap.size) v2 L2 300 (by decide) w3 (Hv2.out.grow (below_call (below_call Hbc.out Hb2.out) hb3)) (by have := Hlen2.out; omega)
  rw [← HC2.out] at hct2
  have Hct2 := Lib.hid hct2
  have Hx1 := Lib.hid hx1
  have Hb3 := Lib.hid hb3
  clear hct2 hx1 hb3
  go_wp2_with fail
  refine Hct2.out.mono ?_
  rintro e w4 ⟨⟨x2, rfl, hx2⟩, hb4⟩
  have hb24 := below_call Hb3.out hb4
  have hsz3 := Hb3.out.size
  have hsz4 := hb4.size
  have hx1' : IsL kPut w4 (fun k => k < w4.heap.size ∧ ¬ Fp2 k) x1 C1 := (Hx1.out.grow hb4).move fun k hk hl => ⟨⟨hl, fun hF => by
    have := Hk2.out.low k hF
    have := Hsc.out
    rcases hk with h | h
    · omega
    · omega⟩, rfl⟩
  have hx2' : IsL kPut w4 (fun k => k < w4.heap.size ∧ ¬ Fp2 k) x2 C2 := hx2.move fun k hk hl => ⟨⟨hl, fun hF => by
    have := Hk2.out.low k hF
    have := Hsc.out
    rcases hk with h | h
    · omega
    · omega⟩, rfl⟩
  have hcm1 := kcommit_short w03.heap.size Fp2 _ kb g D1 J1 [] 0 10 noneG x1 C1 w4 (Hk2.out.grow hb24) Hf1.out (by decide) (by rw [Hn1.out]; decide) Hl1.out (by rw [HJ1n.out]; decide) hx1' (fun k hk => hk) H1.out.2.1 H1.out.1 (by rw [Hs1.out, HJ1u.out]; have := H1.out.2.2; omega) (by have := HCl1.out; omega) (fun k l h => by cases h)
  have Hcm1 := Lib.hid hcm1
  have Hx2 := Lib.hid hx2'
  have Hb4 := Lib.hid (below_call Hb2.out hb24)
  obtain ⟨A1, c1, _, hxe1, _, _, _, _⟩ := hx1'
  obtain ⟨A2, c2, _, hxe2, hxc2, hxm2, _, _⟩ := hx2'
  subst hxe1 hxe2
  unfold maxLen at hxm2
  clear hcm1 hx2 hb4 hb24 Hct1 Hct2 Hx1 Hb3 hsz3
  go_wp2_with fail
  refine Hcm1.out.mono ?_
  rintro e w5 ⟨rfl, Fp5, D5, J5, Ls5, hk5, hfr5, hln5, hf5, hl5, hu5, hnu5, hfl5, hor5⟩
  rw [← HG1.out, Nat.zero_add] at hk5
  have hx5 : IsL kPut w5 (fun k => k < w5.heap.size ∧ ¬ Fp5 k) (.slice A2 C2.length c2) C2 := Hx2.out.move fun k hk hl => ⟨⟨Nat.lt_of_lt_of_le hl hfr5.size, (hfr5.block k hl hk.2).1⟩, (hfr5.block k hl hk.2).2⟩
  have hb5 : Below w03.heap.size w03 w5 := Hb4.out.trans (hfr5.below (fun k hk => (Hk2.out.low k hk).1) Hb4.out.size)
  have hs5 : sideN D5 = 49 := by unfold sideN; rw [hln5, Hn1.out]
  have hlen5 : D5.sure.length ≤ 4096 := by rw [hln5, Hn1.out]; decide
  have hu5' : J5.used ≤ 2600 := by rw [HJ1u.out] at hu5; have := H1.out.2.2; omega
  have hn5' : J5.number + 1 ≤ 4611686018427387904 := by rw [HJ1n.out] at hnu5; omega
  have Hlow5 := Lib.hid hk5.low
  have Hb5s := Lib.hid hb5.size
  have Hk5 := Lib.hid hk5
  have Hx5 := Lib.hid hx5
  have Hb5 := Lib.hid hb5
  have Hs5 := Lib.hid hs5
  have Hlen5 := Lib.hid hlen5
  have Hu5 := Lib.hid hu5'
  have Hn5 := Lib.hid hn5'
  have Hf5 := Lib.hid hf5
  have Hl5 := Lib.hid hl5
  clear hk5 hx5 hb5 hs5 hlen5 hu5 hu5' hnu5 hn5' hf5 hl5 hln5 hfl5 hor5 hfr5 Hcm1 Hx2 Hb4 Hk2 Hb2 Hf1 Hn1 Hl1 Hs1 HJ1u HJ1n H1
  have hz6 : Below w5.heap.size w5 (w5.alloc (.map #[] 0)) := (Below.refl _ _).alloc (Nat.le_refl _) _
  have hkk := kkeys_ok w03.heap.size Fp5 kb g D5 J5 Ls5 C1.length G1 (w5.alloc (.map #[] 0)) (Hk5.out.grow hz6) (by have := HCl1.out; omega)
  have Hkk := Lib.hid hkk
  have Hz6 := Lib.hid hz6
  clear hkk hz6
  have hmk : ∀ u : World, (Instr.makeMap 45 none).run Try.prog u = .ok (.map (some u.heap.size)) (u.alloc (.map #[] 0)) := fun u => rfl
  go_wp2_with fail
  clear hmk
  refine Hkk.out.mono ?_
  rintro e w7 ⟨⟨vy, ys, rfl, hys, hyl, hown⟩, hb7⟩
  have hmp7 : MapU w7 w5.heap.size 0 (strG (onlyG G1 [])) := ((MapU.made w5).keep (hb7.block _ (by rw [World.size_alloc]; omega))).same (fun k _ => by unfold strG onlyG; rfl)
  have hk7 := (Hk5.out.grow Hz6.out).grow hb7
  have hx7 : IsL kPut w7 (fun k => k < w5.heap.size ∧ ¬ Fp5 k) (.slice A2 C2.length c2) C2 := (Hx5.out.grow Hz6.out).grow hb7
  have hs7 : w5.heap.size + 1 ≤ w7.heap.size := by have := hb7.size; rw [World.size_alloc] at this; exact this
  obtain ⟨Ay, cy, hvy, hyc, hym, hrd⟩ := hown.form
  have hownb : ∀ q, vy.ownBlock = some q → w5.heap.size + 1 ≤ q ∧ q < w7.heap.size := fun q hq => by
    have := hown.lt q hq
    rw [World.size_alloc] at this
    omega
  rw [List.length_map] at hvy hyc
  unfold maxLen at hym
  have hym2 : ys.length ≤ 9223372036854775807 := by omega
  have hrow : ∀ k (hk : k < ys.length), ∃ q off, Ay = some ⟨q, off, none⟩ ∧ q ≠ w5.heap.size ∧ q < w7.heap.size ∧ w7.cell? ⟨q, off + k, none⟩ = some (.int .u64 (ys[k] : Int)) := fun k hk => by
    obtain ⟨q, off, e, ho, hl, hc⟩ := hrd.at' (by intro h; rw [List.map_eq_nil_iff] at h; rw [h] at hk; simp at hk)
    have h1 := hownb q ho
    refine ⟨q, off, e, by omega, hl, ?_⟩
    rw [hc k (by rw [List.length_map]; exact hk), List.getElem_map]
    rfl
  subst hvy
  have hKX : ∀ wr, ButS w5.heap.size w7 wr → KeepOk wr w03.heap.size Fp5 kb g D5 J5 Ls5 C1.length G1 ∧ IsL kPut wr (fun k => k < w5.heap.size ∧ ¬ Fp5 k) (.slice A2 C2.length c2) C2 := fun wr hbt => by
    have hl := hk7.low
    have hl5 := Hk5.out.low
    refine ⟨hk7.keep hbt.2.2.2.1 fun k hk => hbt.2.2.2.2 k (hl k hk).2 (by have := (hl5 k hk).2; omega), hx7.frame fun k hk hl => hbt.2.2.2.2 k hl (by have := hk.1; omega)⟩
  have hKX0 := hKX w7 (ButS.refl _ _)
  have hb07 : Below w03.heap.size w03 w7 := (Hb5.out.trans (Hz6.out.mono Hb5.out.size)).trans (hb7.mono (Nat.le_trans Hb5.out.size Hz6.out.size))
  have Hys := Lib.hid hys
  have Hmp7 := Lib.hid hmp7
  have Hrow := Lib.hid hrow
  have HKX := Lib.hid hKX
  have Hb07 := Lib.hid hb07
  clear hys hmp7 hk7 hx7 hrd hrow hKX hKX0 hb07 hb7 hown hownb Hkk Hz6 Hk5 Hx5
  go_wp2_with fail
  go_loopw [62] (fun i wr => ∃ k : Nat, k ≤ ys.length ∧ i = .int .i64 (k : Int) ∧ MapU wr w5.heap.size k (strG (onlyG G1 (ys.take k))) ∧ ButS w5.heap.size w7 wr) (fun i _ => ys.length - (intOf i).toNat)
  case atStart => exact ⟨0, by omega, rfl, Hmp7.out, ButS.refl _ _⟩
  case round =>
    obtain ⟨k, hk, rfl, hmp, hbt⟩ := hrel
    have Hmp := Lib.hid hmp
    have Hbt := Lib.hid hbt
    clear hmp hbt
    by_cases hlt : k < ys.length
    · obtain ⟨q, off, rfl, hq1, hq2, hcell⟩ := Hrow.out k hlt
      have c0 := (World.cell?_of_block (a := ⟨q, off + k, none⟩) (Hbt.out.2.2.2.2 q hq2 hq1)).trans hcell
      have hykey : ys[k] < 18446744073709551616 ∧ (G1 ys[k]).isSome = true := (Hys.out.1 ys[k]).1 (List.getElem_mem hlt)
      have htk : ys.take (k + 1) = ys.take k ++ [ys[k]] := List.take_succ_eq_append_getElem hlt
      obtain ⟨y, hy⟩ : ∃ y, y = ys[k] := ⟨_, rfl⟩
      rw [← hy] at c0 hykey htk
      obtain ⟨hy64, hysome⟩ := hykey
      obtain ⟨l, hl⟩ : ∃ l, G1 y = some l := by
        cases h : G1 y with
        | none => rw [h] at hysome; cases hysome
        | some l => exact ⟨l, rfl⟩
      have hget := kget_ok w03.heap.size Fp5 kb g D5 J5 Ls5 C1.length G1 wr (HKX.out wr Hbt.out).1 y hy64 (fun l h => by have := HGl1.out y l h; omega)
      rw [hl] at hget
      have hlG := Lib.hid hl
      have Hget := Lib.hid hget
      have Htk := Lib.hid htk
      have Hy := Lib.hid hy
      have hl300 : l.length ≤ 300 := HGl1.out y l hl
      clear hcell hget htk hy hl hysome
      go_wp2_with fail
      refine Hget.out.mono ?_
      rintro e w8 ⟨⟨v8, rfl, hown8⟩, hb8⟩
      have hB8 : IsB w8 (fun _ => True) v8 l := hown8.isB.weaken fun _ _ => trivial
      obtain ⟨A8, c8, rfl, _⟩ := hB8
      have hcv := conv_is (hown8.isB)
      have hmp8 : MapU w8 w5.heap.size k (strG (onlyG G1 (ys.take k))) := Hmp.out.keep (hb8.block _ Hmp.out.lt)
      have Hb8 := Lib.hid hb8
      have hgs : w5.heap.size < wr.heap.size := Hmp.out.lt
      clear hb8 hown8
      go_wp2_with (at_mapUpdate; refine wpList_storeS _ rfl _ _ _ rfl w5.heap.size k _ rfl hmp8 (by unfold maxLen; omega) y hy64 rfl (str l) rfl ?_; intro w9 hm9 hg9)
      go_roundw
      case rel =>
        refine ⟨k + 1, by omega, by go_num, hm9.same fun j hj => ?_, Hbt.out.trans ⟨hg9.os.trans Hb8.out.os, hg9.tape.trans Hb8.out.tape, hg9.output.trans Hb8.out.output, Nat.le_trans Hb8.out.size hg9.size, fun b hb hne => (hg9.block b (Nat.lt_of_lt_of_le hb Hb8.out.size) (fun e => hne (Option.some.inj e))).trans (Hb8.out.block b hb)⟩⟩
        rw [Htk.out]
        unfold updU strG onlyG
        by_cases e : j = y
        · subst e
          simp [hlG.out]
        · simp [e]
      case measure => simp [intOf]; omega
    · obtain rfl : k = ys.length := by omega
      have hfull : ∀ j, j < 18446744073709551616 → strG G1 j = strG (onlyG G1 (ys.take ys.length)) j := fun j hj => by
        unfold strG onlyG
        rw [List.take_length]
        by_cases e : j ∈ ys
        · rw [if_pos e]
        · rw [if_neg e]
          cases h : G1 j with
          | none => rfl
          | some l => exact absurd ((Hys.out.1 j).2 ⟨hj, by rw [h]; rfl⟩) e
      have hmpA := Hmp.out.same hfull
      obtain ⟨wx, hwx⟩ : ∃ wx, wx = wr := ⟨_, rfl⟩
      subst hwx
      have hKX1 := HKX.out wx Hbt.out
      have HmpA := Lib.hid hmpA
      have Hkx := Lib.hid hKX1.1
      have Hxx := Lib.hid hKX1.2
      have hgs : w5.heap.size < wx.heap.size := Hmp.out.lt
      clear hfull hmpA hKX1 Hmp
      have hcm2 := kcommit_short w03.heap.size Fp5 _ kb g D5 J5 Ls5 C1.length (10 + 2100) G1 (.slice A2 C2.length c2) C2 wx Hkx.out Hf5.out (by decide) Hlen5.out Hl5.out Hn5.out Hxx.out (fun k hk => ⟨by have := hk.1; omega, hk.2⟩) H2.out.2.1 H2.out.1 (by rw [Hs5.out]; have := Hu5.out; have := H2.out.2.2; omega) (by have := HCl1.out; have := HCl2.out; omega) (fun k l h => by have := HGl1.out k l h; omega)
      have Hcm2 := Lib.hid hcm2
      clear hcm2
      go_wp2_with fail
      refine Hcm2.out.mono ?_
      rintro e w10 ⟨rfl, Fp10, D10, J10, Ls10, hk10, hfr10, _⟩
      rw [← HG2.out] at hk10
      have hgmF : ¬ Fp5 w5.heap.size := fun h => by have := (Hlow5.out _ h).2; omega
      obtain ⟨hgm10, hgmb⟩ := hfr10.block w5.heap.size hgs hgmF
      have hmp10 : MapU w10 w5.heap.size ys.length (strG (lessG G1 [])) := (HmpA.out.keep hgmb).same fun k _ => by unfold strG lessG; rfl
      have hx10 : IsL kPut w10 (fun k => k < w5.heap.size ∧ ¬ Fp10 k) (.slice A2 C2.length c2) C2 := Hxx.out.move fun k hk hl => ⟨⟨hk.1, (hfr10.block k hl hk.2).1⟩, (hfr10.block k hl hk.2).2⟩
      have hb10 : Below w03.heap.size w03 w10 := by
        have h1 : Below w03.heap.size w03 wx := ⟨Hbt.out.1.trans Hb07.out.os, Hbt.out.2.1.trans Hb07.out.tape, Hbt.out.2.2.1.trans Hb07.out.output, Nat.le_trans Hb07.out.size Hbt.out.2.2.2.1, fun k hk => (Hbt.out.2.2.2.2 k (Nat.lt_of_lt_of_le hk Hb07.out.size) (by have := Hb5s.out; omega)).trans (Hb07.out.block k hk)⟩
        exact h1.trans (hfr10.below (fun k hk => (Hlow5.out k hk).1) h1.size)
      have hgl10 : w5.heap.size < w10.heap.size := Nat.lt_of_lt_of_le hgs hfr10.size
      have hlow10 := hk10.low
      have hKX : ∀ wr, ButS w5.heap.size w10 wr → KeepOk wr w03.heap.size Fp10 kb g D10 J10 Ls10 (C1.length + C2.length) G2 ∧ IsL kPut wr (fun k => k < w5.heap.size ∧ ¬ Fp10 k) (.slice A2 C2.length c2) C2 := fun wr hbt =>
        ⟨hk10.keep hbt.2.2.2.1 fun k hk => hbt.2.2.2.2 k (hlow10 k hk).2 (fun e => hgm10 (e ▸ hk)), hx10.frame fun k hk hl => hbt.2.2.2.2 k hl (by have := hk.1; omega)⟩
      have hnn : C1.length + C2.length ≤ 16 := by have := HCl1.out; have := HCl2.out; omega
      have hgetX : ∀ wr (y : Nat), ButS w5.heap.size w10 wr → y < 18446744073709551616 → Calls Try.prog 10 #[.pointer (some ⟨kb, 0, none⟩), .int .u64 (y : Int)] wr fun e w' => (∃ v, e = .returned (.tuple #[v, .bool (G2 y).isSome]) ∧ Own1 w' wr.heap.size 5 v (((G2 y).getD []).map u8)) ∧ Below wr.heap.size wr w' := fun wr y hbt hy =>
        kget_ok w03.heap.size Fp10 kb g D10 J10 Ls10 (C1.length + C2.length) G2 wr (hKX wr hbt).1 y hy (fun l h => by have := HGl2.out y l h; omega)
      have Hget := Lib.hid hgetX
      have hel10 : C2 ≠ [] → ∃ b off, A2 = some ⟨b, off, none⟩ ∧ b ≠ w5.heap.size ∧ b < w10.heap.size ∧ ∀ (i : Nat) (hi : i < C2.length), ∃ Ai ci, w10.cell? ⟨b, off + i * 3, none⟩ = some (.int .u64 (C2[i].key : Int)) ∧ w10.cell? ⟨b, off + i * 3 + 1, none⟩ = some (.slice Ai C2[i].val.length ci) ∧
          w10.cell? ⟨b, off + i * 3 + 2, none⟩ = some (.bool C2[i].gone) ∧ C2[i].key < 18446744073709551616 ∧ IsB w10 (fun k => k ≠ w5.heap.size) (.slice Ai C2[i].val.length ci) C2[i].val := fun hne => by
        obtain ⟨Ap, cp, hv, _, _, hel⟩ := put_at hx10
        cases hv
        obtain ⟨b, off, hA, hb, hl, hc⟩ := hel hne
        refine ⟨b, off, hA, by have := hb.1; omega, hl, fun i hi => ?_⟩
        obtain ⟨Ai, ci, h0, h1, h2, h3, h4⟩ := hc i hi
        exact ⟨Ai, ci, h0, h1, h2, h3, h4.weaken fun k hk => by have := hk.1; omega⟩
      have Hel := Lib.hid hel10
      have hcap : C2.length ≤ c2 := hxc2
      have h8 : C2.length ≤ 8 := HCl2.out
      have Hmp10 := Lib.hid hmp10
      have Hb10 := Lib.hid hb10
      have hwl : wrap64 ((C2.length : Int) - 1) = (C2.length : Int) - 1 := by have := HCl2.out; unfold wrap64; omega
      have Hwx := Lib.hid Hbt.out
      clear hk10 hgmF hgm10 hgmb hmp10 hx10 hel10 hb10 hlow10 hKX hgetX hfr10 Hcm2 HmpA Hkx Hxx Hbt hgs
      go_wp2_with fail
      clear hwl
      go_loopw [14] (fun i wr => ∃ (k : Nat) (z : Int), k ≤ C2.length ∧ z = (k : Int) - 1 ∧ i = .int .i64 z ∧ MapU wr w5.heap.size ys.length (strG (lessG G1 ((C2.drop k).map (·.key)))) ∧ ButS w5.heap.size w10 wr) (fun i _ => (intOf i + 1).toNat)
      case atStart => exact ⟨C2.length, _, Nat.le_refl _, rfl, rfl, by rw [List.drop_length]; exact Hmp10.out, ButS.refl _ _⟩
      case round =>
        obtain ⟨k, z, hk, hz, rfl, hmp, hbt⟩ := hrel
        have Hmp := Lib.hid hmp
        have Hbt := Lib.hid hbt
        clear hmp hbt
        cases k with
        | zero =>
          obtain rfl : z = -1 := by omega
          clear hz
          have hmZ : MapU wr w5.heap.size ys.length (strG (lessG G1 (C2.map (·.key)))) := Hmp.out
          have hFin : ∀ (x : Nat) (c : Value), x < 18446744073709551616 → strG (lessG G1 (C2.map (·.key))) x = some c → ∃ l, c = str l ∧ G2 x = some l := fun x c hx hc => by
            unfold strG lessG at hc
            split at hc
            · cases hc
            · rename_i hno
              cases hq : G1 x with
              | none => rw [hq] at hc; cases hc
              | some l =>
                rw [hq] at hc
                injection hc with hc
                refine ⟨l, hc.symm, ?_⟩
                rw [HG2.out, putsG_other C2 G1 x (fun p hp e => hno (List.mem_map.2 ⟨p, hp, e⟩))]
                exact hq
          obtain ⟨FF, hFF⟩ : ∃ FF, FF = strG (lessG G1 (C2.map (·.key))) := ⟨_, rfl⟩
          rw [← hFF] at hmZ hFin
          have HFin := Lib.hid hFin
          have HmZ := Lib.hid hmZ
          clear hmZ hFin hFF
          obtain ⟨wy, hwy⟩ : ∃ wy, wy = wr := ⟨_, rfl⟩
          subst hwy
          have hgy : w5.heap.size < wy.heap.size := HmZ.out.lt
          go_wp2_with (at_range; refine wpList_rangeS _ rfl _ rfl w5.heap.size ys.length _ rfl HmZ.out ?_; intro w11 left0 cnt0 hrg0 hg11 hs11)
          have hbt11 : ButS w5.heap.size w10 w11 := Hbt.out.trans ⟨hg11.os, hg11.tape, hg11.output, hg11.size, fun k hk _ => hg11.block k hk (fun e => by cases e)⟩
          try go_frame
          have hyw := Hbt.out.2.2.2.1
          go_loopw [20] (fun _ wr => ∃ left cnt, RunU wr w5.heap.size wy.heap.size ys.length FF left cnt ∧ ButS w5.heap.size w10 wr) (fun _ wr => wr.rangeLeft w5.heap.size wy.heap.size)
          case atStart => exact ⟨left0, cnt0, hrg0, hbt11⟩
          case round =>
            obtain ⟨left, cnt, hrg, hbt⟩ := hrel
            have Hbt2 := Lib.hid hbt
            clear hbt hbt11 hrg0
            go_wp2_with (at_next; refine wpList_nextS _ rfl _ rfl w5.heap.size wy.heap.size ys.length FF left cnt rfl hrg ?_ ?_)
            · go_wp2_with fail
              go_ret
              refine ⟨rfl, ?_⟩
              have h1 := Hb10.out
              have h2 := Hbt2.out
              have h3 := Hb5s.out
              have h4 := Hsc.out
              refine Hbc.out.trans ⟨h2.1.trans h1.os, h2.2.1.trans h1.tape, h2.2.2.1.trans h1.output, Nat.le_trans h1.size h2.2.2.2.1, fun k hk => ?_⟩
              have hk3 : k < w03.heap.size := by omega
              exact (h2.2.2.2.2 k (Nat.lt_of_lt_of_le hk3 h1.size) (by omega)).trans (h1.block k hk3)
            · intro x c w12 left' cnt' hx hc hrg2 hlt2 hg12 hs12 hen
              obtain ⟨l, rfl, hGl⟩ := HFin.out x c hx hc
              have hbt12 : ButS w5.heap.size w10 w12 := ⟨hg12.os.trans Hbt2.out.1, hg12.tape.trans Hbt2.out.2.1, hg12.output.trans Hbt2.out.2.2.1, Nat.le_trans Hbt2.out.2.2.2.1 hg12.size, fun k hk hne => (hg12.block k (Nat.lt_of_lt_of_le hk Hbt2.out.2.2.2.1) (fun e => by have := Option.some.inj e; omega)).trans (Hbt2.out.2.2.2.2 k hk hne)⟩
              have hget := Hget.out w12 x hbt12 hx
              rw [hGl] at hget
              simp only [Option.isSome_some, Option.getD_some] at hget
              have Hgt := Lib.hid hget
              have Hbt12 := Lib.hid hbt12
              clear hget hbt12 hc hGl hg12
              go_wp2_with fail
              refine Hgt.out.mono ?_
              rintro e w13 ⟨⟨v8, rfl, hown8⟩, hb8⟩
              obtain ⟨A8, c8, hv8, _⟩ := hown8.form
              rw [List.length_map] at hv8
              subst hv8
              have hcv := conv_is hown8.isB
              have hrg3 := hrg2.keep (hb8.block _ hrg2.lt.1) (hb8.block _ hrg2.lt.2)
              have hl3 : w13.rangeLeft w5.heap.size wy.heap.size < wr.rangeLeft w5.heap.size wy.heap.size := by rw [hrg3.left_eq, hrg.left_eq]; exact hlt2
              have Hrg3 := Lib.hid hrg3
              have Hb8 := Lib.hid hb8
              have Hl3 := Lib.hid hl3
              clear hown8 hrg3 hrg2 hrg hb8 hl3 hen hlt2
              go_wp2_with fail
              go_roundw
              case rel => exact ⟨left', cnt', Hrg3.out, Hbt12.out.trans (ButS.of_below Hb8.out _)⟩
              case measure => exact Hl3.out
        | succ j =>
          obtain rfl : z = (j : Int) := by omega
          clear hz
          obtain ⟨b, off, rfl, hbg, hbl, hcells⟩ := Hel.out (by intro e; rw [e] at hk; simp at hk)
          have hj : j < C2.length := hk
          have hsameb := Hbt.out.2.2.2.2 b hbl hbg
          obtain ⟨Ai, ci, c0, c1, cg, hkey, hval⟩ := hcells j hj
          have d0 := (World.cell?_of_block (a := ⟨b, off + j * 3, none⟩) hsameb).trans c0
          have d1 := (World.cell?_of_block (a := ⟨b, off + j * 3 + 1, none⟩) hsameb).trans c1
          have d2 := (World.cell?_of_block (a := ⟨b, off + j * 3 + 2, none⟩) hsameb).trans cg
          obtain ⟨p, hp⟩ : ∃ p, p = C2[j] := ⟨_, rfl⟩
          rw [← hp] at d0 d1 d2 hkey hval
          obtain ⟨pk, pv, pg⟩ := p
          dsimp only at d0 d1 d2 hkey hval
          obtain ⟨pl, hpl⟩ : ∃ pl, pl = pv.length := ⟨_, rfl⟩
          rw [← hpl] at d1 hval
          have Hpl := Lib.hid hpl
          have Hp := Lib.hid hp
          have Hval := Lib.hid hval
          have Hkey := Lib.hid hkey
          have Hcells := Lib.hid hcells
          have HD0 := Lib.hid d0
          have HD1 := Lib.hid d1
          have HD2 := Lib.hid d2
          have Hsb := Lib.hid hsameb
          have hbw : b < wr.heap.size := Nat.lt_of_lt_of_le hbl Hbt.out.2.2.2.1
          clear hpl hp hval hkey hcells c0 c1 cg hsameb d0 d1 d2
          obtain ⟨wx, hwx⟩ : ∃ wx, wx = wr := ⟨_, rfl⟩
          subst hwx
          obtain ⟨LT, hLT⟩ : ∃ LT, LT = (C2.drop (j + 1)).any (fun q => decide (q.key = pk)) := ⟨_, rfl⟩
          have HLT := Lib.hid hLT
          clear hLT
          go_upto_region 21 with fail
          go_cut [91, 92, 93] (fun v nv zv wz => zv = .int .i64 0 ∧ nv = .int .i64 ((C2.length - (j + 1) : Nat) : Int) ∧ (∃ a c, v = .slice a (C2.length - (j + 1)) c ∧ (j + 1 < C2.length → a = some ⟨b, off + (j + 1) * 3, none⟩)) ∧ wz = wx)
          case first =>
            by_cases hcj : c2 = j + 1
            · have hll : C2.length = j + 1 := by omega
              go_wp2_with fail
              go_meet
              have e0 : C2.length - (j + 1) = 0 := by omega
              rw [e0]
              exact ⟨rfl, rfl, ⟨_, _, rfl, fun h => absurd h (by omega)⟩, rfl⟩
            · go_wp2_with fail
              go_meet
              exact ⟨rfl, rfl, ⟨_, _, rfl, fun _ => rfl⟩, rfl⟩
          case rest =>
            obtain ⟨rfl, rfl, ⟨ay, cy2, rfl, hay⟩, rfl⟩ := hcut
            have Hay := Lib.hid hay
            clear hay
            obtain ⟨wy, hwy⟩ : ∃ wy, wy = wc := ⟨_, rfl⟩
            subst hwy
            go_wp2_with fail
            go_loopw [15, 93] (fun v i wz => ∃ (m : Nat) (B : Bool), m ≤ C2.length - (j + 1) ∧ i = .int .i64 (m : Int) ∧ v = .bool B ∧ B = (((C2.drop (j + 1)).take m).any fun q => decide (q.key = pk)) ∧ Below wy.heap.size wy wz) (fun _ i _ => C2.length - (intOf i).toNat)
            case atStart => exact ⟨0, false, by omega, rfl, rfl, rfl, Below.refl _ _⟩
            case round =>
              obtain ⟨m, B, hm, rfl, rfl, hB, hbz⟩ := hrel
              have HB := Lib.hid hB
              have Hbz := Lib.hid hbz
              clear hB hbz
              by_cases hlt : m < C2.length - (j + 1)
              · obtain rfl := Hay.out (by omega)
                have hjm : j + 1 + m < C2.length := by omega
                obtain ⟨Aq, cq, q0, q1, q2, _⟩ := Hcells.out (j + 1 + m) hjm
                obtain ⟨qq, hqq⟩ : ∃ qq, qq = C2[j + 1 + m] := ⟨_, rfl⟩
                rw [← hqq] at q0 q1 q2
                rw [show off + (j + 1 + m) * 3 = off + (j + 1) * 3 + m * 3 by omega] at q0 q1 q2
                have hbz1 : b < wy.heap.size := hbw
                have e0 := (Hbz.out.cell (p := ⟨b, off + (j + 1) * 3 + m * 3, none⟩) hbz1).trans ((World.cell?_of_block (a := ⟨b, off + (j + 1) * 3 + m * 3, none⟩) Hsb.out).trans q0)
                have e1 := (Hbz.out.cell (p := ⟨b, off + (j + 1) * 3 + m * 3 + 1, none⟩) hbz1).trans ((World.cell?_of_block (a := ⟨b, off + (j + 1) * 3 + m * 3 + 1, none⟩) Hsb.out).trans q1)
                have e2 := (Hbz.out.cell (p := ⟨b, off + (j + 1) * 3 + m * 3 + 2, none⟩) hbz1).trans ((World.cell?_of_block (a := ⟨b, off + (j + 1) * 3 + m * 3 + 2, none⟩) Hsb.out).trans q2)
                have f0 := (Hbz.out.cell (p := ⟨b, off + j * 3, none⟩) hbz1).trans HD0.out
                have hstep : (((C2.drop (j + 1)).take (m + 1)).any fun q => decide (q.key = pk)) = (B || decide (qq.key = pk)) := by
                  rw [List.take_succ_eq_append_getElem (by rw [List.length_drop]; omega), List.any_append, ← HB.out, List.getElem_drop, hqq]
                  simp
                have Hstep := Lib.hid hstep
                obtain ⟨qk, qv, qg⟩ := qq
                dsimp only at e0 e1 e2 Hstep
                obtain ⟨ql, hql⟩ : ∃ ql, ql = qv.length := ⟨_, rfl⟩
                rw [← hql] at e1
                clear q0 q1 q2 hqq hstep hql
                have hi1 : (j : Int) < (C2.length : Int) := by omega
                have hbr : b < wr.heap.size := by have := Hbz.out.size; omega
                have hbne : b ≠ wr.heap.size := by omega
                cases B with
                | true =>
                  go_upto_region 24 with fail
                  go_quiet (fail)
                  go_wp2_with fail
                  go_roundw
                  case rel => exact ⟨m + 1, true, by omega, by go_num, rfl, by rw [Hstep.out]; rfl, below_drewN (Hbz.out.alloc Hbz.out.size _) _⟩
                  case measure => simp [intOf]; omega
                | false =>
                  have hkk : ((qk : Int) == (pk : Int)) = decide (qk = pk) := by rw [Bool.eq_iff_iff, beq_iff_eq, decide_eq_true_iff]; omega
                  go_upto_region 24 with fail
                  go_quiet (fail)
                  go_wp2_with fail
                  go_roundw
                  case rel => exact ⟨m + 1, _, by omega, by go_num, rfl, by rw [Hstep.out]; rfl, below_drewN (Hbz.out.alloc Hbz.out.size _) _⟩
                  case measure => simp [intOf]; omega
              · have hml : m = C2.length - (j + 1) := by omega
                have hBL : B = LT := by
                  rw [HB.out, HLT.out, List.take_of_length_le (by rw [List.length_drop]; omega)]
                subst hBL
                obtain ⟨wu, hwu⟩ : ∃ wu, wu = wr := ⟨_, rfl⟩
                subst hwu
                have hbtU : ButS w5.heap.size w10 wu := Hbt.out.trans (ButS.of_below Hbz.out _)
                have hmU : MapU wu w5.heap.size ys.length (strG (lessG G1 ((C2.drop (j + 1)).map (·.key)))) := Hmp.out.keep (Hbz.out.block _ Hmp.out.lt)
                have hget := Hget.out wu pk hbtU Hkey.out
                have hG2 : B = false → G2 pk = if pg then none else some pv := fun hf => by
                  have h1 : ∀ q ∈ C2.drop (j + 1), q.key ≠ C2[j].key := fun q hq e => by
                    have h2 : (C2.drop (j + 1)).any (fun q => decide (q.key = pk)) = false := by rw [← HLT.out]; exact hf
                    have h3 := List.any_eq_false.1 h2 q hq
                    simp at h3
                    rw [← Hp.out] at e
                    exact h3 e
                  have h4 := putsG_last C2 j hj G1 h1
                  rw [← HG2.out, ← Hp.out] at h4
                  exact h4
                obtain ⟨g2, hg2⟩ : ∃ g2, g2 = G2 pk := ⟨_, rfl⟩
                rw [← hg2] at hget hG2
                have hkeys : (C2.drop j).map (·.key) = pk :: (C2.drop (j + 1)).map (·.key) := by rw [keysL C2 j hj, ← Hp.out]
                have Hkeys := Lib.hid hkeys
                have HG2p := Lib.hid hG2
                have HbtU := Lib.hid hbtU
                have HmU := Lib.hid hmU
                have Hgt := Lib.hid hget
                have hbu : b < wu.heap.size := by have := Hbz.out.size; omega
                have hg2l : (g2.getD []).length ≤ 300 := by
                  cases hq : G2 pk with
                  | none => rw [hg2, hq]; exact Nat.zero_le _
                  | some l => rw [hg2, hq]; exact HGl2.out pk l hq
                have u0c : wu.cell? ⟨b, off + j * 3, none⟩ = some (.int .u64 (pk : Int)) := (Hbz.out.cell (p := ⟨b, off + j * 3, none⟩) hbw).trans HD0.out
                have hi1 : (j : Int) < (C2.length : Int) := by omega
                clear hbtU hmU hget hG2 hg2 hkeys hml
                go_wp2_with fail
                clear u0c
                refine Hgt.out.mono ?_
                rintro e wv ⟨⟨v8, rfl, hown8⟩, hb8⟩
                obtain ⟨A8, c8, rfl, _⟩ := hown8.form
                rw [List.length_map] at *
                have hB8 := hown8.isB
                have hcv1 : ∀ n, (convert 33 9 (.slice A8 (g2.getD []).length c8)).run Try.prog (wv.drewN n) = .ok (str (g2.getD [])) (wv.drewN n) := fun n => conv_is (hB8.drewN n)
                have hbtV : ButS w5.heap.size w10 wv := HbtU.out.trans (ButS.of_below hb8 _)
                have hmV : MapU wv w5.heap.size ys.length (strG (lessG G1 ((C2.drop (j + 1)).map (·.key)))) := HmU.out.keep (hb8.block _ HmU.out.lt)
                have hvalV : IsB wv (fun k => k ≠ w5.heap.size) (.slice Ai pl ci) pv := Hval.out.frame fun k hk hl => hbtV.2.2.2.2 k hl hk
                have hcv2 : ∀ n, (convert 33 9 (.slice Ai pl ci)).run Try.prog (wv.drewN n) = .ok (str pv) (wv.drewN n) := fun n => conv_is (hvalV.drewN n)
                have hsV := hbtV.2.2.2.2 b hbl hbg
                have c0v : wv.cell? ⟨b, off + j * 3, none⟩ = some (.int .u64 (pk : Int)) := ((hb8.cell (p := ⟨b, off + j * 3, none⟩) hbu).trans (Hbz.out.cell (p := ⟨b, off + j * 3, none⟩) hbw)).trans HD0.out
                have c1v : wv.cell? ⟨b, off + j * 3 + 1, none⟩ = some (.slice Ai pl ci) := ((hb8.cell (p := ⟨b, off + j * 3 + 1, none⟩) hbu).trans (Hbz.out.cell (p := ⟨b, off + j * 3 + 1, none⟩) hbw)).trans HD1.out
                have c2v : wv.cell? ⟨b, off + j * 3 + 2, none⟩ = some (.bool pg) := ((hb8.cell (p := ⟨b, off + j * 3 + 2, none⟩) hbu).trans (Hbz.out.cell (p := ⟨b, off + j * 3 + 2, none⟩) hbw)).trans HD2.out
                have HbtV := Lib.hid hbtV
                have Hmv := Lib.hid hmV
                clear hown8 hB8 hb8 hbtV hmV hvalV hsV
                cases B with
                | true =>
                  obtain ⟨OK, hOK⟩ : ∃ OK, OK = g2.isSome := ⟨_, rfl⟩
                  rw [← hOK]
                  clear hOK
                  go_upto_region 27 with fail
                  go_quiet (fail)
                  go_wp2_with (at_delete; refine wpList_deleteS _ rfl _ _ rfl w5.heap.size ys.length _ rfl (MapU.keep (w := wv) Hmv.out rfl) pk Hkey.out rfl ?_; intro w15 hm15 hg15)
                  go_roundw
                  case rel => exact ⟨j, (j : Int) - 1, by omega, rfl, by go_num, hm15.same fun y hy => by rw [Hkeys.out]; exact (less_step G1 _ pk y), HbtV.out.trans (Bts_grown (ButS.of_below (below_drewN (Below.refl _ _) _) _) hg15)⟩
                  case measure => simp [intOf]
                | false =>
                  have hg := HG2p.out rfl
                  cases pg with
                  | true =>
                    rw [if_pos rfl] at hg
                    subst hg
                    go_upto_region 27 with fail
                    go_quiet (fail)
                    go_wp2_with (at_delete; refine wpList_deleteS _ rfl _ _ rfl w5.heap.size ys.length _ rfl (MapU.keep (w := wv) Hmv.out rfl) pk Hkey.out rfl ?_; intro w15 hm15 hg15)
                    go_roundw
                    case rel => exact ⟨j, (j : Int) - 1, by omega, rfl, by go_num, hm15.same fun y hy => by rw [Hkeys.out]; exact (less_step G1 _ pk y), HbtV.out.trans (Bts_grown (ButS.of_below (below_drewN (Below.refl _ _) _) _) hg15)⟩
                    case measure => simp [intOf]
                  | false =>
                    rw [if_neg (by simp)] at hg
                    subst hg
                    simp only [Option.getD_some] at hcv1
                    go_upto_region 27 with fail
                    go_quiet (fail)
                    go_wp2_with (at_delete; refine wpList_deleteS _ rfl _ _ rfl w5.heap.size ys.length _ rfl (MapU.keep (w := wv) Hmv.out rfl) pk Hkey.out rfl ?_; intro w15 hm15 hg15)
                    go_roundw
                    case rel => exact ⟨j, (j : Int) - 1, by omega, rfl, by go_num, hm15.same fun y hy => by rw [Hkeys.out]; exact (less_step G1 _ pk y), HbtV.out.trans (Bts_grown (ButS.of_below (below_drewN (Below.refl _ _) _) _) hg15)⟩
                    case measure => simp [intOf]
end Go.Proofs.Ytfkpjokhcomgoaa
