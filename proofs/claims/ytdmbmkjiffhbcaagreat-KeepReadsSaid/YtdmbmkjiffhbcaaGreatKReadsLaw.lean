/-
  The walk of KeepReads.
-/
import Derived.Test.YtdmbmkjiffhbcaaGreatKRefRead
namespace Go.Proofs.YtdmbmkjiffhbcaaGreat
open Go.RowKit
set_option maxRecDepth 100000

theorem IsBB.move_ {w w' : World} {ok ok' : Nat → Prop} {v : Value} {L : List (List UInt8)} (h : IsBB w ok v L) (hk : ∀ k, ok k → k < w.heap.size → ok' k ∧ w'.heap[k]? = w.heap[k]?) : IsBB w' ok' v L := by
  obtain ⟨A, c, vs, e, h0, h1, h2, h3, h4⟩ := h
  exact ⟨A, c, vs, e, h0, h1, h2, h3.move hk, fun i hi hi' => (h4 i hi hi').move_ hk⟩
theorem asChM_keys (b : List UInt8) : ∀ p ∈ (asChM b).1, p.key < 18446744073709551616 := by
  unfold asChM
  split
  · exact fun p h => by cases h
  · split
    · exact fun p h => by cases h
    · intro p h
      obtain ⟨i, _, rfl⟩ := List.mem_map.1 h
      exact chgM_key _ _
theorem recsB_most2 (F : List (List UInt8)) (m : Nat) (h : ∀ r ∈ F, r.length ≤ m) : (recsB F).length ≤ F.length * (m + 7) := by
  induction F with
  | nil => exact Nat.zero_le _
  | cons a L ih =>
    have e : recsB (a :: L) = recsB [a] ++ recsB L := recsB_append [a] L
    have h1 := (recsB_one a).2
    have h2 := h a (by simp)
    have h3 := ih fun r hr => h r (by simp [hr])
    rw [e, List.length_append, List.length_cons, Nat.add_mul]
    omega
theorem flatten_most (F : List (List UInt8)) (m : Nat) (h : ∀ r ∈ F, r.length ≤ m) : F.flatten.length ≤ F.length * m := by
  induction F with
  | nil => exact Nat.zero_le _
  | cons a L ih =>
    have h2 := h a (by simp)
    have h3 := ih fun r hr => h r (by simp [hr])
    rw [List.flatten_cons, List.length_append, List.length_cons, Nat.add_mul]
    omega

set_option maxHeartbeats 800000 in
theorem keepreads_walk (v : Value) (L : List (List UInt8)) (w : World) (hv : IsBB w (fun _ => True) v L) :
    Calls Tryz.prog 5 #[v] w fun e w' => e = .returned (.bool true) ∧ Below w.heap.size w w' := by
  have hv' : IsBB w (fun k => k < w.heap.size) v L := hv.move_ fun k _ hk => ⟨hk, rfl⟩
  obtain ⟨A, c, rfl, hLc, hcm, hel⟩ := hv'.elem
  unfold maxLen at hcm
  have hLm : L.length ≤ 9223372036854775807 := by omega
  have Hel := Lib.hid hel
  have Hv := Lib.hid hv'
  obtain ⟨ln, hln⟩ : ∃ ln, ln = L.length := ⟨_, rfl⟩
  rw [← hln] at hLc hLm Hv ⊢
  have Hln := Lib.hid hln
  clear hv hv' hel hln
  go_enter Tryz.func5, Tryz.ntmps5
  go_wp2_with fail
  refine (klives_any _).mono ?_
  rintro e wa ⟨rfl, hba⟩
  have Hba := Lib.hid hba
  clear hba
  by_cases h6 : 6 < ln
  case pos =>
    have h6I : (6 : Int) < (ln : Int) := by omega
    go_wp2_with fail
    refine (klives_any _).mono ?_
    rintro e wd ⟨rfl, hbd⟩
    go_wp2_with fail
    go_ret
    exact ⟨rfl, below_call Hba.out hbd⟩
  case neg =>
  have h6I : ¬ (6 : Int) < (ln : Int) := by omega
  go_wp2_with fail
  go_loopw [27] (fun i wr => ∃ k : Nat, k ≤ ln ∧ i = .int .i64 (k : Int) ∧ (∀ j, j < k → (L.getD j []).length ≤ 300) ∧ Below w.heap.size w wr) (fun i _ => ln - (intOf i).toNat)
  case atStart => exact ⟨0, by omega, rfl, (fun j h => by omega), Hba.out⟩
  case round =>
    obtain ⟨k, hk, rfl, hsm, hbw⟩ := hrel
    by_cases hlt : k < ln
    · obtain ⟨b, off, rfl, _, had, hel⟩ := Hel.out (by intro e; have := Hln.out; rw [e] at this; simp at this; omega)
      have hkL : k < L.length := by rw [← Hln.out]; exact hlt
      obtain ⟨Ai, ci, hcell, hci, hcm, hrd⟩ := hel k hkL
      obtain ⟨rl, hrl⟩ : ∃ rl, rl = L[k].length := ⟨_, rfl⟩
      rw [← hrl] at hcell hci
      have hcell' : wr.cell? ⟨b, off + k, none⟩ = some (.slice Ai rl ci) := (hbw.cell (p := ⟨b, off + k, none⟩) had).trans hcell
      have hgd : (L.getD k []).length = rl := by rw [List.getD_eq_getElem?_getD, List.getElem?_eq_getElem hkL, hrl]; rfl
      have Hsm := Lib.hid hsm
      have Hbw := Lib.hid hbw
      have Hgd := Lib.hid hgd
      clear hel hcell hrd hrl hsm hbw hgd
      by_cases h300 : 300 < rl
      · have h3 : (300 : Int) < (rl : Int) := by omega
        go_wp2_with fail
        go_ret
        exact ⟨rfl, Hbw.out⟩
      · have h3 : ¬ (300 : Int) < (rl : Int) := by omega
        go_wp2_with fail
        refine ⟨⟨k + 1, by omega, by go_num, fun j hj => ?_, Hbw.out⟩, by simp [intOf]; omega⟩
        rcases Nat.lt_or_ge j k with h | h
        · exact Hsm.out j h
        · obtain rfl : j = k := by omega
          rw [Hgd.out]
          omega
    · obtain rfl : k = ln := by omega
      have hall : ∀ r ∈ L, r.length ≤ 300 := fun r hr => by
        obtain ⟨j, hj, rfl⟩ := List.getElem_of_mem hr
        have := hsm j (by rw [Hln.out]; exact hj)
        rwa [List.getD_eq_getElem?_getD, List.getElem?_eq_getElem hj] at this
      obtain ⟨D1, ho1, hi1, hl1, hn1, hc1, hlo1⟩ := open_new 40 (by decide) (by decide)
      have hf1 : D1.Few 10 := ⟨by rw [hlo1]; decide, by rw [hc1]; decide⟩
      have Hall := Lib.hid hall
      have Hbw := Lib.hid hbw
      have Ho1 := Lib.hid ho1
      have Hi1 := Lib.hid hi1
      have Hl1 := Lib.hid hl1
      have Hn1 := Lib.hid hn1
      have Hf1 := Lib.hid hf1
      clear hall hbw hsm ho1 hi1 hl1 hn1 hc1 hlo1 hf1
      go_upto_region 10 with (go_at_call 8; go_must (refine (new_ok 40 _ (by decide) (by decide)).mono ?_; rintro e w3 ⟨g, F3, rfl, hd3, hb3⟩; have Hd3 := Lib.hid hd3; have Hb3 := Lib.hid hb3; clear hd3 hb3))
      have hs3 := Hb3.out.size
      go_wp2_with fail
      refine (jopen_any _ _ _ _ _ (newD_few 40 900000) Hd3.out).mono ?_
      rintro e w4 ⟨vp, x, rfl, G4, hd4, hf4, ⟨hbad, _⟩ | ⟨_, j4, B4, rfl, hja4, hB4, hG4, hx4, hBj⟩⟩
      · rw [Ho1.out] at hbad
        exact absurd rfl hbad
      rw [Ho1.out] at hd4 hja4 hx4 ⊢
      dsimp only at hd4 hja4 hx4 ⊢
      obtain ⟨vs4, hown4, hvl4, _⟩ := hx4
      obtain ⟨A4, c4, hxe4, _, _, _⟩ := hown4.form
      rw [hvl4, List.length_nil] at hxe4
      subst hxe4
      have hb4 := hf4.below (fun k hk => (Hd3.out.low k hk).1) Hd3.out.size
      have hnj4 : ¬ G4 j4 := fun h => by have := hG4 _ h; omega
      have hwj4 : wr.heap.size ≤ j4 := by omega
      have hb04 : Below wr.heap.size wr w4 := Hb3.out.trans hb4
      have hfl : fewLong L := fun r hr => by have := Hall.out r hr; omega
      have hadd := jadd_any wr.heap.size G4 (fun k => k < w.heap.size) j4 g ⟨1, 0, 0, 0, false⟩ D1 (.slice A k c) L w4 Hi1.out.fit (Hf1.out.mono (by decide)) hd4 hja4 hnj4 (Hv.out.move_ fun k hk hkl => ⟨hk, (Hbw.out.trans (hb04.mono Hbw.out.size)).block k hk⟩)
      obtain ⟨J5, D5, hadd2, hi5, hl5, hn5, hf5⟩ : ∃ J5 D5, addJ ⟨1, 0, 0, 0, false⟩ D1 L = ((J5, D5), 0) ∧ JInv D5 J5 L ∧ D5.left = -1 ∧ D5.sure.length = 40 ∧ D5.Few 900000 := by
        have hsn : sideN D1 = 19 := by unfold sideN; rw [Hn1.out]
        have hle := recsB_most2 L 300 Hall.out
        have hl6 : L.length ≤ 6 := by rw [← Hln.out]; omega
        have hmul : L.length * (300 + 7) ≤ 6 * 307 := Nat.mul_le_mul_right _ hl6
        rcases add_inv Hi1.out (by decide) L hfl with h | h | h
        · rw [hsn] at h; have := h.1; simp at this; omega
        · refine ⟨(addJ ⟨1, 0, 0, 0, false⟩ D1 L).1.1, (addJ ⟨1, 0, 0, 0, false⟩ D1 L).1.2, ?_, h.2.2.1, h.2.2.2.2.2 Hl1.out, by rw [addJ_length, Hn1.out], (addJ_few Hf1.out (by rw [Hn1.out]; decide) _ _).mono (by decide)⟩
          have := h.2.1
          rw [← this]
        · exact absurd Hl1.out h.2.1
      rw [hadd2] at hadd
      have hadd3 : Calls Tryz.prog 18 #[.pointer (some ⟨j4, 0, none⟩), .slice A k c] w4 fun e w' => e = .returned (.int .i64 0) ∧ Below wr.heap.size w4 w' ∧ ∃ G5, DevAt w' wr.heap.size G5 g D5 := by
        refine hadd.mono ?_
        rintro e w' hp
        have hb := hp.below hd4 hwj4
        obtain ⟨rfl, G5, hd5, _⟩ := hp
        exact ⟨rfl, hb, G5, hd5⟩
      have Hadd := Lib.hid hadd3
      have Hb04 := Lib.hid hb04
      have Hi5 := Lib.hid hi5
      have Hf5 := Lib.hid hf5
      clear hd4 hja4 hf4 hG4 hown4 hadd hadd2 hadd3 hb4 hnj4 hwj4 hb04 hfl hi5 hl5 hn5 hf5 Hd3 Hb3 Ho1 Hi1 Hl1 Hn1 Hf1 hvl4
      go_upto_region 13 with (go_at_call 18; go_must (refine Hadd.out.mono ?_; rintro e w5 ⟨rfl, hb5, G5, hd5⟩; have Hb5 := Lib.hid hb5; have Hd5 := Lib.hid hd5; clear hb5 hd5))
      have hb05 : Below wr.heap.size wr w5 := Hb04.out.trans Hb5.out
      have Hb05 := Lib.hid hb05
      have Hw5 := Lib.hid (Hbw.out.trans (hb05.mono Hbw.out.size))
      clear hb05
      have hsm5 : w.heap.size ≤ w5.heap.size := Hw5.out.size
      clear Hadd Hb04 Hb5
      obtain ⟨wq, hwq⟩ : ∃ wq, wq = wr := ⟨_, rfl⟩
      subst hwq
      go_wp2_with fail
      go_loopw [10, 11, 55] (fun y f i wz => ∃ (m : Nat) (M : PairL) (B : Bool) (G : Nat → Option (List UInt8)), m ≤ k ∧ i = .int .i64 (m : Int) ∧ f = .bool B ∧ IsL kPairR wz (fun q => w5.heap.size ≤ q) y M ∧ M.length ≤ m * 300 ∧ (B = true → readM L (fun _ => none) = readM (L.drop m) G ∧ RepL G M) ∧ (B = false → (readM L (fun _ => none)).2 ≠ 0) ∧
        (∀ q l, G q = some l → l.length ≤ 300) ∧ Below w5.heap.size w5 wz) (fun _ _ i _ => k - (intOf i).toNat)
      case atStart => exact ⟨0, [], true, fun _ => none, by omega, rfl, rfl, IsL.nil, by simp, fun _ => ⟨rfl, RepL.nil⟩, fun h => (by cases h), fun q l h => (by cases h), Below.refl _ _⟩
      case round =>
        obtain ⟨m, M, B, G, hm, rfl, rfl, hy, hMl, hBt, hBf, hGl, hbz⟩ := hrel
        obtain ⟨Ay, cy, hye, hyc, hym⟩ := isL_len hy
        subst hye
        unfold maxLen at hym
        have Hy := Lib.hid hy
        have HBt := Lib.hid hBt
        have HBf := Lib.hid hBf
        have HGl := Lib.hid hGl
        have Hbz := Lib.hid hbz
        clear hy hBt hBf hGl hbz
        by_cases hlt : m < k
        · obtain ⟨b, off, rfl, _, had, hel⟩ := Hel.out (by intro e; have := Hln.out; rw [e] at this; simp at this; omega)
          have hmL : m < L.length := by rw [← Hln.out]; exact hlt
          obtain ⟨Ai, ci, hcell, hci, hcm, hrd⟩ := hel m hmL
          have hwz : Below w.heap.size w wr := Hw5.out.trans (Hbz.out.mono hsm5)
          have hib : IsB wr (fun q => q < w.heap.size) (.slice Ai L[m].length ci) L[m] := (show IsB w _ (.slice Ai L[m].length ci) L[m] from ⟨Ai, ci, rfl, hci, hcm, hrd⟩).move_ fun q hq hql => ⟨hq, hwz.block q hq⟩
          have hcell' : wr.cell? ⟨b, off + m, none⟩ = some (.slice Ai L[m].length ci) := (hwz.cell (p := ⟨b, off + m, none⟩) had).trans hcell
          have hr300 := Hall.out L[m] (List.getElem_mem hmL)
          have hdrop := List.drop_eq_getElem_cons hmL
          obtain ⟨r, hr⟩ : ∃ r, r = L[m] := ⟨_, rfl⟩
          rw [← hr] at hib hcell' hr300 hdrop
          obtain ⟨rl, hrl⟩ : ∃ rl, rl = r.length := ⟨_, rfl⟩
          rw [← hrl] at hib hcell'
          have hcv : ∀ z, Below wr.heap.size wr z → (convert 47 9 (.slice Ai rl ci)).run Tryz.prog z = .ok (str r) z := fun z hz => conv_is (hib.grow hz)
          have hM2 : M.length ≤ 2400 := by omega
          have hread := fun z (hz : Below wr.heap.size wr z) => refread_any _ (.slice Ay M.length cy) M r z (Hy.out.grow hz) (by omega) (by omega)
          have Hread := Lib.hid hread
          have Hdrop := Lib.hid hdrop
          have Hr300 := Lib.hid hr300
          have hcv0 := hcv wr (Below.refl _ _)
          clear hel hcell hrd hib hread hdrop hr hrl hci hr300
          have hsz : w5.heap.size ≤ wr.heap.size := Hbz.out.size
          cases B with
          | false =>
            go_wp2_with (go_at_call 19; go_must (refine (Hread.out _ (Below.refl _ _)).mono ?_; rintro e w9 ⟨⟨y9, B9, M9, rfl, hy9, hM9, _, _⟩, hb9⟩; have Hy9 := Lib.hid hy9; have Hb9 := Lib.hid hb9; clear hy9 hb9))
            refine ⟨⟨m + 1, M9, false, G, by omega, by go_num, rfl, Hy9.out.weaken (fun q hq => by omega), by have := Hr300.out; omega, fun h => (by cases h), fun _ => HBf.out (by trivial), HGl.out, Hbz.out.trans (Hb9.out.mono hsz)⟩, by simp [intOf]; omega⟩
          | true =>
            go_wp2_with (go_at_call 19; go_must (refine (Hread.out _ (Below.refl _ _)).mono ?_; rintro e w9 ⟨⟨y9, B9, M9, rfl, hy9, hM9, ht9, hf9⟩, hb9⟩; have Hy9 := Lib.hid hy9; have Hb9 := Lib.hid hb9; have Ht9 := Lib.hid ht9; have Hf9 := Lib.hid hf9; clear hy9 hb9 ht9 hf9))
            refine ⟨⟨m + 1, M9, B9, putsG G (asChM r).1, by omega, by go_num, rfl, Hy9.out.weaken (fun q hq => by omega), by have := Hr300.out; omega, fun h => ?_, fun h => ?_, putsG_most 300 (asChM r).1 G HGl.out (fun p hp => Nat.le_trans ((asChM_few r).2 p hp) Hr300.out), Hbz.out.trans (Hb9.out.mono hsz)⟩, by simp [intOf]; omega⟩
            · obtain ⟨h1, h2⟩ := Ht9.out h
              obtain ⟨h3, h4⟩ := HBt.out (by trivial)
              refine ⟨?_, ?_⟩
              · rw [h3, Hdrop.out]
                show (if (asChM r).2 ≠ 0 then _ else _) = _
                rw [if_neg (by simpa using h1)]
              · rw [h2]
                exact h4.apply _ (asChM_keys r)
            · have h1 := Hf9.out h
              rw [(HBt.out (by trivial)).1, Hdrop.out]
              show (if (asChM r).2 ≠ 0 then _ else _ : (Nat → Option (List UInt8)) × Nat).2 ≠ 0
              rw [if_pos h1]
              decide
        · obtain rfl : m = k := by omega
          have hdr : L.drop m = [] := by rw [List.drop_eq_nil_iff, ← Hln.out]; exact Nat.le_refl _
          have hsum : L.flatten.length ≤ 549755813888 := by
            have h1 := flatten_most L 300 Hall.out
            have h2 : L.length ≤ 6 := by rw [← Hln.out]; omega
            have := Nat.mul_le_mul_right 300 h2
            omega
          have Hdz := Lib.hid (Hd5.out.grow Hbz.out)
          have hbz3 : Below wq.heap.size wq wr := Hb05.out.trans (Hbz.out.mono Hb05.out.size)
          have hop := Hi5.out.opens
          have hgb : ∀ q, G5 q → wq.heap.size ≤ q := fun q h => (Hd5.out.low q h).1
          have hng : ∀ q, w5.heap.size ≤ q → ¬ G5 q := fun q hq h => by have := (Hd5.out.low q h).2; omega
          cases B with
          | false =>
            have hko := kopen_any wq.heap.size G5 g D5 wr Hf5.out Hdz.out (by rw [hop]; exact hsum)
            rw [hop] at hko
            have hko2 : Calls Tryz.prog 9 #[.pointer (some ⟨g, 0, none⟩)] wr fun e w' => e = .returned (.tuple #[.pointer none, .int .i64 7]) ∧ Below wq.heap.size wr w' := by
              refine hko.mono ?_
              rintro e w' ⟨vk, err, rfl, G', hd', hfr, h | h | h⟩
              · exact absurd rfl h.1
              · obtain ⟨_, _, rfl, rfl⟩ := h
                exact ⟨rfl, hfr.below hgb hbz3.size⟩
              · exact absurd h.2.1 (HBf.out rfl)
            have Hko2 := Lib.hid hko2
            have Hbz3 := Lib.hid hbz3
            clear hko hko2 hop hgb hng hdr hsum hbz3
            go_wp2_with (go_at_call 9; go_must (refine Hko2.out.mono ?_; rintro e w9 ⟨rfl, hb9⟩; have Hb9 := Lib.hid hb9; clear hb9))
            go_ret
            exact ⟨rfl, Hbw.out.trans ((Hbz3.out.trans Hb9.out).mono Hbw.out.size)⟩
          | true =>
            obtain ⟨hrd, hrp⟩ := HBt.out rfl
            rw [hdr] at hrd
            have hko := kopen_ok wq.heap.size G5 g D5 D5 wr Hf5.out Hdz.out J5 L hop Hi5.out G hrd hsum
            have Hko := Lib.hid hko
            have Hbz3 := Lib.hid hbz3
            have Hgb := Lib.hid hgb
            have Hng := Lib.hid hng
            have Hrp := Lib.hid hrp
            have Hsum := Lib.hid hsum
            have hsz : w5.heap.size ≤ wr.heap.size := Hbz.out.size
            clear hko hop hgb hng hdr hsum hbz3 hrd hrp
            go_upto_region 24 with (go_at_call 9; go_must (refine Hko.out.mono ?_; rintro e w9 ⟨kb, Fp, n, rfl, hk9, hn9, hkw9, hfr9⟩; have Hk9 := Lib.hid hk9; have Hfr9 := Lib.hid hfr9; clear hk9 hfr9))
            obtain ⟨_, Gd, F9, _, hsees, _, _⟩ := Hk9.out.sees
            have hy9 := IsL.fr (Fp := G5) (Hy.out.move fun q hq hql => ⟨⟨hql, Hng.out q hq⟩, rfl⟩) Hfr9.out
            have hlk := like_any F9 _ kb n G (.slice Ay M.length cy) M w9 hsees (by have := Hsum.out; omega) (fun q l _ h => by have := HGl.out q l h; omega) hy9
            have hlk2 : Calls Tryz.prog 16 #[.pointer (some ⟨kb, 0, none⟩), .slice Ay M.length cy] w9 fun e w' => e = .returned (.bool true) ∧ Below w9.heap.size w9 w' := by
              refine hlk.mono ?_
              rintro e w' ⟨⟨B, rfl, hB⟩, hb⟩
              rw [hB Hrp.out]
              exact ⟨rfl, hb⟩
            have hb9 : Below wq.heap.size wq w9 := Hbz3.out.trans (Hfr9.out.below Hgb.out Hbz3.out.size)
            have Hlk2 := Lib.hid hlk2
            have Hb9 := Lib.hid (Hbw.out.trans (hb9.mono Hbw.out.size))
            clear hsees hy9 hlk hlk2 hb9
            go_wp2_with (go_at_call 16; go_must (with_reducible refine Hlk2.out.mono ?_; rintro e wa1 ⟨rfl, hba1⟩; have Hba1 := Lib.hid hba1; clear hba1))
            go_ret
            exact ⟨rfl, below_call Hb9.out Hba1.out⟩
end Go.Proofs.YtdmbmkjiffhbcaaGreat
