/-
  The walk of KeepLasts.
-/
import Derived.Test.YtdmbmkjiffhbcaaGreatKStep
import Derived.Test.YtdmbmkjiffhbcaaGreatKFr
namespace Go.Proofs.YtdmbmkjiffhbcaaGreat
open Go.RowKit
set_option maxRecDepth 100000

/-- One change, whose value lies in a row that was laid ahead of it. -/
theorem isL_box {z : World} {ok : Nat → Prop} (key : Nat) (hk : key < 18446744073709551616) (v : Value) (l : List UInt8) (gone : Bool) (hv : IsB z ok v l) :
    IsL kPut (z.alloc (.cells #[.int .u64 (key : Int), v, .bool gone] 49)) (fun k => ok k ∨ k = z.heap.size) (.slice (some ⟨z.heap.size, 0, none⟩) 1 1) [⟨key, l, gone⟩] :=
  isL_row (W := z) (ok := ok) (L := [⟨key, l, gone⟩]) (cells := [.int .u64 (key : Int), v, .bool gone]) (by simp)
    (kMany.cons (K := kPut) (c := [.int .u64 (key : Int), v, .bool gone]) (cs := []) (a := ⟨key, l, gone⟩) (L := []) ⟨_, rfl, hk, hv⟩ kMany.nil)

set_option maxHeartbeats 2000000 in
theorem keeplasts_walk (v1 : Value) (L1 : List PutM) (num : Int) (w : World) (hv1 : IsL kPut w (fun _ => True) v1 L1) :
    Calls Tryz.prog 4 #[v1, .int .i64 num] w fun e w' => e = .returned (.bool true) ∧ Below w.heap.size w w' := by
  have hv1' : IsL kPut w (fun k => k < w.heap.size) v1 L1 := hv1.move fun k _ hk => ⟨hk, rfl⟩
  have hkey1 := puts_keys hv1'
  have hp1 := fun (z : World) (hz : Below w.heap.size w z) => puts_any _ v1 L1 z (hv1'.grow hz)
  obtain ⟨B1, hB1⟩ : ∃ B1, B1 = putsB L1 := ⟨_, rfl⟩
  rw [← hB1] at hp1
  obtain ⟨A0, c0, hve, _, hcm0⟩ := isL_len hv1'
  subst hve
  unfold maxLen at hcm0
  have hLm : L1.length ≤ 9223372036854775807 := by omega
  have Hp1 := Lib.hid hp1
  have HB1 := Lib.hid hB1
  have Hv1 := Lib.hid hv1'
  have Hkey1 := Lib.hid hkey1
  clear hv1 hv1' hp1 hB1 hkey1
  go_enter Tryz.func4, Tryz.ntmps4
  go_wp2_with fail
  refine (klives_any _).mono ?_
  rintro e wa ⟨rfl, hba⟩
  have Hba := Lib.hid hba
  clear hba
  go_wp2_with fail
  refine (Hp1.out _ Hba.out).mono ?_
  rintro e w3 ⟨rfl, hb3⟩
  have Hb3 := Lib.hid (below_call Hba.out hb3)
  clear hb3
  cases B1 with
  | false =>
    go_wp2_with fail
    refine (klives_any _).mono ?_
    rintro e wc ⟨rfl, hbc⟩
    go_wp2_with fail
    go_ret
    exact ⟨rfl, below_call Hb3.out hbc⟩
  | true =>
  by_cases hnil : L1.length = 0
  case pos =>
    have h0 : ((L1.length : Int) == 0) = true := by rw [beq_iff_eq]; omega
    go_wp2_with fail
    refine (klives_any _).mono ?_
    rintro e wd ⟨rfl, hbd⟩
    go_wp2_with fail
    go_ret
    exact ⟨rfl, below_call Hb3.out hbd⟩
  case neg =>
  have h0 : ((L1.length : Int) == 0) = false := by rw [beq_eq_false_iff_ne]; omega
  obtain ⟨D1, ho1, hi1, hl1, hn1, hc1, hlo1⟩ := open_new 60 (by decide) (by decide)
  have hf1 : D1.Few 10 := ⟨by rw [hlo1]; decide, by rw [hc1]; decide⟩
  obtain ⟨J1, hJ1⟩ : ∃ J1 : JM, J1 = ⟨1, 0, 0, 0, false⟩ := ⟨_, rfl⟩
  rw [← hJ1] at ho1 hi1
  have hJ1n : J1.number = 1 := by rw [hJ1]
  have hlen1 : L1.length ≤ 8 := (putsB_all HB1.out.symm).1
  obtain ⟨C, hC⟩ : ∃ C, C = cutL 200 L1 := ⟨_, rfl⟩
  have hCl : C.length = L1.length := by rw [hC, cutL_length]
  have hCv : ∀ p ∈ C, p.val.length ≤ 200 := by rw [hC]; exact cutL_val 200 L1
  obtain ⟨kk, hkk, hkw⟩ := mod_idx num 60 (by omega) (by omega)
  rw [show ((60 : Nat) : Int) = 60 from rfl] at hkw
  obtain ⟨N, hN⟩ : ∃ N, N = 20 + kk := ⟨_, rfl⟩
  have hNI : 20 + (kk : Int) = (N : Int) := by omega
  have hN80 : N ≤ 80 := by omega
  obtain ⟨cl, hcl⟩ : ∃ cl, cl = C.length := ⟨_, rfl⟩
  have hcl8 : cl ≤ 8 := by omega
  have hcl0 : 0 < cl := by omega
  have Hcl := Lib.hid hcl
  have Ho1 := Lib.hid ho1
  have Hi1 := Lib.hid hi1
  have Hl1 := Lib.hid hl1
  have Hf1 := Lib.hid hf1
  have Hn1 := Lib.hid hn1
  have HJ1n := Lib.hid hJ1n
  have HC := Lib.hid hC
  have HCv := Lib.hid hCv
  clear ho1 hi1 hl1 hf1 hn1 hc1 hlo1 hJ1 hJ1n hC hCv hN hkk Hp1 hCl hcl
  go_wp2_with fail
  clear h0
  refine (new_ok 60 w3 (by decide) (by decide)).mono ?_
  rintro e w4 ⟨g, F1, rfl, hd1, hb1⟩
  have Hd1 := Lib.hid hd1
  have Hb1 := Lib.hid hb1
  clear hd1 hb1
  go_wp2_with fail
  have ho := kopen_ok w3.heap.size F1 g (newD 60) D1 w4 (newD_few 60 900000) Hd1.out J1 [] Ho1.out Hi1.out noneG rfl (by simp)
  refine ho.mono ?_
  rintro e w5 ⟨kb, Fp5, n5, rfl, hk5, hn5, hkw5, hfr5⟩
  obtain rfl : n5 = 0 := by simpa using hn5
  have hb5 : Below w3.heap.size w3 w5 := Hb1.out.trans (hfr5.below (fun k hk => (Hd1.out.low k hk).1) Hb1.out.size)
  have Hk5 := Lib.hid (show KInvF w5 w3.heap.size Fp5 kb g 0 noneG from ⟨D1, J1, [], 0, hk5, Hf1.out.mono (by omega), Hn1.out, Hl1.out, by rw [HJ1n.out]; decide, Nat.le_refl _, Kept.nil⟩)
  have Hb5 := Lib.hid hb5
  have Hs3 := Lib.hid Hb3.out.size
  have Hlow5 := Lib.hid hk5.low
  clear ho hk5 hb5 hfr5 hn5 Hd1 Hb1 Ho1 Hi1 Hl1 Hf1 Hn1 HJ1n
  have hct1 := kcut_any (fun k => k < w.heap.size) (.slice A0 L1.length c0) L1 200 (by decide) w5 (Hv1.out.grow (below_call Hb3.out Hb5.out)) (by omega)
  rw [← HC.out] at hct1
  have Hct1 := Lib.hid hct1
  clear hct1
  go_wp2_with fail
  refine Hct1.out.mono ?_
  rintro e w6 ⟨⟨x1, rfl, hx1⟩, hb6⟩
  have hx1' : IsL kPut w6 (fun k => k < w6.heap.size ∧ ¬ Fp5 k) x1 C := hx1.move fun k hk hl => ⟨⟨hl, fun hF => by
    have := Hlow5.out k hF
    have := Hs3.out
    rcases hk with h | h
    · omega
    · omega⟩, rfl⟩
  obtain ⟨A1, c1, hxe1, hxc1, hxm1⟩ := isL_len hx1'
  subst hxe1
  unfold maxLen at hxm1
  have Hk6 := Lib.hid (Hk5.out.grow hb6)
  have Hx1 := Lib.hid hx1'
  have Hb6 := Lib.hid (below_call Hb5.out hb6)
  rw [← Hcl.out] at Hx1 hxc1 ⊢
  clear hx1 hx1' hb6 Hct1 Hk5 Hlow5
  go_wp2_with fail
  clear hkw
  go_loopw [9, 44] (fun y i wr => ∃ (j : Nat) (G : Nat → Option (List UInt8)) (M : PairL) (Fp : Nat → Prop), j ≤ N ∧ i = .int .i64 (j : Int) ∧ KInvF wr w3.heap.size Fp kb g j G ∧ IsL kPairR wr (fun k => k < wr.heap.size ∧ ¬ Fp k) y M ∧ RepL G M ∧
      IsL kPut wr (fun k => k < wr.heap.size ∧ ¬ Fp k) (.slice A1 cl c1) C ∧ (∀ k l, G k = some l → k < 10 ∧ l.length ≤ 201) ∧ Below w3.heap.size w3 wr) (fun _ i _ => N - (intOf i).toNat)
  case atStart => exact ⟨0, noneG, [], Fp5, by omega, rfl, Hk6.out, IsL.nil, RepL.nil, Hx1.out, (fun k l h => by cases h), Hb6.out⟩
  case round =>
    obtain ⟨j, G, M, Fp, hj, rfl, hki, hy, hrep, hx, hG, hbw⟩ := hrel
    obtain ⟨Ay, cy, hye, hyc, hym⟩ := isL_len hy
    subst hye
    unfold maxLen at hym
    have hM10 : M.length ≤ 10 := by
      have h1 := rise_length (M.map (·.1)) 0 10 hrep.rise fun y hy => by
        obtain ⟨p, hp, rfl⟩ := List.mem_map.1 hy
        exact ⟨Nat.zero_le _, (hG p.1 p.2 ((hrep.holds p.1 p.2 (hrep.most p hp)).2 hp)).1⟩
      rw [List.length_map] at h1
      exact h1
    have Hki := Lib.hid hki
    have Hy := Lib.hid hy
    have Hrep := Lib.hid hrep
    have Hx := Lib.hid hx
    have HG := Lib.hid hG
    have Hbw := Lib.hid hbw
    have Hlow := Lib.hid hki.low
    clear hki hy hrep hx hG hbw
    by_cases hlt : j < N
    · obtain ⟨q, hq⟩ : ∃ q, q = j % cl := ⟨_, rfl⟩
      have hqc : q < cl := by rw [hq]; exact Nat.mod_lt _ hcl0
      have hqt : (j : Int).tmod (cl : Int) = (q : Int) := by rw [hq]; exact (Int.ofNat_tmod j cl).symm ▸ rfl
      have hxp := put_at Hx.out
      obtain ⟨A', c', hv, _, _, hel⟩ := hxp
      injection hv with e1 e2 e3
      subst e1 e3
      obtain ⟨b, off, hA1, hokb, hbl, hcell⟩ := hel (by intro e; rw [Hcl.out, e] at hcl0; simp at hcl0)
      subst hA1
      have hqC : q < C.length := by rw [← Hcl.out]; exact hqc
      obtain ⟨Ai, ci, d0, d1, d2, hkey, hval⟩ := hcell q hqC
      have hpv := HCv.out _ (List.getElem_mem hqC)
      generalize C[q] = p at d0 d1 d2 hkey hval hpv
      obtain ⟨pk, pv, pg⟩ := p
      dsimp only at d0 d1 d2 hkey hval hpv
      obtain ⟨pl, hpl⟩ : ∃ pl, pl = pv.length := ⟨_, rfl⟩
      rw [← hpl] at d1 hval hpv
      have Hpl := Lib.hid hpl
      have Hval := Lib.hid hval
      have Hkey := Lib.hid hkey
      have Hq := Lib.hid hq
      clear hcell hel hpl hval hkey hq e2
      go_upto_region 14 with fail
      obtain ⟨nk, hnk⟩ : ∃ nk, nk = pk % 8 + j % 3 := ⟨_, rfl⟩
      have hnk10 : nk < 10 := by omega
      rw [show (pk : Int) % 8 + (j : Int) % 3 = (nk : Int) by omega]
      clear hnk
      obtain ⟨W1, hW1⟩ : ∃ W1, W1 = wr.alloc (.cells #[.int .u64 (nk : Int), .slice Ai pl ci, .bool pg] 49) := ⟨_, rfl⟩
      rw [← hW1]
      have hbW1 : Below wr.heap.size wr W1 := by rw [hW1]; exact (Below.refl _ _).alloc (Nat.le_refl _) _
      have hB1 : Blk W1 wr.heap.size 49 #[.int .u64 (nk : Int), .slice Ai pl ci, .bool pg] := by rw [hW1]; exact Blk.new _ _ _
      have hsW1 : W1.heap.size = wr.heap.size + 1 := by rw [hW1, World.size_alloc]
      have hj8 : IntKind.u8.wrap (j : Int) = (j : Int) := by
        have : (j : Int) < 256 := by omega
        simp [IntKind.wrap, IntKind.bits, IntKind.signed]
        omega
      have hrow := World.ownsRow_lit (base := W1.heap.size) (size := 1) (e := 5) W1 #[.int .u8 (j : Int)] 1 (Nat.le_refl _) (by unfold maxLen; omega) rfl
      have hbW2 : Below W1.heap.size W1 (W1.alloc (.cells #[.int .u8 (j : Int)] 5)) := (Below.refl _ _).alloc (Nat.le_refl _) _
      have hb02 : Below wr.heap.size wr (W1.alloc (.cells #[.int .u8 (j : Int)] 5)) := hbW1.trans (hbW2.mono (by omega))
      obtain ⟨Aq, cq, hvq, _, _, hrd⟩ := Hval.out.grow hb02
      injection hvq with hq1 hq2 hq3
      subst hq1 hq3
      have hrow' : Own1 (W1.alloc (.cells #[.int .u8 (j : Int)] 5)) W1.heap.size 5 (.slice (some ⟨W1.heap.size, 0, none⟩) 1 1) [.int .u8 (j : Int)] := hrow
      have hB2 := hB1.grow hbW2
      have x1 := hB2.cell 1
      simp only [List.getElem?_toArray, List.getElem?_cons_zero, List.getElem?_cons_succ] at x1
      have hsz2 : W1.heap.size ≤ (W1.alloc (.cells #[.int .u8 (j : Int)] 5)).heap.size := hbW2.size
      have hml : (pv.map u8).length = pl := by rw [List.length_map, Hpl.out]
      have Hrow := Lib.hid hrow'
      have Hrd := Lib.hid hrd
      have HB2 := Lib.hid hB2
      have Hb02 := Lib.hid hb02
      have Hml := Lib.hid hml
      have HW1 := Lib.hid hW1
      have HsW1 := Lib.hid hsW1
      have hne1 : wr.heap.size < W1.heap.size := by omega
      have HbW1 := Lib.hid hbW1
      clear hrow hrow' hrd hB1 hB2 hbW1 hb02 hml hq2 hW1 hsW1
      have hle1 : wr.heap.size ≤ (W1.alloc (.cells #[.int .u8 (j : Int)] 5)).heap.size := by omega
      have hlen7 : ([Value.int .u8 (j : Int)] ++ pv.map u8).length = pl + 1 := by rw [List.length_append, Hml.out]; simp only [List.length_cons, List.length_nil]; omega
      go_upto_region 15 with (at_builtin; refine wpList_app1 _ elemB rfl (.tmp 64) (.tmp 66) rfl W1.heap.size _ [.int .u8 (j : Int)] rfl Hrow.out _ Ai pl ci (pv.map u8) Hml.out rfl Hrd.out (u8_oneCell _) (by simp only [List.length_cons, List.length_nil]; omega) (by simp only [List.length_cons, List.length_nil]; omega) hsz2 ?_; intro v6 W3 hown6 hg6 hat6; go_must (have hB3 := HB2.out.grown hg6 (fun e => by have := (Hrow.out.lt _ e).1; omega); have hb03 := Hb02.out.trans ((Hrow.out.below_of hg6 hsz2 (Nat.le_refl _)).mono (by omega)); have Hlt6 := Lib.hid hown6.lt; obtain ⟨A6, c6, hv6, h61, h62, h63⟩ := hown6.form; rw [hlen7] at hv6 h61; have H63 := Lib.hid h63; subst hv6; have x3 := hB3.cell 1; have y3 := hB3.frozen 1; simp only [List.getElem?_toArray, List.getElem?_cons_zero, List.getElem?_cons_succ] at x3; have HB3 := Lib.hid hB3; have Hb03 := Lib.hid hb03; clear hB3 hb03 hown6 hg6 hat6 h63))
      clear x3 y3
      obtain ⟨W4, hW4⟩ : ∃ W4, W4 = W3.setCell ⟨wr.heap.size, 1, none⟩ (.slice A6 (pl + 1) c6) := ⟨_, rfl⟩
      rw [← hW4]
      have hB4 : Blk W4 wr.heap.size 49 #[.int .u64 (nk : Int), .slice A6 (pl + 1) c6, .bool pg] := by rw [hW4]; exact HB3.out.set_ 1 _
      have hb04 : Below wr.heap.size wr W4 := by rw [hW4]; exact Hb03.out.setCell (Nat.le_refl _) _
      have hs34 : W4.heap.size = W3.heap.size := by rw [hW4]; exact World.size_setCell _ _ _
      have hv4 : IsB W4 (fun k => W1.heap.size ≤ k ∧ k < W4.heap.size) (.slice A6 (pl + 1) c6) (UInt8.ofNat j :: pv) := by
        have h1 : IsB W3 (fun k => (Value.slice A6 (pl + 1) c6).ownBlock = some k) (.slice A6 (pl + 1) c6) (UInt8.ofNat j :: pv) := by
          refine IsB.of (by rw [List.length_cons, ← Hpl.out]) (by rw [List.length_cons, ← Hpl.out]; exact h61) h62 ?_
          have e : (UInt8.ofNat j :: pv).map u8 = [Value.int .u8 (j : Int)] ++ pv.map u8 := by
            rw [List.map_cons]
            have : (UInt8.ofNat j).toNat = j := UInt8.toNat_ofNat_of_lt' (by show j < 256; omega)
            unfold u8
            rw [this]
            rfl
          rw [e]
          exact H63.out
        refine h1.move_ fun k hk hkl => ?_
        have h2 := Hlt6.out k hk
        refine ⟨⟨h2.1, by omega⟩, ?_⟩
        rw [hW4]
        exact Below.heap_setCell _ _ _ _ (by show k ≠ wr.heap.size; omega)
      have x0 := hB4.cell 0
      have x1 := hB4.cell 1
      have x2 := hB4.cell 2
      simp only [List.getElem?_toArray, List.getElem?_cons_zero, List.getElem?_cons_succ] at x0 x1 x2
      have HW4 := Lib.hid hW4
      have HB4 := Lib.hid hB4
      have Hb04 := Lib.hid hb04
      have Hv4 := Lib.hid hv4
      clear hW4 hB4 hb04 hv4 hs34
      have hl5 := isL_box nk (by omega) _ _ pg Hv4.out
      obtain ⟨bs, hbs⟩ : ∃ bs, bs = UInt8.ofNat j :: pv := ⟨_, rfl⟩
      rw [← hbs] at hl5
      have hbsl : bs.length ≤ 201 := by rw [hbs, List.length_cons, ← Hpl.out]; omega
      have Hv4' := Lib.hid (show IsB W4 _ _ bs by rw [hbs]; exact Hv4.out)
      obtain ⟨p', hp'⟩ : ∃ p' : PutM, p' = ⟨nk, bs, pg⟩ := ⟨_, rfl⟩
      rw [← hp'] at hl5
      have hpk' : p'.key = nk := by rw [hp']
      have hpv' : p'.val = bs := by rw [hp']
      have hb5 : Below W4.heap.size W4 (W4.alloc (.cells #[.int .u64 (nk : Int), .slice A6 (pl + 1) c6, .bool pg] 49)) := (Below.refl _ _).alloc (Nat.le_refl _) _
      have hb05 : Below wr.heap.size wr (W4.alloc (.cells #[.int .u64 (nk : Int), .slice A6 (pl + 1) c6, .bool pg] 49)) := Hb04.out.alloc Hb04.out.size _
      have hs04 := Hb04.out.size
      have hG' : ∀ k l, putG G p' k = some l → k < 10 ∧ l.length ≤ 201 := fun k l h => by
        unfold putG at h
        split at h
        · split at h
          · cases h
          · injection h with h; subst h; exact ⟨by omega, by rw [hpv']; exact hbsl⟩
        · exact HG.out k l h
      have hcm := kcommit_step w3.heap.size Fp (fun k => (W1.heap.size ≤ k ∧ k < W4.heap.size) ∨ k = W4.heap.size) kb g j G (.slice (some ⟨W4.heap.size, 0, none⟩) 1 1) p' _ (Hki.out.grow hb05) (by omega) hl5
        (fun k hk => ⟨by rw [World.size_alloc]; omega, fun hF => by have := (Hlow.out k hF).2; omega⟩) (by rw [hpk']; omega) (by rw [hpv']; omega) (fun k l h => by have := (HG.out k l h).2; omega)
        (fun ys hys => by
          have h1 := rise_length ys 0 10 hys.2 fun y hy => by
            obtain ⟨l, hl⟩ := Option.isSome_iff_exists.1 ((hys.1 y).1 hy).2
            exact ⟨Nat.zero_le _, (hG' y l hl).1⟩
          omega)
      have Hcm := Lib.hid hcm
      have HG' := Lib.hid hG'
      have Hb05 := Lib.hid hb05
      have Hb5 := Lib.hid hb5
      have Hp' := Lib.hid hp'
      have Hbs := Lib.hid hbs
      clear hl5 hcm hG' hb05 hb5 hp' hbs
      go_upto_region 17 with (go_at_call 11; go_must (refine Hcm.out.mono ?_; rintro e w7 ⟨rfl, Fp7, hk7, hfr7⟩; have Hk7 := Lib.hid hk7; have Hfr7 := Lib.hid hfr7; clear hk7 hfr7))
      have hnF : ¬ Fp wr.heap.size := fun hF => by have := (Hlow.out _ hF).2; omega
      have hlt45 : wr.heap.size < W4.heap.size := HB4.out.lt
      have hfb := Hfr7.out.block wr.heap.size (by rw [World.size_alloc]; omega) hnF
      have hB7 : Blk w7 wr.heap.size 49 #[.int .u64 (nk : Int), .slice A6 (pl + 1) c6, .bool pg] := (HB4.out.grow Hb5.out).keep hfb.2
      have x0 := hB7.cell 0
      have x1 := hB7.cell 1
      have x2 := hB7.cell 2
      simp only [List.getElem?_toArray, List.getElem?_cons_zero, List.getElem?_cons_succ] at x0 x1 x2
      have hv7 : IsB w7 (fun k => k < w7.heap.size) (.slice A6 (pl + 1) c6) bs := (Hv4'.out.grow Hb5.out).move_ fun k hk hkl => by
        have h1 := Hfr7.out.block k hkl (fun hF => by have := (Hlow.out _ hF).2; omega)
        exact ⟨Nat.lt_of_lt_of_le hkl Hfr7.out.size, h1.2⟩
      have hl8 := isL_box nk (by omega) _ _ pg hv7
      rw [← Hp'.out] at hl8
      have hy5 : IsL kPairR (W4.alloc (.cells #[.int .u64 (nk : Int), .slice A6 (pl + 1) c6, .bool pg] 49)) (fun k => k < (W4.alloc (.cells #[.int .u64 (nk : Int), .slice A6 (pl + 1) c6, .bool pg] 49)).heap.size ∧ ¬ Fp k) (.slice Ay M.length cy) M := Hy.out.move fun k hk hkl => ⟨⟨Nat.lt_of_lt_of_le hkl Hb05.out.size, hk.2⟩, Hb05.out.block k hkl⟩
      have hx5 : IsL kPut (W4.alloc (.cells #[.int .u64 (nk : Int), .slice A6 (pl + 1) c6, .bool pg] 49)) (fun k => k < (W4.alloc (.cells #[.int .u64 (nk : Int), .slice A6 (pl + 1) c6, .bool pg] 49)).heap.size ∧ ¬ Fp k) (.slice (some ⟨b, off, none⟩) cl c1) C := Hx.out.move fun k hk hkl => ⟨⟨Nat.lt_of_lt_of_le hkl Hb05.out.size, hk.2⟩, Hb05.out.block k hkl⟩
      have hx7 := hx5.fr Hfr7.out
      have hy7 := hy5.fr Hfr7.out
      have hb8 : Below w7.heap.size w7 (w7.alloc (.cells #[.int .u64 (nk : Int), .slice A6 (pl + 1) c6, .bool pg] 49)) := (Below.refl _ _).alloc (Nat.le_refl _) _
      have hap := apply_any _ _ (.slice Ay M.length cy) M _ [p'] _ (hy7.grow hb8) hl8 (by simp only [List.length_cons, List.length_nil]; omega)
      have hb37 := (Hbw.out.trans (Hb05.out.mono Hbw.out.size)).trans (Hfr7.out.below (fun k hk => ((Hki.out.low k hk)).1) (Nat.le_trans Hbw.out.size Hb05.out.size))
      have hrp : RepL (putG G p') (applyR M [p']) := Hrep.out.apply [p'] (fun q hq => by simp at hq; subst hq; omega)
      obtain ⟨M9, hM9⟩ : ∃ M9, M9 = applyR M [p'] := ⟨_, rfl⟩
      rw [← hM9] at hap hrp
      have Hap := Lib.hid hap
      have Hx7 := Lib.hid hx7
      have Hb8 := Lib.hid hb8
      have Hb37 := Lib.hid hb37
      have Hrp := Lib.hid hrp
      have hlow7 := Hk7.out.low
      have Hlow7 := Lib.hid hlow7
      clear hnF hlt45 hfb hB7 hv7 hl8 hy5 hx5 hx7 hy7 hb8 hap hb37 hrp hM9 hlow7
      go_wp2_with (go_at_call 12; go_must (refine Hap.out.mono ?_; rintro e w9 ⟨⟨y9, rfl, hy9⟩, hb9⟩; have Hy9 := Lib.hid hy9; have Hb9 := Lib.hid hb9; clear hy9 hb9))
      go_roundw
      case rel =>
        have hb79 := Below.trans Hb8.out (Hb9.out.mono Hb8.out.size)
        refine ⟨j + 1, putG G p', M9, Fp7, by omega, by go_num, Hk7.out.grow hb79, Hy9.out.move fun k hk hkl => ⟨⟨hkl, fun hF => ?_⟩, rfl⟩, Hrp.out, Hx7.out.move fun k hk hkl => ⟨⟨Nat.lt_of_lt_of_le hkl hb79.size, hk.2⟩, hb79.block k hkl⟩, HG'.out, Hb37.out.trans (hb79.mono Hb37.out.size)⟩
        rcases hk with h | h
        · exact h.2 hF
        · have := (Hlow7.out k hF).2
          have := Hb8.out.size
          omega
      case measure => simp [intOf]; omega
    · obtain rfl : j = N := by omega
      obtain ⟨D, J, Ls, n, hk, hD, hlen, hleft, hnum, hn, hkept⟩ := Hki.out
      obtain ⟨hi, Gd, F, hdv, hsees, hFF, hGd⟩ := hk.sees
      obtain ⟨Gx, hread, hagree⟩ := hkept.read
      have hsum : Ls.flatten.length ≤ 549755813888 := by
        have h1 := flatten_recsB Ls
        have h2 := hi.used
        have h3 := hi.fit.used
        have h4 : sideN D = 29 := by unfold sideN; rw [hlen]
        rw [h4] at h3
        omega
      have hop := kopen_ok w3.heap.size Gd g D D wr (hD.mono (by omega)) hdv J Ls hi.opens hi Gx hread hsum
      have hgb : ∀ k, Gd k → w3.heap.size ≤ k := fun k h => (hdv.low k h).1
      have hy' : IsL kPairR wr (fun k => k < wr.heap.size ∧ ¬ Gd k) (.slice Ay M.length cy) M := Hy.out.weaken fun k h => ⟨h.1, fun hG => h.2 (hGd k hG)⟩
      have Hop := Lib.hid hop
      have Hsees := Lib.hid hsees
      have HFF := Lib.hid hFF
      have Hgb := Lib.hid hgb
      have Hy' := Lib.hid hy'
      have Hag := Lib.hid hagree
      have hn80 : n ≤ 80 := by omega
      clear hk hD hlen hleft hnum hkept hi hdv hsees hFF hGd hread hagree hop hgb hy' Hki hn
      go_upto_region 20 with (go_at_call 9; go_must (refine Hop.out.mono ?_; rintro e w9 ⟨kb2, Fp2, n2, rfl, hk2, hn2, hkw2, hfr2⟩; have Hk2 := Lib.hid hk2; have Hfr2 := Lib.hid hfr2; clear hk2 hfr2))
      obtain ⟨_, Gd2, F2, _, hsees2, _, _⟩ := Hk2.out.sees
      have hs9 : KSees w9 F kb n G := Hsees.out.keep Hfr2.out.size fun k hF hl => (Hfr2.out.block k hl (HFF.out k hF).2).2
      have hGl : ∀ k l, k < 18446744073709551616 → G k = some l → l.length ≤ 65535 := fun k l _ h => by have := (HG.out k l h).2; omega
      have hGxl : ∀ k l, k < 18446744073709551616 → Gx k = some l → l.length ≤ 65535 := fun k l hk h => by
        rw [Hag.out k hk] at h
        exact hGl k l hk h
      have hy9 := Hy'.out.fr Hfr2.out
      have hlk1 : Calls Tryz.prog 16 #[.pointer (some ⟨kb, 0, none⟩), .slice Ay M.length cy] w9 fun e w' => e = .returned (.bool true) ∧ Below w9.heap.size w9 w' := by
        refine (like_any F _ kb n G (.slice Ay M.length cy) M w9 hs9 (by omega) hGl hy9).mono ?_
        rintro e w' ⟨⟨B, rfl, hB⟩, hb⟩
        rw [hB Hrep.out]
        exact ⟨rfl, hb⟩
      have hlk2 : ∀ z, Below w9.heap.size w9 z → Calls Tryz.prog 16 #[.pointer (some ⟨kb2, 0, none⟩), .slice Ay M.length cy] z fun e w' => e = .returned (.bool true) ∧ Below z.heap.size z w' := fun z hz => by
        refine (like_any F2 _ kb2 n2 Gx (.slice Ay M.length cy) M z (hsees2.grow hz) (by omega) hGxl (hy9.grow hz)).mono ?_
        rintro e w' ⟨⟨B, rfl, hB⟩, hb⟩
        rw [hB (Hrep.out.agree Hag.out)]
        exact ⟨rfl, hb⟩
      have hb9 : Below w3.heap.size w3 w9 := Hbw.out.trans (Hfr2.out.below Hgb.out Hbw.out.size)
      have Hlk1 := Lib.hid hlk1
      have Hlk2 := Lib.hid hlk2
      have Hb9 := Lib.hid (Hb3.out.trans (hb9.mono Hb3.out.size))
      clear hsees2 hs9 hGl hGxl hy9 hlk1 hlk2 hb9
      go_wp2_with (first | (go_at_call 16; with_reducible refine Hlk1.out.mono ?_; rintro e wa1 ⟨rfl, hba1⟩; have Hba1 := Lib.hid hba1; clear hba1) | (go_at_call 16; with_reducible refine (Hlk2.out _ Hba1.out).mono ?_; rintro e wa2 ⟨rfl, hba2⟩; have Hba2 := Lib.hid hba2; clear hba2))
      go_ret
      exact ⟨rfl, below_call (below_call Hb9.out Hba1.out) Hba2.out⟩
end Go.Proofs.YtdmbmkjiffhbcaaGreat
