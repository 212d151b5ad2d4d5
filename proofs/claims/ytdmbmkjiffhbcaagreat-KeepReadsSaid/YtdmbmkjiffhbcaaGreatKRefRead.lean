/-
  wardshipref01.Fields; wardshipref05.Read.
-/
import Derived.Test.YtdmbmkjiffhbcaaGreatRefOneK
import Derived.Test.YtdmbmkjiffhbcaaGreatRefNumK
import Derived.Test.YtdmbmkjiffhbcaaGreatKFr
namespace Go.Proofs.YtdmbmkjiffhbcaaGreat
open Go.RowKit
set_option maxRecDepth 100000

theorem elemST : ElemT Tryz.prog 101 9 16 := ElemT.mk_ (z := .string ByteArray.empty) Tryz.underlying101 (by kernel_rfl) rfl
def fieldsE : List (List UInt8 × Nat) → List (List UInt8) × Nat
  | [] => ([], 0)
  | (f, e) :: r => if e ≠ 0 then ([], e) else (f :: (fieldsE r).1, (fieldsE r).2)
theorem fieldsE_length : ∀ S : List (List UInt8 × Nat), (fieldsE S).1.length ≤ S.length := by
  intro S
  induction S with
  | nil => exact Nat.le_refl _
  | cons s S ih =>
    obtain ⟨f, e⟩ := s
    unfold fieldsE
    split
    · exact Nat.zero_le _
    · simp only [List.length_cons]; omega
theorem unpackV_all (most : Int) : ∀ (S : List (List UInt8 × Nat)) (acc : List (List UInt8)), ((acc.length + S.length : Nat) : Int) ≤ most → unpackV most acc S = if (fieldsE S).2 ≠ 0 then ([], (fieldsE S).2) else (acc ++ (fieldsE S).1, 0) := by
  intro S
  induction S with
  | nil => intro acc _; simp [unpackV, fieldsE]
  | cons s S ih =>
    intro acc h
    obtain ⟨f, e⟩ := s
    rw [List.length_cons] at h
    rw [unpackV_cons]
    unfold fieldsE
    by_cases he : e ≠ 0
    · rw [if_pos he, if_pos he, if_pos he]
    · rw [if_neg he, if_neg (by omega), ih (acc ++ [f]) (by rw [List.length_append, List.length_singleton]; omega), if_neg he]
      simp
def strLen : Value → Nat
  | .string b => b.size
  | _ => 0
theorem strLen_str (l : List UInt8) : strLen (str l) = l.length := rfl

set_option maxHeartbeats 1000000 in
theorem reffields_any (b : List UInt8) (w : World) (hl : b.length ≤ 1099511627776) :
    Calls Tryz.prog 39 #[str b] w fun e w' => (∃ x, e = .returned (.tuple #[x, .int .i64 ((fieldsE (steps b)).2 : Int)]) ∧ Own1 w' w.heap.size 9 x ((fieldsE (steps b)).1.map str)) ∧ Below w.heap.size w w' := by
  obtain ⟨R, hR⟩ : ∃ R, R = fieldsE (steps b) := ⟨_, rfl⟩
  rw [← hR]
  have HR := Lib.hid hR
  clear hR
  go_enter Tryz.func39, Tryz.ntmps39
  go_wp2_with fail
  go_loopw [0, 4] (fun s x wr => ∃ (r : List UInt8) (F : List (List UInt8)), s = str r ∧ Own1 wr w.heap.size 9 x (F.map str) ∧ R = (F ++ (fieldsE (steps r)).1, (fieldsE (steps r)).2) ∧ F.length + r.length ≤ b.length ∧ Below w.heap.size w wr) (fun s _ _ => strLen s)
  case atStart => exact ⟨b, [], rfl, Own1.nil _ _ _, HR.out, by simp, Below.refl _ _⟩
  case round =>
    obtain ⟨r, F, rfl, hown, hrec, hlen, hbel⟩ := hrel
    by_cases h0 : r = []
    · subst h0
      have hr' : R = (F, 0) := by rw [hrec, steps_nil]; simp [fieldsE]
      have HR' := Lib.hid hr'
      clear hrec
      go_wp2_with fail
      go_ret2
      rw [HR'.out]
      exact ⟨⟨_, rfl, hown⟩, hbel⟩
    · have hne : (r == []) = false := beq_eq_false_iff_ne.2 h0
      have hone := fun z => refone_any r z h0 (by omega)
      have hrest := firstF_rest r h0
      rw [steps_unfold r h0] at hrec
      obtain ⟨T, hT⟩ : ∃ T, T = firstF r := ⟨_, rfl⟩
      rw [← hT] at hone hrest hrec
      obtain ⟨f, rest, e⟩ := T
      dsimp only at hone hrest hrec
      have Hone := Lib.hid hone
      have Hown := Lib.hid hown
      have Hbel := Lib.hid hbel
      clear hT hone hown hbel
      by_cases he : e = 0
      · subst he
        rw [if_neg (by simp)] at hrec
        have hrec2 : R = ((F ++ [f]) ++ (fieldsE (steps rest)).1, (fieldsE (steps rest)).2) := by rw [hrec]; simp [fieldsE]
        have Hrec := Lib.hid hrec2
        have hFm : F.length ≤ 1099511627776 := by omega
        clear hrec hrec2
        go_wp2_with (first | (go_at_call 64; go_must (refine (Hone.out _).mono ?_; rintro e1 w1 ⟨rfl, hb1⟩; have hbel1 := below_call Hbel.out hb1; have hown1 := Hown.out.grow hb1; clear hb1)) | (at_builtin; go_must (refine wpList_app1_one _ elemST rfl (.tmp 20) (.tmp 22) rfl w.heap.size _ _ rfl hown1 (str f) _ rfl rfl (by rw [List.length_map]; omega) (by rw [List.length_map]; omega) hbel1.size ?_; intro v2 w2 hown2 hg2 hat2)))
        refine ⟨⟨rest, F ++ [f], rfl, by rw [List.map_append]; exact hown2, Hrec.out, by rw [List.length_append, List.length_singleton]; omega, hbel1.trans (hown1.below_of hg2 hbel1.size (Nat.le_refl _))⟩, hrest⟩
      · rw [if_pos he] at hrec
        have hrec2 : R = (F, e) := by rw [hrec]; simp [fieldsE, he]
        have Hrec := Lib.hid hrec2
        have heI : ((e : Int) == 0) = false := by rw [beq_eq_false_iff_ne]; omega
        clear hrec hrec2
        go_wp2_with (go_at_call 64; go_must (refine (Hone.out _).mono ?_; rintro e1 w1 ⟨rfl, hb1⟩; have hbel1 := below_call Hbel.out hb1; have hown1 := Hown.out.grow hb1; clear hb1))
        go_ret2
        rw [Hrec.out]
        exact ⟨⟨_, rfl, hown1⟩, hbel1⟩

theorem asChM_E (b : List UInt8) : asChM b = if (fieldsE (steps b)).2 ≠ 0 ∨ (fieldsE (steps b)).1.length % 2 ≠ 0 then ([], 7)
    else if ((List.range ((fieldsE (steps b)).1.length / 2)).any fun i => (chg (fieldsE (steps b)).1 i).2 != 0) = true then ([], 7)
    else ((List.range ((fieldsE (steps b)).1.length / 2)).map fun i => (chg (fieldsE (steps b)).1 i).1, 0) := by
  have hu := unpackV_all (b.length : Int) (steps b) [] (by have := steps_length b; simp only [List.length_nil]; omega)
  unfold asChM
  rw [hu]
  by_cases h : (fieldsE (steps b)).2 ≠ 0
  · rw [if_pos h, if_pos (.inl h), if_pos (.inl h)]
  · rw [if_neg h]
    have h0 : (fieldsE (steps b)).2 = 0 := by simpa using h
    simp only [List.nil_append, h0]
theorem fieldsE_mem : ∀ (S : List (List UInt8 × Nat)) (f : List UInt8), f ∈ (fieldsE S).1 → ∃ e, (f, e) ∈ S := by
  intro S
  induction S with
  | nil => intro f h; cases h
  | cons s S ih =>
    intro f h
    obtain ⟨f0, e0⟩ := s
    unfold fieldsE at h
    split at h
    · cases h
    · rcases List.mem_cons.1 h with h | h
      · subst h; exact ⟨e0, by simp⟩
      · obtain ⟨e, he⟩ := ih f h
        exact ⟨e, by simp [he]⟩
theorem own_cells {w : World} {base : Nat} {x : Value} {F : List (List UInt8)} (h : Own1 w base 9 x (F.map str)) : ∃ Ax cx, x = .slice Ax F.length cx ∧ F.length ≤ cx ∧ cx ≤ maxLen ∧
    (F ≠ [] → ∃ g, Ax = some ⟨g, 0, none⟩ ∧ g < w.heap.size ∧ ∀ (j : Nat) (hj : j < F.length), w.cell? ⟨g, j, none⟩ = some (str F[j])) := by
  obtain ⟨Ax, cx, hx, h1, h2, h3⟩ := h.form
  rw [List.length_map] at hx h1
  refine ⟨Ax, cx, hx, h1, h2, fun hne => ?_⟩
  obtain ⟨f, r, rfl⟩ := List.exists_cons_of_ne_nil hne
  obtain ⟨g, cap, cur, hv, hb, hblk, _⟩ := h.cons_form
  rw [hx] at hv
  injection hv with e1 e2 e3
  subst e1
  obtain ⟨ad, had, _, hc⟩ := h3 (by simp)
  injection had with had
  subst had
  refine ⟨g, rfl, hblk.lt, fun j hj => ?_⟩
  have := hc j (str (f :: r)[j]) (by rw [List.getElem?_map, List.getElem?_eq_getElem hj]; rfl)
  rwa [show (⟨g, 0, none⟩ : Addr).add j = ⟨g, j, none⟩ by unfold Addr.add; cases j <;> simp] at this
theorem asNumV_lt (f : List UInt8) : (asNumV f).1 < 18446744073709551616 := by
  unfold asNumV
  split
  · decide
  · split
    · decide
    · exact asNum_lt64 f (by omega)
/-- The changes that pairs of fields tell. -/
def chgs (F : List (List UInt8)) (m : Nat) : List PutM := (List.range m).map fun i => (chg F i).1
theorem chgs_succ (F : List (List UInt8)) (m : Nat) : chgs F (m + 1) = chgs F m ++ [(chg F m).1] := by
  unfold chgs
  rw [List.range_succ, List.map_append]
  rfl
theorem applyR_snoc (L : PairL) (C : List PutM) (p : PutM) : applyR L (C ++ [p]) = changeR (applyR L C) p.key p.val p.gone := by
  unfold applyR
  rw [List.foldl_append]
  rfl

set_option maxHeartbeats 2000000 in
theorem refread_any (ok : Nat → Prop) (v : Value) (L : PairL) (b : List UInt8) (w : World) (hL : IsL kPairR w ok v L) (hb : b.length ≤ 100000) (hlen : L.length ≤ 800000) :
    Calls Tryz.prog 19 #[v, str b] w fun e w' => (∃ y B M, e = .returned (.tuple #[y, .bool B]) ∧ IsL kPairR w' (fun q => ok q ∨ w.heap.size ≤ q) y M ∧ M.length ≤ L.length + b.length ∧ (B = true → (asChM b).2 = 0 ∧ M = applyR L (asChM b).1) ∧ (B = false → (asChM b).2 ≠ 0)) ∧ Below w.heap.size w w' := by
  have hE := asChM_E b
  have hF := reffields_any b w (by omega)
  have hm : ∀ f ∈ (fieldsE (steps b)).1, f.length ≤ b.length := fun f hf => by
    obtain ⟨e, he⟩ := fieldsE_mem _ f hf
    exact stepsN_le _ _ _ he
  have hn := fieldsE_length (steps b)
  have hn2 := steps_length b
  generalize asChM b = R at hE ⊢
  generalize fieldsE (steps b) = T at hE hF hm hn
  obtain ⟨F, er⟩ := T
  dsimp only at hE hF hm hn
  obtain ⟨fl, hfl⟩ : ∃ fl, fl = F.length := ⟨_, rfl⟩
  obtain ⟨A0, c0, hve, hLc, hLm⟩ := isL_len hL
  subst hve
  unfold maxLen at hLm
  have hLw : IsL kPairR w (fun q => ok q ∨ w.heap.size ≤ q) (.slice A0 L.length c0) L := hL.weaken fun q hq => .inl hq
  have HL := Lib.hid hLw
  have HE := Lib.hid hE
  have HF := Lib.hid hF
  have Hm := Lib.hid hm
  have hflb : fl ≤ b.length := by omega
  clear hL hE hF hm hLw
  go_enter Tryz.func19, Tryz.ntmps19
  go_wp2_with fail
  refine HF.out.mono ?_
  rintro e w1 ⟨⟨x, rfl, hown⟩, hb1⟩
  obtain ⟨Ax, cx, rfl, hxc, hxm, hcells⟩ := own_cells hown
  unfold maxLen at hxm
  have Hc := Lib.hid hcells
  have Hb1 := Lib.hid hb1
  have Hfl := Lib.hid hfl
  rw [← hfl] at hxc ⊢
  clear hcells hb1 hown hfl hn hn2
  by_cases he : er = 0
  · subst he
    by_cases hodd : fl % 2 = 0
    · have hmod : (fl : Int).tmod 2 = 0 := by rw [Int.tmod_eq_emod_of_nonneg (by omega)]; omega
      have hE2 := HE.out
      rw [if_neg (by simp; rw [← Hfl.out]; exact hodd), ← Hfl.out] at hE2
      have HE2 := Lib.hid hE2
      obtain ⟨K, hK⟩ : ∃ K, fl = 2 * K := ⟨fl / 2, by omega⟩
      have HK := Lib.hid hK
      clear hE2 hK
      go_wp2_with fail
      go_loopw [0, 8] (fun y i wr => ∃ (q m : Nat) (M : PairL), q = 2 * m ∧ q ≤ fl ∧ i = .int .i64 (q : Int) ∧ IsL kPairR wr (fun k => ok k ∨ w.heap.size ≤ k) y M ∧ M = applyR L (chgs F m) ∧ M.length ≤ L.length + m ∧ (∀ i, i < m → (chg F i).2 = 0) ∧ Below w1.heap.size w1 wr) (fun _ i _ => fl - (intOf i).toNat)
      case atStart => exact ⟨0, 0, L, rfl, by omega, rfl, HL.out.grow Hb1.out, rfl, Nat.le_refl _, (fun i h => by omega), Below.refl _ _⟩
      case round =>
        obtain ⟨q, m, M, hq, hqf, rfl, hy, hM, hMl, hok, hbw⟩ := hrel
        obtain ⟨Ay, cy, hye, hyc, hym⟩ := isL_len hy
        subst hye
        unfold maxLen at hym
        by_cases hlt : q < fl
        · have hq1 : q + 1 < fl := by have := HK.out; omega
          have hmK : m < K := by have := HK.out; omega
          have hmb : m ≤ b.length := by omega
          have hmb2 : M.length ≤ L.length + b.length := by omega
          obtain ⟨g, hAx, hgl, hce⟩ := Hc.out (by intro e; have := Hfl.out; rw [e] at this; simp at this; omega)
          subst hAx
          have hq0F : q < F.length := by rw [← Hfl.out]; exact hlt
          have hq1F : q + 1 < F.length := by rw [← Hfl.out]; exact hq1
          have c0 : wr.cell? ⟨g, q, none⟩ = some (str F[q]) := (hbw.cell (p := ⟨g, q, none⟩) hgl).trans (hce q hq0F)
          have c1 : wr.cell? ⟨g, q + 1, none⟩ = some (str F[q + 1]) := (hbw.cell (p := ⟨g, q + 1, none⟩) hgl).trans (hce (q + 1) hq1F)
          have hm0 := Hm.out _ (List.getElem_mem hq0F)
          have hm1 := Hm.out _ (List.getElem_mem hq1F)
          have hch : chg F m = chgM F[q] F[q + 1] := by
            unfold chg
            rw [← hq, List.getD_eq_getElem?_getD, List.getD_eq_getElem?_getD, List.getElem?_eq_getElem hq0F, List.getElem?_eq_getElem hq1F]
            rfl
          generalize F[q] = f at c0 hm0 hch
          generalize F[q + 1] = v at c1 hm1 hch
          have hnum := fun z => refasnum_any f z (by unfold maxLen; omega)
          have Hy := Lib.hid hy
          have HM := Lib.hid hM
          have Hbw := Lib.hid hbw
          have Hok := Lib.hid hok
          have Hch := Lib.hid hch
          have Hq := Lib.hid hq
          clear hq
          clear hce hy hM hbw hok hch
          by_cases hn0 : (asNumV f).2 = 0
          · obtain ⟨nv, hnv⟩ : ∃ nv, nv = (asNumV f).1 := ⟨_, rfl⟩
            rw [hn0, ← hnv] at hnum
            have Hnum := Lib.hid hnum
            have hnv64 : nv < 18446744073709551616 := by rw [hnv]; exact asNumV_lt f
            clear hnum
            by_cases hv0 : v = []
            · subst hv0
              have hcm : chg F m = (⟨nv, [], true⟩, 0) := by rw [Hch.out]; unfold chgM; rw [if_neg (by simpa using hn0), if_pos rfl, ← hnv]
              have Hcm := Lib.hid hcm
              have Hrc := Lib.hid (fun z (hz : Below wr.heap.size wr z) => rchange_any _ (.slice Ay M.length cy) M nv [] true z (Hy.out.grow hz) hnv64 (by omega))
              have hcl := changeR_length M nv [] true
              clear hcm hnv hn0
              go_wp2_with (first | (go_at_call 40; go_must (refine (Hnum.out _).mono ?_; rintro e2 w2 ⟨rfl, hb2⟩; have c0' := (hb2.cell (p := ⟨g, q, none⟩) (Nat.lt_of_lt_of_le hgl Hbw.out.size)).trans c0; have c1' := (hb2.cell (p := ⟨g, q + 1, none⟩) (Nat.lt_of_lt_of_le hgl Hbw.out.size)).trans c1; have Hb2 := Lib.hid hb2; clear hb2)) | (go_at_call 28; go_must (refine (Hrc.out _ Hb2.out).mono ?_; rintro e3 w3 ⟨⟨y3, rfl, hy3⟩, hb3⟩; have Hy3 := Lib.hid hy3; have Hb3 := Lib.hid hb3; clear hy3 hb3)))
              refine ⟨⟨q + 2, m + 1, _, by have := Hq.out; omega, by have := Hq.out; have := HK.out; omega, by go_num, Hy3.out.weaken (fun k hk => .inr (Nat.le_trans (Nat.le_trans (Nat.le_trans Hb1.out.size Hbw.out.size) Hb2.out.size) hk)), by rw [chgs_succ, applyR_snoc, Hcm.out, ← HM.out], by omega, fun i hi => ?_, Hbw.out.trans ((Hb2.out.trans (Hb3.out.mono Hb2.out.size)).mono Hbw.out.size)⟩, by simp [intOf]; omega⟩
              rcases Nat.lt_or_ge i m with h | h
              · exact Hok.out i h
              · obtain rfl : i = m := by omega
                rw [Hcm.out]
            · obtain ⟨x, hx⟩ : ∃ x : Nat, x = (v.getD 0 0).toNat := ⟨_, rfl⟩
              have hvl : 0 < v.length := List.length_pos_iff.2 hv0
              have hs0 : 0 < (⟨v.toArray⟩ : ByteArray).size := hvl
              have hne : (v == []) = false := beq_eq_false_iff_ne.2 hv0
              have hvx : (((⟨v.toArray⟩ : ByteArray)[0]'hs0).toNat : Int) = (x : Int) := by rw [byte_at v 0 hvl hs0, hx]
              by_cases h1 : x = 1
              · subst h1
                have hcm : chg F m = (⟨nv, v.tail, false⟩, 0) := by
                  rw [Hch.out]
                  unfold chgM
                  rw [if_neg (by simpa using hn0), if_neg hv0, if_neg, ← hnv]
                  obtain ⟨c, t, rfl⟩ := List.exists_cons_of_ne_nil hv0
                  simp at hx
                  simp
                  exact UInt8.toNat_inj.1 hx.symm
                have Hcm := Lib.hid hcm
                have hst : str v.tail = Value.string ((⟨v.toArray⟩ : ByteArray).extract 1 v.length) := by rw [extract_str, List.take_length, List.drop_one]
                have hrc := fun z (hz : Below wr.heap.size wr z) => rchange_any _ (.slice Ay M.length cy) M nv v.tail false z (Hy.out.grow hz) hnv64 (by omega)
                rw [hst] at hrc
                have Hrc := Lib.hid hrc
                clear hrc hst
                have hcl := changeR_length M nv v.tail false
                clear hcm hnv hn0 hx
                go_wp2_with (first | (go_at_call 40; go_must (refine (Hnum.out _).mono ?_; rintro e2 w2 ⟨rfl, hb2⟩; have c0' := (hb2.cell (p := ⟨g, q, none⟩) (Nat.lt_of_lt_of_le hgl Hbw.out.size)).trans c0; have c1' := (hb2.cell (p := ⟨g, q + 1, none⟩) (Nat.lt_of_lt_of_le hgl Hbw.out.size)).trans c1; have Hb2 := Lib.hid hb2; clear hb2)) | (go_at_call 28; go_must (refine (Hrc.out _ Hb2.out).mono ?_; rintro e3 w3 ⟨⟨y3, rfl, hy3⟩, hb3⟩; have Hy3 := Lib.hid hy3; have Hb3 := Lib.hid hb3; clear hy3 hb3)))
                refine ⟨⟨q + 2, m + 1, _, by have := Hq.out; omega, by have := Hq.out; have := HK.out; omega, by go_num, Hy3.out.weaken (fun k hk => .inr (Nat.le_trans (Nat.le_trans (Nat.le_trans Hb1.out.size Hbw.out.size) Hb2.out.size) hk)), by rw [chgs_succ, applyR_snoc, Hcm.out, ← HM.out], by omega, fun i hi => ?_, Hbw.out.trans ((Hb2.out.trans (Hb3.out.mono Hb2.out.size)).mono Hbw.out.size)⟩, by simp [intOf]; omega⟩
                rcases Nat.lt_or_ge i m with h | h
                · exact Hok.out i h
                · obtain rfl : i = m := by omega
                  rw [Hcm.out]
              · have hbad : (chg F m).2 ≠ 0 := by
                  rw [Hch.out]
                  unfold chgM
                  rw [if_neg (by simpa using hn0), if_neg hv0, if_pos]
                  · decide
                  · obtain ⟨c, t, rfl⟩ := List.exists_cons_of_ne_nil hv0
                    intro h
                    simp at h hx
                    subst h
                    exact h1 hx
                have hbadR : R.2 ≠ 0 := by
                  rw [HE2.out, if_pos]
                  · decide
                  · rw [List.any_eq_true]
                    exact ⟨m, List.mem_range.2 (by have := HK.out; omega), by simpa using hbad⟩
                have h1I : ((x : Int) == 1) = false := by rw [beq_eq_false_iff_ne]; omega
                have h1J : ¬ (x : Int) = 1 := by omega
                clear hnv hn0 hx hbad
                go_wp2_with (go_at_call 40; go_must (refine (Hnum.out _).mono ?_; rintro e2 w2 ⟨rfl, hb2⟩; have c0' := (hb2.cell (p := ⟨g, q, none⟩) (Nat.lt_of_lt_of_le hgl Hbw.out.size)).trans c0; have c1' := (hb2.cell (p := ⟨g, q + 1, none⟩) (Nat.lt_of_lt_of_le hgl Hbw.out.size)).trans c1; have Hb2 := Lib.hid hb2; clear hb2))
                go_ret2
                exact ⟨⟨_, false, M, rfl, Hy.out.grow Hb2.out, hmb2, fun h => (by cases h), fun _ => hbadR⟩, below_call (below_call Hb1.out Hbw.out) Hb2.out⟩
          · have hbad : (chg F m).2 ≠ 0 := by rw [Hch.out]; unfold chgM; rw [if_pos hn0]; decide
            have hbadR : R.2 ≠ 0 := by
              rw [HE2.out, if_pos]
              · decide
              · rw [List.any_eq_true]
                exact ⟨m, List.mem_range.2 (by have := HK.out; omega), by simpa using hbad⟩
            obtain ⟨er, her⟩ : ∃ er, er = (asNumV f).2 := ⟨_, rfl⟩
            rw [← her] at hnum hn0
            obtain ⟨nv, hnv⟩ : ∃ nv, nv = (asNumV f).1 := ⟨_, rfl⟩
            rw [← hnv] at hnum
            have Hnum := Lib.hid hnum
            have heI : ((er : Int) == 0) = false := by rw [beq_eq_false_iff_ne]; omega
            clear hnum her hnv
            go_wp2_with (go_at_call 40; go_must (refine (Hnum.out _).mono ?_; rintro e2 w2 ⟨rfl, hb2⟩; have c0' := (hb2.cell (p := ⟨g, q, none⟩) (Nat.lt_of_lt_of_le hgl Hbw.out.size)).trans c0; have c1' := (hb2.cell (p := ⟨g, q + 1, none⟩) (Nat.lt_of_lt_of_le hgl Hbw.out.size)).trans c1; have Hb2 := Lib.hid hb2; clear hb2))
            go_ret2
            exact ⟨⟨_, false, M, rfl, Hy.out.grow Hb2.out, hmb2, fun h => (by cases h), fun _ => hbadR⟩, below_call (below_call Hb1.out Hbw.out) Hb2.out⟩
        · have hKo := HK.out
          obtain rfl : q = fl := by omega
          obtain rfl : m = K := by omega
          have hfin : R = (chgs F m, 0) := by
            rw [HE2.out, show q / 2 = m by omega, if_neg]
            · rfl
            · rw [List.any_eq_true]
              rintro ⟨i, hi, hc⟩
              rw [hok i (List.mem_range.1 hi)] at hc
              cases hc
          have Hfin := Lib.hid hfin
          have Hy := Lib.hid hy
          have HM := Lib.hid hM
          have Hbw := Lib.hid hbw
          have hmb2 : M.length ≤ L.length + b.length := by omega
          clear hfin hy hM hbw hok hq hKo HK
          go_wp2_with fail
          go_ret2
          exact ⟨⟨_, true, M, rfl, Hy.out, hmb2, fun _ => by rw [Hfin.out]; exact ⟨rfl, HM.out⟩, fun h => by cases h⟩, below_call Hb1.out Hbw.out⟩
    · have hmod : (fl : Int).tmod 2 = 1 := by rw [Int.tmod_eq_emod_of_nonneg (by omega)]; omega
      go_wp2_with fail
      go_ret2
      refine ⟨⟨_, false, L, rfl, HL.out.grow Hb1.out, by omega, fun h => (by cases h), fun _ => ?_⟩, Hb1.out⟩
      rw [HE.out, if_pos (.inr (by rw [← Hfl.out]; exact hodd))]
      decide
  · have heI : ((er : Int) == 0) = false := by rw [beq_eq_false_iff_ne]; omega
    go_wp2_with fail
    go_ret2
    refine ⟨⟨_, false, L, rfl, HL.out.grow Hb1.out, by omega, fun h => (by cases h), fun _ => ?_⟩, Hb1.out⟩
    rw [HE.out, if_pos (.inl he)]
    decide
end Go.Proofs.YtdmbmkjiffhbcaaGreat
