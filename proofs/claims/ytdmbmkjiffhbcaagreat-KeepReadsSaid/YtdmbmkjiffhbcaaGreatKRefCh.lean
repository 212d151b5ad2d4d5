/-
  The document's Change and Apply, walked.
-/
import Derived.Test.YtdmbmkjiffhbcaaGreatKRefMath
import Derived.Test.YtdmbmkjiffhbcaaGreatDevTail
namespace Go.Proofs.YtdmbmkjiffhbcaaGreat
open Go.RowKit
set_option maxRecDepth 100000

def pairC (p : Nat × List UInt8) : List Value := [.int .u64 (p.1 : Int), str p.2]
theorem elemPair : ElemK Tryz.prog 39 87 2 24 := ElemK.mk_ (z := .agg #[.int .u64 0, .string ⟨#[]⟩]) Tryz.underlying39 (by kernel_rfl) rfl (by decide)
theorem pair_oneCell (n : Int) (l : List UInt8) : ∀ u ∈ [Value.int .u64 n, str l], u.oneCell' = true := by
  intro u hu
  simp at hu
  rcases hu with rfl | rfl <;> rfl
theorem many_pairs {w : World} {ok : Nat → Prop} (M : PairL) (hM : ∀ p ∈ M, p.1 < 18446744073709551616) : kMany kPairR w ok (many pairC M) M :=
  ⟨M.map pairC, rfl, by simp, fun i hi hi' => by
    rw [List.getElem_map]
    exact ⟨rfl, hM _ (List.getElem_mem _)⟩⟩
theorem own_pairs {w : World} {base : Nat} {v : Value} {M : PairL} (h : OwnK w base 87 2 v M.length (many pairC M)) (hM : ∀ p ∈ M, p.1 < 18446744073709551616) : IsL kPairR w (fun q => base ≤ q) v M := by
  have hl := h.lt
  obtain ⟨A, c, e, h1, h2, h3⟩ := h.form
  exact ⟨A, c, _, e, h1, h2, h3.weaken fun g hg => (hl g hg).1, many_pairs M hM⟩
theorem many_snoc1 (M : PairL) (p : Nat × List UInt8) : many pairC (M ++ [p]) = many pairC M ++ [.int .u64 (p.1 : Int), str p.2] := by
  rw [many_append]
  unfold many pairC
  simp
theorem chgR_cons (k : Nat) (x : List UInt8) (pk : Nat) (pv : List UInt8) (l : PairL) (put : Bool) (M : PairL) : chgR k x ((pk, pv) :: l) put M = chgR k x l (put || decide (k < pk)) ((if !put && decide (k < pk) then M ++ [(k, x)] else M) ++ (if pk = k then [] else [(pk, pv)])) := rfl
set_option maxHeartbeats 2000000 in
theorem rchange_any (ok : Nat → Prop) (v : Value) (L : PairL) (k : Nat) (x : List UInt8) (gone : Bool) (w : World) (hL : IsL kPairR w ok v L) (hk : k < 18446744073709551616) (hl : L.length ≤ 1000000) :
    Calls Tryz.prog 28 #[v, .int .u64 (k : Int), str x, .bool gone] w fun e w' => (∃ y, e = .returned y ∧ IsL kPairR w' (fun q => w.heap.size ≤ q) y (changeR L k x gone)) ∧ Below w.heap.size w w' := by
  obtain ⟨A, c, rfl, hLc, hcm, hcells⟩ := pairR_at hL
  unfold maxLen at hcm
  have Hc := Lib.hid hcells
  have Hk := Lib.hid hk
  clear hL hcells
  generalize hR : changeR L k x gone = R
  unfold changeR at hR
  have HR := Lib.hid hR
  clear hR
  go_enter Tryz.func28, Tryz.ntmps28
  go_wp2_with fail
  go_loopw [9, 10, 11] (fun out p i wr => ∃ (j : Nat) (put : Bool) (M : PairL), j ≤ L.length ∧ i = .int .i64 (j : Int) ∧ p = .bool put ∧ OwnK wr w.heap.size 87 2 out M.length (many pairC M) ∧ chgR k x (L.drop j) put M = R ∧ M.length ≤ 2 * j ∧ (∀ q ∈ M, q.1 < 18446744073709551616) ∧ Below w.heap.size w wr) (fun _ _ i _ => L.length - (intOf i).toNat)
  case atStart => exact ⟨0, gone, [], by omega, rfl, rfl, OwnK.nil _ _ _ _, HR.out, by simp, (fun q h => by cases h), Below.refl _ _⟩
  case round =>
    obtain ⟨j, put, M, hj, rfl, rfl, hown, hrec, hml, hM, hbel⟩ := hrel
    obtain ⟨Ao, co, rfl, _, _, _⟩ := hown.form
    have Hown := Lib.hid hown
    have Hrec := Lib.hid hrec
    have HM := Lib.hid hM
    have Hbel := Lib.hid hbel
    have hws := hbel.size
    clear hown hrec hM hbel
    by_cases hlt : j < L.length
    · obtain ⟨b, off, rfl, hokb, hbl, hcell⟩ := Hc.out (by intro e; subst e; simp at hlt)
      obtain ⟨q0, q1, hpk⟩ := hcell j hlt
      have hrec := Hrec.out
      rw [List.drop_eq_getElem_cons hlt] at hrec
      generalize L[j] = p at q0 q1 hpk hrec
      obtain ⟨pk, pv⟩ := p
      dsimp only at q0 q1 hpk
      rw [chgR_cons] at hrec
      have Hrec2 := Lib.hid hrec
      have Hpk := Lib.hid hpk
      have HQ0 := Lib.hid q0
      have HQ1 := Lib.hid q1
      have c0 := (Hbel.out.cell (p := ⟨b, off + j * 2, none⟩) hbl).trans q0
      have c1 := (Hbel.out.cell (p := ⟨b, off + j * 2 + 1, none⟩) hbl).trans q1
      clear hcell q0 q1 hpk hrec Hrec
      cases put with
      | true =>
        by_cases heq : pk = k
        · have e2 : ((pk : Int) != (k : Int)) = false := by rw [bne_eq_false_iff_eq]; omega
          go_wp2_with fail
          go_roundw
          case rel => exact ⟨j + 1, true, M, by omega, by go_num, rfl, Hown.out, by have h := Hrec2.out; simpa [show pk = k by omega] using h, by omega, HM.out, Hbel.out⟩
          case measure => simp [intOf]; omega
        · have e2 : ((pk : Int) != (k : Int)) = true := by rw [bne_iff_ne]; omega
          go_wp2_with (at_builtin; refine wpList_appK_new _ elemPair rfl (.tmp 43) (.tmp 48) rfl w.heap.size M.length _ (many pairC M) rfl Hown.out [.int .u64 (pk : Int), str pv] 1 rfl 87 rfl (pair_oneCell _ _) (by omega) (by omega) hws ?_; intro v9 w9 hownv9 hgv9 hatv9)
          go_roundw
          case rel =>
            refine ⟨j + 1, true, M ++ [(pk, pv)], by omega, by go_num, rfl, ?_, by have h := Hrec2.out; simpa [show ¬ pk = k by omega] using h, by simp only [List.length_append, List.length_cons, List.length_nil]; omega, fun q hq => ?_, Hbel.out.trans (Hown.out.below_of hgv9 hws (Nat.le_refl _))⟩
            · rw [many_snoc1]
              rw [List.length_append]
              exact hownv9
            · rcases List.mem_append.1 hq with hq | hq
              · exact HM.out q hq
              · simp at hq; subst hq; exact Hpk.out
          case measure => simp [intOf]; omega
      | false =>
        by_cases hlk : k < pk
        · have e1 : decide ((k : Int) < (pk : Int)) = true := by rw [decide_eq_true_iff]; omega
          have e1n : decide (k < pk) = true := by rw [decide_eq_true_iff]; omega
          have e2 : ((pk : Int) != (k : Int)) = true := by rw [bne_iff_ne]; omega
          go_upto_region 9 with (at_builtin; refine wpList_appK_new _ elemPair rfl (.tmp 30) (.tmp 34) rfl w.heap.size M.length _ (many pairC M) rfl Hown.out [.int .u64 (k : Int), str x] 1 rfl 87 rfl (pair_oneCell _ _) (by omega) (by omega) hws ?_; intro v7 w7 hownv7 hgv7 hatv7)
          have hb7 : Below w.heap.size w w7 := Hbel.out.trans (Hown.out.below_of hgv7 hws (Nat.le_refl _))
          have d0 := (hb7.cell (p := ⟨b, off + j * 2, none⟩) hbl).trans HQ0.out
          have d1 := (hb7.cell (p := ⟨b, off + j * 2 + 1, none⟩) hbl).trans HQ1.out
          have hown8 : OwnK w7 w.heap.size 87 2 v7 (M.length + 1) (many pairC (M ++ [(k, x)])) := by rw [many_snoc1]; exact hownv7
          obtain ⟨A7, c7, rfl, _, _, _⟩ := hown8.form
          have Hown8 := Lib.hid hown8
          have Hb7 := Lib.hid hb7
          have hws7 := hb7.size
          clear hown8 hownv7 hgv7 hatv7 hb7 c0 c1
          go_wp2_with (at_builtin; refine wpList_appK_new _ elemPair rfl (.tmp 43) (.tmp 48) rfl w.heap.size (M.length + 1) _ (many pairC (M ++ [(k, x)])) rfl Hown8.out [.int .u64 (pk : Int), str pv] 1 rfl 87 rfl (pair_oneCell _ _) (by omega) (by omega) hws7 ?_; intro v9 w9 hownv9 hgv9 hatv9)
          go_roundw
          case rel =>
            refine ⟨j + 1, true, (M ++ [(k, x)]) ++ [(pk, pv)], by omega, by go_num, rfl, ?_, by have h := Hrec2.out; simpa [e1n, show ¬ pk = k by omega] using h, by simp only [List.length_append, List.length_cons, List.length_nil]; omega, fun q hq => ?_, Hb7.out.trans (Hown8.out.below_of hgv9 hws7 (Nat.le_refl _))⟩
            · rw [many_snoc1]
              simp only [List.length_append, List.length_cons, List.length_nil, Nat.zero_add]
              exact hownv9
            · rcases List.mem_append.1 hq with hq | hq
              · rcases List.mem_append.1 hq with hq | hq
                · exact HM.out q hq
                · simp at hq; subst hq; exact Hk.out
              · simp at hq; subst hq; exact Hpk.out
          case measure => simp [intOf]; omega
        · by_cases heq : pk = k
          · have e1 : decide ((k : Int) < (pk : Int)) = false := by rw [decide_eq_false_iff_not]; omega
            have e1n : decide (k < pk) = false := by rw [decide_eq_false_iff_not]; omega
            have e2 : ((pk : Int) != (k : Int)) = false := by rw [bne_eq_false_iff_eq]; omega
            go_wp2_with fail
            go_roundw
            case rel => exact ⟨j + 1, false, M, by omega, by go_num, rfl, Hown.out, by have h := Hrec2.out; simpa [e1n, show pk = k by omega] using h, by omega, HM.out, Hbel.out⟩
            case measure => simp [intOf]; omega
          · have e1 : decide ((k : Int) < (pk : Int)) = false := by rw [decide_eq_false_iff_not]; omega
            have e1n : decide (k < pk) = false := by rw [decide_eq_false_iff_not]; omega
            have e2 : ((pk : Int) != (k : Int)) = true := by rw [bne_iff_ne]; omega
            go_wp2_with (at_builtin; refine wpList_appK_new _ elemPair rfl (.tmp 43) (.tmp 48) rfl w.heap.size M.length _ (many pairC M) rfl Hown.out [.int .u64 (pk : Int), str pv] 1 rfl 87 rfl (pair_oneCell _ _) (by omega) (by omega) hws ?_; intro v9 w9 hownv9 hgv9 hatv9)
            go_roundw
            case rel =>
              refine ⟨j + 1, false, M ++ [(pk, pv)], by omega, by go_num, rfl, ?_, by have h := Hrec2.out; simpa [e1n, show ¬ pk = k by omega] using h, by simp only [List.length_append, List.length_cons, List.length_nil]; omega, fun q hq => ?_, Hbel.out.trans (Hown.out.below_of hgv9 hws (Nat.le_refl _))⟩
              · rw [many_snoc1]
                rw [List.length_append]
                exact hownv9
              · rcases List.mem_append.1 hq with hq | hq
                · exact HM.out q hq
                · simp at hq; subst hq; exact Hpk.out
            case measure => simp [intOf]; omega
    · obtain rfl : j = L.length := by omega
      have h := Hrec.out
      rw [List.drop_length] at h
      have Hrec2 := Lib.hid h
      clear h
      cases put with
      | true =>
        go_wp2_with fail
        go_ret
        refine ⟨⟨_, rfl, ?_⟩, Hbel.out⟩
        have h := Hrec2.out
        simp [chgR] at h
        rw [← h]
        exact own_pairs Hown.out HM.out
      | false =>
        go_wp2_with (at_builtin; refine wpList_appK_new _ elemPair rfl (.tmp 52) (.tmp 56) rfl w.heap.size M.length _ (many pairC M) rfl Hown.out [.int .u64 (k : Int), str x] 1 rfl 87 rfl (pair_oneCell _ _) (by omega) (by omega) hws ?_; intro v9 w9 hownv9 hgv9 hatv9)
        go_ret
        refine ⟨⟨_, rfl, ?_⟩, Hbel.out.trans (Hown.out.below_of hgv9 hws (Nat.le_refl _))⟩
        have h := Hrec2.out
        simp [chgR] at h
        rw [← h]
        refine own_pairs (by rw [many_snoc1, List.length_append]; exact hownv9) fun q hq => ?_
        rcases List.mem_append.1 hq with hq | hq
        · exact HM.out q hq
        · simp at hq; subst hq; exact Hk.out
theorem chgR_length (k : Nat) (v : List UInt8) : ∀ (l : PairL) (put : Bool) (out : PairL), (chgR k v l put out).length ≤ out.length + l.length + 1 ∧ (put = true → (chgR k v l put out).length ≤ out.length + l.length) := by
  intro l
  induction l with
  | nil => intro put out; cases put <;> simp [chgR]
  | cons p l ih =>
    intro put out
    unfold chgR
    obtain ⟨h1, h2⟩ := ih (put || decide (k < p.1)) ((if !put && decide (k < p.1) then out ++ [(k, v)] else out) ++ (if p.1 = k then [] else [p]))
    have h3 : (if p.1 = k then ([] : PairL) else [p]).length ≤ 1 := by split <;> simp
    rw [List.length_append] at h1 h2
    rw [List.length_cons]
    cases put with
    | true =>
      have h4 := h2 (by simp)
      simp only [Bool.not_true, Bool.false_and, Bool.false_eq_true, if_false] at h4 ⊢
      exact ⟨by omega, fun _ => by omega⟩
    | false =>
      refine ⟨?_, fun h => by cases h⟩
      by_cases hlt : k < p.1
      · have h4 := h2 (by simp [hlt])
        simp only [Bool.not_false, Bool.true_and, hlt, decide_true, if_true, List.length_append, List.length_cons, List.length_nil] at h4 ⊢
        omega
      · simp only [Bool.not_false, Bool.true_and, hlt, decide_false, Bool.false_eq_true, if_false] at h1 ⊢
        omega
theorem changeR_length (l : PairL) (k : Nat) (v : List UInt8) (g : Bool) : (changeR l k v g).length ≤ l.length + 1 := by
  have := (chgR_length k v l g []).1
  unfold changeR
  simpa using this
theorem applyR_length : ∀ (l : PairL) (L : List PutM), (applyR l L).length ≤ l.length + L.length := by
  intro l L
  induction L generalizing l with
  | nil => exact Nat.le_refl _
  | cons p L ih =>
    have h := ih (changeR l p.key p.val p.gone)
    have h1 := changeR_length l p.key p.val p.gone
    have e : applyR l (p :: L) = applyR (changeR l p.key p.val p.gone) L := rfl
    rw [e, List.length_cons]
    omega
set_option maxHeartbeats 2000000 in
theorem apply_any (ok1 ok2 : Nat → Prop) (v1 : Value) (L : PairL) (v2 : Value) (C : List PutM) (w : World) (h1 : IsL kPairR w ok1 v1 L) (h2 : IsL kPut w ok2 v2 C) (hl : L.length + C.length ≤ 900000) :
    Calls Tryz.prog 12 #[v1, v2] w fun e w' => (∃ y, e = .returned y ∧ IsL kPairR w' (fun q => ok1 q ∨ w.heap.size ≤ q) y (applyR L C)) ∧ Below w.heap.size w w' := by
  obtain ⟨A, c, rfl, hLc, hcm, hcells⟩ := put_at h2
  unfold maxLen at hcm
  have h1' : IsL kPairR w (fun q => ok1 q ∨ w.heap.size ≤ q) v1 L := h1.weaken fun q hq => .inl hq
  have Hc := Lib.hid hcells
  have H1 := Lib.hid h1'
  clear h1 h2 hcells h1'
  generalize hR : applyR L C = R
  have HR := Lib.hid hR
  clear hR
  go_enter Tryz.func12, Tryz.ntmps12
  go_wp2_with fail
  go_loopw [0, 5] (fun x i wr => ∃ (j : Nat) (M : PairL), j ≤ C.length ∧ i = .int .i64 (j : Int) ∧ IsL kPairR wr (fun q => ok1 q ∨ w.heap.size ≤ q) x M ∧ M.length ≤ L.length + j ∧ applyR M (C.drop j) = R ∧ Below w.heap.size w wr) (fun _ i _ => C.length - (intOf i).toNat)
  case atStart => exact ⟨0, L, by omega, rfl, H1.out, by omega, HR.out, Below.refl _ _⟩
  case round =>
    obtain ⟨j, M, hj, rfl, hM, hml, hrec, hbel⟩ := hrel
    obtain ⟨Ax, cx, hxv, hMc, hMm, _⟩ := pairR_at hM
    subst hxv
    have HM := Lib.hid hM
    have Hrec := Lib.hid hrec
    have Hbel := Lib.hid hbel
    have hws := hbel.size
    unfold maxLen at hMm
    clear hM hrec hbel
    by_cases hlt : j < C.length
    · obtain ⟨b, off, rfl, hokb, hbl, hcell⟩ := Hc.out (by intro e; subst e; simp at hlt)
      obtain ⟨Ai, ci, q0, q1, q2, hkey, hval⟩ := hcell j hlt
      have hrec := Hrec.out
      rw [List.drop_eq_getElem_cons hlt] at hrec
      generalize C[j] = p at q0 q1 q2 hkey hval hrec
      obtain ⟨pk, pv, pg⟩ := p
      dsimp only at q0 q1 q2 hkey hval
      have hrec2 : applyR (changeR M pk pv pg) (C.drop (j + 1)) = R := hrec
      have c0 : wr.cell? ⟨b, off + j * 3, none⟩ = some (.int .u64 (pk : Int)) := (Hbel.out.cell (p := ⟨b, off + j * 3, none⟩) hbl).trans q0
      have c1 : wr.cell? ⟨b, off + j * 3 + 1, none⟩ = some (.slice Ai pv.length ci) := (Hbel.out.cell (p := ⟨b, off + j * 3 + 1, none⟩) hbl).trans q1
      have c2 : wr.cell? ⟨b, off + j * 3 + 2, none⟩ = some (.bool pg) := (Hbel.out.cell (p := ⟨b, off + j * 3 + 2, none⟩) hbl).trans q2
      have hcv : ∀ z, Below wr.heap.size wr z → (convert 47 9 (.slice Ai pv.length ci)).run Tryz.prog z = .ok (str pv) z := fun z hz => conv_is ((hval.grow Hbel.out).grow hz)
      have hch := fun z (hz : Below wr.heap.size wr z) => rchange_any _ (.slice Ax M.length cx) M pk pv pg z (HM.out.grow hz) hkey (by omega)
      have hcl := changeR_length M pk pv pg
      obtain ⟨M2, hM2⟩ : ∃ M2, M2 = changeR M pk pv pg := ⟨_, rfl⟩
      rw [← hM2] at hrec2 hch hcl
      have Hrec2 := Lib.hid hrec2
      have Hch := Lib.hid hch
      have hi1 : (j : Int) < (C.length : Int) := by omega
      have c0d : wr.drew.cell? ⟨b, off + j * 3, none⟩ = some (.int .u64 (pk : Int)) := c0
      have c1d : wr.drew.cell? ⟨b, off + j * 3 + 1, none⟩ = some (.slice Ai pv.length ci) := c1
      have c2d : wr.drew.cell? ⟨b, off + j * 3 + 2, none⟩ = some (.bool pg) := c2
      clear hcell q0 q1 q2 hval hkey hrec hrec2 hch hM2
      go_upto_region 4 with fail
      go_region_held3 (fun u => Below wr.heap.size wr u ∧ u.cell? ⟨b, off + j * 3, none⟩ = some (.int .u64 (pk : Int)) ∧ u.cell? ⟨b, off + j * 3 + 1, none⟩ = some (.slice Ai pv.length ci) ∧ u.cell? ⟨b, off + j * 3 + 2, none⟩ = some (.bool pg))
        (first | (with_reducible exact ⟨(Below.refl _ _).drew, c0d, c1d, c2d⟩) | (with_reducible assumption) | (go_split_ands; with_reducible exact ⟨below_on (by assumption) hb5, cell_then hb5 (by assumption), cell_then hb5 (by assumption), cell_then hb5 (by assumption)⟩))
        ((go_at_call 28; refine (Hch.out _ (And.left (by assumption))).mono ?_; rintro e w5 ⟨⟨y5, rfl, hy5z⟩, hb5⟩; have hy5 := hy5z.weaken (fun q hq => Nat.le_trans (And.left (by assumption) : Below wr.heap.size wr _).size hq); clear hy5z))
      go_wp2_with fail
      go_roundw
      case rel => exact ⟨j + 1, M2, by omega, by go_num, hy5.weaken fun q hq => .inr (Nat.le_trans hws hq), by omega, Hrec2.out, Hbel.out.trans (Below.mono (And.left (by assumption)) hws)⟩
      case measure => simp [intOf]; omega
    · obtain rfl : j = C.length := by omega
      have h := Hrec.out
      rw [List.drop_length] at h
      have h2 : M = R := h
      subst h2
      go_wp2_with fail
      go_ret
      exact ⟨⟨_, rfl, HM.out⟩, Hbel.out⟩
end Go.Proofs.YtdmbmkjiffhbcaaGreat
