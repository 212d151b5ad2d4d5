/-
  The document's Add.
-/
import Derived.Test.YtnbaaccodgohoaaVeData
import Derived.Test.YtnbaaccodgohoaaVecA
namespace Go.Proofs.Ytnbaaccodgohoaa
open Go.RowKit
set_option maxRecDepth 100000

/-- What stands behind the first elements: the new one put in or not. -/
def outV (A : List Ver) (pos i : Nat) (put : Bool) (X : Ver) : List Ver := if put = true then insV (A.take i) pos X else A.take i
theorem insV_snoc {A : List Ver} {pos : Nat} {X y : Ver} (h : pos ≤ A.length) : insV A pos X ++ [y] = insV (A ++ [y]) pos X := by
  unfold insV
  rw [List.take_append_of_le_length h, List.drop_append_of_le_length h]
  simp

theorem pos_less {L : List Ver} {r : Int} {s : Nat} {j : Nat} (hj : j < L.length) : (j < posV L r s → lessV L[j].rep L[j].seq r s = true) ∧ (j = posV L r s → lessV L[j].rep L[j].seq r s = false) := by
  unfold posV
  induction L generalizing j with
  | nil => simp at hj
  | cons a L ih =>
    rw [List.takeWhile_cons]
    by_cases h : lessV a.rep a.seq r s = true
    · rw [if_pos h]
      cases j with
      | zero => exact ⟨fun _ => h, fun e => by simp at e⟩
      | succ j =>
        have := ih (j := j) (by simpa using hj)
        exact ⟨fun e => this.1 (by simpa using e), fun e => this.2 (by simpa using e)⟩
    · rw [if_neg h]
      cases j with
      | zero => exact ⟨fun e => by simp at e, fun _ => by simpa using h⟩
      | succ j => exact ⟨fun e => by simp at e, fun e => by simp at e⟩

set_option maxHeartbeats 40000000 in
theorem refadd_any (ok ok' : Nat → Prop) (v vB : Value) (L : List Ver) (bs : List (Int × Nat)) (X : Ver) (w : World) (hL : IsL kVer w ok v L) (hB : IsL kId w ok' vB bs) (hl : L.length ≤ 900) (hs : SortedV L) (hX : VerOk X) :
    Calls Try.prog 15 #[v, vB, .agg (verC X)] w fun e w' => (∃ u, e = .returned (.tuple #[u, .int .i64 (addV L bs X).2]) ∧ OwnV w' w.heap.size u (addV L bs X).1) ∧ Below w.heap.size w w' := by
  have hm : maxLen ≤ 9223372036854775807 := by decide
  obtain ⟨R, hR⟩ : ∃ R, R = addV L bs X := ⟨_, rfl⟩
  rw [← hR]
  have HR := Lib.hid hR
  obtain ⟨wb, hwb⟩ : ∃ wb, wb = w.alloc (.cells (verC X) 39) := ⟨_, rfl⟩
  have hbox : Blk wb w.heap.size 39 (verC X) := by rw [hwb]; exact Blk.new _ _ _
  have hbel : Below w.heap.size w wb := by rw [hwb]; exact (Below.refl _ _).alloc (Nat.le_refl _) _
  have hwbs : wb.heap.size = w.heap.size + 1 := by rw [hwb]; simp
  have HLb := Lib.hid (hL.grow hbel)
  have Hbox := Lib.hid hbox
  have Hbel := Lib.hid hbel
  have Hwbs := Lib.hid hwbs
  have Hs := Lib.hid hs
  have Hvok := Lib.hid hL.verOk
  have HX := Lib.hid hX
  obtain ⟨A, c, rfl, hc1, hc2, hE⟩ := ver_at (hL.grow hbel)
  have Hel := Lib.hid hE
  obtain ⟨AB, cB, rfl, hcB1, hcB2, hBe⟩ := id_at (hB.grow hbel)
  have HBe := Lib.hid hBe
  obtain ⟨C, hC⟩ : ∃ C, C = verC X := ⟨_, rfl⟩
  have HC := Lib.hid hC
  rw [← hC] at hwb ⊢
  have HW := Lib.hid hwb
  obtain ⟨m, hmm⟩ : ∃ m, m = bs.length := ⟨_, rfl⟩
  have Hm := Lib.hid hmm
  rw [← hmm] at hcB1 ⊢
  obtain ⟨n, hn⟩ : ∃ n, n = L.length := ⟨_, rfl⟩
  have Hn := Lib.hid hn
  rw [← hn] at hc1 hl HLb ⊢
  have hsz : C.size = 11 := by rw [hC]; rfl
  have Hinf := Lib.hid (show (Try.prog.info? 39).map (·.size) = some C.size by rw [hC]; exact ver_info)
  have hfold := fold_ver X
  rw [← hC] at hfold
  have Hfold := Lib.hid hfold
  obtain ⟨IX, hIX⟩ : ∃ IX, IX = idC X.rep X.seq := ⟨_, rfl⟩
  have HinfI := Lib.hid (show (Try.prog.info? 35).map (·.size) = some IX.toList.length by rw [hIX]; exact id_info)
  have HRI := Lib.hid (show ∀ x, Below wb.heap.size wb x → x.rangeAt w.heap.size 0 IX.toList from fun x hx => by
    rw [hIX]
    exact (hbox.grow hx).ver.id)
  have HIX := Lib.hid hIX
  have Hda := Lib.hid fun (r : Int) (s : Nat) (z : World) (hz : Below wb.heap.size wb z) => refdata_any ok (.slice A n c) L r s z (HLb.out.grow hz)
  have Hha := Lib.hid fun (r : Int) (s : Nat) (z : World) (hz : Below wb.heap.size wb z) => refhas11_any ok (.slice A n c) L r s z (HLb.out.grow hz)
  clear hbox hbel hwbs hs hL hX hB hBe hC hwb hmm hfold hIX hR hE hn
  go_enter Try.func15, Try.ntmps15
  go_upto_region 1 with fail
  rw [← HW.out]
  go_wp2_with fail
  go_loopw [8] (fun i wr => ∃ k : Nat, k ≤ m ∧ i = .int .i64 (k : Int) ∧ Hid (Below wb.heap.size wb wr) ∧ Hid (((bs.take k).all fun p => thereV L p.1 p.2) = true)) (fun i _ => m - (intOf i).toNat)
  case atStart => exact ⟨0, by omega, rfl, Lib.hid (Below.refl _ _), Lib.hid rfl⟩
  case round =>
    obtain ⟨k, hk, rfl, Hbw, Hall⟩ := hrel
    by_cases hlt : k < m
    · have hkl : k < bs.length := by rw [← Hm.out]; exact hlt
      obtain ⟨bb, boff, rfl, _, hbb, hbe⟩ := HBe.out (by intro e; subst e; simp at hkl)
      have hrid := range_ext (hbe k hkl).1 Hbw.out
      have htk : bs.take (k + 1) = bs.take k ++ [bs[k]] := by rw [List.take_succ_eq_append_getElem hkl]
      have hmem : bs[k] ∈ bs := List.getElem_mem hkl
      obtain ⟨p, hp⟩ : ∃ p, p = bs[k] := ⟨_, rfl⟩
      rw [← hp] at hrid htk hmem
      have Htk := Lib.hid htk
      have Hmem := Lib.hid hmem
      have c0 : wr.cell? ⟨bb, boff + k * 2, none⟩ = some (.int .i64 p.1) := hrid 0 _ rfl
      have c1 : wr.cell? ⟨bb, boff + k * 2 + 1, none⟩ = some (.int .u32 (p.2 : Int)) := hrid 1 _ rfl
      have hda := fun (z : World) (hz : Below wb.heap.size wb z) => Hda.out p.1 p.2 z hz
      have hha := fun (z : World) (hz : Below wb.heap.size wb z) => Hha.out p.1 p.2 z hz
      obtain ⟨q, hq⟩ : ∃ q, q = thereV L p.1 p.2 := ⟨_, rfl⟩
      obtain ⟨DT, hDT⟩ : ∃ D, D = dataV L p.1 p.2 := ⟨_, rfl⟩
      rw [← hq] at hha
      rw [← hDT] at hda
      have Hd2 := Lib.hid (show (p.1 = 0 ∧ p.2 = 0 → DT.2 = 0) ∧ (¬ (p.1 = 0 ∧ p.2 = 0) → DT.2 = if q = true then 0 else 2) from ⟨fun h => by rw [hDT]; unfold dataV; rw [if_pos h], fun h => by
        obtain ⟨h1, h2⟩ := data_pos Hs.out h
        cases hqq : q with
        | false => rw [hDT, h1 (by rw [← hq]; exact hqq)]; rfl
        | true => obtain ⟨_, h3⟩ := h2 (by rw [← hq]; exact hqq); rw [hDT, h3]; rfl⟩)
      have Hq := Lib.hid hq
      have Hbk := Lib.hid (show ∀ z, Below wr.heap.size wr z → z.cell? ⟨bb, boff + k * 2, none⟩ = some (.int .i64 p.1) ∧ z.cell? ⟨bb, boff + k * 2 + 1, none⟩ = some (.int .u32 (p.2 : Int)) from fun z hz => ⟨(hz.cell (World.block_lt_of_cell? wr _ c0)).trans c0, (hz.cell (World.block_lt_of_cell? wr _ c1)).trans c1⟩)
      have HRno := Lib.hid (show q = false → R = ([], 2) from fun h => by
        rw [HR.out]
        unfold addV
        rw [if_pos]
        rw [List.all_eq_false]
        exact ⟨p, Hmem.out, by rw [← Hq.out, h]; simp⟩)
      have HallN := Lib.hid (show q = true → ((bs.take (k + 1)).all fun p => thereV L p.1 p.2) = true from fun h => by rw [Htk.out, List.all_append, Hall.out]; simp [← Hq.out, h])
      unfold idC at hda hha
      have Hdx := Lib.hid hda
      have Hhx := Lib.hid hha
      clear hbe hbb hrid htk hmem hp hq hDT hda hha
      go_upto_region 5 with (go_at_call 17; go_must (refine (Hdx.out _ Hbw.out).mono ?_; rintro e2 w2 ⟨rfl, hb2⟩))
      obtain ⟨d0, d1⟩ := Hbk.out w2 hb2
      have Hb2 := Lib.hid (below_call Hbw.out hb2)
      clear hb2 c0 c1
      obtain ⟨DE, hDE⟩ : ∃ D, D = DT.2 := ⟨_, rfl⟩
      rw [← hDE] at Hd2 ⊢
      clear hDE
      obtain ⟨p1, p2⟩ := p
      dsimp only at d0 d1 Hd2 Hhx
      by_cases hz : p1 = 0 ∧ p2 = 0
      · have h0 := Hd2.out.1 hz
        obtain ⟨rfl, rfl⟩ := hz
        subst h0
        cases q with
        | true =>
          go_wp2_with (go_at_call 36; go_must (refine (Hhx.out _ Hb2.out).mono ?_; rintro e3 w3 ⟨rfl, hb3⟩))
          go_roundw
          case rel => exact ⟨k + 1, by omega, by go_num, Lib.hid (below_call Hb2.out hb3), Lib.hid (HallN.out (by trivial))⟩
          case measure => simp [intOf]; omega
        | false =>
          go_wp2_with (go_at_call 36; go_must (refine (Hhx.out _ Hb2.out).mono ?_; rintro e3 w3 ⟨rfl, hb3⟩))
          go_ret2
          rw [HRno.out (by trivial)]
          exact ⟨⟨_, rfl, OwnV.nil _ _⟩, below_call Hbel.out (below_call Hb2.out hb3)⟩
      · have h0 := Hd2.out.2 hz
        cases q with
        | true =>
          rw [if_pos rfl] at h0
          subst h0
          by_cases hp1 : p1 = 0
          · have hp2 : ((p2 : Int) == 0) = false := by rw [beq_eq_false_iff_ne]; omega
            subst hp1
            go_wp2_with fail
            go_roundw
            case rel => exact ⟨k + 1, by omega, by go_num, Hb2, Lib.hid (HallN.out (by trivial))⟩
            case measure => simp [intOf]; omega
          · have hp1' : (p1 == 0) = false := by rw [beq_eq_false_iff_ne]; exact hp1
            go_wp2_with fail
            go_roundw
            case rel => exact ⟨k + 1, by omega, by go_num, Hb2, Lib.hid (HallN.out (by trivial))⟩
            case measure => simp [intOf]; omega
        | false =>
          rw [if_neg (by simp)] at h0
          subst h0
          go_wp2_with fail
          go_ret2
          rw [HRno.out (by trivial)]
          exact ⟨⟨_, rfl, OwnV.nil _ _⟩, below_call Hbel.out Hb2.out⟩
    · obtain rfl : k = m := by omega
      have HallB := Lib.hid (show (bs.all fun p => thereV L p.1 p.2) = true by
        have := Hall.out
        rwa [List.take_of_length_le (by rw [Hm.out]; exact Nat.le_refl _)] at this)
      have Rx := Lib.hid (HRI.out wr Hbw.out)
      have hha := fun (z : World) (hz : Below wb.heap.size wb z) => Hha.out X.rep X.seq z hz
      rw [← HIX.out] at hha
      obtain ⟨ps, hps⟩ : ∃ ps : Nat, ps = posV L X.rep X.seq := ⟨_, rfl⟩
      obtain ⟨q, hq⟩ : ∃ q, q = thereV L X.rep X.seq := ⟨_, rfl⟩
      rw [← hq] at hha
      have Hhx := Lib.hid hha
      have Hps := Lib.hid hps
      have Hq := Lib.hid hq
      clear hha hps hq
      cases q with
      | true =>
        have HR2 := Lib.hid (show R = ([], 11) by
          rw [HR.out]
          unfold addV
          rw [if_neg (by rw [HallB.out]; simp), if_pos Hq.out.symm])
        go_wp2_with (first | (refine wpList_load_mid (op := ⟨some 60, _, _, _, _, _⟩) rfl 35 (.tmp 59) rfl w.heap.size 0 rfl _ _ Rx.out Try.underlying35 rfl HinfI.out ?_) | (go_at_call 36; go_must (refine (Hhx.out _ Hbw.out).mono ?_; rintro e2 w2 ⟨rfl, hb2⟩)))
        go_ret2
        rw [HR2.out]
        exact ⟨⟨_, rfl, OwnV.nil _ _⟩, below_call Hbel.out (below_call Hbw.out hb2)⟩
      | false =>
        obtain ⟨AL, hAL⟩ : ∃ A, A = addedV L bs X.rep X.seq := ⟨_, rfl⟩
        have HAL := Lib.hid hAL
        have hALl : AL.length = n := by rw [hAL, addedV_length, Hn.out]
        have HALl := Lib.hid hALl
        have hpn : ps ≤ n := by rw [Hps.out, Hn.out]; exact posV_le L _ _
        have HR2 := Lib.hid (show R = (insV AL ps X, 0) by
          rw [HR.out]
          unfold addV
          rw [if_neg (by rw [HallB.out]; simp), if_neg (by rw [← Hq.out]; simp), Hps.out, hAL])
        clear hAL hALl
        go_upto_region 9 with (first | (refine wpList_load_mid (op := ⟨some 60, _, _, _, _, _⟩) rfl 35 (.tmp 59) rfl w.heap.size 0 rfl _ _ Rx.out Try.underlying35 rfl HinfI.out ?_) | (go_at_call 36; go_must (refine (Hhx.out _ Hbw.out).mono ?_; rintro e2 w2 ⟨rfl, hb2⟩)))
        have Hbw2 := Lib.hid (below_call Hbw.out hb2)
        clear hb2
        go_wp2_with fail
        go_loopw [11, 12, 13] (fun o pt i wr => ∃ (j : Nat) (put : Bool), j ≤ n ∧ pt = .bool put ∧ i = .int .i64 (j : Int) ∧ (put = true → ps < j) ∧ (put = false → j ≤ ps) ∧ Hid (OwnV wr wb.heap.size o (outV AL ps j put X)) ∧ Hid (Below wb.heap.size wb wr)) (fun _ _ i _ => n - (intOf i).toNat)
        case atStart => exact ⟨0, false, by omega, rfl, rfl, (fun h => by cases h), (fun _ => by omega), Lib.hid (by unfold outV; rw [if_neg (by simp), List.take_zero]; exact OwnV.nil _ _), Hbw2⟩
        case round =>
          obtain ⟨j, put, hj, rfl, rfl, hp1, hp2, Hown, Hbw3⟩ := hrel
          obtain ⟨wc, rfl⟩ : ∃ x, x = wr := ⟨wr, rfl⟩
          have hAll : ∀ y ∈ AL, VerOk y := by rw [HAL.out]; exact addedV_ok Hvok.out bs X.rep HX.out.seq
          have HAll := Lib.hid hAll
          clear hAll
          by_cases hjn : j < n
          · have hjl : j < L.length := by rw [← Hn.out]; exact hjn
            have hja : j < AL.length := by rw [HALl.out]; exact hjn
            obtain ⟨b, off, rfl, _, _, hel⟩ := Hel.out (by intro e; subst e; simp at hjl)
            have hr0 := (hel j hjl).1
            have hxok := (hel j hjl).2
            have hxc := verCells (range_ext hr0 Hbw3.out)
            clear hel
            have hpos := pos_less (r := X.rep) (s := X.seq) hjl
            have hns : sameI L[j].rep L[j].seq X.rep X.seq = false := by
              have := Hq.out.symm
              unfold thereV at this
              rw [List.any_eq_false] at this
              have := this L[j] (List.getElem_mem hjl)
              simpa using this
            rw [lessV_same] at hns
            have hgetA : AL[j] = { L[j] with by_ := byV bs L[j] X.rep X.seq } := by
              have e : ∀ (A : List Ver) (h : A = addedV L bs X.rep X.seq) (h' : j < A.length), A[j] = { L[j] with by_ := byV bs L[j] X.rep X.seq } := fun A h h' => by
                subst h
                exact addedV_get L bs X.rep X.seq j h' hjl
              exact e AL HAL.out hja
            have htkA : AL.take (j + 1) = AL.take j ++ [AL[j]] := by rw [List.take_succ_eq_append_getElem hja]
            have hls := fun z => refless_any X.rep X.seq L[j].rep L[j].seq z
            obtain ⟨x, hxe⟩ : ∃ x, x = L[j] := ⟨_, rfl⟩
            rw [← hxe] at hxok hxc hpos hns hgetA hls hr0
            obtain ⟨lq, hlq⟩ : ∃ q, q = lessV X.rep X.seq x.rep x.seq := ⟨_, rfl⟩
            rw [← hlq] at hls hns
            obtain ⟨Y, hY⟩ : ∃ Y, Y = AL[j] := ⟨_, rfl⟩
            have HYok := Lib.hid (show VerOk Y by rw [hY]; exact HAll.out _ (List.getElem_mem hja))
            rw [← hY] at hgetA htkA
            have HY := Lib.hid hgetA
            have HtkA := Lib.hid htkA
            have hlenA : (AL.take j).length = j := by rw [List.length_take, HALl.out]; omega
            have HlenA := Lib.hid hlenA
            have hll : (outV AL ps j put X).length ≤ 1000 := by
              unfold outV
              split
              · rw [insV_length, hlenA]; omega
              · rw [hlenA]; omega
            -- the three ways
            have hway : (put = true ∧ ps < j ∧ lq = lq) ∨ (put = false ∧ j < ps ∧ lq = false) ∨ (put = false ∧ j = ps ∧ lq = true) := by
              cases put with
              | true => exact .inl ⟨rfl, hp1 rfl, rfl⟩
              | false =>
                have := hp2 rfl
                rcases Nat.lt_or_ge j ps with h | h
                · refine .inr (.inl ⟨rfl, h, ?_⟩)
                  have h1 := hpos.1 (by rw [← Hps.out]; exact h)
                  rw [hlq]
                  exact lessV_asymm h1
                · have e : j = ps := by omega
                  refine .inr (.inr ⟨rfl, e, ?_⟩)
                  have h1 := hpos.2 (by rw [← Hps.out]; exact e)
                  rw [h1] at hns
                  simpa using hns
            have HM1 := Lib.hid (show put = true → ps < j → outV AL ps (j + 1) true X = outV AL ps j put X ++ [Y] from fun h h' => by
              subst h
              unfold outV
              rw [if_pos rfl, if_pos rfl, HtkA.out, insV_snoc (by rw [HlenA.out]; omega)])
            have HM2 := Lib.hid (show put = false → outV AL ps (j + 1) false X = outV AL ps j put X ++ [Y] from fun h => by
              subst h
              unfold outV
              rw [if_neg (by simp), if_neg (by simp), HtkA.out])
            have HM3 := Lib.hid (show put = false → j = ps → outV AL ps (j + 1) true X = (outV AL ps j put X ++ [X]) ++ [Y] from fun h h' => by
              subst h
              unfold outV
              rw [if_pos rfl, if_neg (by simp), HtkA.out, ← insV_snoc (by rw [HlenA.out]; omega)]
              congr 1
              have := insV_end (AL.take j) X
              rw [HlenA.out] at this
              rw [← h', this])
            obtain ⟨M0, hM0⟩ : ∃ M, M = outV AL ps j put X := ⟨_, rfl⟩
            rw [← hM0] at Hown HM1 HM2 HM3 hll
            obtain ⟨IY, hIY⟩ : ∃ I, I = idC x.rep x.seq := ⟨_, rfl⟩
            have HinfY := Lib.hid (show (Try.prog.info? 35).map (·.size) = some IY.toList.length by rw [hIY]; exact id_info)
            have hri := hxc.id
            rw [idv_idC, idv_idC, ← HIX.out] at hls
            rw [← hIY] at hri hls
            have Hls := Lib.hid hls
            have RI := Lib.hid (range_exts hri)
            have RX := Lib.hid (range_exts (HRI.out wc Hbw3.out))
            obtain ⟨CX, hCX⟩ : ∃ C, C = verC x := ⟨_, rfl⟩
            have HCX := Lib.hid hCX
            rw [← hCX] at hr0
            have HRA := Lib.hid (show ∀ z, Below wb.heap.size wb z → z.rangeAt b (off + j * 11) CX.toList from fun z hz => range_ext hr0 hz)
            have HinfX := Lib.hid (show (Try.prog.info? 39).map (·.size) = some CX.toList.length by rw [hCX]; exact ver_info)
            have HinfX2 := Lib.hid (show (Try.prog.info? 39).map (·.size) = some CX.size by rw [hCX]; exact ver_info)
            have HoneX := Lib.hid (show CX.all (·.oneCell') = true by rw [hCX]; exact verC_one x)
            have HszX := Lib.hid (show CX.size = 11 by rw [hCX]; rfl)
            have Hxok := Lib.hid hxok
            have HBX := Lib.hid (show ∀ z, Below wb.heap.size wb z → Blk z w.heap.size 39 C from fun z hz => by rw [HC.out]; exact Hbox.out.grow hz)
            have hws3 := Hbw3.out.size
            clear hxok hxc hpos hns hgetA htkA hxe hY hlenA hls hri hIY hr0 hCX hM0 hlq hp1 hp2
            -- at region 17, with what has been put in
            rcases hway with ⟨rfl, hw2, _⟩ | ⟨rfl, hw2, rfl⟩ | ⟨rfl, hw2, rfl⟩
            · have hn9 : n ≤ 1000 := by have h9 := Hn.out; omega
              (try clear HR); (try clear HLb); (try clear Hs); (try clear Hvok); (try clear Hps); (try clear Hel); (try clear HallB); (try clear Hall); (try clear Hda); (try clear Hha); (try clear Hq); (try clear HAll); (try clear HAL); (try clear HALl); (try clear HR2); (try clear Hbw2); (try clear Hbw); (try clear HtkA); (try clear HlenA); (try clear hja); (try clear hjl); (try clear hpn); (try clear hlt); (try clear hk); (try clear hl); (try clear hc1); (try clear hns); (try clear HW); (try clear Hls); (try clear RI); (try clear RX); (try clear HinfY); (try clear HM2); (try clear HM3); (try clear HBX); (try clear Hfold); (try clear Hinf); (try clear HC); (try clear hsz)
              go_upto_region 14 with fail
              refine wp_region_grow (by kernel_rfl) (by kernel_rfl) ?_
              repeat (first | (go_big_quiet_want; refine quiet_mid 35 (.tmp 71) rfl w.heap.size 0 rfl _ _ RX.out Try.underlying35 rfl HinfI.out ?_; go_simp; go_big_quiet_on) | (go_big_quiet_want; refine quiet_mid 35 (.tmp 76) rfl b (off + j * 11) rfl _ _ RI.out Try.underlying35 rfl HinfY.out ?_; go_simp; go_big_quiet_on) | go_big_quiet_step ((go_at_call 37; exact calls_grow (Hls.out _))) | quiet_step ((go_at_call 37; exact calls_grow (Hls.out _))))
              refine wpQuiet_nil ?_
              rintro w6 ⟨y6, rfl⟩
              have hb6 := y6.out
              obtain ⟨w7, hw7⟩ : ∃ w7, w7 = y6.now := ⟨_, rfl⟩
              rw [← hw7] at hb6 ⊢
              clear hw7
              go_upto_region 17 with fail
              obtain ⟨w8, hw8⟩ : ∃ z, z = w7 := ⟨_, rfl⟩
              rw [← hw8] at hb6 ⊢
              clear hw8
              have Hown8 := Lib.hid (Hown.out.grow hb6)
              have Hb8 := Lib.hid (Hbw3.out.trans (hb6.mono Hbw3.out.size))
              clear hb6
              obtain ⟨w9, hw9⟩ : ∃ z, z = w8.alloc (.cells CX 39) := ⟨_, rfl⟩
              have RA8 := Lib.hid (HRA.out w8 Hb8.out)
              have Hx9 := Lib.hid (show Blk w9 w8.heap.size 39 (verC { x with by_ := byV (bs.take 0) x X.rep X.seq }) by rw [hw9, List.take_zero]; have := Blk.new w8 39 CX; rw [HCX.out] at this ⊢; exact this)
              have Hown9 := Lib.hid (show OwnV w9 wb.heap.size u11 M0 by rw [hw9]; exact ⟨OwnK.alloc Hown8.out.1 _, Hown8.out.2⟩)
              have Hb9 := Lib.hid (show Below wb.heap.size wb w9 by rw [hw9]; exact Hb8.out.alloc Hb8.out.size _)
              have Hne := Lib.hid (show ∀ g, (u11).ownBlock = some g → g ≠ w8.heap.size from fun g hg => by have := (Hown8.out.lt g hg).2; omega)
              have hxb : wb.heap.size ≤ w8.heap.size := Hb8.out.size
              have HW9 := Lib.hid hw9
              clear hw9
              go_upto_region 18 with (first | (refine wpList_load_mid (op := ⟨some 87, _, _, _, _, _⟩) rfl 39 (.tmp 86) rfl b (off + j * 11) rfl _ _ RA8.out Try.underlying39 rfl HinfX.out ?_) | (refine wpList_store_new (op := ⟨none, _, _, _, _, _⟩) rfl 39 (.tmp 14) (.tmp 87) rfl zeroC CX rfl rfl HinfX2.out (by rw [HszX.out]; rfl) HoneX.out ?_))
              rw [← HW9.out]
              obtain ⟨xb, hxbe⟩ : ∃ q, q = w8.heap.size := ⟨_, rfl⟩
              rw [← hxbe] at Hx9 Hne hxb ⊢
              clear hxbe HW9 RA8
              (try clear Hls); (try clear RI); (try clear RX); (try clear HinfY); (try clear HRA); (try clear HinfX); (try clear HinfX2); (try clear HoneX); (try clear HszX); (try clear HBX); (try clear hws3); (try clear Hb8); (try clear Hown8); (try clear Hown); (try clear Hbw3); (try clear hws7); (try clear Hown7); (try clear Hb7); (try clear Hbx7); (try clear HCX)
              go_wp2_with fail
              go_loopw [15] (fun i wr => ∃ t : Nat, t ≤ k ∧ i = .int .i64 (t : Int) ∧ Hid (Blk wr xb 39 (verC { x with by_ := byV (bs.take t) x X.rep X.seq })) ∧ Hid (OwnV wr wb.heap.size u11 M0) ∧ Hid (Below wb.heap.size wb wr)) (fun i _ => k - (intOf i).toNat)
              case atStart => exact ⟨0, by omega, rfl, Hx9, Hown9, Hb9⟩
              case round =>
                obtain ⟨t, ht, rfl, Hxt, Hot, Hbt⟩ := hrel
                by_cases htk : t < k
                · have htl : t < bs.length := by rw [← Hm.out]; exact htk
                  obtain ⟨bb, boff, rfl, _, hbb, hbe⟩ := HBe.out (by intro e; subst e; simp at htl)
                  have hrid := range_ext (hbe t htl).1 Hbt.out
                  have htk2 : bs.take (t + 1) = bs.take t ++ [bs[t]] := by rw [List.take_succ_eq_append_getElem htl]
                  have heq := fun z => ideq_run bs[t].1 bs[t].2 x.rep x.seq z
                  obtain ⟨p, hp⟩ : ∃ p, p = bs[t] := ⟨_, rfl⟩
                  rw [← hp] at hrid htk2 heq
                  have hstep := byV_snoc (bs.take t) p x X.rep X.seq
                  rw [← htk2] at hstep
                  obtain ⟨e3, he3⟩ : ∃ q, q = sameI p.1 p.2 x.rep x.seq := ⟨_, rfl⟩
                  rw [← he3] at heq hstep
                  have hxid := Hxt.out.ver.id
                  have hxby := Hxt.out.ver.by_
                  obtain ⟨IP, hIP⟩ : ∃ I, I = idC p.1 p.2 := ⟨_, rfl⟩
                  have HinfP := Lib.hid (show (Try.prog.info? 35).map (·.size) = some IP.toList.length by rw [hIP]; exact id_info)
                  obtain ⟨IZ, hIZ⟩ : ∃ I, I = idC x.rep x.seq := ⟨_, rfl⟩
                  have HinfZ := Lib.hid (show (Try.prog.info? 35).map (·.size) = some IZ.toList.length by rw [hIZ]; exact id_info)
                  obtain ⟨VB, hVB⟩ : ∃ V, V = byV (bs.take t) x X.rep X.seq := ⟨_, rfl⟩

                  rw [← hIP] at hrid heq
                  dsimp only at hxid hxby
                  rw [← hIZ] at heq hxid
                  rw [← hVB] at hstep hxby Hxt
                  have hwith := fun z => refwith_any VB X.rep X.seq z
                  obtain ⟨AV, hAV⟩ : ∃ A, A = av VB := ⟨_, rfl⟩
                  obtain ⟨AW, hAW⟩ : ∃ A, A = av (withV VB X.rep X.seq) := ⟨_, rfl⟩
                  unfold vv at hwith
                  rw [← hAV, ← hAW, idv_idC, ← HIX.out] at hwith
                  rw [← hAV] at hxby
                  have Hwith := Lib.hid hwith
                  have HinfV := Lib.hid (show (Try.prog.info? 37).map (·.size) = some AV.toList.length by rw [hAV]; exact vec_info)
                  have HinfW := Lib.hid (show (Try.prog.info? 37).map (·.size) = some AW.size by rw [hAW]; exact vec_info)
                  have HAW1 := Lib.hid (show AW.all (·.oneCell') = true by rw [hAW]; exact av_one _)
                  have HAWs := Lib.hid (show AW.size = 8 by rw [hAW]; rfl)
                  have RP := Lib.hid (range_exts hrid)
                  have RZ := Lib.hid (range_exts hxid)
                  have HBY := Lib.hid hxby
                  have Hst := Lib.hid (show ∀ z : World, Blk z xb 39 (verC { x with by_ := VB }) → Blk (z.setCells xb 3 AW.toList) xb 39 (verC { x with by_ := withV VB X.rep X.seq }) from fun z hz => by
                    have := Blk.setCells AW.toList 3 z (verC { x with by_ := VB }).toList hz (by rw [hAW]; show 3 + 8 ≤ 11; omega)
                    rw [hAW] at this ⊢
                    exact this)
                  have Hstep := Lib.hid hstep
                  clear hbe hbb hrid htk2 hp he3 hxid hxby hIP hIZ hVB hwith hAV hAW hstep
                  cases e3
                  all_goals go_wp2_with fail
                  all_goals refine wp_region_grow (by kernel_rfl) (by kernel_rfl) ?_
                  all_goals repeat (first | (go_big_quiet_want; refine quiet_mid 35 (.tmp 96) rfl bb (boff + t * 2) rfl _ _ RP.out Try.underlying35 rfl HinfP.out ?_; go_simp; go_big_quiet_on) | (go_big_quiet_want; refine quiet_mid 35 (.tmp 98) rfl xb 0 rfl _ _ RZ.out Try.underlying35 rfl HinfZ.out ?_; go_simp; go_big_quiet_on) | go_big_quiet_step (fail) | quiet_step (fail))
                  all_goals refine wpQuiet_nil ?_
                  all_goals rintro w6 ⟨y6, rfl⟩
                  all_goals have hb6 := y6.out
                  all_goals obtain ⟨w7, hw7⟩ : ∃ w7, w7 = y6.now := ⟨_, rfl⟩
                  all_goals rw [← hw7] at hb6 ⊢
                  all_goals clear hw7
                  · go_wp2_with fail
                    go_roundw
                    case rel => exact ⟨t + 1, by omega, by go_num, Lib.hid (by rw [Hstep.out, if_neg (by simp)]; exact Hxt.out.grow hb6), Lib.hid (Hot.out.grow hb6), Lib.hid (Hbt.out.trans (hb6.mono Hbt.out.size))⟩
                    case measure => simp [intOf]; omega
                  · have Hx7 := Lib.hid (Hxt.out.grow hb6)
                    have Ho7 := Lib.hid (Hot.out.grow hb6)
                    have Hb7 := Lib.hid (Hbt.out.trans (hb6.mono Hbt.out.size))
                    have RV7 := Lib.hid (range_ext HBY.out hb6)
                    have RX7 := Lib.hid (HRI.out w7 Hb7.out)
                    clear hb6
                    go_wp2_with (first | (refine wpList_load_mid (op := ⟨some 102, _, _, _, _, _⟩) rfl 37 (.tmp 101) rfl xb (0 + 3) rfl _ _ RV7.out Try.underlying37 rfl HinfV.out ?_) | (refine wpList_load_mid (op := ⟨some 104, _, _, _, _, _⟩) rfl 35 (.tmp 103) rfl w.heap.size 0 rfl _ _ RX7.out Try.underlying35 rfl HinfI.out ?_) | (go_at_call 38; go_must (refine (Hwith.out _).mono ?_; rintro e8 w10 ⟨rfl, hb8⟩; have Hx10 := Lib.hid (Hx7.out.grow hb8); have Ho10 := Lib.hid (Ho7.out.grow hb8); have Hb10 := Lib.hid (below_call Hb7.out hb8); clear hb8)) | (refine wpList_store_mid (op := ⟨none, _, _, _, _, _⟩) rfl 37 (.tmp 106) (.tmp 105) rfl xb 3 AW rfl rfl (by rw [HAWs.out]; exact Blk.there (cs := (verC { x with by_ := VB }).toList) Hx10.out 3 8 (by show 3 + 8 ≤ 11; omega)) HinfW.out HAW1.out ?_))
                    go_roundw
                    case rel => exact ⟨t + 1, by omega, by go_num, Lib.hid (by rw [Hstep.out, if_pos trivial]; exact Hst.out _ Hx10.out), Lib.hid ⟨OwnK.keep Ho10.out.1 (fun g hg => heap_setCells xb _ _ _ g (Hne.out g hg)), Ho10.out.2⟩, Lib.hid (below_setCells Hb10.out hxb Hb10.out.size _ _)⟩
                    case measure => simp [intOf]; omega
                · obtain ⟨wd, rfl⟩ : ∃ z, z = wr := ⟨wr, rfl⟩
                  have HxY := Lib.hid (show Blk wd xb 39 (verC Y) by
                    have := Hxt.out
                    rw [List.take_of_length_le (by rw [← Hm.out]; omega)] at this
                    rw [HY.out]; exact this)
                  obtain ⟨CY, hCY⟩ : ∃ C, C = verC Y := ⟨_, rfl⟩
                  have hszY : CY.size = 11 := by rw [hCY]; rfl
                  have HinfYY := Lib.hid (show (Try.prog.info? 39).map (·.size) = some CY.size by rw [hCY]; exact ver_info)
                  have hfoldY := fold_ver Y
                  rw [← hCY] at hfoldY HxY
                  have HfoldY := Lib.hid hfoldY
                  have HCY := Lib.hid hCY
                  have hwsd := Hbt.out.size
                  have hllm : (M0).length ≤ 100000 := by first | (simp only [List.length_append, List.length_singleton]; omega) | omega
                  clear hCY hfoldY
                  go_wp2_with (first | (refine wpList_load_row (o := ⟨some 108, _, _, _, _, _⟩) rfl 39 (.tmp 14) rfl xb rfl 39 CY (0, 0) _ HxY.out Try.underlying39 rfl HinfYY.out ?_) | (at_builtin; go_must (rw [HfoldY.out]; refine wpList_app_ver wd rfl (.tmp 107) (.tmp 109) rfl wb.heap.size u11 (M0) rfl Hot.out CY Y HCY.out HYok.out 39 rfl hllm hwsd ?_; intro v9 w11 hown11 hg11 hat11; have Hown11 := Lib.hid hown11; have Hg11 := Lib.hid hg11; clear hown11 hg11 hat11)))
                  go_roundw
                  case rel => exact ⟨j + 1, true, by omega, rfl, by go_num, (fun _ => by omega), (fun h => by cases h), Lib.hid (by rw [HM1.out (by trivial) hw2]; exact Hown11.out), Lib.hid (Hbt.out.trans (Hot.out.1.below_of Hg11.out hwsd (Nat.le_refl _)))⟩
                  case measure => simp [intOf]; omega
            · have hn9 : n ≤ 1000 := by have h9 := Hn.out; omega
              (try clear HR); (try clear HLb); (try clear Hs); (try clear Hvok); (try clear Hps); (try clear Hel); (try clear HallB); (try clear Hall); (try clear Hda); (try clear Hha); (try clear Hq); (try clear HAll); (try clear HAL); (try clear HALl); (try clear HR2); (try clear Hbw2); (try clear Hbw); (try clear HtkA); (try clear HlenA); (try clear hja); (try clear hjl); (try clear hpn); (try clear hlt); (try clear hk); (try clear hl); (try clear hc1); (try clear hns); (try clear HW); (try clear HM1); (try clear HM3); (try clear HBX); (try clear Hfold); (try clear Hinf); (try clear HC); (try clear hsz)
              go_upto_region 14 with fail
              refine wp_region_grow (by kernel_rfl) (by kernel_rfl) ?_
              repeat (first | (go_big_quiet_want; refine quiet_mid 35 (.tmp 71) rfl w.heap.size 0 rfl _ _ RX.out Try.underlying35 rfl HinfI.out ?_; go_simp; go_big_quiet_on) | (go_big_quiet_want; refine quiet_mid 35 (.tmp 76) rfl b (off + j * 11) rfl _ _ RI.out Try.underlying35 rfl HinfY.out ?_; go_simp; go_big_quiet_on) | go_big_quiet_step ((go_at_call 37; exact calls_grow (Hls.out _))) | quiet_step ((go_at_call 37; exact calls_grow (Hls.out _))))
              refine wpQuiet_nil ?_
              rintro w6 ⟨y6, rfl⟩
              have hb6 := y6.out
              obtain ⟨w7, hw7⟩ : ∃ w7, w7 = y6.now := ⟨_, rfl⟩
              rw [← hw7] at hb6 ⊢
              clear hw7
              go_upto_region 17 with fail
              obtain ⟨w8, hw8⟩ : ∃ z, z = w7 := ⟨_, rfl⟩
              rw [← hw8] at hb6 ⊢
              clear hw8
              have Hown8 := Lib.hid (Hown.out.grow hb6)
              have Hb8 := Lib.hid (Hbw3.out.trans (hb6.mono Hbw3.out.size))
              clear hb6
              obtain ⟨w9, hw9⟩ : ∃ z, z = w8.alloc (.cells CX 39) := ⟨_, rfl⟩
              have RA8 := Lib.hid (HRA.out w8 Hb8.out)
              have Hx9 := Lib.hid (show Blk w9 w8.heap.size 39 (verC { x with by_ := byV (bs.take 0) x X.rep X.seq }) by rw [hw9, List.take_zero]; have := Blk.new w8 39 CX; rw [HCX.out] at this ⊢; exact this)
              have Hown9 := Lib.hid (show OwnV w9 wb.heap.size u11 M0 by rw [hw9]; exact ⟨OwnK.alloc Hown8.out.1 _, Hown8.out.2⟩)
              have Hb9 := Lib.hid (show Below wb.heap.size wb w9 by rw [hw9]; exact Hb8.out.alloc Hb8.out.size _)
              have Hne := Lib.hid (show ∀ g, (u11).ownBlock = some g → g ≠ w8.heap.size from fun g hg => by have := (Hown8.out.lt g hg).2; omega)
              have hxb : wb.heap.size ≤ w8.heap.size := Hb8.out.size
              have HW9 := Lib.hid hw9
              clear hw9
              go_upto_region 18 with (first | (refine wpList_load_mid (op := ⟨some 87, _, _, _, _, _⟩) rfl 39 (.tmp 86) rfl b (off + j * 11) rfl _ _ RA8.out Try.underlying39 rfl HinfX.out ?_) | (refine wpList_store_new (op := ⟨none, _, _, _, _, _⟩) rfl 39 (.tmp 14) (.tmp 87) rfl zeroC CX rfl rfl HinfX2.out (by rw [HszX.out]; rfl) HoneX.out ?_))
              rw [← HW9.out]
              obtain ⟨xb, hxbe⟩ : ∃ q, q = w8.heap.size := ⟨_, rfl⟩
              rw [← hxbe] at Hx9 Hne hxb ⊢
              clear hxbe HW9 RA8
              (try clear Hls); (try clear RI); (try clear RX); (try clear HinfY); (try clear HRA); (try clear HinfX); (try clear HinfX2); (try clear HoneX); (try clear HszX); (try clear HBX); (try clear hws3); (try clear Hb8); (try clear Hown8); (try clear Hown); (try clear Hbw3); (try clear hws7); (try clear Hown7); (try clear Hb7); (try clear Hbx7); (try clear HCX)
              go_wp2_with fail
              go_loopw [15] (fun i wr => ∃ t : Nat, t ≤ k ∧ i = .int .i64 (t : Int) ∧ Hid (Blk wr xb 39 (verC { x with by_ := byV (bs.take t) x X.rep X.seq })) ∧ Hid (OwnV wr wb.heap.size u11 M0) ∧ Hid (Below wb.heap.size wb wr)) (fun i _ => k - (intOf i).toNat)
              case atStart => exact ⟨0, by omega, rfl, Hx9, Hown9, Hb9⟩
              case round =>
                obtain ⟨t, ht, rfl, Hxt, Hot, Hbt⟩ := hrel
                by_cases htk : t < k
                · have htl : t < bs.length := by rw [← Hm.out]; exact htk
                  obtain ⟨bb, boff, rfl, _, hbb, hbe⟩ := HBe.out (by intro e; subst e; simp at htl)
                  have hrid := range_ext (hbe t htl).1 Hbt.out
                  have htk2 : bs.take (t + 1) = bs.take t ++ [bs[t]] := by rw [List.take_succ_eq_append_getElem htl]
                  have heq := fun z => ideq_run bs[t].1 bs[t].2 x.rep x.seq z
                  obtain ⟨p, hp⟩ : ∃ p, p = bs[t] := ⟨_, rfl⟩
                  rw [← hp] at hrid htk2 heq
                  have hstep := byV_snoc (bs.take t) p x X.rep X.seq
                  rw [← htk2] at hstep
                  obtain ⟨e3, he3⟩ : ∃ q, q = sameI p.1 p.2 x.rep x.seq := ⟨_, rfl⟩
                  rw [← he3] at heq hstep
                  have hxid := Hxt.out.ver.id
                  have hxby := Hxt.out.ver.by_
                  obtain ⟨IP, hIP⟩ : ∃ I, I = idC p.1 p.2 := ⟨_, rfl⟩
                  have HinfP := Lib.hid (show (Try.prog.info? 35).map (·.size) = some IP.toList.length by rw [hIP]; exact id_info)
                  obtain ⟨IZ, hIZ⟩ : ∃ I, I = idC x.rep x.seq := ⟨_, rfl⟩
                  have HinfZ := Lib.hid (show (Try.prog.info? 35).map (·.size) = some IZ.toList.length by rw [hIZ]; exact id_info)
                  obtain ⟨VB, hVB⟩ : ∃ V, V = byV (bs.take t) x X.rep X.seq := ⟨_, rfl⟩

                  rw [← hIP] at hrid heq
                  dsimp only at hxid hxby
                  rw [← hIZ] at heq hxid
                  rw [← hVB] at hstep hxby Hxt
                  have hwith := fun z => refwith_any VB X.rep X.seq z
                  obtain ⟨AV, hAV⟩ : ∃ A, A = av VB := ⟨_, rfl⟩
                  obtain ⟨AW, hAW⟩ : ∃ A, A = av (withV VB X.rep X.seq) := ⟨_, rfl⟩
                  unfold vv at hwith
                  rw [← hAV, ← hAW, idv_idC, ← HIX.out] at hwith
                  rw [← hAV] at hxby
                  have Hwith := Lib.hid hwith
                  have HinfV := Lib.hid (show (Try.prog.info? 37).map (·.size) = some AV.toList.length by rw [hAV]; exact vec_info)
                  have HinfW := Lib.hid (show (Try.prog.info? 37).map (·.size) = some AW.size by rw [hAW]; exact vec_info)
                  have HAW1 := Lib.hid (show AW.all (·.oneCell') = true by rw [hAW]; exact av_one _)
                  have HAWs := Lib.hid (show AW.size = 8 by rw [hAW]; rfl)
                  have RP := Lib.hid (range_exts hrid)
                  have RZ := Lib.hid (range_exts hxid)
                  have HBY := Lib.hid hxby
                  have Hst := Lib.hid (show ∀ z : World, Blk z xb 39 (verC { x with by_ := VB }) → Blk (z.setCells xb 3 AW.toList) xb 39 (verC { x with by_ := withV VB X.rep X.seq }) from fun z hz => by
                    have := Blk.setCells AW.toList 3 z (verC { x with by_ := VB }).toList hz (by rw [hAW]; show 3 + 8 ≤ 11; omega)
                    rw [hAW] at this ⊢
                    exact this)
                  have Hstep := Lib.hid hstep
                  clear hbe hbb hrid htk2 hp he3 hxid hxby hIP hIZ hVB hwith hAV hAW hstep
                  cases e3
                  all_goals go_wp2_with fail
                  all_goals refine wp_region_grow (by kernel_rfl) (by kernel_rfl) ?_
                  all_goals repeat (first | (go_big_quiet_want; refine quiet_mid 35 (.tmp 96) rfl bb (boff + t * 2) rfl _ _ RP.out Try.underlying35 rfl HinfP.out ?_; go_simp; go_big_quiet_on) | (go_big_quiet_want; refine quiet_mid 35 (.tmp 98) rfl xb 0 rfl _ _ RZ.out Try.underlying35 rfl HinfZ.out ?_; go_simp; go_big_quiet_on) | go_big_quiet_step (fail) | quiet_step (fail))
                  all_goals refine wpQuiet_nil ?_
                  all_goals rintro w6 ⟨y6, rfl⟩
                  all_goals have hb6 := y6.out
                  all_goals obtain ⟨w7, hw7⟩ : ∃ w7, w7 = y6.now := ⟨_, rfl⟩
                  all_goals rw [← hw7] at hb6 ⊢
                  all_goals clear hw7
                  · go_wp2_with fail
                    go_roundw
                    case rel => exact ⟨t + 1, by omega, by go_num, Lib.hid (by rw [Hstep.out, if_neg (by simp)]; exact Hxt.out.grow hb6), Lib.hid (Hot.out.grow hb6), Lib.hid (Hbt.out.trans (hb6.mono Hbt.out.size))⟩
                    case measure => simp [intOf]; omega
                  · have Hx7 := Lib.hid (Hxt.out.grow hb6)
                    have Ho7 := Lib.hid (Hot.out.grow hb6)
                    have Hb7 := Lib.hid (Hbt.out.trans (hb6.mono Hbt.out.size))
                    have RV7 := Lib.hid (range_ext HBY.out hb6)
                    have RX7 := Lib.hid (HRI.out w7 Hb7.out)
                    clear hb6
                    go_wp2_with (first | (refine wpList_load_mid (op := ⟨some 102, _, _, _, _, _⟩) rfl 37 (.tmp 101) rfl xb (0 + 3) rfl _ _ RV7.out Try.underlying37 rfl HinfV.out ?_) | (refine wpList_load_mid (op := ⟨some 104, _, _, _, _, _⟩) rfl 35 (.tmp 103) rfl w.heap.size 0 rfl _ _ RX7.out Try.underlying35 rfl HinfI.out ?_) | (go_at_call 38; go_must (refine (Hwith.out _).mono ?_; rintro e8 w10 ⟨rfl, hb8⟩; have Hx10 := Lib.hid (Hx7.out.grow hb8); have Ho10 := Lib.hid (Ho7.out.grow hb8); have Hb10 := Lib.hid (below_call Hb7.out hb8); clear hb8)) | (refine wpList_store_mid (op := ⟨none, _, _, _, _, _⟩) rfl 37 (.tmp 106) (.tmp 105) rfl xb 3 AW rfl rfl (by rw [HAWs.out]; exact Blk.there (cs := (verC { x with by_ := VB }).toList) Hx10.out 3 8 (by show 3 + 8 ≤ 11; omega)) HinfW.out HAW1.out ?_))
                    go_roundw
                    case rel => exact ⟨t + 1, by omega, by go_num, Lib.hid (by rw [Hstep.out, if_pos trivial]; exact Hst.out _ Hx10.out), Lib.hid ⟨OwnK.keep Ho10.out.1 (fun g hg => heap_setCells xb _ _ _ g (Hne.out g hg)), Ho10.out.2⟩, Lib.hid (below_setCells Hb10.out hxb Hb10.out.size _ _)⟩
                    case measure => simp [intOf]; omega
                · obtain ⟨wd, rfl⟩ : ∃ z, z = wr := ⟨wr, rfl⟩
                  have HxY := Lib.hid (show Blk wd xb 39 (verC Y) by
                    have := Hxt.out
                    rw [List.take_of_length_le (by rw [← Hm.out]; omega)] at this
                    rw [HY.out]; exact this)
                  obtain ⟨CY, hCY⟩ : ∃ C, C = verC Y := ⟨_, rfl⟩
                  have hszY : CY.size = 11 := by rw [hCY]; rfl
                  have HinfYY := Lib.hid (show (Try.prog.info? 39).map (·.size) = some CY.size by rw [hCY]; exact ver_info)
                  have hfoldY := fold_ver Y
                  rw [← hCY] at hfoldY HxY
                  have HfoldY := Lib.hid hfoldY
                  have HCY := Lib.hid hCY
                  have hwsd := Hbt.out.size
                  have hllm : (M0).length ≤ 100000 := by first | (simp only [List.length_append, List.length_singleton]; omega) | omega
                  clear hCY hfoldY
                  go_wp2_with (first | (refine wpList_load_row (o := ⟨some 108, _, _, _, _, _⟩) rfl 39 (.tmp 14) rfl xb rfl 39 CY (0, 0) _ HxY.out Try.underlying39 rfl HinfYY.out ?_) | (at_builtin; go_must (rw [HfoldY.out]; refine wpList_app_ver wd rfl (.tmp 107) (.tmp 109) rfl wb.heap.size u11 (M0) rfl Hot.out CY Y HCY.out HYok.out 39 rfl hllm hwsd ?_; intro v9 w11 hown11 hg11 hat11; have Hown11 := Lib.hid hown11; have Hg11 := Lib.hid hg11; clear hown11 hg11 hat11)))
                  go_roundw
                  case rel => exact ⟨j + 1, false, by omega, rfl, by go_num, (fun h => by cases h), (fun _ => by omega), Lib.hid (by rw [HM2.out (by trivial)]; exact Hown11.out), Lib.hid (Hbt.out.trans (Hot.out.1.below_of Hg11.out hwsd (Nat.le_refl _)))⟩
                  case measure => simp [intOf]; omega
            · have hn9 : n ≤ 1000 := by have h9 := Hn.out; omega
              have Hw2 := Lib.hid hw2
              have hw3 : ps < j + 1 := by omega
              clear hw2
              (try clear HR); (try clear HLb); (try clear Hs); (try clear Hvok); (try clear Hps); (try clear Hel); (try clear HallB); (try clear Hall); (try clear Hda); (try clear Hha); (try clear Hq); (try clear HAll); (try clear HAL); (try clear HALl); (try clear HR2); (try clear Hbw2); (try clear Hbw); (try clear HtkA); (try clear HlenA); (try clear hja); (try clear hjl); (try clear hpn); (try clear hlt); (try clear hk); (try clear hl); (try clear hc1); (try clear hns); (try clear HW); (try clear HM1); (try clear HM2)
              go_upto_region 14 with fail
              refine wp_region_grow (by kernel_rfl) (by kernel_rfl) ?_
              repeat (first | (go_big_quiet_want; refine quiet_mid 35 (.tmp 71) rfl w.heap.size 0 rfl _ _ RX.out Try.underlying35 rfl HinfI.out ?_; go_simp; go_big_quiet_on) | (go_big_quiet_want; refine quiet_mid 35 (.tmp 76) rfl b (off + j * 11) rfl _ _ RI.out Try.underlying35 rfl HinfY.out ?_; go_simp; go_big_quiet_on) | go_big_quiet_step ((go_at_call 37; exact calls_grow (Hls.out _))) | quiet_step ((go_at_call 37; exact calls_grow (Hls.out _))))
              refine wpQuiet_nil ?_
              rintro w6 ⟨y6, rfl⟩
              have hb6 := y6.out
              obtain ⟨w7, hw7⟩ : ∃ w7, w7 = y6.now := ⟨_, rfl⟩
              rw [← hw7] at hb6 ⊢
              clear hw7
              have Hown7 := Lib.hid (Hown.out.grow hb6)
              have Hb7 := Lib.hid (Hbw3.out.trans (hb6.mono Hbw3.out.size))
              have Hbx7 := Lib.hid (HBX.out w7 Hb7.out)
              have hws7 := Hb7.out.size
              clear hb6
              go_upto_region 17 with (first | (refine wpList_load_row (o := ⟨some 81, _, _, _, _, _⟩) rfl 39 (.tmp 5) rfl w.heap.size rfl 39 C (0, 0) _ Hbx7.out Try.underlying39 rfl Hinf.out ?_) | (at_builtin; go_must (rw [Hfold.out]; refine wpList_app_ver w7 rfl (.tmp 80) (.tmp 82) rfl wb.heap.size u11 M0 rfl Hown7.out C X HC.out HX.out 39 rfl (by omega) hws7 ?_; intro v8 w8 hown8 hg8 hat8; have Hown8 := Lib.hid hown8; have Hg8 := Lib.hid hg8; clear hown8 hg8 hat8)))
              have Hb8 := Lib.hid (Hb7.out.trans (Hown7.out.1.below_of Hg8.out hws7 (Nat.le_refl _)))
              obtain ⟨w9, hw9⟩ : ∃ z, z = w8.alloc (.cells CX 39) := ⟨_, rfl⟩
              have RA8 := Lib.hid (HRA.out w8 Hb8.out)
              have Hx9 := Lib.hid (show Blk w9 w8.heap.size 39 (verC { x with by_ := byV (bs.take 0) x X.rep X.seq }) by rw [hw9, List.take_zero]; have := Blk.new w8 39 CX; rw [HCX.out] at this ⊢; exact this)
              have Hown9 := Lib.hid (show OwnV w9 wb.heap.size v8 (M0 ++ [X]) by rw [hw9]; exact ⟨OwnK.alloc Hown8.out.1 _, Hown8.out.2⟩)
              have Hb9 := Lib.hid (show Below wb.heap.size wb w9 by rw [hw9]; exact Hb8.out.alloc Hb8.out.size _)
              have Hne := Lib.hid (show ∀ g, (v8).ownBlock = some g → g ≠ w8.heap.size from fun g hg => by have := (Hown8.out.lt g hg).2; omega)
              have hxb : wb.heap.size ≤ w8.heap.size := Hb8.out.size
              have HW9 := Lib.hid hw9
              clear hw9
              go_upto_region 18 with (first | (refine wpList_load_mid (op := ⟨some 87, _, _, _, _, _⟩) rfl 39 (.tmp 86) rfl b (off + j * 11) rfl _ _ RA8.out Try.underlying39 rfl HinfX.out ?_) | (refine wpList_store_new (op := ⟨none, _, _, _, _, _⟩) rfl 39 (.tmp 14) (.tmp 87) rfl zeroC CX rfl rfl HinfX2.out (by rw [HszX.out]; rfl) HoneX.out ?_))
              rw [← HW9.out]
              obtain ⟨xb, hxbe⟩ : ∃ q, q = w8.heap.size := ⟨_, rfl⟩
              rw [← hxbe] at Hx9 Hne hxb ⊢
              clear hxbe HW9 RA8
              (try clear Hls); (try clear RI); (try clear RX); (try clear HinfY); (try clear HRA); (try clear HinfX); (try clear HinfX2); (try clear HoneX); (try clear HszX); (try clear HBX); (try clear hws3); (try clear Hb8); (try clear Hown8); (try clear Hown); (try clear Hbw3); (try clear hws7); (try clear Hown7); (try clear Hb7); (try clear Hbx7); (try clear HCX)
              go_wp2_with fail
              go_loopw [15] (fun i wr => ∃ t : Nat, t ≤ k ∧ i = .int .i64 (t : Int) ∧ Hid (Blk wr xb 39 (verC { x with by_ := byV (bs.take t) x X.rep X.seq })) ∧ Hid (OwnV wr wb.heap.size v8 (M0 ++ [X])) ∧ Hid (Below wb.heap.size wb wr)) (fun i _ => k - (intOf i).toNat)
              case atStart => exact ⟨0, by omega, rfl, Hx9, Hown9, Hb9⟩
              case round =>
                obtain ⟨t, ht, rfl, Hxt, Hot, Hbt⟩ := hrel
                by_cases htk : t < k
                · have htl : t < bs.length := by rw [← Hm.out]; exact htk
                  obtain ⟨bb, boff, rfl, _, hbb, hbe⟩ := HBe.out (by intro e; subst e; simp at htl)
                  have hrid := range_ext (hbe t htl).1 Hbt.out
                  have htk2 : bs.take (t + 1) = bs.take t ++ [bs[t]] := by rw [List.take_succ_eq_append_getElem htl]
                  have heq := fun z => ideq_run bs[t].1 bs[t].2 x.rep x.seq z
                  obtain ⟨p, hp⟩ : ∃ p, p = bs[t] := ⟨_, rfl⟩
                  rw [← hp] at hrid htk2 heq
                  have hstep := byV_snoc (bs.take t) p x X.rep X.seq
                  rw [← htk2] at hstep
                  obtain ⟨e3, he3⟩ : ∃ q, q = sameI p.1 p.2 x.rep x.seq := ⟨_, rfl⟩
                  rw [← he3] at heq hstep
                  have hxid := Hxt.out.ver.id
                  have hxby := Hxt.out.ver.by_
                  obtain ⟨IP, hIP⟩ : ∃ I, I = idC p.1 p.2 := ⟨_, rfl⟩
                  have HinfP := Lib.hid (show (Try.prog.info? 35).map (·.size) = some IP.toList.length by rw [hIP]; exact id_info)
                  obtain ⟨IZ, hIZ⟩ : ∃ I, I = idC x.rep x.seq := ⟨_, rfl⟩
                  have HinfZ := Lib.hid (show (Try.prog.info? 35).map (·.size) = some IZ.toList.length by rw [hIZ]; exact id_info)
                  obtain ⟨VB, hVB⟩ : ∃ V, V = byV (bs.take t) x X.rep X.seq := ⟨_, rfl⟩

                  rw [← hIP] at hrid heq
                  dsimp only at hxid hxby
                  rw [← hIZ] at heq hxid
                  rw [← hVB] at hstep hxby Hxt
                  have hwith := fun z => refwith_any VB X.rep X.seq z
                  obtain ⟨AV, hAV⟩ : ∃ A, A = av VB := ⟨_, rfl⟩
                  obtain ⟨AW, hAW⟩ : ∃ A, A = av (withV VB X.rep X.seq) := ⟨_, rfl⟩
                  unfold vv at hwith
                  rw [← hAV, ← hAW, idv_idC, ← HIX.out] at hwith
                  rw [← hAV] at hxby
                  have Hwith := Lib.hid hwith
                  have HinfV := Lib.hid (show (Try.prog.info? 37).map (·.size) = some AV.toList.length by rw [hAV]; exact vec_info)
                  have HinfW := Lib.hid (show (Try.prog.info? 37).map (·.size) = some AW.size by rw [hAW]; exact vec_info)
                  have HAW1 := Lib.hid (show AW.all (·.oneCell') = true by rw [hAW]; exact av_one _)
                  have HAWs := Lib.hid (show AW.size = 8 by rw [hAW]; rfl)
                  have RP := Lib.hid (range_exts hrid)
                  have RZ := Lib.hid (range_exts hxid)
                  have HBY := Lib.hid hxby
                  have Hst := Lib.hid (show ∀ z : World, Blk z xb 39 (verC { x with by_ := VB }) → Blk (z.setCells xb 3 AW.toList) xb 39 (verC { x with by_ := withV VB X.rep X.seq }) from fun z hz => by
                    have := Blk.setCells AW.toList 3 z (verC { x with by_ := VB }).toList hz (by rw [hAW]; show 3 + 8 ≤ 11; omega)
                    rw [hAW] at this ⊢
                    exact this)
                  have Hstep := Lib.hid hstep
                  clear hbe hbb hrid htk2 hp he3 hxid hxby hIP hIZ hVB hwith hAV hAW hstep
                  cases e3
                  all_goals go_wp2_with fail
                  all_goals refine wp_region_grow (by kernel_rfl) (by kernel_rfl) ?_
                  all_goals repeat (first | (go_big_quiet_want; refine quiet_mid 35 (.tmp 96) rfl bb (boff + t * 2) rfl _ _ RP.out Try.underlying35 rfl HinfP.out ?_; go_simp; go_big_quiet_on) | (go_big_quiet_want; refine quiet_mid 35 (.tmp 98) rfl xb 0 rfl _ _ RZ.out Try.underlying35 rfl HinfZ.out ?_; go_simp; go_big_quiet_on) | go_big_quiet_step (fail) | quiet_step (fail))
                  all_goals refine wpQuiet_nil ?_
                  all_goals rintro w6 ⟨y6, rfl⟩
                  all_goals have hb6 := y6.out
                  all_goals obtain ⟨w7, hw7⟩ : ∃ w7, w7 = y6.now := ⟨_, rfl⟩
                  all_goals rw [← hw7] at hb6 ⊢
                  all_goals clear hw7
                  · go_wp2_with fail
                    go_roundw
                    case rel => exact ⟨t + 1, by omega, by go_num, Lib.hid (by rw [Hstep.out, if_neg (by simp)]; exact Hxt.out.grow hb6), Lib.hid (Hot.out.grow hb6), Lib.hid (Hbt.out.trans (hb6.mono Hbt.out.size))⟩
                    case measure => simp [intOf]; omega
                  · have Hx7 := Lib.hid (Hxt.out.grow hb6)
                    have Ho7 := Lib.hid (Hot.out.grow hb6)
                    have Hb7 := Lib.hid (Hbt.out.trans (hb6.mono Hbt.out.size))
                    have RV7 := Lib.hid (range_ext HBY.out hb6)
                    have RX7 := Lib.hid (HRI.out w7 Hb7.out)
                    clear hb6
                    go_wp2_with (first | (refine wpList_load_mid (op := ⟨some 102, _, _, _, _, _⟩) rfl 37 (.tmp 101) rfl xb (0 + 3) rfl _ _ RV7.out Try.underlying37 rfl HinfV.out ?_) | (refine wpList_load_mid (op := ⟨some 104, _, _, _, _, _⟩) rfl 35 (.tmp 103) rfl w.heap.size 0 rfl _ _ RX7.out Try.underlying35 rfl HinfI.out ?_) | (go_at_call 38; go_must (refine (Hwith.out _).mono ?_; rintro e8 w10 ⟨rfl, hb8⟩; have Hx10 := Lib.hid (Hx7.out.grow hb8); have Ho10 := Lib.hid (Ho7.out.grow hb8); have Hb10 := Lib.hid (below_call Hb7.out hb8); clear hb8)) | (refine wpList_store_mid (op := ⟨none, _, _, _, _, _⟩) rfl 37 (.tmp 106) (.tmp 105) rfl xb 3 AW rfl rfl (by rw [HAWs.out]; exact Blk.there (cs := (verC { x with by_ := VB }).toList) Hx10.out 3 8 (by show 3 + 8 ≤ 11; omega)) HinfW.out HAW1.out ?_))
                    go_roundw
                    case rel => exact ⟨t + 1, by omega, by go_num, Lib.hid (by rw [Hstep.out, if_pos trivial]; exact Hst.out _ Hx10.out), Lib.hid ⟨OwnK.keep Ho10.out.1 (fun g hg => heap_setCells xb _ _ _ g (Hne.out g hg)), Ho10.out.2⟩, Lib.hid (below_setCells Hb10.out hxb Hb10.out.size _ _)⟩
                    case measure => simp [intOf]; omega
                · obtain ⟨wd, rfl⟩ : ∃ z, z = wr := ⟨wr, rfl⟩
                  have HxY := Lib.hid (show Blk wd xb 39 (verC Y) by
                    have := Hxt.out
                    rw [List.take_of_length_le (by rw [← Hm.out]; omega)] at this
                    rw [HY.out]; exact this)
                  obtain ⟨CY, hCY⟩ : ∃ C, C = verC Y := ⟨_, rfl⟩
                  have hszY : CY.size = 11 := by rw [hCY]; rfl
                  have HinfYY := Lib.hid (show (Try.prog.info? 39).map (·.size) = some CY.size by rw [hCY]; exact ver_info)
                  have hfoldY := fold_ver Y
                  rw [← hCY] at hfoldY HxY
                  have HfoldY := Lib.hid hfoldY
                  have HCY := Lib.hid hCY
                  have hwsd := Hbt.out.size
                  have hllm : ((M0 ++ [X])).length ≤ 100000 := by first | (simp only [List.length_append, List.length_singleton]; omega) | omega
                  clear hCY hfoldY
                  go_wp2_with (first | (refine wpList_load_row (o := ⟨some 108, _, _, _, _, _⟩) rfl 39 (.tmp 14) rfl xb rfl 39 CY (0, 0) _ HxY.out Try.underlying39 rfl HinfYY.out ?_) | (at_builtin; go_must (rw [HfoldY.out]; refine wpList_app_ver wd rfl (.tmp 107) (.tmp 109) rfl wb.heap.size v8 ((M0 ++ [X])) rfl Hot.out CY Y HCY.out HYok.out 39 rfl hllm hwsd ?_; intro v9 w11 hown11 hg11 hat11; have Hown11 := Lib.hid hown11; have Hg11 := Lib.hid hg11; clear hown11 hg11 hat11)))
                  go_roundw
                  case rel => exact ⟨j + 1, true, by omega, rfl, by go_num, (fun _ => by omega), (fun h => by cases h), Lib.hid (by rw [HM3.out (by trivial) Hw2.out]; exact Hown11.out), Lib.hid (Hbt.out.trans (Hot.out.1.below_of Hg11.out hwsd (Nat.le_refl _)))⟩
                  case measure => simp [intOf]; omega
          · obtain rfl : j = n := by omega
            have HtA := Lib.hid (show AL.take j = AL from List.take_of_length_le (by rw [HALl.out]; exact Nat.le_refl _))
            cases put with
            | true =>
              have hpj := hp1 rfl
              have Hfin := Lib.hid (show outV AL ps j true X = R.1 by rw [HR2.out]; unfold outV; rw [if_pos rfl, HtA.out])
              go_wp2_with fail
              go_ret2
              refine ⟨⟨_, by rw [HR2.out]; rfl, ?_⟩, below_call Hbel.out Hbw3.out⟩
              have hwbs := Hwbs.out
              rw [← Hfin.out]
              exact Hown.out.mono (by omega)
            | false =>
              have e : ps = j := by have := hp2 rfl; omega
              subst e
              have Hbx7 := Lib.hid (show Blk wc w.heap.size 39 C by rw [HC.out]; exact Hbox.out.grow Hbw3.out)
              have hws7 := Hbw3.out.size
              have hll : (outV AL ps ps false X).length ≤ 1000 := by unfold outV; rw [if_neg (by simp), HtA.out, HALl.out]; omega
              have Hfin := Lib.hid (show outV AL ps ps false X ++ [X] = R.1 by
                rw [HR2.out]; unfold outV; rw [if_neg (by simp), HtA.out]
                have := insV_end AL X
                rw [HALl.out] at this
                exact this.symm)
              obtain ⟨M0, hM0⟩ : ∃ M, M = outV AL ps ps false X := ⟨_, rfl⟩
              rw [← hM0] at Hown hll Hfin
              clear hM0
              go_wp2_with (first | (refine wpList_load_row (o := ⟨some 114, _, _, _, _, _⟩) rfl 39 (.tmp 5) rfl w.heap.size rfl 39 C (0, 0) _ Hbx7.out Try.underlying39 rfl Hinf.out ?_) | (at_builtin; go_must (rw [Hfold.out]; refine wpList_app_ver wc rfl (.tmp 113) (.tmp 115) rfl wb.heap.size u11 M0 rfl Hown.out C X HC.out HX.out 39 rfl (by omega) hws7 ?_; intro v8 w8 hown8 hg8 hat8; have Hown8 := Lib.hid hown8; have Hg8 := Lib.hid hg8; clear hown8 hg8 hat8)))
              go_ret2
              refine ⟨⟨_, by rw [HR2.out]; rfl, ?_⟩, below_call Hbel.out (Hbw3.out.trans (Hown.out.1.below_of Hg8.out hws7 (Nat.le_refl _)))⟩
              have hwbs := Hwbs.out
              rw [← Hfin.out]
              exact Hown8.out.mono (by omega)
end Go.Proofs.Ytnbaaccodgohoaa
