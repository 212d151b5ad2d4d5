/-
  version.Add.
-/
import Derived.Test.YtnehoabeameioaaVeAddMath
import Derived.Test.YtnehoabeameioaaVeFixed
import Derived.Test.YtnehoabeameioaaVeBin
import Derived.Test.YtnehoabeameioaaVeCopies
namespace Go.Proofs.Ytnehoabeameioaa
open Go.RowKit
set_option maxRecDepth 100000

/-- What stands in the region that gives a version another By: operation 6 reads it, operation 12 stores it. -/
structure AddJ (base : Nat) (W0 : World) (u : Value) (L0 L1 : List Ver) (d : Nat → Bool) (x : World) : Prop where
  before : d 12 = false → OwnV x base u L0
  after : d 12 = true → OwnV x base u L1
  ord : d 12 = true → d 6 = true
  below : Below W0.heap.size W0 x
section
variable {base : Nat} {W0 : World} {u : Value} {L0 L1 : List Ver} {d : Nat → Bool} {x : World}
theorem AddJ.drew (h : AddJ base W0 u L0 L1 d x) : AddJ base W0 u L0 L1 d x.drew := ⟨fun e => ⟨OwnK.drew (h.before e).1, (h.before e).2⟩, fun e => ⟨OwnK.drew (h.after e).1, (h.after e).2⟩, h.ord, below_then_drew h.below⟩
theorem AddJ.ord6 (h : AddJ base W0 u L0 L1 d x) (h6 : d 6 = false) : d 12 = false := by
  cases e : d 12 with
  | false => rfl
  | true => have := h.ord e; rw [h6] at this; cases this
theorem AddJ.more (h : AddJ base W0 u L0 L1 d x) {i : Nat} (hi : i ≠ 12) (ho : d 12 = true → also d i 6 = true) : AddJ base W0 u L0 L1 (also d i) x := by
  have e : also d i 12 = d 12 := also_ne (fun e => hi e.symm)
  exact ⟨fun h1 => h.before (by rw [← e]; exact h1), fun h1 => h.after (by rw [← e]; exact h1), fun h1 => ho (by rw [← e]; exact h1), h.below⟩
theorem AddJ.call (h : AddJ base W0 u L0 L1 d x) {w' : World} (hb : Below x.heap.size x w') : AddJ base W0 u L0 L1 d w' := ⟨fun e => (h.before e).grow hb, fun e => (h.after e).grow hb, h.ord, below_call h.below hb⟩
theorem AddJ.stored (h : AddJ base W0 u L0 L1 d x) (h6 : d 6 = true) {g o : Nat} {vs : List Value} (hw : OwnV (x.setCells g o vs) base u L1) (hg : W0.heap.size ≤ g) : AddJ base W0 u L0 L1 (also d 12) (x.setCells g o vs) :=
  ⟨fun e => (by rw [also_same] at e; cases e), fun _ => hw, fun _ => also_up h6, below_setCells h.below hg h.below.size o vs⟩
end

theorem versV_data {L : List Ver} {bs : List (Int × Nat)} {r : Int} {s : Nat} (h : ∀ x ∈ L, x.data.length ≤ 1000) : ∀ x ∈ addedV L bs r s, x.data.length ≤ 1000 := by
  intro y hy
  unfold addedV at hy
  obtain ⟨x, hx, rfl⟩ := List.mem_map.1 hy
  exact h x hx
set_option maxHeartbeats 4000000 in
theorem add_any (ok ok' : Nat → Prop) (v vB : Value) (L : List Ver) (bs : List (Int × Nat)) (X : Ver) (w : World) (hL : IsL kVer w ok v L) (hB : IsL kId w ok' vB bs) (hl : L.length ≤ 900) (hd : ∀ x ∈ L, x.data.length ≤ 1000) (hXd : X.data.length ≤ 1000) (hs : SortedV L) (hX : VerOk X) :
    Calls Try.prog 14 #[v, vB, .agg (verC X)] w fun e w' => (∃ u, e = .returned (.tuple #[u, .int .i64 (addV L bs X).2]) ∧ OwnV w' w.heap.size u (addV L bs X).1) ∧ Below w.heap.size w w' := by
  have hm : maxLen ≤ 9223372036854775807 := by decide
  obtain ⟨R, hR⟩ : ∃ R, R = addV L bs X := ⟨_, rfl⟩
  rw [← hR]
  have HR := Lib.hid hR
  obtain ⟨wb, hwb⟩ : ∃ wb, wb = w.alloc (.cells (verC X) 39) := ⟨_, rfl⟩
  have hbox : Blk wb w.heap.size 39 (verC X) := by rw [hwb]; exact Blk.new _ _ _
  have hbel : Below w.heap.size w wb := by rw [hwb]; exact (Below.refl _ _).alloc (Nat.le_refl _) _
  have hwbs : wb.heap.size = w.heap.size + 1 := by rw [hwb]; simp
  have hLb := hL.grow hbel
  have hcpy := copies_any ok v L wb hLb (by omega) hd
  have Hcpy := Lib.hid hcpy
  have HLb := Lib.hid hLb
  have Hbox := Lib.hid hbox
  have Hbel := Lib.hid hbel
  have Hwbs := Lib.hid hwbs
  have Hs := Lib.hid hs
  have Hd := Lib.hid hd
  have Hvok := Lib.hid hL.verOk
  have HX := Lib.hid hX
  obtain ⟨AB, cB, rfl, hcB1, hcB2, hBe⟩ := id_at hB
  have HBe := Lib.hid hBe
  obtain ⟨C, hC⟩ : ∃ C, C = verC X := ⟨_, rfl⟩
  have HC := Lib.hid hC
  rw [← hC] at hwb ⊢
  have HW := Lib.hid hwb
  obtain ⟨m, hmm⟩ : ∃ m, m = bs.length := ⟨_, rfl⟩
  have Hm := Lib.hid hmm
  rw [← hmm] at hcB1 ⊢
  have hcp := fun z => copied_any X hXd z
  rw [← hC] at hcp
  have Hcp := Lib.hid hcp
  have hsz : C.size = 11 := by rw [hC]; rfl
  have hinf : (Try.prog.info? 39).map (·.size) = some C.size := by rw [hC]; exact ver_info
  have Hinf := Lib.hid hinf
  have hfold := fold_ver X
  rw [← hC] at hfold
  have Hfold := Lib.hid hfold
  obtain ⟨IX, hIX⟩ : ∃ IX, IX = idC X.rep X.seq := ⟨_, rfl⟩
  have hinfI : (Try.prog.info? 35).map (·.size) = some IX.toList.length := by rw [hIX]; exact id_info
  have HinfI := Lib.hid hinfI
  have HRI := Lib.hid (show ∀ x, Below wb.heap.size wb x → x.rangeAt w.heap.size 0 IX.toList from fun x hx => by
    rw [hIX]
    exact (hbox.grow hx).ver.id)
  have HIX := Lib.hid hIX
  have Hfi := Lib.hid fun (r : Int) (s : Nat) (z : World) (hz : Below wb.heap.size wb z) => find_any ok v L r s z (hLb.grow hz) (by omega) hs
  clear hbox hbel hwbs hLb hcpy hs hd hL hX hB hBe hC hwb hmm hcp hinf hfold hIX hinfI hXd hR
  go_enter Try.func14, Try.ntmps14
  go_upto_region 1 with fail
  rw [← HW.out]
  go_upto_region 2 with (go_at_call 31; go_must (refine Hcpy.out.mono ?_; rintro e1 w1 ⟨u1, rfl, hown1, hb1⟩; have Hown1 := Lib.hid hown1; have Hb1 := Lib.hid hb1; clear hown1 hb1))
  obtain ⟨Au, cu, hue, huc, _⟩ := ver_at Hown1.out.isL
  subst hue
  obtain ⟨n, hn⟩ : ∃ n, n = L.length := ⟨_, rfl⟩
  rw [← hn] at Hown1 hl huc ⊢
  have Hn := Lib.hid hn
  clear hn
  go_wp2_with fail
  go_loopw [19] (fun i wr => ∃ k : Nat, k ≤ m ∧ i = .int .i64 (k : Int) ∧ Hid (OwnV wr wb.heap.size (.slice Au n cu) (addedV L (bs.take k) X.rep X.seq)) ∧ Hid (Below wb.heap.size wb wr) ∧ Hid (((bs.take k).all fun p => thereV L p.1 p.2) = true)) (fun i _ => m - (intOf i).toNat)
  case atStart => exact ⟨0, by omega, rfl, Lib.hid (by rw [List.take_zero, addedV_nil]; exact Hown1.out), Hb1, Lib.hid rfl⟩
  case round =>
    obtain ⟨k, hk, rfl, Hown, Hbw, Hall⟩ := hrel
    by_cases hlt : k < m
    · have hkl : k < bs.length := by rw [← Hm.out]; exact hlt
      obtain ⟨bb, boff, rfl, _, hbb, hbe⟩ := HBe.out (by intro e; subst e; simp at hkl)
      have hbwr : Below w.heap.size w wr := below_call Hbel.out Hbw.out
      have Rid := Lib.hid (range_ext (hbe k hkl).1 hbwr)
      have htk : bs.take (k + 1) = bs.take k ++ [bs[k]] := by rw [List.take_succ_eq_append_getElem hkl]
      have hmem : bs[k] ∈ bs := List.getElem_mem hkl
      obtain ⟨p, hp⟩ : ∃ p, p = bs[k] := ⟨_, rfl⟩
      rw [← hp] at Rid htk hmem
      have Htk := Lib.hid htk
      have Hmem := Lib.hid hmem
      obtain ⟨IP, hIP⟩ : ∃ I, I = idC p.1 p.2 := ⟨_, rfl⟩
      have hinfP : (Try.prog.info? 35).map (·.size) = some IP.toList.length := by rw [hIP]; exact id_info
      have hinfP2 : (Try.prog.info? 35).map (·.size) = some IP.size := by rw [hIP]; exact id_info
      have hIP1 : IP.all (·.oneCell') = true := by rw [hIP]; exact idC_one _ _
      have hIPs : IP.size = 2 := by rw [hIP]; rfl
      have hfi := fun (z : World) (hz : Below wb.heap.size wb z) => Hfi.out p.1 p.2 z hz
      rw [← hIP] at Rid hfi
      obtain ⟨ps, hps⟩ : ∃ ps : Nat, ps = posV L p.1 p.2 := ⟨_, rfl⟩
      obtain ⟨q, hq⟩ : ∃ q, q = thereV L p.1 p.2 := ⟨_, rfl⟩
      rw [← hps, ← hq] at hfi
      have Hfp := Lib.hid hfi
      have HinfP := Lib.hid hinfP
      have HinfP2 := Lib.hid hinfP2
      have HIP1 := Lib.hid hIP1
      have HIPs := Lib.hid hIPs
      have Hps := Lib.hid hps
      have Hq := Lib.hid hq
      have Hblk := Lib.hid (Blk.new wr 35 IP)
      have Hbw1 := Lib.hid (Hbw.out.alloc Hbw.out.size (.cells IP 35))
      clear hbe hbb hbwr htk hmem hp hIP hinfP hinfP2 hIP1 hIPs hfi hps hq
      go_upto_region 5 with (first | (refine wpList_load_mid (op := ⟨some 22, _, _, _, _, _⟩) rfl 35 (.tmp 21) rfl bb (boff + k * 2) rfl _ _ Rid.out Try.underlying35 rfl HinfP.out ?_) | (refine wpList_store_new (op := ⟨none, _, _, _, _, _⟩) rfl 35 (.tmp 10) (.tmp 22) rfl (idC 0 0) IP rfl rfl HinfP2.out (by rw [HIPs.out]; rfl) HIP1.out ?_))
      have Hown2 := Lib.hid (show OwnV (wr.alloc (.cells IP 35)) wb.heap.size (.slice Au n cu) (addedV L (bs.take k) X.rep X.seq) from ⟨OwnK.alloc Hown.out.1 _, Hown.out.2⟩)
      cases q with
      | false =>
        have HR2 := Lib.hid (show R = ([], 2) by
          rw [HR.out]
          unfold addV
          rw [if_pos]
          rw [List.all_eq_false]
          exact ⟨p, Hmem.out, by rw [← Hq.out]; simp⟩)
        go_wp2_with (first | (refine wpList_load_row (o := ⟨some 25, _, _, _, _, _⟩) rfl 35 (.tmp 10) rfl wr.heap.size rfl 35 IP (0, 0) _ Hblk.out Try.underlying35 rfl HinfP2.out ?_) | (go_at_call 32; go_must (refine (Hfp.out _ Hbw1.out).mono ?_; rintro e2 w2 ⟨rfl, hb2⟩)))
        go_ret2
        rw [HR2.out]
        exact ⟨⟨_, rfl, OwnV.nil _ _⟩, below_call Hbel.out (below_call Hbw1.out hb2)⟩
      | true =>
        obtain ⟨hpl, hpe⟩ := there_pos Hs.out Hq.out.symm
        rw [← Hps.out] at hpl
        go_upto_region 8 with (first | (refine wpList_load_row (o := ⟨some 25, _, _, _, _, _⟩) rfl 35 (.tmp 10) rfl wr.heap.size rfl 35 IP (0, 0) _ Hblk.out Try.underlying35 rfl HinfP2.out ?_) | (go_at_call 32; go_must (refine (Hfp.out _ Hbw1.out).mono ?_; rintro e2 w2 ⟨rfl, hb2⟩)))
        have Hown3 := Lib.hid (Hown2.out.grow hb2)
        have Hbw3 := Lib.hid (below_call Hbw1.out hb2)
        clear hb2
        have hla : ps < (addedV L (bs.take k) X.rep X.seq).length := by rw [addedV_length]; exact hpl
        have hpn : ps < n := by rw [Hn.out]; exact hpl
        obtain ⟨g, cap, he, hc1, _, hbg, _, _, _⟩ := Hown3.out.elem hla
        have hAu : Au = some ⟨g, 0, none⟩ := by injection he
        subst hAu
        have HK := Lib.hid hla
        have HBG := Lib.hid hbg
        have hel := addedV_get L (bs.take k) X.rep X.seq ps hla hpl
        obtain ⟨VB, hVB⟩ : ∃ V, V = byV (bs.take k) L[ps] X.rep X.seq := ⟨_, rfl⟩
        have hVBok : okV VB := by rw [hVB]; exact okV_by (Hvok.out _ (List.getElem_mem hpl)).by_ _ HX.out.seq
        have hwith := fun z => with_any VB hVBok X.rep X.seq z
        obtain ⟨AV, hAV⟩ : ∃ A, A = av VB := ⟨_, rfl⟩
        obtain ⟨AW, hAW⟩ : ∃ A, A = av (withV VB X.rep X.seq) := ⟨_, rfl⟩
        unfold vv at hwith
        rw [← hAV, ← hAW, idv_idC, ← HIX.out] at hwith
        have HWITH := Lib.hid hwith
        have HRV := Lib.hid (show ∀ x : World, x.rangeAt g (ps * 11) (verC ((addedV L (bs.take k) X.rep X.seq)[ps]'hla)).toList → x.rangeAt g (ps * 11 + 3) AV.toList from fun x hx => by
          rw [hel] at hx
          rw [hAV, hVB]
          exact (verCells hx).by_)
        have HAWs := Lib.hid (show AW.size = 8 by rw [hAW]; rfl)
        have HAW1 := Lib.hid (show AW.all (·.oneCell') = true by rw [hAW]; exact av_one _)
        have HinfV := Lib.hid (show (Try.prog.info? 37).map (·.size) = some AV.toList.length by rw [hAV]; exact vec_info)
        have HinfW := Lib.hid (show (Try.prog.info? 37).map (·.size) = some AW.size by rw [hAW]; exact vec_info)
        have HST := Lib.hid (show ∀ x : World, OwnV x wb.heap.size (.slice (some ⟨g, 0, none⟩) n cu) (addedV L (bs.take k) X.rep X.seq) → OwnV (x.setCells g (ps * 11 + 3) AW.toList) wb.heap.size (.slice (some ⟨g, 0, none⟩) n cu) (addedV L (bs.take (k + 1)) X.rep X.seq) from fun x hx => by
          have e1 : n = (addedV L (bs.take k) X.rep X.seq).length := by rw [addedV_length]; exact Hn.out
          rw [e1] at hx ⊢
          have hpp : p.1 = L[ps].rep ∧ p.2 = L[ps].seq := by
            have e2 : L[ps] = L[posV L p.1 p.2]'(by rw [← Hps.out]; exact hpl) := by congr 1
            rw [e2]; exact hpe
          have := OwnV.store hx hla { L[ps] with by_ := withV VB X.rep X.seq } (by
            have h0 := Hvok.out _ (List.getElem_mem hpl)
            exact ⟨h0.rep, h0.seq, h0.data, okV_with hVBok _ HX.out.seq⟩) 3 AW.toList (by rw [hAW]; exact Nat.le_refl _) (by rw [hel, hAW]; rfl)
          rw [Htk.out, addedV_step Hs.out (bs.take k) p X.rep X.seq hpl hpp, ← hVB]
          exact this)
        have HJ0 := Lib.hid (show AddJ wb.heap.size wb (.slice (some ⟨g, 0, none⟩) n cu) (addedV L (bs.take k) X.rep X.seq) (addedV L (bs.take (k + 1)) X.rep X.seq) (fun _ => false) w2 from ⟨fun _ => Hown3.out, fun h => (by cases h), fun h => (by cases h), Hbw3.out⟩)
        have HallN := Lib.hid (show ((bs.take (k + 1)).all fun p => thereV L p.1 p.2) = true by rw [Htk.out, List.all_append, Hall.out]; simp [← Hq.out])
        clear he hc1 hbg hel hVB hVBok hwith hAV hAW hpe
        refine wp_region_fixed (fun s => match s with | 31 => (.slice (some ⟨g, 0, none⟩) n cu) | 32 => .int .i64 (ps : Int) | 33 => (.slice (some ⟨g, 0, none⟩) n cu) | 34 => .int .i64 (ps : Int) | 35 => .pointer (some ⟨g, ps * 11, none⟩) | 36 => .pointer (some ⟨g, ps * 11 + 3, none⟩) | 37 => .agg AV | 38 => .pointer (some ⟨w.heap.size, 0, none⟩) | 39 => .agg IX | 40 => .agg AW | 41 => .pointer (some ⟨g, ps * 11, none⟩) | 42 => .pointer (some ⟨g, ps * 11 + 3, none⟩) | _ => undef) (AddJ wb.heap.size wb (.slice (some ⟨g, 0, none⟩) n cu) (addedV L (bs.take k) X.rep X.seq) (addedV L (bs.take (k + 1)) X.rep X.seq)) 58 [31, 32, 33, 34, 35, 36, 37, 38, 39, 40, 41, 42] (by kernel_rfl) (by kernel_rfl) (by kernel_rfl) (by kernel_rfl) rfl HJ0.out.drew ?_ ?_
        · intro i0 o0 hi0 dn a0 x hJ hd hpre hsame hV K hK
          have hlt0 := (Array.getElem?_eq_some_iff.1 hi0).1
          rcases many13_ hlt0 rfl with rfl | rfl | rfl | rfl | rfl | rfl | rfl | rfl | rfl | rfl | rfl | rfl | rfl
          all_goals (have ho0 := Option.some.inj hi0; subst ho0; clear hi0 hlt0)
          · have q8 : a0.tmps[8]?.getD undef = (.slice (some ⟨g, 0, none⟩) n cu) := hsame 8 (slot_free (by decide +kernel))
            have hk := Lib.hid (show ∀ v x', (v = (.slice (some ⟨g, 0, none⟩) n cu)) → (AddJ wb.heap.size wb (.slice (some ⟨g, 0, none⟩) n cu) (addedV L (bs.take k) X.rep X.seq) (addedV L (bs.take (k + 1)) X.rep X.seq)) (also dn 0) x' → K (a0.put (some 31) v) x' from fun v x' h1 h2 => hK v x' (fun s hs => by cases hs; exact h1) h2)
            have hJ2 := Lib.hid hJ
            clear hsame hpre hK hV hJ hd
            go_simp
            exact hk.out _ _ rfl (hJ2.out.more (by decide) (fun h => also_up (hJ2.out.ord h)))
          · have q11 : a0.tmps[11]?.getD undef = .int .i64 (ps : Int) := hsame 11 (slot_free (by decide +kernel))
            have hk := Lib.hid (show ∀ v x', (v = .int .i64 (ps : Int)) → (AddJ wb.heap.size wb (.slice (some ⟨g, 0, none⟩) n cu) (addedV L (bs.take k) X.rep X.seq) (addedV L (bs.take (k + 1)) X.rep X.seq)) (also dn 1) x' → K (a0.put (some 32) v) x' from fun v x' h1 h2 => hK v x' (fun s hs => by cases hs; exact h1) h2)
            have hJ2 := Lib.hid hJ
            clear hsame hpre hK hV hJ hd
            go_simp
            exact hk.out _ _ rfl (hJ2.out.more (by decide) (fun h => also_up (hJ2.out.ord h)))
          · have q8 : a0.tmps[8]?.getD undef = (.slice (some ⟨g, 0, none⟩) n cu) := hsame 8 (slot_free (by decide +kernel))
            have hk := Lib.hid (show ∀ v x', (v = (.slice (some ⟨g, 0, none⟩) n cu)) → (AddJ wb.heap.size wb (.slice (some ⟨g, 0, none⟩) n cu) (addedV L (bs.take k) X.rep X.seq) (addedV L (bs.take (k + 1)) X.rep X.seq)) (also dn 2) x' → K (a0.put (some 33) v) x' from fun v x' h1 h2 => hK v x' (fun s hs => by cases hs; exact h1) h2)
            have hJ2 := Lib.hid hJ
            clear hsame hpre hK hV hJ hd
            go_simp
            exact hk.out _ _ rfl (hJ2.out.more (by decide) (fun h => also_up (hJ2.out.ord h)))
          · have q11 : a0.tmps[11]?.getD undef = .int .i64 (ps : Int) := hsame 11 (slot_free (by decide +kernel))
            have hk := Lib.hid (show ∀ v x', (v = .int .i64 (ps : Int)) → (AddJ wb.heap.size wb (.slice (some ⟨g, 0, none⟩) n cu) (addedV L (bs.take k) X.rep X.seq) (addedV L (bs.take (k + 1)) X.rep X.seq)) (also dn 3) x' → K (a0.put (some 34) v) x' from fun v x' h1 h2 => hK v x' (fun s hs => by cases hs; exact h1) h2)
            have hJ2 := Lib.hid hJ
            clear hsame hpre hK hV hJ hd
            go_simp
            exact hk.out _ _ rfl (hJ2.out.more (by decide) (fun h => also_up (hJ2.out.ord h)))
          · have q33 : a0.tmps[33]?.getD undef = (.slice (some ⟨g, 0, none⟩) n cu) := hV 2 33 (hpre ⟨2, .data⟩ (by simp) rfl) rfl
            have q34 : a0.tmps[34]?.getD undef = .int .i64 (ps : Int) := hV 3 34 (hpre ⟨3, .data⟩ (by simp) rfl) rfl
            have hk := Lib.hid (show ∀ v x', (v = .pointer (some ⟨g, ps * 11, none⟩)) → (AddJ wb.heap.size wb (.slice (some ⟨g, 0, none⟩) n cu) (addedV L (bs.take k) X.rep X.seq) (addedV L (bs.take (k + 1)) X.rep X.seq)) (also dn 4) x' → K (a0.put (some 35) v) x' from fun v x' h1 h2 => hK v x' (fun s hs => by cases hs; exact h1) h2)
            have hJ2 := Lib.hid hJ
            clear hsame hpre hK hV hJ hd
            go_simp
            exact hk.out _ _ rfl (hJ2.out.more (by decide) (fun h => also_up (hJ2.out.ord h)))
          · have q35 : a0.tmps[35]?.getD undef = .pointer (some ⟨g, ps * 11, none⟩) := hV 4 35 (hpre ⟨4, .data⟩ (by simp) rfl) rfl
            have hk := Lib.hid (show ∀ v x', (v = .pointer (some ⟨g, ps * 11 + 3, none⟩)) → (AddJ wb.heap.size wb (.slice (some ⟨g, 0, none⟩) n cu) (addedV L (bs.take k) X.rep X.seq) (addedV L (bs.take (k + 1)) X.rep X.seq)) (also dn 5) x' → K (a0.put (some 36) v) x' from fun v x' h1 h2 => hK v x' (fun s hs => by cases hs; exact h1) h2)
            have hJ2 := Lib.hid hJ
            clear hsame hpre hK hV hJ hd
            go_simp
            exact hk.out _ _ rfl (hJ2.out.more (by decide) (fun h => also_up (hJ2.out.ord h)))
          · have q36 : a0.tmps[36]?.getD undef = .pointer (some ⟨g, ps * 11 + 3, none⟩) := hV 5 36 (hpre ⟨5, .data⟩ (by simp) rfl) rfl
            have hk := Lib.hid (show ∀ v x', (v = .agg AV) → (AddJ wb.heap.size wb (.slice (some ⟨g, 0, none⟩) n cu) (addedV L (bs.take k) X.rep X.seq) (addedV L (bs.take (k + 1)) X.rep X.seq)) (also dn 6) x' → K (a0.put (some 37) v) x' from fun v x' h1 h2 => hK v x' (fun s hs => by cases hs; exact h1) h2)
            have hJ2 := Lib.hid hJ
            have hrg := (hJ.before (hJ.ord6 hd)).at_ HK.out
            refine wp_load_mid 37 (.tmp 36) rfl g (ps * 11 + 3) (eval_at q36) AV.toList _ (HRV.out _ hrg.1) Try.underlying37 rfl HinfV.out ?_
            exact hk.out _ _ rfl (hJ2.out.more (by decide) (fun h => also_same 6))
          · have q5 : a0.tmps[5]?.getD undef = .pointer (some ⟨w.heap.size, 0, none⟩) := hsame 5 (slot_free (by decide +kernel))
            have hk := Lib.hid (show ∀ v x', (v = .pointer (some ⟨w.heap.size, 0, none⟩)) → (AddJ wb.heap.size wb (.slice (some ⟨g, 0, none⟩) n cu) (addedV L (bs.take k) X.rep X.seq) (addedV L (bs.take (k + 1)) X.rep X.seq)) (also dn 7) x' → K (a0.put (some 38) v) x' from fun v x' h1 h2 => hK v x' (fun s hs => by cases hs; exact h1) h2)
            have hJ2 := Lib.hid hJ
            clear hsame hpre hK hV hJ hd
            go_simp
            exact hk.out _ _ rfl (hJ2.out.more (by decide) (fun h => also_up (hJ2.out.ord h)))
          · have q38 : a0.tmps[38]?.getD undef = .pointer (some ⟨w.heap.size, 0, none⟩) := hV 7 38 (hpre ⟨7, .data⟩ (by simp) rfl) rfl
            have hk := Lib.hid (show ∀ v x', (v = .agg IX) → (AddJ wb.heap.size wb (.slice (some ⟨g, 0, none⟩) n cu) (addedV L (bs.take k) X.rep X.seq) (addedV L (bs.take (k + 1)) X.rep X.seq)) (also dn 8) x' → K (a0.put (some 39) v) x' from fun v x' h1 h2 => hK v x' (fun s hs => by cases hs; exact h1) h2)
            have hJ2 := Lib.hid hJ
            refine wp_load_mid 35 (.tmp 38) rfl w.heap.size 0 (eval_at q38) IX.toList _ (HRI.out _ hJ.below) Try.underlying35 rfl HinfI.out ?_
            exact hk.out _ _ rfl (hJ2.out.more (by decide) (fun h => also_up (hJ2.out.ord h)))
          · have q37 : a0.tmps[37]?.getD undef = .agg AV := hV 6 37 (hpre ⟨6, .data⟩ (by simp) rfl) rfl
            have q39 : a0.tmps[39]?.getD undef = .agg IX := hV 8 39 (hpre ⟨8, .data⟩ (by simp) rfl) rfl
            have hk := Lib.hid (show ∀ v x', (v = .agg AW) → (AddJ wb.heap.size wb (.slice (some ⟨g, 0, none⟩) n cu) (addedV L (bs.take k) X.rep X.seq) (addedV L (bs.take (k + 1)) X.rep X.seq)) (also dn 9) x' → K (a0.put (some 40) v) x' from fun v x' h1 h2 => hK v x' (fun s hs => by cases hs; exact h1) h2)
            have hJ2 := Lib.hid hJ
            clear hsame hpre hK hV hJ hd
            go_simp
            refine (HWITH.out x).mono ?_
            rintro e7 w7 ⟨rfl, hb7⟩
            go_simp
            exact hk.out _ _ rfl ((hJ2.out.call hb7).more (by decide) (fun h => also_up (hJ2.out.ord h)))
          · have q31 : a0.tmps[31]?.getD undef = (.slice (some ⟨g, 0, none⟩) n cu) := hV 0 31 (hpre ⟨0, .data⟩ (by simp) rfl) rfl
            have q32 : a0.tmps[32]?.getD undef = .int .i64 (ps : Int) := hV 1 32 (hpre ⟨1, .data⟩ (by simp) rfl) rfl
            have hk := Lib.hid (show ∀ v x', (v = .pointer (some ⟨g, ps * 11, none⟩)) → (AddJ wb.heap.size wb (.slice (some ⟨g, 0, none⟩) n cu) (addedV L (bs.take k) X.rep X.seq) (addedV L (bs.take (k + 1)) X.rep X.seq)) (also dn 10) x' → K (a0.put (some 41) v) x' from fun v x' h1 h2 => hK v x' (fun s hs => by cases hs; exact h1) h2)
            have hJ2 := Lib.hid hJ
            clear hsame hpre hK hV hJ hd
            go_simp
            exact hk.out _ _ rfl (hJ2.out.more (by decide) (fun h => also_up (hJ2.out.ord h)))
          · have q41 : a0.tmps[41]?.getD undef = .pointer (some ⟨g, ps * 11, none⟩) := hV 10 41 (hpre ⟨10, .data⟩ (by simp) rfl) rfl
            have hk := Lib.hid (show ∀ v x', (v = .pointer (some ⟨g, ps * 11 + 3, none⟩)) → (AddJ wb.heap.size wb (.slice (some ⟨g, 0, none⟩) n cu) (addedV L (bs.take k) X.rep X.seq) (addedV L (bs.take (k + 1)) X.rep X.seq)) (also dn 11) x' → K (a0.put (some 42) v) x' from fun v x' h1 h2 => hK v x' (fun s hs => by cases hs; exact h1) h2)
            have hJ2 := Lib.hid hJ
            clear hsame hpre hK hV hJ hd
            go_simp
            exact hk.out _ _ rfl (hJ2.out.more (by decide) (fun h => also_up (hJ2.out.ord h)))
          · have q42 : a0.tmps[42]?.getD undef = .pointer (some ⟨g, ps * 11 + 3, none⟩) := hV 11 42 (hpre ⟨11, .data⟩ (by simp) rfl) rfl
            have q40 : a0.tmps[40]?.getD undef = .agg AW := hV 9 40 (hpre ⟨9, .data⟩ (by simp) rfl) rfl
            have hk := Lib.hid (show ∀ v x', (AddJ wb.heap.size wb (.slice (some ⟨g, 0, none⟩) n cu) (addedV L (bs.take k) X.rep X.seq) (addedV L (bs.take (k + 1)) X.rep X.seq)) (also dn 12) x' → K (a0.put none v) x' from fun v x' h2 => hK v x' (fun s hs => by cases hs) h2)
            have hJ2 := Lib.hid hJ
            have h9 := hpre ⟨9, .data⟩ (by simp) rfl
            have h6 := hpre ⟨6, .phase⟩ (by simp) rfl
            have hrg := (hJ.before hd).at_ HK.out
            refine wp_store_mid 37 (.tmp 42) (.tmp 40) rfl g (ps * 11 + 3) AW (eval_at q42) (eval_at q40) (by rw [HAWs.out]; exact there_part hrg.2 (by omega)) HinfW.out HAW1.out ?_
            exact hk.out _ _ (hJ2.out.stored h6 (HST.out _ (hJ2.out.before hd)) HBG.out)
        · intro dn x hall hJ
          have hown9 := hJ.after (hall 12 (by decide))
          have hbel9 := hJ.below
          clear hJ hall
          have Hown9 := Lib.hid hown9
          have Hbel9 := Lib.hid hbel9
          clear hown9 hbel9
          simp only [putAct, Act.put, List.setIfInBounds_toArray, List.set_cons_zero, List.set_cons_succ]
          go_wp2_with fail
          go_roundw
          case rel => exact ⟨k + 1, by omega, by go_num, Hown9, Hbel9, HallN⟩
          case measure => simp [intOf]; omega
    · obtain rfl : k = m := by omega
      have HallB := Lib.hid (show (bs.all fun p => thereV L p.1 p.2) = true by
        have := Hall.out
        rwa [List.take_of_length_le (by rw [Hm.out]; exact Nat.le_refl _)] at this)
      have Hown0 := Lib.hid (show OwnV wr wb.heap.size (.slice Au n cu) (addedV L bs X.rep X.seq) by
        have := Hown.out
        rwa [List.take_of_length_le (by rw [Hm.out]; exact Nat.le_refl _)] at this)
      have Rx := Lib.hid (HRI.out wr Hbw.out)
      have hfi := fun (z : World) (hz : Below wb.heap.size wb z) => Hfi.out X.rep X.seq z hz
      rw [← HIX.out] at hfi
      obtain ⟨ps, hps⟩ : ∃ ps : Nat, ps = posV L X.rep X.seq := ⟨_, rfl⟩
      obtain ⟨q, hq⟩ : ∃ q, q = thereV L X.rep X.seq := ⟨_, rfl⟩
      rw [← hps, ← hq] at hfi
      have Hfp := Lib.hid hfi
      have Hps := Lib.hid hps
      have Hq := Lib.hid hq
      clear hfi hps hq
      cases q with
      | true =>
        have HR2 := Lib.hid (show R = ([], 11) by
          rw [HR.out]
          unfold addV
          rw [if_neg (by rw [HallB.out]; simp), if_pos Hq.out.symm])
        go_wp2_with (first | (refine wpList_load_mid (op := ⟨some 47, _, _, _, _, _⟩) rfl 35 (.tmp 46) rfl w.heap.size 0 rfl _ _ Rx.out Try.underlying35 rfl HinfI.out ?_) | (go_at_call 32; go_must (refine (Hfp.out _ Hbw.out).mono ?_; rintro e2 w2 ⟨rfl, hb2⟩)))
        go_ret2
        rw [HR2.out]
        exact ⟨⟨_, rfl, OwnV.nil _ _⟩, below_call Hbel.out (below_call Hbw.out hb2)⟩
      | false =>
        have HR2 := Lib.hid (show R = (insV (addedV L bs X.rep X.seq) ps X, 0) by
          rw [HR.out]
          unfold addV
          rw [if_neg (by rw [HallB.out]; simp), if_neg (by rw [← Hq.out]; simp), Hps.out])
        go_upto_region 13 with (first | (refine wpList_load_mid (op := ⟨some 47, _, _, _, _, _⟩) rfl 35 (.tmp 46) rfl w.heap.size 0 rfl _ _ Rx.out Try.underlying35 rfl HinfI.out ?_) | (go_at_call 32; go_must (refine (Hfp.out _ Hbw.out).mono ?_; rintro e2 w2 ⟨rfl, hb2⟩)))
        have Hown4 := Lib.hid (Hown0.out.grow hb2)
        have Hbw4 := Lib.hid (below_call Hbw.out hb2)
        have Hbx4 := Lib.hid (show Blk w2 w.heap.size 39 C by rw [HC.out]; exact Hbox.out.grow (below_call Hbw.out hb2))
        clear hb2
        have hpn : ps ≤ (addedV L bs X.rep X.seq).length := by rw [addedV_length, Hps.out]; exact posV_le L _ _
        have hll : (addedV L bs X.rep X.seq).length ≤ 1000 := by rw [addedV_length, ← Hn.out]; omega
        have Hins := Lib.hid fun (z : World) (vb : Nat) (h1 : OwnV z wb.heap.size (.slice Au n cu) (addedV L bs X.rep X.seq)) (h2 : Blk z vb 39 (verC X)) (h3 : ∀ g, (Value.slice Au n cu).ownBlock = some g → vb ≠ g) (h4 : wb.heap.size ≤ z.heap.size) => insert_any wb.heap.size (.slice Au n cu) (addedV L bs X.rep X.seq) X HX.out ps vb z h1 h2 h3 hll h4 hpn
        clear hpn hll
        go_wp2_with (first | (refine wpList_load_row (o := ⟨some 54, _, _, _, _, _⟩) rfl 39 (.tmp 5) rfl w.heap.size rfl 39 C (0, 0) _ Hbx4.out Try.underlying39 rfl Hinf.out ?_) | (go_at_call 35; go_must (refine (Hcp.out _).mono ?_; rintro e3 w3 ⟨rfl, hb3⟩; have Hown5 := Lib.hid (Hown4.out.grow hb3); have Hbw5 := Lib.hid (below_call Hbw4.out hb3); clear hb3)) | (go_at_call 34; go_must (rw [Hfold.out]; refine (Hins.out _ w3.heap.size ⟨OwnK.alloc Hown5.out.1 _, Hown5.out.2⟩ (by rw [HC.out]; exact Blk.new _ _ _) (fun g hg => by have := (Hown5.out.lt g hg).2; omega) (Nat.le_trans Hbw5.out.size (by simp))).mono ?_; rintro e4 w4 ⟨⟨u4, rfl, hown4⟩, hb4⟩)))
        go_ret2
        rw [HR2.out]
        have hwbs := Hwbs.out
        exact ⟨⟨_, rfl, hown4.mono (by omega)⟩, below_call Hbel.out ((Hbw5.out.alloc Hbw5.out.size _).trans hb4)⟩
end Go.Proofs.Ytnehoabeameioaa
