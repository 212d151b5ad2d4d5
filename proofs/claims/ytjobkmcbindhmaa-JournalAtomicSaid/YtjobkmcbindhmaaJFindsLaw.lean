/-
  The walk of JournalFinds.
-/
import Derived.Test.YtjobkmcbindhmaaJLives
import Derived.Test.YtjobkmcbindhmaaJFits
import Derived.Test.YtjobkmcbindhmaaJTexts
namespace Go.Proofs.Ytjobkmcbindhmaa
open Go.RowKit
set_option maxRecDepth 100000

theorem strs_oneCell {T : List (List UInt8)} : ∀ u ∈ T.map str, u.oneCell' = true := by
  intro u hu
  obtain ⟨x, _, rfl⟩ := List.mem_map.1 hu
  rfl
theorem fitsJ_all {n : Int} {L : List OpJ} (h : fitsJ n L = true) : L.length ≤ 30 ∧ ∀ o ∈ L, o.texts.length ≤ 6 ∧ o.choice.kept.length ≤ 70 ∧ ∀ s ∈ o.texts, s.length ≤ 2000 := by
  unfold fitsJ opjFits at h
  simp only [Bool.and_eq_true, decide_eq_true_eq, List.all_eq_true] at h
  exact ⟨h.1.2, fun o ho => ⟨(h.2 o ho).1.1, (h.2 o ho).1.2, (h.2 o ho).2⟩⟩

set_option maxHeartbeats 1000000 in
theorem journalfinds_walk (v : Value) (L : List OpJ) (w : World) (hv : IsL kOpJ w (fun _ => True) v L) :
    Calls Try.prog 7 #[v] w fun e w' => e = .returned (.bool true) ∧ Below w.heap.size w w' := by
  have hv0 : IsL kOpJ w (fun k => k < w.heap.size) v L := hv.move fun k _ hk => ⟨hk, rfl⟩
  obtain ⟨A, c, rfl, hc, hm, hel⟩ := opj_at hv0
  have Hel := Lib.hid hel
  have Hv := Lib.hid hv
  unfold maxLen at hm
  have hLm : L.length ≤ 9223372036854775807 := by omega
  clear hel hv hv0
  have hfit := fun (z : World) (hz : Below w.heap.size w z) => fitsj_any (fun _ => True) (.slice A L.length c) 6 L z (Hv.out.grow hz)
  have Hfit := Lib.hid hfit
  clear hfit
  cases hF : fitsJ 6 L with
  | false =>
    rw [hF] at Hfit
    clear hF
    go_enter Try.func7, Try.ntmps7
    go_wp2_with fail
    refine (lives_any _).mono ?_
    rintro e w1 ⟨rfl, hb1⟩
    go_wp2_with fail
    refine (Hfit.out _ hb1).mono ?_
    rintro e w2 ⟨rfl, hb2⟩
    have hb02 := below_call hb1 hb2
    go_wp2_with fail
    refine (lives_any _).mono ?_
    rintro e w3 ⟨rfl, hb3⟩
    go_wp2
    go_ret
    exact ⟨rfl, below_call hb02 hb3⟩
  | true =>
    obtain ⟨h30, hall⟩ := fitsJ_all hF
    rw [hF] at Hfit
    obtain ⟨D1, ho1, hi1, hl1, hn1, hc1, hlo1⟩ := open_new 60 (by omega) (by omega)
    have HF1 := Lib.hid (show D1.Few 10 from ⟨by rw [hlo1]; decide, by rw [hc1]; decide⟩)
    have HM := Lib.hid ho1
    have Hi1 := Lib.hid hi1
    have Hl1 := Lib.hid hl1
    have Hn1 := Lib.hid hn1
    have Hall := Lib.hid hall
    clear hF ho1 hi1 hl1 hn1 hc1 hlo1 hall
    go_enter Try.func7, Try.ntmps7
    go_wp2_with fail
    refine (lives_any _).mono ?_
    rintro e w1 ⟨rfl, hb1⟩
    go_wp2_with fail
    refine (Hfit.out _ hb1).mono ?_
    rintro e w2 ⟨rfl, hb2⟩
    have hb02 := below_call hb1 hb2
    clear hb1 hb2
    go_wp2_with fail
    refine (new_ok 60 w2 (by omega) (by omega)).mono ?_
    rintro e w3 ⟨g, F3, rfl, hd3, hb3⟩
    have Hd3 := Lib.hid hd3
    have Hb3 := Lib.hid (below_call hb02 hb3)
    have hs02 := hb02.size
    have hs23 := hb3.size
    clear hd3 hb3 hb02
    go_wp2_with fail
    refine (jopen_any _ _ _ _ _ (newD_few 60 900000) Hd3.out).mono ?_
    rintro e w4 ⟨vp, x, rfl, G4, hd4, hf4, ⟨hbad, _⟩ | ⟨_, j4, B4, rfl, hja4, hB4, hG4, hx4, hBj⟩⟩
    · rw [HM.out] at hbad
      exact absurd rfl hbad
    rw [HM.out] at hd4 hja4 hx4 ⊢
    dsimp only at hd4 hja4 hx4 ⊢
    obtain ⟨vs4, hown4, hvl4, _⟩ := hx4
    obtain ⟨A4, c4, hxe4, _, _, _⟩ := hown4.form
    rw [hvl4, List.length_nil] at hxe4
    subst hxe4
    have hb4 := hf4.below (fun k hk => (Hd3.out.low k hk).1) Hd3.out.size
    have hnj4 : ¬ G4 j4 := fun h => by have := hG4 _ h; omega
    have hwj4 : w2.heap.size ≤ j4 := by omega
    have Hd4 := Lib.hid hd4
    have Hja4 := Lib.hid hja4
    have Hb4 := Lib.hid (Hb3.out.trans (hb4.mono hs02))
    have Hnj4 := Lib.hid hnj4
    clear hd4 hja4 hb4 hnj4 hf4 hG4 hown4
    go_wp2_with fail
    go_loopw [5, 8, 40] (fun a b i wr => ∃ (k : Nat) (D : Dev) (J : JM) (M : List (List UInt8)) (G : Nat → Prop) (j : Nat), k ≤ L.length ∧ i = .int .i64 (k : Int) ∧ a = .pointer (some ⟨j, 0, none⟩) ∧ JInv D J M ∧ D.left = -1 ∧ D.sure.length = 60 ∧ D.Few (10 + k * 2100) ∧ J.number ≤ 1 + k ∧
        DevAt wr w2.heap.size G g D ∧ JAt wr j g J ∧ ¬ G j ∧ w2.heap.size ≤ j ∧ Own1 wr w2.heap.size 9 b (M.map str) ∧ (∀ q, b.ownBlock = some q → ¬ G q) ∧ Below w.heap.size w wr) (fun _ _ i _ => L.length - (intOf i).toNat)
    case atStart => exact ⟨0, D1, _, [], G4, j4, by omega, rfl, rfl, Hi1.out, Hl1.out, Hn1.out, HF1.out, by dsimp only; omega, Hd4.out, Hja4.out, Hnj4.out, hwj4, Own1.nil _ _ _, fun q hq => by simp [Value.ownBlock] at hq, Hb4.out⟩
    case round =>
      clear Hd4 Hja4 Hb4 Hnj4 hwj4 hB4 hBj
      obtain ⟨k, D, J, M, G, j, hk, rfl, rfl, hin, hleft, hlenD, hfew, hnum, hdv, hja, hnj, hwj, hown, hng, hbw⟩ := hrel
      have hopen := (open_cont hin.cont hin.off hin.long).1
      have HM2 := Lib.hid hopen
      by_cases hlt : k < L.length
      · obtain ⟨b, off, rfl, _, hbl, hcells⟩ := Hel.out (by intro e; rw [e] at hlt; simp at hlt)
        obtain ⟨At, nt, Ak, nk, c0, c1, c2, c3, c4', c5, hT, _, _, _⟩ := hcells k hlt
        have d0 := (hbw.cell (p := ⟨b, off + k * 6, none⟩) hbl).trans c0
        have d1 := (hbw.cell (p := ⟨b, off + k * 6 + 1, none⟩) hbl).trans c1
        have d2 := (hbw.cell (p := ⟨b, off + k * 6 + 2, none⟩) hbl).trans c2
        have d3 := (hbw.cell (p := ⟨b, off + k * 6 + 3, none⟩) hbl).trans c3
        have d4 := (hbw.cell (p := ⟨b, off + k * 6 + 4, none⟩) hbl).trans c4'
        have d5 := (hbw.cell (p := ⟨b, off + k * 6 + 5, none⟩) hbl).trans c5
        obtain ⟨hT6, _, hT2000⟩ := Hall.out _ (List.getElem_mem hlt)
        obtain ⟨O, hO⟩ : ∃ O, O = L[k] := ⟨_, rfl⟩
        rw [← hO] at d0 d1 d2 d3 d4 d5 hT hT6 hT2000
        obtain ⟨T, hTt⟩ : ∃ T, T = O.texts := ⟨_, rfl⟩
        rw [← hTt] at d1 hT hT6 hT2000
        have hMT : fewLong T := fun r hr => by have := hT2000 r hr; omega
        have hMlen : M.length ≤ 1000000 := by
          have h1 := recsB_count M
          have h2 := hin.used
          have h3 := hin.fit.used
          have h4 := sideN_le D (by omega)
          omega
        obtain ⟨wo, hwo⟩ : ∃ wo, wo = wr.alloc (.cells #[.int .i64 O.kind, .slice At T.length nt, .int .i64 O.after, .slice Ak O.choice.kept.length nk, .int .i64 O.choice.torn, .int .i64 O.choice.half] 46) := ⟨_, rfl⟩
        have hbo : Below wr.heap.size wr wo := by rw [hwo]; exact (Below.refl _ _).alloc (Nat.le_refl _) _
        have hBo : Blk wo wr.heap.size 46 #[.int .i64 O.kind, .slice At T.length nt, .int .i64 O.after, .slice Ak O.choice.kept.length nk, .int .i64 O.choice.torn, .int .i64 O.choice.half] := by rw [hwo]; exact Blk.new _ _ _
        have o0 := hBo.cell 0
        have o1 := hBo.cell 1
        simp only [List.getElem?_toArray, List.getElem?_cons_zero, List.getElem?_cons_succ] at o0 o1
        have hbwo := below_call hbw hbo
        have HT := Lib.hid (hT.frame (w' := wo) fun q _ hq => hbwo.block q hq)
        have Hdv := Lib.hid (hdv.grow hbo)
        have Hja := Lib.hid (hja.grow hbo)
        have Hown := Lib.hid (hown.grow hbo)
        have Hng := Lib.hid hng
        have Hbw := Lib.hid hbwo
        have Hnj := Lib.hid hnj
        have Hin := Lib.hid hin
        have Hleft := Lib.hid hleft
        have HlenD := Lib.hid hlenD
        have Hfew := Lib.hid hfew
        have Hnum := Lib.hid hnum
        have Hfj := Lib.hid hin.fit
        have HMT := Lib.hid hMT
        have Hwo := Lib.hid hwo
        have HBo := Lib.hid hBo
        have Hnw := Lib.hid (show ¬ (G wr.heap.size ∨ wr.heap.size = j) from fun h => h.elim (fun h => by have := (hdv.low _ h).2; omega) (fun e => by have := hja.blk.lt; omega))
        have hko : ∀ q, Blk wr q 46 #[] → True := fun _ _ => trivial
        clear hko hcells c0 c1 c2 c3 c4' c5 hT hT2000 hO hTt hdv hja hown hng hbw hbwo hnj hin hleft hlenD hfew hnum hMT hopen hbo hwo hBo
        by_cases hk0 : (IntKind.u64.wrap O.kind).tmod 5 = 0
        · obtain ⟨R, hR⟩ : ∃ R, R = addJ J D T := ⟨_, rfl⟩
          have hRlen : R.1.2.sure.length = 60 := by rw [hR, addJ_length, HlenD.out]
          have hRfew : R.1.2.Few (10 + (k + 1) * 2100) := by rw [hR]; exact (addJ_few Hfew.out (by rw [HlenD.out]; omega) _ _).mono (by omega)
          have hcase := add_inv Hin.out (by have := Hnum.out; omega) T HMT.out
          rw [← hR] at hcase
          have HR := Lib.hid hR
          have HRlen := Lib.hid hRlen
          have HRfew := Lib.hid hRfew
          clear hR hRlen hRfew
          go_wp2_with fail
          rw [← Hwo.out]
          refine (jadd_any w2.heap.size G (fun k => k < w.heap.size) j g J D _ T _ Hfj.out (Hfew.out.mono (by omega)) Hdv.out Hja.out Hnj.out HT.out).mono ?_
          rintro e w5 hp5
          have hb5 := hp5.below Hdv.out hwj
          obtain ⟨rfl, G5, hd5, hja5, hnj5, hf5⟩ := hp5
          have Xbw5 := Lib.hid (Hbw.out.trans (hb5.mono hs02))
          have hq5 : ∀ q, u8.ownBlock = some q → ¬ G5 q ∧ w5.heap[q]? = wo.heap[q]? := fun q hq => by
            have hlt := (Hown.out.lt q hq).2
            have h := hf5.block q hlt (fun h => h.elim (fun h => Hng.out q hq h) (fun e => Hown.out.apart Hja.out.blk (by decide) (e ▸ hq)))
            exact ⟨fun hg => h.1 (.inl hg), h.2⟩
          have hown5 := Hown.out.keep fun q hq => (hq5 q hq).2
          have o15 := (HBo.out.keep (hf5.block _ HBo.out.lt Hnw.out).2).cell 1
          simp only [List.getElem?_toArray, List.getElem?_cons_zero, List.getElem?_cons_succ] at o15
          rw [← HR.out] at hd5 hja5 ⊢
          have Hq5 := Lib.hid fun q hq => (hq5 q hq).1
          have Hown5 := Lib.hid hown5
          have Hd5 := Lib.hid hd5
          have Hja5 := Lib.hid hja5
          have Hnj5 := Lib.hid hnj5
          have HT5 := Lib.hid (HT.out.frame fun q hq _ => Xbw5.out.block q hq |>.trans (Hbw.out.block q hq).symm)
          clear hb5 hd5 hja5 hnj5 hf5 hq5 hown5
          rcases hcase with ⟨_, hRe⟩ | ⟨_, hR0, hin2, hus2, hnum2, hleft2⟩ | ⟨_, h, _⟩
          case inr.inr => exact absurd Hleft.out h
          · have HRe := Lib.hid hRe
            rw [HRe.out] at Hd5 Hja5 ⊢
            dsimp only at Hd5 Hja5 ⊢
            have Xown := Hown5
            have Xd := Hd5
            have Xja := Hja5
            have Xnj := Hnj5
            have Xng := Hq5
            have Xbw := Xbw5
            have Hcnt := Lib.hid Hin.out.count
            have Hloo := Lib.hid (show D.loose.length = 0 by rw [Hin.out.cont.loose]; rfl)
            clear Hown5 Hd5 Hja5 Hnj5 Hq5 Xbw5 hRe
            obtain ⟨Aw, cw, hwv, _, _, _⟩ := Xown.out.form
            first | rw [List.length_map, List.length_append] at hwv | rw [List.length_map] at hwv
            first | subst hwv | cases hwv
            have hle := jlen_any w5 j g J Xja.out
            rw [Hcnt.out] at hle
            go_wp2_with fail
            refine hle.mono ?_
            rintro e w' ⟨rfl, rfl⟩
            have hlo := loose_any _ _ _ D _ Xd.out
            rw [Hloo.out, show ((0 : Nat) : Int) = 0 from rfl] at hlo
            go_wp2_with fail
            refine hlo.mono ?_
            rintro e w' ⟨rfl, rfl⟩
            go_wp2
            go_roundw
            case rel => exact ⟨k + 1, D, J, M, G5, j, by omega, by go_num, rfl, Hin.out, Hleft.out, HlenD.out, Hfew.out.mono (by omega), by have := Hnum.out; omega, Xd.out, Xja.out, Xnj.out, hwj, Xown.out, Xng.out, Xbw.out⟩
            case measure => simp [intOf]; omega
          · rw [hR0]
            have HR0 := Lib.hid hR0
            have Hin2 := Lib.hid hin2
            have Hnum2 := Lib.hid hnum2
            have Hleft2 := Lib.hid (hleft2 Hleft.out)
            have Hcnt := Lib.hid Hin2.out.count
            have Hloo := Lib.hid (show R.1.2.loose.length = 0 by rw [Hin2.out.cont.loose]; rfl)
            clear hR0 hin2 hnum2 hleft2
            go_wp2_with fail
            refine (texts_at _ _ T _ HT5.out (by omega)).mono ?_
            rintro e w6 ⟨A6, c6, rfl, hown6, hrd6, hb6⟩
            have hownw := Hown5.out.grow hb6
            obtain ⟨Ab, cb, hbv, _, _, _⟩ := hownw.form
            have hml : (M.map str).length = M.length := List.length_map _
            have Hml := Lib.hid hml
            rw [hml] at hbv
            subst hbv
            have Hownw := Lib.hid hownw
            have Hrd6 := Lib.hid hrd6
            have hs6 := hb6.size
            have hs5 := Hd5.out.size
            have hbase : w2.heap.size ≤ w6.heap.size := by omega
            have Hb6 := Lib.hid hb6
            clear hownw hrd6 hb6 hown6 hml
            go_wp2_with (at_builtin; refine wpList_app1 _ elemS rfl (.tmp 70) (.tmp 73) rfl w2.heap.size _ (M.map str) rfl Hownw.out _ A6 T.length c6 (T.map str) (List.length_map _) rfl Hrd6.out strs_oneCell (by rw [Hml.out]; omega) (by rw [Hml.out]; omega) hbase ?_; intro v7 w7 hown7 hg7 hat7)
            have hne7 : ∀ q, G5 q → some q ≠ (Value.slice Ab M.length cb).ownBlock := fun q hq e => Hq5.out q e.symm hq
            have Xd := Lib.hid ((Hd5.out.grow Hb6.out).keep (fun q hq => hg7.block q ((Hd5.out.grow Hb6.out).low q hq).2 (hne7 q hq)) hg7.size)
            have Xja := Lib.hid (show JAt w7 j g R.1.1 from (Hja5.out.grow Hb6.out).blk.grown hg7 (Hownw.out.apart (Hja5.out.grow Hb6.out).blk (by decide)))
            have Xown := Lib.hid (show Own1 w7 w2.heap.size 9 v7 ((M ++ T).map str) by rw [List.map_append]; exact hown7)
            have Xng := Lib.hid (show ∀ q, v7.ownBlock = some q → ¬ G5 q from fun q hq h => by
              rcases hat7 with e | e
              · rw [e] at hq; exact Hq5.out q hq h
              · rw [e] at hq; cases hq; have := (Hd5.out.low _ h).2; omega)
            have Xbw := Lib.hid ((below_call Xbw5.out Hb6.out).trans ((Hownw.out.below_of hg7 hbase (Nat.le_refl _)).mono hs02))
            have Xnj := Hnj5
            clear hown7 hg7 hat7 hne7 Hq5 Hownw Hrd6 Hb6 Hown5 Hd5 Hja5 Hnj5 Xbw5
            obtain ⟨Aw, cw, hwv, _, _, _⟩ := Xown.out.form
            first | rw [List.length_map, List.length_append] at hwv | rw [List.length_map] at hwv
            first | subst hwv | cases hwv
            have hle := jlen_any w7 j g R.1.1 Xja.out
            rw [Hcnt.out] at hle
            go_wp2_with fail
            refine hle.mono ?_
            rintro e w' ⟨rfl, rfl⟩
            have hlo := loose_any _ _ _ R.1.2 _ Xd.out
            rw [Hloo.out, show ((0 : Nat) : Int) = 0 from rfl] at hlo
            go_wp2_with fail
            refine hlo.mono ?_
            rintro e w' ⟨rfl, rfl⟩
            go_wp2
            go_roundw
            case rel => exact ⟨k + 1, R.1.2, R.1.1, (M ++ T), G5, j, by omega, by go_num, rfl, Hin2.out, Hleft2.out, HRlen.out, HRfew.out, by have := Hnum.out; have := Hnum2.out; omega, Xd.out, Xja.out, Xnj.out, hwj, Xown.out, Xng.out, Xbw.out⟩
            case measure => simp [intOf]; omega
        · by_cases hk1 : (IntKind.u64.wrap O.kind).tmod 5 = 1
          · obtain ⟨R, hR⟩ : ∃ R, R = repJ J D T := ⟨_, rfl⟩
            have hRlen : R.1.2.sure.length = 60 := by rw [hR, repJ_length, HlenD.out]
            have hRfew : R.1.2.Few (10 + (k + 1) * 2100) := by rw [hR]; exact (repJ_few Hfew.out (by rw [HlenD.out]; omega) _ _).mono (by omega)
            have hcase := rep_inv Hin.out (by have := Hnum.out; omega) T HMT.out
            rw [← hR] at hcase
            have HR := Lib.hid hR
            have HRlen := Lib.hid hRlen
            have HRfew := Lib.hid hRfew
            clear hR hRlen hRfew
            go_wp2_with fail
            rw [← Hwo.out]
            refine (jreplace_any w2.heap.size G (fun k => k < w.heap.size) j g J D _ T _ Hfj.out (Hfew.out.mono (by omega)) Hdv.out Hja.out Hnj.out HT.out).mono ?_
            rintro e w5 hp5
            have hb5 := hp5.below Hdv.out hwj
            obtain ⟨rfl, G5, hd5, hja5, hnj5, hf5⟩ := hp5
            have Xbw5 := Lib.hid (Hbw.out.trans (hb5.mono hs02))
            have hq5 : ∀ q, u8.ownBlock = some q → ¬ G5 q ∧ w5.heap[q]? = wo.heap[q]? := fun q hq => by
              have hlt := (Hown.out.lt q hq).2
              have h := hf5.block q hlt (fun h => h.elim (fun h => Hng.out q hq h) (fun e => Hown.out.apart Hja.out.blk (by decide) (e ▸ hq)))
              exact ⟨fun hg => h.1 (.inl hg), h.2⟩
            have hown5 := Hown.out.keep fun q hq => (hq5 q hq).2
            have o15 := (HBo.out.keep (hf5.block _ HBo.out.lt Hnw.out).2).cell 1
            simp only [List.getElem?_toArray, List.getElem?_cons_zero, List.getElem?_cons_succ] at o15
            rw [← HR.out] at hd5 hja5 ⊢
            have Hq5 := Lib.hid fun q hq => (hq5 q hq).1
            have Hown5 := Lib.hid hown5
            have Hd5 := Lib.hid hd5
            have Hja5 := Lib.hid hja5
            have Hnj5 := Lib.hid hnj5
            have HT5 := Lib.hid (HT.out.frame fun q hq _ => Xbw5.out.block q hq |>.trans (Hbw.out.block q hq).symm)
            clear hb5 hd5 hja5 hnj5 hf5 hq5 hown5
            rcases hcase with ⟨_, hRe⟩ | ⟨_, hR0, hin2, hus2, hnum2, hleft2⟩ | ⟨_, h, _⟩
            case inr.inr => exact absurd Hleft.out h
            · have HRe := Lib.hid hRe
              rw [HRe.out] at Hd5 Hja5 ⊢
              dsimp only at Hd5 Hja5 ⊢
              have Xown := Hown5
              have Xd := Hd5
              have Xja := Hja5
              have Xnj := Hnj5
              have Xng := Hq5
              have Xbw := Xbw5
              have Hcnt := Lib.hid Hin.out.count
              have Hloo := Lib.hid (show D.loose.length = 0 by rw [Hin.out.cont.loose]; rfl)
              clear Hown5 Hd5 Hja5 Hnj5 Hq5 Xbw5 hRe
              obtain ⟨Aw, cw, hwv, _, _, _⟩ := Xown.out.form
              first | rw [List.length_map, List.length_append] at hwv | rw [List.length_map] at hwv
              first | subst hwv | cases hwv
              have hle := jlen_any w5 j g J Xja.out
              rw [Hcnt.out] at hle
              go_wp2_with fail
              refine hle.mono ?_
              rintro e w' ⟨rfl, rfl⟩
              have hlo := loose_any _ _ _ D _ Xd.out
              rw [Hloo.out, show ((0 : Nat) : Int) = 0 from rfl] at hlo
              go_wp2_with fail
              refine hlo.mono ?_
              rintro e w' ⟨rfl, rfl⟩
              go_wp2
              go_roundw
              case rel => exact ⟨k + 1, D, J, M, G5, j, by omega, by go_num, rfl, Hin.out, Hleft.out, HlenD.out, Hfew.out.mono (by omega), by have := Hnum.out; omega, Xd.out, Xja.out, Xnj.out, hwj, Xown.out, Xng.out, Xbw.out⟩
              case measure => simp [intOf]; omega
            · rw [hR0]
              have HR0 := Lib.hid hR0
              have Hin2 := Lib.hid hin2
              have Hnum2 := Lib.hid hnum2
              have Hleft2 := Lib.hid (hleft2 Hleft.out)
              have Hcnt := Lib.hid Hin2.out.count
              have Hloo := Lib.hid (show R.1.2.loose.length = 0 by rw [Hin2.out.cont.loose]; rfl)
              clear hR0 hin2 hnum2 hleft2
              go_wp2_with fail
              refine (texts_at _ _ T _ HT5.out (by omega)).mono ?_
              rintro e w6 ⟨A6, c6, rfl, hown6, hrd6, hb6⟩
              have hs5 := Hd5.out.size
              have Xd := Lib.hid (Hd5.out.grow hb6)
              have Xja := Lib.hid (Hja5.out.grow hb6)
              have Xown := Lib.hid (hown6.mono hs5)
              have Xng := Lib.hid (show ∀ q, (Value.slice A6 T.length c6).ownBlock = some q → ¬ G5 q from fun q hq h => by have h1 := (hown6.lt q hq).1; have h2 := (Hd5.out.low _ h).2; omega)
              have Xbw := Lib.hid (below_call Xbw5.out hb6)
              have Xnj := Hnj5
              clear hown6 hrd6 hb6 Hq5 Hown5 Hd5 Hja5 Hnj5 Xbw5
              obtain ⟨Aw, cw, hwv, _, _, _⟩ := Xown.out.form
              first | rw [List.length_map, List.length_append] at hwv | rw [List.length_map] at hwv
              first | subst hwv | cases hwv
              have hle := jlen_any w6 j g R.1.1 Xja.out
              rw [Hcnt.out] at hle
              go_wp2_with fail
              refine hle.mono ?_
              rintro e w' ⟨rfl, rfl⟩
              have hlo := loose_any _ _ _ R.1.2 _ Xd.out
              rw [Hloo.out, show ((0 : Nat) : Int) = 0 from rfl] at hlo
              go_wp2_with fail
              refine hlo.mono ?_
              rintro e w' ⟨rfl, rfl⟩
              go_wp2
              go_roundw
              case rel => exact ⟨k + 1, R.1.2, R.1.1, T, G5, j, by omega, by go_num, rfl, Hin2.out, Hleft2.out, HRlen.out, HRfew.out, by have := Hnum.out; have := Hnum2.out; omega, Xd.out, Xja.out, Xnj.out, hwj, Xown.out, Xng.out, Xbw.out⟩
              case measure => simp [intOf]; omega
          · go_wp2_with fail
            rw [← Hwo.out]
            refine (jopen_any _ _ _ _ _ (Hfew.out.mono (by omega)) Hdv.out).mono ?_
            rintro e w5 ⟨vp, x, rfl, G5, hd5, hf5, ⟨hbad, _⟩ | ⟨_, j5, B5, rfl, hja5, hB5, hG5, hx5, hBj5⟩⟩
            case inl => exact absurd (by rw [HM2.out]) hbad
            rw [HM2.out] at hd5 hja5 hx5 ⊢
            dsimp only at hd5 hja5 hx5 ⊢
            have hb5 := hf5.below (fun k hk => (Hdv.out.low k hk).1) Hdv.out.size
            have hq5 : ∀ q, u8.ownBlock = some q → ¬ G5 q ∧ w5.heap[q]? = wo.heap[q]? := fun q hq => hf5.block q (Hown.out.lt q hq).2 (Hng.out q hq)
            have hown5 := Hown.out.keep fun q hq => (hq5 q hq).2
            obtain ⟨Ab, cb, hbv, _, _, hrb⟩ := hown5.form
            rw [List.length_map] at hbv
            subst hbv
            have hsame := samej_any _ _ x Ab cb M M w5 hx5.isBB' hrb (by have := Hin.out.fit.count; rw [Hin.out.count] at this; exact this)
            have hMM : (M == M) = true := by simp
            unfold SamePost at hsame
            rw [hMM] at hsame
            have Xd := Lib.hid hd5
            have Xja := Lib.hid hja5
            have Xown := Lib.hid hown5
            have Xng := Lib.hid fun q hq => (hq5 q hq).1
            have Xnj := Lib.hid (show ¬ G5 j5 from fun h => by have := hG5 _ h; omega)
            have hwj5 : w2.heap.size ≤ j5 := by have := Hdv.out.size; omega
            have Xbw0 := Lib.hid (Hbw.out.trans (hb5.mono hs02))
            have Hin2 := Lib.hid (open_cont Hin.out.cont Hin.out.off Hin.out.long).2
            have Hcnt := Lib.hid Hin2.out.count
            have Hloo := Lib.hid (show D.loose.length = 0 by rw [Hin.out.cont.loose]; rfl)
            have Hsame := Lib.hid hsame
            obtain ⟨J5, hJ5⟩ : ∃ J5 : JM, J5 = ⟨J.number, J.side, J.used, M.length, false⟩ := ⟨_, rfl⟩
            rw [← hJ5] at Xja Hin2 Hcnt
            have HJ5 := Lib.hid (show J5.number = J.number by rw [hJ5])
            clear hd5 hja5 hown5 hq5 hG5 hb5 hf5 hsame hx5 hrb hMM hJ5
            go_wp2_with fail
            refine Hsame.out.mono ?_
            rintro e w6 ⟨rfl, hb6⟩
            have Xd := Lib.hid (Xd.out.grow hb6)
            have Xja := Lib.hid (Xja.out.grow hb6)
            have Xown := Lib.hid (Xown.out.grow hb6)
            have Xbw := Lib.hid (below_call Xbw0.out hb6)
            clear hb6
            obtain ⟨Aw, cw, hwv, _, _, _⟩ := Xown.out.form
            first | rw [List.length_map, List.length_append] at hwv | rw [List.length_map] at hwv
            first | subst hwv | cases hwv
            have hle := jlen_any w6 j5 g J5 Xja.out
            rw [Hcnt.out] at hle
            go_wp2_with fail
            refine hle.mono ?_
            rintro e w' ⟨rfl, rfl⟩
            have hlo := loose_any _ _ _ D _ Xd.out
            rw [Hloo.out, show ((0 : Nat) : Int) = 0 from rfl] at hlo
            go_wp2_with fail
            refine hlo.mono ?_
            rintro e w' ⟨rfl, rfl⟩
            go_wp2
            go_roundw
            case rel => exact ⟨k + 1, D, J5, M, G5, j5, by omega, by go_num, rfl, Hin2.out, Hleft.out, HlenD.out, Hfew.out.mono (by omega), by rw [HJ5.out]; have := Hnum.out; omega, Xd.out, Xja.out, Xnj.out, hwj5, Xown.out, Xng.out, Xbw.out⟩
            case measure => simp [intOf]; omega
      · obtain rfl : k = L.length := by omega
        have Hdv := Lib.hid hdv
        have Hown := Lib.hid hown
        have Hng := Lib.hid hng
        have Hbw := Lib.hid hbw
        have Hin := Lib.hid hin
        have Hfew := Lib.hid hfew
        clear hdv hja hown hng hbw hnj hin hleft hlenD hfew hnum hopen
        obtain ⟨wo, hwo⟩ : ∃ wo, wo = wr := ⟨_, rfl⟩
        rw [← hwo] at Hdv Hown Hbw
        go_wp2_with fail
        rw [← hwo]
        refine (jopen_any _ _ _ _ _ (Hfew.out.mono (by omega)) Hdv.out).mono ?_
        rintro e w5 ⟨vp, x, rfl, G5, hd5, hf5, ⟨hbad, _⟩ | ⟨_, j5, B5, rfl, hja5, hB5, hG5, hx5, hBj5⟩⟩
        case inl => exact absurd (by rw [HM2.out]) hbad
        rw [HM2.out] at hd5 hja5 hx5 ⊢
        dsimp only at hd5 hja5 hx5 ⊢
        have hb5 := hf5.below (fun k hk => (Hdv.out.low k hk).1) Hdv.out.size
        have hq5 : ∀ q, u8.ownBlock = some q → ¬ G5 q ∧ w5.heap[q]? = wo.heap[q]? := fun q hq => hf5.block q (Hown.out.lt q hq).2 (Hng.out q hq)
        have hown5 := Hown.out.keep fun q hq => (hq5 q hq).2
        obtain ⟨Ab, cb, hbv, _, _, hrb⟩ := hown5.form
        rw [List.length_map] at hbv
        subst hbv
        have hsame := samej_any _ _ x Ab cb M M w5 hx5.isBB' hrb (by have := Hin.out.fit.count; rw [Hin.out.count] at this; exact this)
        have hMM : (M == M) = true := by simp
        unfold SamePost at hsame
        rw [hMM] at hsame
        have Hb5 := Lib.hid (Hbw.out.trans (hb5.mono hs02))
        have Hsame := Lib.hid hsame
        clear hd5 hja5 hown5 hq5 hG5 hb5 hf5 hsame hx5 hrb hMM hwo
        go_wp2_with fail
        refine Hsame.out.mono ?_
        rintro e w6 ⟨rfl, hb6⟩
        go_wp2
        go_ret
        exact ⟨rfl, below_call Hb5.out hb6⟩
end Go.Proofs.Ytjobkmcbindhmaa
