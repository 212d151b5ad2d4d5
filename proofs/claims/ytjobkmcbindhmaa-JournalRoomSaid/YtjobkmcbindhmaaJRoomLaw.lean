/-
  The walk of JournalRoom.
-/
import Derived.Test.YtjobkmcbindhmaaJLives
import Derived.Test.YtjobkmcbindhmaaJFits
import Derived.Test.YtjobkmcbindhmaaRefLie
namespace Go.Proofs.Ytjobkmcbindhmaa
open Go.RowKit
set_option maxRecDepth 100000

theorem isOp_one (w : World) (ok : Nat → Prop) (v : Value) (L : List (List UInt8)) (hv : IsBB w ok v L) :
    IsL kOpJ (w.alloc (.cells #[.int .i64 0, v, .int .i64 0, .slice none 0 0, .int .i64 0, .int .i64 0] 46)) (fun _ => True) (.slice (some ⟨w.heap.size, 0, none⟩) 1 1) [⟨0, L, 0, ⟨[], 0, 0⟩⟩] := by
  have hb : Below w.heap.size w (w.alloc (.cells #[.int .i64 0, v, .int .i64 0, .slice none 0 0, .int .i64 0, .int .i64 0] 46)) := (Below.refl _ _).alloc (Nat.le_refl _) _
  refine ⟨_, 1, _, rfl, Nat.le_refl _, by unfold maxLen; omega, (Blk.new w 46 #[.int .i64 0, v, .int .i64 0, .slice none 0 0, .int .i64 0, .int .i64 0]).rd _ trivial, ?_⟩
  refine kMany.one (c := [.int .i64 0, v, .int .i64 0, .slice none 0 0, .int .i64 0, .int .i64 0]) ?_
  refine ⟨[.int .i64 0], _, rfl, ⟨rfl, (by decide : (Lit.int .i64 0).wf = true)⟩, [v], _, rfl, ⟨v, rfl, (hv.grow hb).weaken fun _ _ => trivial⟩, [.int .i64 0], _, rfl, ⟨rfl, (by decide : (Lit.int .i64 0).wf = true)⟩, ?_⟩
  exact ⟨[.slice none 0 0], _, rfl, kSlice_iff.2 IsL.nil, [.int .i64 0], _, rfl, ⟨rfl, (by decide : (Lit.int .i64 0).wf = true)⟩, rfl, (by decide : (Lit.int .i64 0).wf = true)⟩
theorem fitsJ_out {n : Int} {o : OpJ} (h : fitsJ n [o] = true) : 6 ≤ n ∧ n ≤ 14 ∧ o.texts.length ≤ 6 ∧ o.choice.kept.length ≤ 70 ∧ ∀ s ∈ o.texts, s.length ≤ 2000 := by
  unfold fitsJ opjFits at h
  simp only [Bool.and_eq_true, decide_eq_true_eq, List.all_eq_true, List.mem_cons, List.not_mem_nil, or_false, forall_eq] at h
  exact ⟨h.1.1.1, h.1.1.2, h.2.1.1, h.2.1.2, h.2.2⟩

set_option maxHeartbeats 1000000 in
theorem journalroom_walk (n : Int) (v : Value) (L : List (List UInt8)) (w : World) (_ : -9223372036854775808 ≤ n ∧ n ≤ 9223372036854775807) (hv : IsBB w (fun _ => True) v L) :
    Calls Try.prog 5 #[.int .i64 n, v] w fun e w' => e = .returned (.bool true) ∧ Below w.heap.size w w' := by
  obtain ⟨A, c, rfl, hc, hm, hel⟩ := hv.elem
  have Hel := Lib.hid hel
  have Hv := Lib.hid hv
  unfold maxLen at hm
  have hLm : L.length ≤ 9223372036854775807 := by omega
  clear hel hv
  have hfit := fun (z : World) (hz : Below w.heap.size w z) => fitsj_any (fun _ => True) (.slice (some ⟨z.heap.size, 0, none⟩) 1 1) n [⟨0, L, 0, ⟨[], 0, 0⟩⟩] _ (isOp_one z _ _ L (Hv.out.grow hz))
  have Hfit := Lib.hid hfit
  clear hfit
  cases hF : fitsJ n [⟨0, L, 0, ⟨[], 0, 0⟩⟩] with
  | false =>
    rw [hF] at Hfit
    clear hF
    go_enter Try.func5, Try.ntmps5
    go_wp2_with fail
    refine (lives_any _).mono ?_
    rintro e w1 ⟨rfl, hb1⟩
    go_wp2_with fail
    refine (Hfit.out _ hb1).mono ?_
    rintro e w2 ⟨rfl, hb2⟩
    have hb02 := below_call (hb1.alloc hb1.size _) hb2
    go_wp2_with fail
    refine (lives_any _).mono ?_
    rintro e w3 ⟨rfl, hb3⟩
    go_wp2
    go_ret
    exact ⟨rfl, below_call hb02 hb3⟩
  | true =>
    obtain ⟨h6, h14, ht6, _, hlen⟩ := fitsJ_out hF
    dsimp only at ht6 hlen
    rw [hF] at Hfit
    obtain ⟨m, rfl⟩ := Int.eq_ofNat_of_zero_le (show 0 ≤ n by omega)
    obtain ⟨D1, ho1, hi1, hl1, hn1, hc1, hlo1⟩ := open_new m (by omega) (by omega)
    have hs1 : sideN D1 = (m - 2) / 2 := by unfold sideN; rw [hn1]
    have hroom : (sideN D1 * 256 : Nat) = (m - 2) / 2 * 256 := by rw [hs1]
    obtain ⟨T, hT⟩ : ∃ T, T = sideN D1 * 256 := ⟨_, rfl⟩
    have hT6 : T ≤ 1536 := by omega
    have HF1 := Lib.hid (show D1.Few 10 from ⟨by rw [hlo1]; decide, by rw [hc1]; decide⟩)
    have HM := Lib.hid ho1
    have Hi1 := Lib.hid hi1
    have Hl1 := Lib.hid hl1
    have Hn1 := Lib.hid hn1
    have Hlen := Lib.hid hlen
    have HT := Lib.hid hT
    have Hs1 := Lib.hid hs1
    have Hroom := Lib.hid hroom
    clear hF ho1 hi1 hl1 hn1 hc1 hlo1 hlen hT hs1 hroom
    go_enter Try.func5, Try.ntmps5
    go_wp2_with fail
    refine (lives_any _).mono ?_
    rintro e w1 ⟨rfl, hb1⟩
    go_wp2_with fail
    refine (Hfit.out _ hb1).mono ?_
    rintro e w2 ⟨rfl, hb2⟩
    have hb02 := below_call (hb1.alloc hb1.size _) hb2
    clear hb1 hb2
    go_wp2_with fail
    refine (new_ok m w2 (by omega) (by omega)).mono ?_
    rintro e w3 ⟨g, F3, rfl, hd3, hb3⟩
    have Hd3 := Lib.hid hd3
    have Hb3 := Lib.hid (below_call hb02 hb3)
    have hs02 := hb02.size
    have hs23 := hb3.size
    clear hd3 hb3 hb02
    go_wp2_with fail
    refine (jopen_any _ _ _ _ _ (newD_few m 900000) Hd3.out).mono ?_
    rintro e w4 ⟨vp, x, rfl, G4, hd4, hf4, ⟨hbad, _⟩ | ⟨_, j, B4, rfl, hja4, hB4, hG4, hx4, hBj⟩⟩
    · rw [HM.out] at hbad
      exact absurd rfl hbad
    rw [HM.out] at hd4 hja4 hx4 ⊢
    dsimp only at hd4 hja4 hx4 ⊢
    obtain ⟨vs4, hown4, hvl4, _⟩ := hx4
    obtain ⟨A4, c4, hxe4, _, _, _⟩ := hown4.form
    rw [hvl4, List.length_nil] at hxe4
    subst hxe4
    have hb4 := hf4.below (fun k hk => (Hd3.out.low k hk).1) Hd3.out.size
    have hnj4 : ¬ G4 j := fun h => by have := hG4 _ h; omega
    have hwj : w2.heap.size ≤ j := by omega
    have hro := jroom_any w2.heap.size G4 w4 j g D1 _ hja4 hd4 (Nat.zero_le _)
    dsimp only at hro
    rw [Nat.sub_zero, ← HT.out] at hro
    have Hro := Lib.hid hro
    have Hd4 := Lib.hid hd4
    have Hja4 := Lib.hid hja4
    have Hb4 := Lib.hid (Hb3.out.trans (hb4.mono hs02))
    have Hnj4 := Lib.hid hnj4
    clear hd4 hja4 hb4 hnj4 hf4 hG4 hown4 hro
    have hTi : ((m : Int) - 2) / 2 * 256 = (T : Int) := by have := HT.out; have := Hroom.out; omega
    have HTi := Lib.hid hTi
    clear hTi
    go_wp2_with fail
    rw [HTi.out]
    refine Hro.out.mono ?_
    rintro e w5 ⟨rfl, hb5⟩
    have Hd5 := Lib.hid (Hd4.out.grow hb5)
    have Hja5 := Lib.hid (Hja4.out.grow hb5)
    have Hb5 := Lib.hid (below_call Hb4.out hb5)
    clear hb5
    go_wp2_with fail
    go_loopw [53] (fun i wr => ∃ (k : Nat) (D : Dev) (J : JM) (M : List (List UInt8)) (G : Nat → Prop), k ≤ L.length ∧ i = .int .i64 (k : Int) ∧ JInv D J M ∧ D.left = -1 ∧ D.sure.length = m ∧ D.Few (10 + k * 2100) ∧ J.number ≤ 1 + k ∧ DevAt wr w2.heap.size G g D ∧ JAt wr j g J ∧ ¬ G j ∧ Below w.heap.size w wr) (fun i _ => L.length - (intOf i).toNat)
    case atStart => exact ⟨0, D1, _, [], G4, by omega, rfl, Hi1.out, Hl1.out, Hn1.out, HF1.out, by dsimp only; omega, Hd5.out, Hja5.out, Hnj4.out, Hb5.out⟩
    case round =>
      clear Hd5 Hja5 Hb5 Hd4 Hja4 Hb4 Hnj4
      obtain ⟨k, D, J, M, G, hk, rfl, hin, hleft, hlenD, hfew, hnum, hdv, hja, hnj, hbw⟩ := hrel
      have hsn : sideN D = sideN D1 := by unfold sideN; rw [hlenD, Hn1.out]
      have hT' : sideN D * 256 = T := by rw [hsn]; exact HT.out.symm
      have hfitJ := hin.fit
      have hused := hfitJ.used
      rw [hT'] at hused
      by_cases hlt : k < L.length
      · obtain ⟨b, off, rfl, _, hbl, hcells⟩ := Hel.out (by intro e; rw [e] at hlt; simp at hlt)
        obtain ⟨Ai, ci, hcell, hci, hcm, hri⟩ := hcells k hlt
        have hcell2 := (hbw.cell (p := ⟨b, off + k, none⟩) hbl).trans hcell
        have hr2000 := Hlen.out _ (List.getElem_mem hlt)
        obtain ⟨r, hr⟩ : ∃ r, r = L[k] := ⟨_, rfl⟩
        rw [← hr] at hcell2 hci hri hr2000
        have hB : IsB wr (fun _ => True) (.slice Ai r.length ci) r := ⟨Ai, ci, rfl, hci, hcm, (hri.frame (fun q _ hq => hbw.block q hq)).weaken fun _ _ => trivial⟩
        have hcv := conv_is hB
        have hM1 : fewLong [r] := fun x hx => by rw [List.mem_singleton.1 hx]; omega
        have hb6 : Below wr.heap.size wr (wr.alloc (.cells #[str r] 9)) := (Below.refl _ _).alloc (Nat.le_refl _) _
        have hrd6 : Rd (wr.alloc (.cells #[str r] 9)) (fun _ => True) (some ⟨wr.heap.size, 0, none⟩) ([r].map str) := (Blk.new wr 9 #[str r]).rd _ trivial
        have hNle : (recsB [r]).length ≤ 2007 := by
          have := (recB_length r).2
          show (recB r ++ []).length ≤ _
          rw [List.append_nil]
          omega
        have hlie := reflie_any (fun _ => True) (some ⟨wr.heap.size, 0, none⟩) 1 [r] _ hrd6 (by simp) (by omega) hM1
        obtain ⟨X, hX⟩ : ∃ X, X = recsB [r] := ⟨_, rfl⟩
        rw [← hX] at hlie hNle
        obtain ⟨N, hN⟩ : ∃ N, N = X.length := ⟨_, rfl⟩
        rw [← hN] at hNle
        obtain ⟨U, hU⟩ : ∃ U, U = T - J.used := ⟨_, rfl⟩
        obtain ⟨R, hR⟩ : ∃ R, R = addJ J D [r] := ⟨_, rfl⟩
        have hRlen : R.1.2.sure.length = m := by rw [hR, addJ_length, hlenD]
        have hRfew : R.1.2.Few (10 + (k + 1) * 2100) := by rw [hR]; exact (addJ_few hfew (by omega) _ _).mono (by omega)
        have hcase := add_inv hin (by omega) [r] hM1
        rw [← hR, ← hX, ← hN, hT', ← hU] at hcase
        have HB := Lib.hid hB
        have Hb6 := Lib.hid hb6
        have Hlie := Lib.hid hlie
        have HX := Lib.hid hX
        have HN := Lib.hid hN
        have HU := Lib.hid hU
        have HR := Lib.hid hR
        have HRlen := Lib.hid hRlen
        have HRfew := Lib.hid hRfew
        have Hfj := Lib.hid hfitJ
        have Hfew := Lib.hid hfew
        have Hdv := Lib.hid hdv
        have Hja := Lib.hid hja
        have Hnj := Lib.hid hnj
        have Hbw := Lib.hid hbw
        have HTD := Lib.hid hT'
        have Hhr := Lib.hid hr
        have Hnum := Lib.hid hnum
        have Hin := Lib.hid hin
        have Hleft := Lib.hid hleft
        have HlenD := Lib.hid hlenD
        have hUT : U ≤ 1536 := by omega
        have Hus := Lib.hid hused
        clear hcells hcell hri hB hb6 hrd6 hlie hX hN hU hR hRlen hRfew hfitJ hfew hdv hja hnj hbw hT' hsn hr hnum hin hleft hlenD hused hci hcm hr2000 hM1
        rcases hcase with ⟨hno, hR5⟩ | ⟨hyes, hR0, hin2, hus2, hnum2, hleft2⟩ | ⟨_, h, _⟩
        case inr.inr => exact absurd Hleft.out h
        · have HR5 := Lib.hid hR5
          have hno' : ¬ ((N : Int) ≤ (U : Int)) := by omega
          clear hR5
          go_wp2_with fail
          refine Hlie.out.mono ?_
          rintro e w6 ⟨rfl, hb6⟩
          have hb06 := below_call Hb6.out hb6
          go_wp2_with fail
          rw [← HN.out]
          refine (jroom_any w2.heap.size G w6 j g D J (Hja.out.grow hb06) (Hdv.out.grow hb06) (by rw [HTD.out]; exact Hus.out)).mono ?_
          rintro e w7 ⟨rfl, hb7⟩
          rw [HTD.out, ← HU.out]
          have hb07 := below_call hb06 hb7
          have hbz : Below w7.heap.size w7 (w7.alloc (.cells #[.slice Ai r.length ci] 48)) := (Below.refl _ _).alloc (Nat.le_refl _) _
          have hbb : IsBB (w7.alloc (.cells #[.slice Ai r.length ci] 48)) (fun _ => True) (.slice (some ⟨w7.heap.size, 0, none⟩) 1 1) [r] := by
            refine isBB_of [(.slice Ai r.length ci, r)] (by simp) (by unfold maxLen; omega) ((Blk.new w7 48 #[.slice Ai r.length ci]).rd _ trivial) ?_
            intro p hp
            simp only [List.mem_cons, List.not_mem_nil, or_false] at hp
            subst hp
            exact (HB.out.grow hb07).grow hbz
          have hb08 := below_call hb07 hbz
          have Hadd := Lib.hid (jadd_any w2.heap.size G (fun _ => True) j g J D _ [r] _ Hfj.out (Hfew.out.mono (by omega)) (Hdv.out.grow hb08) (Hja.out.grow hb08) Hnj.out hbb)
          rw [← HR.out] at Hadd
          have Hd7 := Lib.hid (Hdv.out.grow hb07)
          have Hd8 := Lib.hid (Hdv.out.grow hb08)
          have Hb08 := Lib.hid (below_call Hbw.out hb08)
          clear hb6 hb06 hb7 hb07 hbz hbb hb08
          go_wp2_with fail
          refine (changes_any _ _ _ D _ Hd7.out).mono ?_
          rintro e w' ⟨rfl, rfl⟩
          go_wp2_with fail
          refine Hadd.out.mono ?_
          rintro e w9 hp9
          have hb9 := hp9.below Hd8.out hwj
          obtain ⟨rfl, G9, hd9, hja9, hnj9, _⟩ := hp9
          have Hb9 := Lib.hid (Hb08.out.trans (hb9.mono hs02))
          have Hnj9 := Lib.hid hnj9
          clear hb9 hnj9
          rw [HR5.out] at hd9 hja9 ⊢
          dsimp only at hd9 hja9 ⊢
          have hro := jroom_any w2.heap.size G9 w9 j g D J hja9 hd9 (by rw [HTD.out]; exact Hus.out)
          rw [HTD.out, ← HU.out] at hro
          have Hro := Lib.hid hro
          have Hd9 := Lib.hid hd9
          have Hja9 := Lib.hid hja9
          clear hro hd9 hja9
          go_wp2_with fail
          refine Hro.out.mono ?_
          rintro e w10 ⟨rfl, hb10⟩
          go_wp2_with fail
          refine (changes_any _ _ _ D _ (Hd9.out.grow hb10)).mono ?_
          rintro e w' ⟨rfl, rfl⟩
          go_wp2
          go_roundw
          case rel => exact ⟨k + 1, D, J, M, G9, by omega, by go_num, Hin.out, Hleft.out, HlenD.out, Hfew.out.mono (by omega), by have := Hnum.out; omega, Hd9.out.grow hb10, Hja9.out.grow hb10, Hnj9.out, below_call Hb9.out hb10⟩
          case measure => simp [intOf]; omega
        · have hyes' : (N : Int) ≤ (U : Int) := by omega
          obtain ⟨V, hV⟩ : ∃ V : Nat, V = U - N := ⟨_, rfl⟩
          have hVU : ((V : Int) != (U : Int) - (N : Int)) = false := by simp; omega
          have hR1 : R.1.1.used ≤ sideN R.1.2 * 256 := hin2.fit.used
          have hRt : sideN R.1.2 * 256 = T := by rw [← HTD.out]; unfold sideN; rw [HRlen.out, HlenD.out]
          have hRv : T - R.1.1.used = V := by have := HU.out; omega
          have HR0 := Lib.hid hR0
          have Hin2 := Lib.hid hin2
          have Hnum2 := Lib.hid hnum2
          have Hleft2 := Lib.hid (hleft2 Hleft.out)
          have HR1 := Lib.hid hR1
          have HRt := Lib.hid hRt
          have HRv := Lib.hid hRv
          have HVU := Lib.hid hVU
          clear hR0 hin2 hus2 hnum2 hleft2 hR1 hRt hRv hV hVU
          go_wp2_with fail
          refine Hlie.out.mono ?_
          rintro e w6 ⟨rfl, hb6⟩
          have hb06 := below_call Hb6.out hb6
          go_wp2_with fail
          rw [← HN.out]
          refine (jroom_any w2.heap.size G w6 j g D J (Hja.out.grow hb06) (Hdv.out.grow hb06) (by rw [HTD.out]; exact Hus.out)).mono ?_
          rintro e w7 ⟨rfl, hb7⟩
          rw [HTD.out, ← HU.out]
          have hb07 := below_call hb06 hb7
          have hbz : Below w7.heap.size w7 (w7.alloc (.cells #[.slice Ai r.length ci] 48)) := (Below.refl _ _).alloc (Nat.le_refl _) _
          have hbb : IsBB (w7.alloc (.cells #[.slice Ai r.length ci] 48)) (fun _ => True) (.slice (some ⟨w7.heap.size, 0, none⟩) 1 1) [r] := by
            refine isBB_of [(.slice Ai r.length ci, r)] (by simp) (by unfold maxLen; omega) ((Blk.new w7 48 #[.slice Ai r.length ci]).rd _ trivial) ?_
            intro p hp
            simp only [List.mem_cons, List.not_mem_nil, or_false] at hp
            subst hp
            exact (HB.out.grow hb07).grow hbz
          have hb08 := below_call hb07 hbz
          have Hadd := Lib.hid (jadd_any w2.heap.size G (fun _ => True) j g J D _ [r] _ Hfj.out (Hfew.out.mono (by omega)) (Hdv.out.grow hb08) (Hja.out.grow hb08) Hnj.out hbb)
          rw [← HR.out] at Hadd
          have Hd7 := Lib.hid (Hdv.out.grow hb07)
          have Hd8 := Lib.hid (Hdv.out.grow hb08)
          have Hb08 := Lib.hid (below_call Hbw.out hb08)
          clear hb6 hb06 hb7 hb07 hbz hbb hb08
          go_wp2_with fail
          refine (changes_any _ _ _ D _ Hd7.out).mono ?_
          rintro e w' ⟨rfl, rfl⟩
          go_wp2_with fail
          refine Hadd.out.mono ?_
          rintro e w9 hp9
          have hb9 := hp9.below Hd8.out hwj
          obtain ⟨rfl, G9, hd9, hja9, hnj9, _⟩ := hp9
          have Hb9 := Lib.hid (Hb08.out.trans (hb9.mono hs02))
          have Hnj9 := Lib.hid hnj9
          clear hb9 hnj9
          rw [HR0.out]
          have hro := jroom_any w2.heap.size G9 w9 j g R.1.2 R.1.1 hja9 hd9 HR1.out
          rw [HRt.out, HRv.out] at hro
          have Hro := Lib.hid hro
          have Hd9 := Lib.hid hd9
          have Hja9 := Lib.hid hja9
          have hVU := HVU.out
          clear hro hd9 hja9
          go_wp2_with fail
          refine Hro.out.mono ?_
          rintro e w10 ⟨rfl, hb10⟩
          go_wp2
          go_roundw
          case rel => exact ⟨k + 1, R.1.2, R.1.1, M ++ [r], G9, by omega, by go_num, Hin2.out, Hleft2.out, HRlen.out, HRfew.out, by have := Hnum.out; have := Hnum2.out; omega, Hd9.out.grow hb10, Hja9.out.grow hb10, Hnj9.out, below_call Hb9.out hb10⟩
          case measure => simp [intOf]; omega
      · obtain rfl : k = L.length := by omega
        obtain ⟨R, hR⟩ : ∃ R, R = repJ J D [] := ⟨_, rfl⟩
        have hcase := rep_inv hin (by omega) [] (fun x hx => by simp at hx)
        rw [← hR] at hcase
        rcases hcase with ⟨hno, _⟩ | ⟨_, hR0, hin2, hus2, _, _⟩ | ⟨_, h, _⟩
        case inl => exact absurd hno (by simp [recsB])
        case inr.inr => exact absurd hleft h
        have hRlen : R.1.2.sure.length = m := by rw [hR, repJ_length, hlenD]
        have hRt : sideN R.1.2 * 256 = T := by rw [← hT']; unfold sideN; rw [hRlen, hlenD]
        have hRu : R.1.1.used = 0 := hus2
        have hcnt : R.1.1.count = 0 := hin2.count
        have hloo : R.1.2.loose.length = 0 := by rw [hin2.cont.loose]; rfl
        have HR := Lib.hid hR
        have HR0 := Lib.hid hR0
        have HRt := Lib.hid hRt
        have HRu := Lib.hid hRu
        have Hcnt := Lib.hid hcnt
        have Hloo := Lib.hid hloo
        have Hfj := Lib.hid hfitJ
        have Hfew := Lib.hid hfew
        have Hdv := Lib.hid hdv
        have Hja := Lib.hid hja
        have Hnj := Lib.hid hnj
        have Hbw := Lib.hid hbw
        clear hR hR0 hin2 hus2 hRlen hRt hRu hcnt hloo hfitJ hfew hdv hja hnj hbw hin hleft hlenD hsn hT' hused hnum
        go_wp2_with fail
        refine (jreplace_any w2.heap.size G (fun _ => True) j g J D _ [] _ Hfj.out (Hfew.out.mono (by omega)) Hdv.out Hja.out Hnj.out (isBB_none _)).mono ?_
        rintro e w9 hp9
        have hb9 := hp9.below Hdv.out hwj
        obtain ⟨rfl, G9, hd9, hja9, hnj9, _⟩ := hp9
        rw [← HR.out] at hd9 hja9 ⊢
        rw [HR0.out]
        have hro := jroom_any w2.heap.size G9 w9 j g R.1.2 R.1.1 hja9 hd9 (by rw [HRu.out]; exact Nat.zero_le _)
        rw [HRt.out, HRu.out, Nat.sub_zero] at hro
        have Hro := Lib.hid hro
        have Hd9 := Lib.hid hd9
        have Hja9 := Lib.hid hja9
        have Hb9 := Lib.hid (Hbw.out.trans (hb9.mono hs02))
        clear hro hd9 hja9 hb9
        go_wp2_with fail
        refine Hro.out.mono ?_
        rintro e w10 ⟨rfl, hb10⟩
        have hle := jlen_any w10 j g R.1.1 (Hja9.out.grow hb10)
        rw [Hcnt.out, show ((0 : Nat) : Int) = 0 from rfl] at hle
        go_wp2_with fail
        refine hle.mono ?_
        rintro e w' ⟨rfl, rfl⟩
        have hlo := loose_any _ _ _ R.1.2 _ (Hd9.out.grow hb10)
        rw [Hloo.out, show ((0 : Nat) : Int) = 0 from rfl] at hlo
        go_wp2_with fail
        refine hlo.mono ?_
        rintro e w' ⟨rfl, rfl⟩
        go_wp2
        go_ret
        exact ⟨rfl, below_call Hb9.out hb10⟩
end Go.Proofs.Ytjobkmcbindhmaa
