/-
  The document's lists of versions: Heads, Sweep, Unseen, has, Data, Same, Fine; fits.
-/
import Derived.Test.YtnehoabeameioaaVeThose
import Derived.Test.YtnehoabeameioaaVeFind
import Derived.Test.YtnehoabeameioaaVecA
namespace Go.Proofs.Ytnehoabeameioaa
open Go.RowKit
set_option maxRecDepth 100000

/-- What is at hand of one version of a list, in whatever world has come of this one. -/
theorem ver_here {w : World} {A : Option Addr} {L : List Ver} {ok : Nat → Prop} (hL : L ≠ [] → ∃ b off, A = some ⟨b, off, none⟩ ∧ ok b ∧ b < w.heap.size ∧ ∀ (i : Nat) (hi : i < L.length), w.rangeAt b (off + i * 11) (verC L[i]).toList ∧ VerOk L[i]) {k : Nat} (hk : k < L.length) {wr : World} (hb : Below w.heap.size w wr) :
    ∃ b off, A = some ⟨b, off, none⟩ ∧ VerOk L[k] ∧ VerCells wr b (off + k * 11) L[k] := by
  obtain ⟨b, off, hA, _, _, hel⟩ := hL (by intro e; subst e; simp at hk)
  exact ⟨b, off, hA, (hel k hk).2, verCells (range_ext (hel k hk).1 hb)⟩

set_option maxHeartbeats 1000000 in
theorem refheads_any (ok : Nat → Prop) (v : Value) (L : List Ver) (w : World) (hL : IsL kVer w ok v L) (hl : L.length ≤ 1000) :
    Calls Try.prog 20 #[v] w fun e w' => (∃ u, e = .returned u ∧ OwnV w' w.heap.size u (L.filter headV)) ∧ Below w.heap.size w w' := by
  obtain ⟨A, c, rfl, hc1, hc2, hL⟩ := ver_at hL
  have hm : maxLen ≤ 9223372036854775807 := by decide
  have Hel := Lib.hid hL
  obtain ⟨n, hn⟩ : ∃ n, n = L.length := ⟨_, rfl⟩
  rw [← hn] at hc1 hl ⊢
  have Hn := Lib.hid hn
  clear hL hn
  go_enter Try.func20, Try.ntmps20
  go_wp2_with fail
  go_loopw [3, 4] (fun s i wr => ∃ (k : Nat), k ≤ n ∧ i = .int .i64 (k : Int) ∧ Hid (OwnV wr w.heap.size s ((L.take k).filter headV)) ∧ Hid (Below w.heap.size w wr)) (fun _ i _ => n - (intOf i).toNat)
  case atStart => exact ⟨0, by omega, rfl, Lib.hid (by rw [List.take_zero]; exact OwnV.nil _ _), Lib.hid (Below.refl _ _)⟩
  case round =>
    obtain ⟨k, hk, rfl, Hown, Hbw⟩ := hrel
    by_cases hlt : k < n
    · have hkl : k < L.length := by rw [← Hn.out]; exact hlt
      obtain ⟨b, off, rfl, hxok, hxc⟩ := ver_here Hel.out hkl Hbw.out
      have htk : L.take (k + 1) = L.take k ++ [L[k]] := by rw [List.take_succ_eq_append_getElem hkl]
      obtain ⟨x, hxe⟩ : ∃ x, x = L[k] := ⟨_, rfl⟩
      rw [← hxe] at hxok hxc htk
      have R := Lib.hid hxc.all
      have Hxok := Lib.hid hxok
      have Htk := Lib.hid htk
      have hhd := fun z => refhead_any x z
      obtain ⟨q, hq⟩ : ∃ q, q = headV x := ⟨_, rfl⟩
      rw [← hq] at hhd
      have Hq := Lib.hid hq
      have hlen : ((L.take k).filter headV).length ≤ 1000 := Nat.le_trans (List.length_filter_le _ _) (by rw [List.length_take]; omega)
      obtain ⟨M, hM⟩ : ∃ M, M = (L.take k).filter headV := ⟨_, rfl⟩
      rw [← hM] at Hown hlen
      have HM := Lib.hid hM
      obtain ⟨C, hC⟩ : ∃ C, C = verC x := ⟨_, rfl⟩
      have hsz : C.size = 11 := by rw [hC]; rfl
      have hinfL : (Try.prog.info? 39).map (·.size) = some C.toList.length := by rw [hC]; exact ver_info
      have hfold := fold_ver x
      have HC := Lib.hid hC
      rw [← hC] at R hhd hfold
      have HinfL := Lib.hid hinfL
      have Hfold := Lib.hid hfold
      have Hhd := Lib.hid hhd
      clear hxok hxc htk hxe hq hM hC hinfL hfold hhd
      cases q with
      | false =>
        have HM2 := Lib.hid (show (L.take (k + 1)).filter headV = M by rw [Htk.out, List.filter_append, HM.out]; simp [← Hq.out])
        go_wp2_with (first | (refine wpList_load_mid (op := ⟨some 14, _, _, _, _, _⟩) rfl 39 (.tmp 13) rfl b (off + k * 11) rfl _ _ R.out Try.underlying39 rfl HinfL.out ?_) | (go_at_call 22; go_must (refine (Hhd.out _).mono ?_; rintro e1 w1 ⟨rfl, hb1⟩; have HB1 := Lib.hid hb1; clear hb1)))
        go_roundw
        case rel => exact ⟨k + 1, by omega, by go_num, Lib.hid (by rw [HM2.out]; exact Hown.out.grow HB1.out), Lib.hid (below_call Hbw.out HB1.out)⟩
        case measure => simp [intOf]; omega
      | true =>
        have HM2 := Lib.hid (show (L.take (k + 1)).filter headV = M ++ [x] by rw [Htk.out, List.filter_append, HM.out]; simp [← Hq.out])
        go_upto_region 6 with (first | (refine wpList_load_mid (op := ⟨some 14, _, _, _, _, _⟩) rfl 39 (.tmp 13) rfl b (off + k * 11) rfl _ _ R.out Try.underlying39 rfl HinfL.out ?_) | (go_at_call 22; go_must (refine (Hhd.out _).mono ?_; rintro e1 w1 ⟨rfl, hb1⟩; have HB1 := Lib.hid hb1; clear hb1)))
        have R1 := Lib.hid (range_ext R.out HB1.out)
        have Hown2 := Lib.hid (Hown.out.grow HB1.out)
        have Hbel2 := Lib.hid (below_call Hbw.out HB1.out)
        have hws2 := Hbel2.out.size
        go_wp2_with (first | (refine wpList_load_mid (op := ⟨some 20, _, _, _, _, _⟩) rfl 39 (.tmp 19) rfl b (off + k * 11) rfl _ _ R1.out Try.underlying39 rfl HinfL.out ?_) | (at_builtin; go_must (rw [Hfold.out]; refine wpList_app_ver w1 rfl (.tmp 16) (.tmp 21) rfl w.heap.size u3 M rfl Hown2.out C x HC.out Hxok.out 39 rfl (by omega) hws2 ?_; intro v9 w9 hown9 hg9 hat9; have Hown9 := Lib.hid hown9; have Hg9 := Lib.hid hg9; clear hown9 hg9 hat9)))
        go_roundw
        case rel => exact ⟨k + 1, by omega, by go_num, Lib.hid (by rw [HM2.out]; exact Hown9.out), Lib.hid (Hbel2.out.trans (Hown2.out.1.below_of Hg9.out hws2 (Nat.le_refl _)))⟩
        case measure => simp [intOf]; omega
    · obtain rfl : k = n := by omega
      have hall : (L.take k).filter headV = L.filter headV := by rw [List.take_of_length_le (by rw [Hn.out]; exact Nat.le_refl _)]
      rw [hall] at Hown
      go_wp2_with fail
      go_ret
      exact ⟨⟨_, rfl, Hown.out⟩, Hbw.out⟩
end Go.Proofs.Ytnehoabeameioaa
