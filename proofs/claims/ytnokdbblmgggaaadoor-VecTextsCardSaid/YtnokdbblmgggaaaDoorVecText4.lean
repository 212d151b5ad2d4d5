/-
  A text as a vector: vec.Read.
-/
import Derived.Test.YtnokdbblmgggaaaDoorVecText3
namespace Go.Proofs.YtnokdbblmgggaaaDoor
open Go.RowKit
set_option maxRecDepth 100000

theorem blk_lt {w : World} {g : Nat} {t : TypeId} {cs : Array Value} (h : Blk w g t cs) : g < w.heap.size := (Array.getElem?_eq_some_iff.1 h).1
def strLen : Value → Nat
  | .string b => b.size
  | _ => 0
theorem readIs_yes {s : List UInt8} {U : Nat → Nat} (h : okV U) (hw : writeT U = s) : ReadIs s U 0 := Or.inl ⟨h, hw, rfl⟩
theorem readIs_no {s : List UInt8} {U : Nat → Nat} (hgood : ∀ V, okV V → writeT V = s → Good V [] U) (hw : writeT U ≠ s) : ReadIs s zeroV 7 :=
  Or.inr ⟨fun V hV h => hw ((writeT_congr (good_end (hgood V hV h))).trans h), rfl, rfl⟩
theorem readIs_bad {s : List UInt8} {R : List UInt8} {U : Nat → Nat} (hgood : ∀ V, okV V → writeT V = s → Good V R U) (hR : R ≠ []) (hn : rpart (Lib.cut R [32]).1 = none) : ReadIs s zeroV 7 :=
  Or.inr ⟨fun V hV h => by
    obtain ⟨j, hj, hc, _⟩ := good_step (hgood V hV h) hR
    rw [hc, rpart_part hV hj] at hn
    (cases hn), rfl, rfl⟩
theorem good_next {s : List UInt8} {R : List UInt8} {U : Nat → Nat} {r : Int} {q : Nat} (hgood : ∀ V, okV V → writeT V = s → Good V R U) (hR : R ≠ []) (hn : rpart (Lib.cut R [32]).1 = some (r, q)) :
    ∀ V, okV V → writeT V = s → Good V (Lib.cut R [32]).2.1 (withV U r q) := fun V hV h => by
  obtain ⟨j, hj, hc, hg⟩ := good_step (hgood V hV h) hR
  rw [hc, rpart_part hV hj] at hn
  cases hn
  exact hg

set_option maxHeartbeats 2000000 in
theorem vecread_any (s : List UInt8) (hs : s.length ≤ 400) (w : World) (he : Env w) :
    Calls Tryd.prog 6 #[.string ⟨s.toArray⟩] w fun e w' => Below w.heap.size w w' ∧ ∃ U x, ReadIs s U x ∧ e = .returned (.tuple #[vv U, .int .i64 x]) := by
  have hA0 : Blk ((w.alloc (.cells (av zeroV) 24)).alloc (.cells (av zeroV) 24)) w.heap.size 24 (av zeroV) := (Blk.new w _ _).alloc _
  have hB0 : Blk ((w.alloc (.cells (av zeroV) 24)).alloc (.cells (av zeroV) 24)) (w.heap.size + 1) 24 (av zeroV) := by
    have := Blk.new (w.alloc (.cells (av zeroV) 24)) 24 (av zeroV)
    rw [World.size_alloc] at this
    exact this
  have hbel : Below w.heap.size w ((w.alloc (.cells (av zeroV) 24)).alloc (.cells (av zeroV) 24)) := ((Below.refl _ _).alloc (Nat.le_refl _) _).alloc (by simp) _
  have HA := Lib.hid hA0
  have HB := Lib.hid hB0
  have He := Lib.hid he
  clear hA0 hB0 he
  go_enter Tryd.func6, Tryd.ntmps6
  go_wp2_with fail
  go_loopw [5] (fun v wr => ∃ R U, v = .string ⟨R.toArray⟩ ∧ R.length ≤ 400 ∧ okV U ∧ (∀ V, okV V → writeT V = s → Good V R U) ∧ Blk wr w.heap.size 24 (av zeroV) ∧ Blk wr (w.heap.size + 1) 24 (av U) ∧ Below w.heap.size w wr) (fun v _ => strLen v)
  case atStart => exact ⟨s, zeroV, rfl, hs, okV_zero, fun V _ h => h ▸ good_start V, HA.out, HB.out, hbel⟩
  case round =>
    obtain ⟨R, U, rfl, hR, hU, hgood, hbA, hbB, hbw⟩ := hrel
    have HA := Lib.hid hbA
    have HB := Lib.hid hbB
    clear hbA hbB
    by_cases h0 : R = []
    · subst h0
      have HU := Lib.hid hU
      have Hgood := Lib.hid hgood
      clear hU hgood
      go_wp2_with (refine wpList_load_row rfl 24 (.tmp 4) rfl (w.heap.size + 1) rfl 24 (av U) (0, 0) _ HB.out Tryd.underlying24 rfl vec_info ?_)
      refine (write_any U HU.out _ (He.out.grow hbw).pow).mono ?_
      rintro e w2 ⟨rfl, hb2⟩
      have hb02 := below_call hbw hb2
      have HA2 := Lib.hid (HA.out.grow hb2)
      have HB2 := Lib.hid (HB.out.grow hb2)
      by_cases hw : writeT U = s
      · have Hw := Lib.hid hw
        rw [hw]
        clear hw
        go_wp2_with (first | (refine wpList_load_row rfl 24 (.tmp 4) rfl (w.heap.size + 1) rfl 24 (av U) (0, 0) _ HB2.out Tryd.underlying24 rfl vec_info ?_) | (refine wpList_store_row rfl 24 (.tmp 2) (.tmp 37) rfl w.heap.size (av U) rfl rfl 24 _ HA2.out vec_info rfl (av_one _) ?_))
        have hend := HA2.out.setRow_ (av U)
        exact bodyPost_ret (v := .tuple #[vv U, .int .i64 0]) (results_cell_tmp Tryd.results6 _ _ w.heap.size 24 (av U) (0, 0) _ _ rfl rfl hend Tryd.underlying24 rfl vec_info) rfl ⟨below_setRow hb02 (by omega) _, U, 0, readIs_yes HU.out Hw.out, rfl⟩
      · have Hw := Lib.hid hw
        have hq : (writeT U == s) = false := beq_eq_false_iff_ne.2 hw
        generalize writeT U = T at hq ⊢
        clear hw
        go_wp2_with (refine wpList_store_row rfl 24 (.tmp 2) (.tmp 36) rfl w.heap.size (av zeroV) rfl rfl 24 _ HA2.out vec_info rfl (av_one _) ?_)
        have hend := HA2.out.setRow_ (av zeroV)
        exact bodyPost_ret (v := .tuple #[vv zeroV, .int .i64 7]) (results_cell_tmp Tryd.results6 _ _ w.heap.size 24 (av zeroV) (0, 0) _ _ rfl rfl hend Tryd.underlying24 rfl vec_info) rfl ⟨below_setRow hb02 (by omega) _, zeroV, 7, readIs_no Hgood.out Hw.out, rfl⟩
    · have hne : R.isEmpty = false := by simpa using h0
      have hcut := fun z hz => cut_any 32 R hR z hz
      have hbad := fun h => readIs_bad hgood h0 h
      have hnx := fun (r : Int) (q : Nat) h => good_next (r := r) (q := q) hgood h0 h
      have hl1 : (Lib.cut R [32]).1.length ≤ 400 := by have := cut_left_le (c := 32) R; omega
      have hl2 : (Lib.cut R [32]).2.1.length < R.length := cut_shorter h0
      generalize (Lib.cut R [32]).1 = L1 at hcut hbad hnx hl1
      generalize (Lib.cut R [32]).2.1 = L2 at hcut hnx hl2
      generalize (Lib.cut R [32]).2.2 = L3 at hcut
      have hrp := fun z hz => readpart_any L1 hl1 z hz
      have HU := Lib.hid hU
      have Hcut := Lib.hid hcut
      have Hrp := Lib.hid hrp
      have Hbad := Lib.hid hbad
      have Hnx := Lib.hid hnx
      have Hl2 := Lib.hid hl2
      clear hcut hbad hnx hl1 hl2 hrp hgood h0 hU
      go_wp2_with fail
      refine (Hcut.out _ (He.out.grow hbw)).mono ?_
      rintro e w1 ⟨rfl, n1, rfl⟩
      have hb1 := below_drewN hbw n1
      have HA1 := Lib.hid (HA.out.grow (below_drewN (Below.refl _ _) n1))
      have HB1 := Lib.hid (HB.out.grow (below_drewN (Below.refl _ _) n1))
      go_wp2_with fail
      refine (Hrp.out _ (He.out.grow hb1)).mono ?_
      rintro e w2 ⟨hb2, hcase⟩
      have hb02 := below_call hb1 hb2
      have HA2 := Lib.hid (HA1.out.grow hb2)
      have HB2 := Lib.hid (HB1.out.grow hb2)
      have hg : w.heap.size + 1 < w2.heap.size := blk_lt HB2.out
      have HA3 := Lib.hid (HA2.out.alloc (.cells (iv 0 0) 43))
      have HB3 := Lib.hid (HB2.out.alloc (.cells (iv 0 0) 43))
      have HC3 := Lib.hid (Blk.new w2 43 (iv 0 0))
      have hb03 := hb02.alloc hb02.size (.cells (iv 0 0) 43)
      rcases hcase with ⟨r, q, hq, hr, rfl⟩ | ⟨hr, r, q, rfl⟩
      · have Hgood := Lib.hid (Hnx.out r q hr)
        have HU' := Lib.hid (okV_with HU.out r hq)
        have HA4 := Lib.hid (HA3.out.setRowFar (k := w.heap.size) (g := w2.heap.size) (by omega) (iv r q))
        have HB4 := Lib.hid (HB3.out.setRowFar (k := w.heap.size + 1) (g := w2.heap.size) (by omega) (iv r q))
        have HC4 := Lib.hid (HC3.out.setRow_ (iv r q))
        have hb04 := below_setRow hb03 (g := w2.heap.size) hb02.size (iv r q)
        clear hq hr hg hb1 hb2 HA1 HB1
        unfold idv
        go_wp2_with (first | (refine wpList_store_row rfl 43 (.tmp 9) (.tmp 23) rfl w2.heap.size (iv r q) rfl rfl 43 _ HC3.out id_info rfl (iv_one _ _) ?_) | (refine wpList_load_row rfl 24 (.tmp 4) rfl (w.heap.size + 1) rfl 24 (av U) (0, 0) _ HB4.out Tryd.underlying24 rfl vec_info ?_) | (refine wpList_load_row rfl 43 (.tmp 9) rfl w2.heap.size rfl 43 (iv r q) (0, 0) _ HC4.out Tryd.underlying43 rfl id_info ?_))
        refine (with_any U HU.out r q _).mono ?_
        rintro e w5 ⟨rfl, hb5⟩
        have hb05 := below_call hb04 hb5
        have HA5 := Lib.hid (HA4.out.grow hb5)
        have HB5 := Lib.hid (HB4.out.grow hb5)
        go_wp2_with (refine wpList_store_row rfl 24 (.tmp 4) (.tmp 30) rfl (w.heap.size + 1) (av (withV U r q)) rfl rfl 24 _ HB5.out vec_info rfl (av_one _) ?_)
        go_roundw
        case rel => exact ⟨L2, withV U r q, rfl, by have := Hl2.out; omega, HU'.out, Hgood.out, HA5.out.setRowFar (by omega) _, HB5.out.setRow_ _, below_setRow hb05 (by omega) _⟩
        case measure =>
          have e : ∀ l : List UInt8, strLen (.string ⟨l.toArray⟩) = l.length := fun l => by show l.toArray.size = _; simp
          simp only [e]
          exact Hl2.out
      · have HA4 := Lib.hid (HA3.out.setRowFar (k := w.heap.size) (g := w2.heap.size) (by omega) (iv r q))
        have hb04 := below_setRow hb03 (g := w2.heap.size) hb02.size (iv r q)
        have Hr := Lib.hid (Hbad.out hr)
        clear hr hg hb1 hb2 HA1 HB1
        unfold idv
        go_wp2_with (first | (refine wpList_store_row rfl 43 (.tmp 9) (.tmp 23) rfl w2.heap.size (iv r q) rfl rfl 43 _ HC3.out id_info rfl (iv_one _ _) ?_) | (refine wpList_store_row rfl 24 (.tmp 2) (.tmp 27) rfl w.heap.size (av zeroV) rfl rfl 24 _ HA4.out vec_info rfl (av_one _) ?_))
        have hend := HA4.out.setRow_ (av zeroV)
        exact bodyPost_ret (v := .tuple #[vv zeroV, .int .i64 7]) (results_cell_tmp Tryd.results6 _ _ w.heap.size 24 (av zeroV) (0, 0) _ _ rfl rfl hend Tryd.underlying24 rfl vec_info) rfl ⟨below_setRow hb04 (by omega) _, zeroV, 7, Hr.out, rfl⟩
end Go.Proofs.YtnokdbblmgggaaaDoor
