/-
  A text as a vector: the document's Read.
-/
import Derived.Test.YtnokdbblmgggaaaDoorVecText4
import Derived.Test.YtnokdbblmgggaaaDoorVecText2
namespace Go.Proofs.YtnokdbblmgggaaaDoor
open Go.RowKit
set_option maxRecDepth 100000

/-- Where the document's reading stands ahead of position k; behind the end all is told. -/
def runTo (s : List UInt8) (k : Nat) : Option PSt := if k ≤ s.length then pfold pst0 (s.take k) else (pfold pst0 s).map fun p => ⟨p.fin, 0, 0⟩
theorem runTo_zero (s : List UInt8) : runTo s 0 = some pst0 := rfl
theorem runTo_step {s : List UInt8} {k : Nat} {p : PSt} (h : runTo s k = some p) (hk : k < s.length) : runTo s (k + 1) = pstep p s[k] := by
  unfold runTo at *
  rw [if_pos (by omega)] at h
  rw [if_pos (by omega), ← List.take_append_getElem hk, pfold_append, h]
  exact pfold_one p _
theorem runTo_end {s : List UInt8} {p : PSt} (h : runTo s s.length = some p) : runTo s (s.length + 1) = some ⟨p.fin, 0, 0⟩ := by
  unfold runTo at *
  rw [if_pos (Nat.le_refl _), List.take_length] at h
  rw [if_neg (by omega), h]
  rfl
theorem runTo_bad {s : List UInt8} {k : Nat} {p : PSt} (h : runTo s k = some p) (hk : k < s.length) (hb : pstep p s[k] = none) : pfold pst0 s = none := by
  have := runTo_step h hk
  rw [hb] at this
  unfold runTo at this
  rw [if_pos (by omega)] at this
  exact pfold_prefix this
theorem ref_bad {s : List UInt8} (h : pfold pst0 s = none) : ReadIs s zeroV 7 := Or.inr ⟨fun V hV hw => by
  obtain ⟨p, h1, _⟩ := pfold_writeT hV
  rw [hw, h] at h1
  (cases h1), rfl, rfl⟩
theorem ref_no {s : List UInt8} {U : PSt} (h : runTo s (s.length + 1) = some U) (hw : writeT U.V ≠ s) : ReadIs s zeroV 7 := Or.inr ⟨fun V hV hx => by
  obtain ⟨p, h1, h2⟩ := pfold_writeT hV
  unfold runTo at h
  rw [hx] at h1
  rw [if_neg (by omega), h1] at h
  cases h
  exact hw ((writeT_congr h2).trans hx), rfl, rfl⟩
theorem pstep_dig {p : PSt} {c : UInt8} (h1 : 48 ≤ c.toNat) (h2 : c.toNat ≤ 57) (h : 10 * p.n + (c.toNat - 48) ≤ 4294967295) : pstep p c = some ⟨p.V, p.rep, 10 * p.n + (c.toNat - 48)⟩ := by
  unfold pstep
  rw [if_pos ⟨h1, h2⟩, if_pos h]
theorem pstep_over {p : PSt} {c : UInt8} (h1 : 48 ≤ c.toNat) (h2 : c.toNat ≤ 57) (h : ¬ 10 * p.n + (c.toNat - 48) ≤ 4294967295) : pstep p c = none := by
  unfold pstep
  rw [if_pos ⟨h1, h2⟩, if_neg h]
theorem pstep_col {p : PSt} {c : UInt8} (h : c.toNat = 58) : pstep p c = some ⟨p.V, p.n, 0⟩ := by
  unfold pstep
  rw [if_neg (by omega), if_pos h]
theorem pstep_blank {p : PSt} {c : UInt8} (h : c.toNat = 32) : pstep p c = some ⟨p.fin, 0, 0⟩ := by
  unfold pstep
  rw [if_neg (by omega), if_neg (by omega), if_pos h]
theorem pstep_other {p : PSt} {c : UInt8} (h1 : ¬ (48 ≤ c.toNat ∧ c.toNat ≤ 57)) (h2 : c.toNat ≠ 58) (h3 : c.toNat ≠ 32) : pstep p c = some p := by
  unfold pstep
  rw [if_neg h1, if_neg h2, if_neg h3]
theorem index_byte (s : List UInt8) (k : Nat) (h : k < s.length) (w : World) : (Instr.index 9 (.string ⟨s.toArray⟩) (.int .i64 (k : Int))).run Tryd.prog w = .ok (.int .u8 (s[k].toNat : Int)) w := by
  have hsz : (⟨s.toArray⟩ : ByteArray).size = s.length := by show s.toArray.size = _; simp
  rw [run_index_string (h := by kernel_rfl), dif_pos ⟨by omega, by omega⟩]
  rfl

set_option maxHeartbeats 4000000 in
theorem refread_any (s : List UInt8) (hs : s.length ≤ 400) (w : World) (hp : Pow w) :
    Calls Tryd.prog 7 #[.string ⟨s.toArray⟩] w fun e w' => Below w.heap.size w w' ∧ ∃ U x, ReadIs s U x ∧ e = .returned (.tuple #[vv U, .int .i64 x]) := by
  have hA0 : Blk ((w.alloc (.cells (av zeroV) 24)).alloc (.cells (av zeroV) 24)) w.heap.size 24 (av zeroV) := (Blk.new w _ _).alloc _
  have hB0 : Blk ((w.alloc (.cells (av zeroV) 24)).alloc (.cells (av zeroV) 24)) (w.heap.size + 1) 24 (av zeroV) := by
    have := Blk.new (w.alloc (.cells (av zeroV) 24)) 24 (av zeroV)
    rw [World.size_alloc] at this
    exact this
  have hbel : Below w.heap.size w ((w.alloc (.cells (av zeroV) 24)).alloc (.cells (av zeroV) 24)) := ((Below.refl _ _).alloc (Nat.le_refl _) _).alloc (by simp) _
  have HA := Lib.hid hA0
  have HB := Lib.hid hB0
  have Hp := Lib.hid hp
  clear hA0 hB0 hp
  go_enter Tryd.func7, Tryd.ntmps7
  go_wp2_with (refine wpList_store_row rfl 24 (.tmp 4) (.tmp 9) rfl (w.heap.size + 1) (av zeroV) rfl rfl 24 _ HB.out vec_info rfl (av_one _) ?_)
  have HA1 := Lib.hid (HA.out.setRowFar (k := w.heap.size) (g := w.heap.size + 1) (by omega) (av zeroV))
  have HB1 := Lib.hid (HB.out.setRow_ (av zeroV))
  have hbel1 := below_setRow hbel (g := w.heap.size + 1) (by omega) (av zeroV)
  go_loopw [5, 6, 7, 8] (fun r n d i wr => ∃ (k : Nat) (p : PSt) (D : Nat), k ≤ s.length + 1 ∧ p.ok ∧ D ≤ k ∧ runTo s k = some p ∧ r = .int .i64 (p.rep : Int) ∧ n = .int .i64 (p.n : Int) ∧ d = .int .i64 (D : Int) ∧ i = .int .i64 (k : Int) ∧ Blk wr w.heap.size 24 (av zeroV) ∧ Blk wr (w.heap.size + 1) 24 (av p.V) ∧ Below w.heap.size w wr) (fun _ _ _ i _ => s.length + 1 - (intOf i).toNat)
  case atStart => exact ⟨0, pst0, 0, by omega, pst0_ok, by omega, rfl, rfl, rfl, rfl, rfl, HA1.out, HB1.out, hbel1⟩
  case round =>
    obtain ⟨k, ⟨V, rp, n⟩, D, hk, hok, hD, hrun, rfl, rfl, rfl, rfl, hbA, hbB, hbw⟩ := hrel
    have HA := Lib.hid hbA
    have HB := Lib.hid hbB
    clear hbA hbB HA1 HB1 hbel hbel1
    obtain ⟨hV, hrp, hn⟩ := hok
    dsimp only at hV hrp hn HB ⊢
    by_cases hlt : k < s.length
    · have hst := runTo_step hrun hlt
      have hidx := fun u => index_byte s k hlt u
      have hbad := fun h => ref_bad (runTo_bad hrun hlt h)
      have hcc := UInt8.toNat_lt s[k]
      have Hrun := Lib.hid hrun
      clear hrun
      generalize s[k] = c at hst hidx hbad hcc
      by_cases hdig : 48 ≤ c.toNat ∧ c.toNat ≤ 57
      · obtain ⟨h48, h57⟩ := hdig
        have w1 : IntKind.u8.wrap ((c.toNat : Int) - 48) = (c.toNat : Int) - 48 := by rw [IntKind.wrap_u8]; omega
        by_cases hfit : 10 * n + (c.toNat - 48) ≤ 4294967295
        · rw [pstep_dig (by omega) (by omega) (by show 10 * n + (c.toNat - 48) ≤ _; omega)] at hst
          have Hst := Lib.hid hst
          have hx : ((10 * n + (c.toNat - 48) : Nat) : Int) = 10 * (n : Int) + ((c.toNat : Int) - 48) := by omega
          have Hx := Lib.hid hx
          clear hst hbad hx
          go_wp2_with fail
          go_roundw
          case rel => exact ⟨k + 1, ⟨V, rp, 10 * n + (c.toNat - 48)⟩, D + 1, by omega, ⟨hV, hrp, hfit⟩, by omega, Hst.out, rfl, by rw [Hx.out], by go_num, by go_num, HA.out, HB.out, hbw⟩
          case measure => simp [intOf]; omega
        · have Hbad := Lib.hid (hbad (pstep_over (by omega) (by omega) (by show ¬ 10 * n + (c.toNat - 48) ≤ _; omega)))
          clear hst hbad
          go_wp2_with (refine wpList_store_row rfl 24 (.tmp 2) (.tmp 45) rfl w.heap.size (av zeroV) rfl rfl 24 _ HA.out vec_info rfl (av_one _) ?_)
          have hend := HA.out.setRow_ (av zeroV)
          exact bodyPost_ret (v := .tuple #[vv zeroV, .int .i64 7]) (results_cell_tmp Tryd.results7 _ _ w.heap.size 24 (av zeroV) (0, 0) _ _ rfl rfl hend Tryd.underlying24 rfl vec_info) rfl ⟨below_setRow hbw (by omega) _, zeroV, 7, Hbad.out, rfl⟩
      · by_cases h58 : c.toNat = 58
        · rw [pstep_col h58] at hst
          have Hst := Lib.hid hst
          rw [h58] at hidx
          clear hst hbad hdig h58 hcc
          go_wp2_with fail
          go_roundw
          case rel => exact ⟨k + 1, ⟨V, n, 0⟩, 0, by omega, ⟨hV, hn, by show 0 ≤ _; omega⟩, by omega, Hst.out, rfl, rfl, rfl, by go_num, HA.out, HB.out, hbw⟩
          case measure => simp [intOf]; omega
        · by_cases h32 : c.toNat = 32
          · rw [pstep_blank h32] at hst
            have Hst := Lib.hid hst
            rw [h32] at hidx
            clear hst hbad hdig h58 h32 hcc
            by_cases hin : 1 ≤ rp ∧ rp ≤ 8
            · obtain ⟨j, rfl⟩ : ∃ j, rp = j + 1 := ⟨rp - 1, by omega⟩
              have hj8 : j < 8 := by omega
              have hfin : (PSt.mk V (j + 1) n).fin = updV V j n := by
                unfold PSt.fin
                rw [if_pos ⟨by show 1 ≤ j + 1; omega, by show j + 1 ≤ 8; omega⟩]
                rfl
              rw [hfin] at Hst
              have hokn := okV_upd hV j (n := n) (by omega)
              have hcell := HB.out.cell j
              rw [av_get V hj8] at hcell
              have hfrz := HB.out.frozen j
              have hset := av_set V j n hj8
              have hs1 := HB.out.set_ j (.int .u32 ((n : Nat) : Int))
              rw [hset] at hs1
              have hs2 := HA.out.far (p := ⟨w.heap.size + 1, j, none⟩) (by show w.heap.size ≠ w.heap.size + 1; omega) (.int .u32 ((n : Nat) : Int))
              have hb2 := hbw.setCell (p := ⟨w.heap.size + 1, j, none⟩) (by show w.heap.size ≤ w.heap.size + 1; omega) (.int .u32 ((n : Nat) : Int))
              have hkt : ((j : Int) + 1 - 1).toNat = j := by omega
              have hx : ((j + 1 : Nat) : Int) = (j : Int) + 1 := by omega
              have wu : IntKind.u32.wrap (n : Int) = (n : Int) := by rw [IntKind.wrap_u32]; omega
              have Hs1 := Lib.hid hs1
              have Hs2 := Lib.hid hs2
              have Hb2 := Lib.hid hb2
              have Hokn := Lib.hid hokn
              clear hs1 hs2 hb2 hset hokn hfin hV
              rw [hx]
              clear hx
              go_wp2_with fail
              go_roundw
              case rel => exact ⟨k + 1, ⟨updV V j n, 0, 0⟩, 0, by omega, ⟨Hokn.out, by show 0 ≤ _; omega, by show 0 ≤ _; omega⟩, by omega, Hst.out, rfl, rfl, rfl, by go_num, Hs2.out, Hs1.out, Hb2.out⟩
              case measure => simp [intOf]; omega
            · have hfin : (PSt.mk V rp n).fin = V := by
                unfold PSt.fin
                rw [if_neg (by show ¬ (1 ≤ rp ∧ rp ≤ 8); omega)]
              rw [hfin] at Hst
              clear hfin
              have HV := Lib.hid hV
              clear hV
              rcases Nat.lt_or_ge rp 1 with hlo | hhi
              · obtain rfl : rp = 0 := by omega
                go_wp2_with fail
                go_roundw
                case rel => exact ⟨k + 1, ⟨V, 0, 0⟩, 0, by omega, ⟨HV.out, by show 0 ≤ _; omega, by show 0 ≤ _; omega⟩, by omega, Hst.out, rfl, rfl, rfl, by go_num, HA.out, HB.out, hbw⟩
                case measure => simp [intOf]; omega
              · have hbig : 8 < rp := by omega
                go_wp2_with fail
                go_roundw
                case rel => exact ⟨k + 1, ⟨V, 0, 0⟩, 0, by omega, ⟨HV.out, by show 0 ≤ _; omega, by show 0 ≤ _; omega⟩, by omega, Hst.out, rfl, rfl, rfl, by go_num, HA.out, HB.out, hbw⟩
                case measure => simp [intOf]; omega

          · rw [pstep_other hdig h58 h32] at hst
            have Hst := Lib.hid hst
            have q58 : ((c.toNat : Int) == 58) = false := by rw [beq_eq_false_iff_ne]; omega
            have q32 : ((c.toNat : Int) == 32) = false := by rw [beq_eq_false_iff_ne]; omega
            have n58 : ¬ (c.toNat : Int) = 58 := by omega
            have n32 : ¬ (c.toNat : Int) = 32 := by omega
            have hor : c.toNat < 48 ∨ 57 < c.toNat := by omega
            obtain ⟨CN, hCN⟩ : ∃ CN : Nat, CN = c.toNat := ⟨_, rfl⟩
            rw [← hCN] at hidx hcc q58 q32 n58 n32 hor
            clear hst hbad hdig h58 h32 hCN
            rcases hor with hlo | hhi
            · have n48 : ¬ 48 ≤ CN := by omega
              go_wp2_with fail
              go_roundw
              case rel => exact ⟨k + 1, ⟨V, rp, n⟩, D, by omega, ⟨hV, hrp, hn⟩, by omega, Hst.out, rfl, rfl, rfl, by go_num, HA.out, HB.out, hbw⟩
              case measure => simp [intOf]; omega
            · have h48 : 48 ≤ CN := by omega
              have n57 : ¬ CN ≤ 57 := by omega
              go_wp2_with fail
              go_roundw
              case rel => exact ⟨k + 1, ⟨V, rp, n⟩, D, by omega, ⟨hV, hrp, hn⟩, by omega, Hst.out, rfl, rfl, rfl, by go_num, HA.out, HB.out, hbw⟩
              case measure => simp [intOf]; omega
    · by_cases hend : k = s.length
      · have Hst := Lib.hid (runTo_end (hend ▸ hrun))
        rw [← hend] at Hst
        clear hrun
        by_cases hin : 1 ≤ rp ∧ rp ≤ 8
        · obtain ⟨j, rfl⟩ : ∃ j, rp = j + 1 := ⟨rp - 1, by omega⟩
          have hj8 : j < 8 := by omega
          have hfin : (PSt.mk V (j + 1) n).fin = updV V j n := by
            unfold PSt.fin
            rw [if_pos ⟨by show 1 ≤ j + 1; omega, by show j + 1 ≤ 8; omega⟩]
            rfl
          rw [hfin] at Hst
          have hokn := okV_upd hV j (n := n) (by omega)
          have hcell := HB.out.cell j
          rw [av_get V hj8] at hcell
          have hfrz := HB.out.frozen j
          have hset := av_set V j n hj8
          have hs1 := HB.out.set_ j (.int .u32 ((n : Nat) : Int))
          rw [hset] at hs1
          have hs2 := HA.out.far (p := ⟨w.heap.size + 1, j, none⟩) (by show w.heap.size ≠ w.heap.size + 1; omega) (.int .u32 ((n : Nat) : Int))
          have hb2 := hbw.setCell (p := ⟨w.heap.size + 1, j, none⟩) (by show w.heap.size ≤ w.heap.size + 1; omega) (.int .u32 ((n : Nat) : Int))
          have hkt : ((j : Int) + 1 - 1).toNat = j := by omega
          have hx : ((j + 1 : Nat) : Int) = (j : Int) + 1 := by omega
          have wu : IntKind.u32.wrap (n : Int) = (n : Int) := by rw [IntKind.wrap_u32]; omega
          have Hs1 := Lib.hid hs1
          have Hs2 := Lib.hid hs2
          have Hb2 := Lib.hid hb2
          have Hokn := Lib.hid hokn
          clear hs1 hs2 hb2 hset hokn hfin hV
          rw [hx]
          clear hx
          go_wp2_with fail
          go_roundw
          case rel => exact ⟨k + 1, ⟨updV V j n, 0, 0⟩, 0, by omega, ⟨Hokn.out, by show 0 ≤ _; omega, by show 0 ≤ _; omega⟩, by omega, Hst.out, rfl, rfl, rfl, by go_num, Hs2.out, Hs1.out, Hb2.out⟩
          case measure => simp [intOf]; omega
        · have hfin : (PSt.mk V rp n).fin = V := by
            unfold PSt.fin
            rw [if_neg (by show ¬ (1 ≤ rp ∧ rp ≤ 8); omega)]
          rw [hfin] at Hst
          clear hfin
          have HV := Lib.hid hV
          clear hV
          rcases Nat.lt_or_ge rp 1 with hlo | hhi
          · obtain rfl : rp = 0 := by omega
            go_wp2_with fail
            go_roundw
            case rel => exact ⟨k + 1, ⟨V, 0, 0⟩, 0, by omega, ⟨HV.out, by show 0 ≤ _; omega, by show 0 ≤ _; omega⟩, by omega, Hst.out, rfl, rfl, rfl, by go_num, HA.out, HB.out, hbw⟩
            case measure => simp [intOf]; omega
          · have hbig : 8 < rp := by omega
            go_wp2_with fail
            go_roundw
            case rel => exact ⟨k + 1, ⟨V, 0, 0⟩, 0, by omega, ⟨HV.out, by show 0 ≤ _; omega, by show 0 ≤ _; omega⟩, by omega, Hst.out, rfl, rfl, rfl, by go_num, HA.out, HB.out, hbw⟩
            case measure => simp [intOf]; omega
      · obtain rfl : k = s.length + 1 := by omega
        have Hrun := Lib.hid hrun
        have HV := Lib.hid hV
        clear hrun hV hend hlt hk
        go_wp2_with (refine wpList_load_row rfl 24 (.tmp 4) rfl (w.heap.size + 1) rfl 24 (av V) (0, 0) _ HB.out Tryd.underlying24 rfl vec_info ?_)
        refine (refwrite_any V HV.out _ (Hp.out.grow hbw)).mono ?_
        rintro e w2 ⟨rfl, hb2⟩
        have hb02 := below_call hbw hb2
        have HA2 := Lib.hid (HA.out.grow hb2)
        have HB2 := Lib.hid (HB.out.grow hb2)
        by_cases hw : writeT V = s
        · have Hw := Lib.hid hw
          rw [hw]
          clear hw
          go_wp2_with (first | (refine wpList_load_row rfl 24 (.tmp 4) rfl (w.heap.size + 1) rfl 24 (av V) (0, 0) _ HB2.out Tryd.underlying24 rfl vec_info ?_) | (refine wpList_store_row rfl 24 (.tmp 2) (.tmp 85) rfl w.heap.size (av V) rfl rfl 24 _ HA2.out vec_info rfl (av_one _) ?_))
          have hend := HA2.out.setRow_ (av V)
          exact bodyPost_ret (v := .tuple #[vv V, .int .i64 0]) (results_cell_tmp Tryd.results7 _ _ w.heap.size 24 (av V) (0, 0) _ _ rfl rfl hend Tryd.underlying24 rfl vec_info) rfl ⟨below_setRow hb02 (by omega) _, V, 0, readIs_yes HV.out Hw.out, rfl⟩
        · have Hw := Lib.hid (ref_no Hrun.out hw)
          have hq : (writeT V == s) = false := beq_eq_false_iff_ne.2 hw
          generalize writeT V = T at hq ⊢
          clear hw
          go_wp2_with (refine wpList_store_row rfl 24 (.tmp 2) (.tmp 84) rfl w.heap.size (av zeroV) rfl rfl 24 _ HA2.out vec_info rfl (av_one _) ?_)
          have hend := HA2.out.setRow_ (av zeroV)
          exact bodyPost_ret (v := .tuple #[vv zeroV, .int .i64 7]) (results_cell_tmp Tryd.results7 _ _ w.heap.size 24 (av zeroV) (0, 0) _ _ rfl rfl hend Tryd.underlying24 rfl vec_info) rfl ⟨below_setRow hb02 (by omega) _, zeroV, 7, Hw.out, rfl⟩
end Go.Proofs.YtnokdbblmgggaaaDoor
