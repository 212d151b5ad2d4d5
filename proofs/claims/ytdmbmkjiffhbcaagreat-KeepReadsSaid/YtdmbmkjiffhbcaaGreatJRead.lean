/-
  The journal's sides; a tally is written.
  journal.current.
  journal.inUse.
  journal.pack.
  The journal in memory; Room, Len, Broken, check.
-/
import Derived.Test.YtdmbmkjiffhbcaaGreatJBase
import Derived.Test.YtdmbmkjiffhbcaaGreatFieldsAll
import Derived.Test.YtdmbmkjiffhbcaaGreatKRecord
import Derived.Test.YtdmbmkjiffhbcaaGreatSumAll
namespace Go.Proofs.YtdmbmkjiffhbcaaGreat
open Go.RowKit
set_option maxRecDepth 100000

/-- How many sectors a side has. -/
def sideN (D : Dev) : Nat := (D.sure.length - 2) / 2
theorem sideN_le (D : Dev) (h : D.sure.length ≤ 4096) : sideN D ≤ 2047 := by unfold sideN; omega

theorem sidesectors_any (base : Nat) (F : Nat → Prop) (g : Nat) (D : Dev) (w : World) (h : DevAt w base F g D) :
    Calls Tryz.prog 78 #[.pointer (some ⟨g, 0, none⟩)] w fun e w' => e = .returned (.int .i64 (sideN D : Int)) ∧ w = w' := by
  have hl := h.lens
  have hn : (max ((D.sure.length : Int) - 2) 0) / 2 = (sideN D : Int) := by unfold sideN; omega
  have hn2 : (max ((D.sure.length : Int) - 2) 0).tdiv 2 = (sideN D : Int) := by
    rw [← hn]
    exact Int.tdiv_eq_ediv_of_nonneg (by omega)
  have hw1 : wrap64 ((D.sure.length : Int) - 2) = (D.sure.length : Int) - 2 := IntWalk.wrap64_in _ (by omega)
  obtain ⟨S, hS⟩ : ∃ S, S = sideN D := ⟨_, rfl⟩
  rw [← hS] at hn hn2 ⊢
  clear hS
  go_enter Tryz.func78, Tryz.ntmps78
  go_wp2_with fail
  refine (size_any base F g D w h).mono ?_
  rintro e w' ⟨rfl, rfl⟩
  go_wp2
  go_ret
  exact ⟨rfl, rfl⟩
theorem sidesize_any (base : Nat) (F : Nat → Prop) (g : Nat) (D : Dev) (w : World) (h : DevAt w base F g D) :
    Calls Tryz.prog 55 #[.pointer (some ⟨g, 0, none⟩)] w fun e w' => e = .returned (.int .i64 ((sideN D * 256 : Nat) : Int)) ∧ w = w' := by
  have hl := sideN_le D h.lens.2
  have hw1 : wrap64 ((sideN D : Int) * 256) = ((sideN D * 256 : Nat) : Int) := by
    rw [IntWalk.wrap64_in _ (by omega)]
    omega
  obtain ⟨T, hT⟩ : ∃ T : Nat, T = sideN D * 256 := ⟨_, rfl⟩
  have hT2 : (sideN D : Int) * 256 = (T : Int) := by omega
  rw [← hT] at hw1 ⊢
  have HT2 := Lib.hid hT2
  clear hT hT2
  go_enter Tryz.func55, Tryz.ntmps55
  go_wp2_with fail
  refine (sidesectors_any base F g D w h).mono ?_
  rintro e w' ⟨rfl, rfl⟩
  go_wp2
  go_ret
  exact ⟨by show Ending.returned (Value.int IntKind.i64 ((sideN D : Int) * 256)) = _; rw [HT2.out], rfl⟩
theorem sidestart_any (base : Nat) (F : Nat → Prop) (g : Nat) (D : Dev) (s : Nat) (hs : s ≤ 1) (w : World) (h : DevAt w base F g D) :
    Calls Tryz.prog 59 #[.pointer (some ⟨g, 0, none⟩), .int .i64 (s : Int)] w fun e w' => e = .returned (.int .i64 ((2 + s * sideN D : Nat) : Int)) ∧ w = w' := by
  have hl := sideN_le D h.lens.2
  have hml : s * sideN D ≤ 1 * 2047 := Nat.mul_le_mul hs hl
  have hw1 : wrap64 ((s : Int) * (sideN D : Int)) = ((s * sideN D : Nat) : Int) := by
    rw [Int.natCast_mul, IntWalk.wrap64_in _ (by rw [← Int.natCast_mul]; omega)]
  have hw2 : wrap64 (2 + ((s * sideN D : Nat) : Int)) = ((2 + s * sideN D : Nat) : Int) := by
    rw [IntWalk.wrap64_in _ (by omega)]
    omega
  obtain ⟨T, hT⟩ : ∃ T : Nat, T = s * sideN D := ⟨_, rfl⟩
  rw [← hT] at hw1 hw2 ⊢
  clear hT hml
  go_enter Tryz.func59, Tryz.ntmps59
  go_wp2_with fail
  refine (sidesectors_any base F g D w h).mono ?_
  rintro e w' ⟨rfl, rfl⟩
  go_wp2
  go_ret
  exact ⟨by show Ending.returned (Value.int IntKind.i64 (wrap64 (2 + (T : Int)))) = _; rw [hw2], rfl⟩

/-- A tally is written: the device behind it, and the error. -/
def tellD (D : Dev) (n s u : Nat) : Dev × Int := if (D.put ((n % 2 : Nat) : Int) (tallyB n s u)).2 ≠ 0 then D.put ((n % 2 : Nat) : Int) (tallyB n s u) else (D.put ((n % 2 : Nat) : Int) (tallyB n s u)).1.barrier

set_option maxHeartbeats 400000 in
theorem tell_any (base : Nat) (G : Nat → Prop) (g : Nat) (D : Dev) (n s u : Nat) (hsb : s < 9223372036854775808) (hub : u < 9223372036854775808) (w : World) (hd : DevAt w base G g D) (hfew : D.loose.length ≤ 1000000 ∧ D.changes ≤ 1000000) :
    Calls Tryz.prog 34 #[vTally (n, s, u), .pointer (some ⟨g, 0, none⟩)] w fun e w' => e = .returned (.int .i64 (tellD D n s u).2) ∧ ∃ G', DevAt w' base G' g (tellD D n s u).1 ∧ Fr G G' w w' := by
  obtain ⟨hlo, hch⟩ := hfew
  have hmod : IntKind.i64.wrap ((n : Int).tmod 2) = ((n % 2 : Nat) : Int) := by
    rw [Int.tmod_eq_emod_of_nonneg (by omega), IntKind.wrap_i64]
    omega
  have hlow := hd.low
  have hbW0 : Below w.heap.size w (w.alloc (.cells #[.int .u64 (n : Int), .int .i64 (s : Int), .int .i64 (u : Int)] 90)) := (Below.refl _ _).alloc (Nat.le_refl _) _
  have hB0 : Blk (w.alloc (.cells #[.int .u64 (n : Int), .int .i64 (s : Int), .int .i64 (u : Int)] 90)) w.heap.size 90 #[.int .u64 (n : Int), .int .i64 (s : Int), .int .i64 (u : Int)] := Blk.new _ _ _
  obtain ⟨W, hW⟩ : ∃ W, W = w.alloc (.cells #[.int .u64 (n : Int), .int .i64 (s : Int), .int .i64 (u : Int)] 90) := ⟨_, rfl⟩
  rw [← hW] at hbW0 hB0
  have HW := Lib.hid hW
  have HbW := Lib.hid hbW0
  have HdW := Lib.hid (hd.grow hbW0)
  have x0 := hB0.cell 0
  have x1 := hB0.cell 1
  have x2 := hB0.cell 2
  simp only [List.getElem?_toArray, List.getElem?_cons_zero, List.getElem?_cons_succ] at x0 x1 x2
  have x0d : W.drew.cell? ⟨w.heap.size, 0, none⟩ = _ := x0
  have x1d : W.drew.cell? ⟨w.heap.size, 1, none⟩ = _ := x1
  have x2d : W.drew.cell? ⟨w.heap.size, 2, none⟩ = _ := x2
  have hnG : ¬ G w.heap.size := fun h => by have := (hlow _ h).2; omega
  have HnG := Lib.hid hnG
  have HB0 := Lib.hid hB0
  obtain ⟨R, hR⟩ : ∃ R : Dev × Int, R = D.put ((n % 2 : Nat) : Int) (tallyB n s u) := ⟨_, rfl⟩
  have hfR : R.1.loose.length ≤ 1000001 ∧ R.1.changes ≤ 1000001 := by
    have := put_few (D := D) (m := 1000000) ⟨hlo, hch⟩ ((n % 2 : Nat) : Int) (tallyB n s u)
    rw [← hR] at this
    exact ⟨this.1, this.2⟩
  have HfR := Lib.hid hfR
  have HR := Lib.hid hR
  have Hmod := Lib.hid hmod
  obtain ⟨i, hi⟩ : ∃ i : Int, i = ((n % 2 : Nat) : Int) := ⟨_, rfl⟩
  rw [← hi] at hmod
  have Hi := Lib.hid hi
  clear hW hbW0 hB0 hnG hd hlow hR hfR hi
  unfold vTally
  go_enter Tryz.func34, Tryz.ntmps34
  go_wp2_with fail
  rw [← HW.out]
  go_region_held3 (fun z => z.cell? ⟨w.heap.size, 0, none⟩ = some (.int .u64 (n : Int)) ∧ z.cell? ⟨w.heap.size, 1, none⟩ = some (.int .i64 (s : Int)) ∧ z.cell? ⟨w.heap.size, 2, none⟩ = some (.int .i64 (u : Int)))
    (first | (with_reducible exact ⟨x0d, x1d, x2d⟩) | (with_reducible exact ⟨k0, k1, k2⟩) | (with_reducible exact ⟨m0, m1, m2⟩) | (with_reducible assumption))
    (first
      | (go_at_call 57; with_reducible refine (sector_any n s u hsb hub _).mono ?_; rintro e w5 ⟨g5, rfl, hg5, hblk5, hb5'⟩; have hb5 := below_drew_then hb5'; have hd5 := HdW.out.grow hb5; have k0 := cell_then hb5 x0; have k1 := cell_then hb5 x1; have k2 := cell_then hb5 x2)
      | (go_at_call 56; with_reducible refine (write_any base G g D (fun _ => True) i _ (tallyB n s u) w5 hd5 (isB_blk hblk5 (tallyB_length n s u) (by unfold maxLen; omega)) hd5.size (by omega) (by omega)).mono ?_; rintro e w6 ⟨rfl, G6, hd6, hf6⟩; have hB6 := (HB0.out.grow hb5).keep (hf6.block _ (HB0.out.grow hb5).lt HnG.out).2; have m0 := hB6.cell 0; have m1 := hB6.cell 1; have m2 := hB6.cell 2; simp only [List.getElem?_toArray, List.getElem?_cons_zero, List.getElem?_cons_succ] at m0 m1 m2))
  have hpi : D.put i (tallyB n s u) = R := by rw [Hi.out, ← HR.out]
  have hF6 := ((Fr.of_below HbW.out G).trans (Fr.of_below hb5 G)).trans hf6
  rw [hpi] at hd6 ⊢
  have htl : tellD D n s u = if R.2 ≠ 0 then R else R.1.barrier := by unfold tellD; rw [← HR.out]
  have Htl := Lib.hid htl
  have Hd6 := Lib.hid hd6
  have HF6 := Lib.hid hF6
  clear hpi htl hd6 hF6 hf6 hb5 hb5' hblk5 hd5 hB6 x0 x1 x2 x0d x1d x2d k0 k1 k2 m0 m1 m2 hmod
  by_cases he : R.2 = 0
  · rw [he, if_neg (by decide)] at Htl
    rw [he]
    go_wp2_with fail
    refine (barrier_any base G6 g R.1 w6 Hd6.out (by have := HfR.out.2; omega) (by have := HfR.out.1; omega)).mono ?_
    rintro e w7 ⟨rfl, hd7, hf7⟩
    rw [← Htl.out] at hd7 ⊢
    have Hd7 := Lib.hid hd7
    have HF7 := Lib.hid (HF6.out.trans hf7)
    clear hd7 hf7
    go_wp2
    go_ret
    exact ⟨rfl, G6, Hd7.out, HF7.out⟩
  · have he1 : (R.2 == 0) = false := by rw [beq_eq_false_iff_ne]; exact he
    rw [if_pos he] at Htl
    clear he
    go_wp2
    go_ret
    rw [Htl.out]
    exact ⟨rfl, G6, Hd6.out, HF6.out⟩
end Go.Proofs.YtdmbmkjiffhbcaaGreat

namespace Go.Proofs.YtdmbmkjiffhbcaaGreat
open Go.RowKit
set_option maxRecDepth 100000

/-- The tally that counts, among the first ones. -/
def curK (D : Dev) : Nat → Nat × Nat × Nat
  | 0 => (0, 0, 0)
  | k + 1 => if (curK D k).1 < (asTally (D.now k) (sideN D * 256)).1 then asTally (D.now k) (sideN D * 256) else curK D k
def curT (D : Dev) : Nat × Nat × Nat := curK D 2

set_option maxHeartbeats 1000000 in
theorem current_any (base : Nat) (G : Nat → Prop) (g : Nat) (D : Dev) (w : World) (hd : DevAt w base G g D) (h2 : 2 ≤ D.sure.length) :
    Calls Tryz.prog 33 #[.pointer (some ⟨g, 0, none⟩)] w fun e w' => e = .returned (.tuple #[vTally (if D.off then (0, 0, 0) else curT D), .int .i64 (if D.off then 6 else 0)]) ∧ Below w.heap.size w w' := by
  have hwf := hd.wf
  have hbA : Below w.heap.size w ((w.alloc (.cells #[.int .u64 0, .int .i64 0, .int .i64 0] 90)).alloc (.cells #[.int .u64 0, .int .i64 0, .int .i64 0] 90)) := ((Below.refl _ _).alloc (Nat.le_refl _) _).alloc (by simp) _
  have hB2 : Blk ((w.alloc (.cells #[.int .u64 0, .int .i64 0, .int .i64 0] 90)).alloc (.cells #[.int .u64 0, .int .i64 0, .int .i64 0] 90)) w.heap.size 90 #[.int .u64 0, .int .i64 0, .int .i64 0] := (Blk.new w _ _).alloc _
  have hB4 : Blk ((w.alloc (.cells #[.int .u64 0, .int .i64 0, .int .i64 0] 90)).alloc (.cells #[.int .u64 0, .int .i64 0, .int .i64 0] 90)) (w.heap.size + 1) 90 #[.int .u64 0, .int .i64 0, .int .i64 0] := by
    have := Blk.new (w.alloc (.cells #[.int .u64 0, .int .i64 0, .int .i64 0] 90)) 90 #[.int .u64 0, .int .i64 0, .int .i64 0]
    simpa using this
  have Hd := Lib.hid hd
  have HbA := Lib.hid hbA
  have HB2 := Lib.hid hB2
  have HB4 := Lib.hid hB4
  have Hwf := Lib.hid hwf
  have hsz := (sidesize_any base G g D)
  clear hd hbA hB2 hB4 hwf
  have hlen := Hd.out.lens
  have hsn := sideN_le D hlen.2
  go_enter Tryz.func33, Tryz.ntmps33
  go_wp2_with fail
  go_loopw [9] (fun i wr => ∃ k : Nat, k ≤ 2 ∧ i = .int .i64 (k : Int) ∧ (D.off = true → k = 0) ∧ Blk wr w.heap.size 90 #[.int .u64 0, .int .i64 0, .int .i64 0] ∧ Blk wr (w.heap.size + 1) 90 #[.int .u64 ((curK D k).1 : Int), .int .i64 ((curK D k).2.1 : Int), .int .i64 ((curK D k).2.2 : Int)] ∧ Below w.heap.size w wr) (fun i _ => 2 - (intOf i).toNat)
  case atStart => exact ⟨0, by omega, rfl, fun _ => rfl, HB2.out, HB4.out, HbA.out⟩
  case round =>
    obtain ⟨k, hk, rfl, hk0, hB2, hB4, hb⟩ := hrel
    clear HB2 HB4 HbA
    have x0 := hB2.cell 0
    have x1 := hB2.cell 1
    have x2 := hB2.cell 2
    have f0 := hB2.frozen 0
    have f1 := hB2.frozen 1
    have f2 := hB2.frozen 2
    have y0 := hB4.cell 0
    have y1 := hB4.cell 1
    have y2 := hB4.cell 2
    simp only [List.getElem?_toArray, List.getElem?_cons_zero, List.getElem?_cons_succ] at x0 x1 x2 y0 y1 y2
    have hl1 := hB2.lt
    have hl2 := hB4.lt
    have HB2 := Lib.hid hB2
    have HB4 := Lib.hid hB4
    have Hb := Lib.hid hb
    have Hdw := Lib.hid (Hd.out.grow hb)
    have Hk0 := Lib.hid hk0
    obtain ⟨C, hC⟩ : ∃ C, C = curK D k := ⟨_, rfl⟩
    rw [← hC] at HB4 y0 y1 y2
    have HC := Lib.hid hC
    clear hB2 hB4 hb hk0 hC
    by_cases hlt : k < 2
    · go_wp2_with fail
      refine (read_any base G g D (k : Int) wr Hdw.out).mono ?_
      rintro e w1 hrd
      cases hoff : D.off with
      | true =>
        have hy : D.why (k : Int) = 6 := by unfold Dev.why; rw [if_pos hoff]
        rcases hrd with ⟨_, rfl, rfl⟩ | ⟨h, _⟩
        · rw [hy]
          go_wp2
          refine bodyPost_ret (v := .tuple #[vTally (0, 0, 0), .int .i64 6]) (by simp [results, vTally, Tryz.results33, go_sem, x0, x1, x2]) rfl ?_
          exact ⟨rfl, ((Hb.out.setCell (Nat.le_refl _) _).setCell (Nat.le_refl _) _).setCell (Nat.le_refl _) _⟩
        · rw [hy] at h; cases h
      | false =>
        have hy : D.why (k : Int) = 0 := by
          unfold Dev.why
          rw [if_neg (by rw [hoff]; decide), if_neg (by omega)]
        rcases hrd with ⟨h, _⟩ | ⟨_, vb, rfl, hob, hb1⟩
        · exact absurd hy h
        rw [show ((k : Int)).toNat = k from rfl] at hob
        have hB := hob.isB
        have hnl := now_length Hwf.out k (by omega)
        have hst : curK D (k + 1) = if C.1 < (asTally (D.now k) (sideN D * 256)).1 then asTally (D.now k) (sideN D * 256) else C := by rw [HC.out]; rfl
        have Hst := Lib.hid hst
        have Hnl := Lib.hid hnl
        have HB := Lib.hid hB
        have Hb1 := Lib.hid hb1
        have Hd1 := Lib.hid (Hdw.out.grow hb1)
        clear hob hB hb1 hst hnl hy
        go_wp2_with fail
        refine (hsz w1 Hd1.out).mono ?_
        rintro e wq ⟨rfl, rfl⟩
        go_wp2_with fail
        refine (astally_any _ vb (D.now k) (sideN D * 256) w1 HB.out Hnl.out (by omega)).mono ?_
        rintro e w2 ⟨rfl, hb2⟩
        obtain ⟨T, hT⟩ : ∃ T, T = asTally (D.now k) (sideN D * 256) := ⟨_, rfl⟩
        rw [← hT] at Hst ⊢
        unfold vTally
        have hb02 := below_call Hb1.out hb2
        have hB22 := HB2.out.grow hb02
        have hB42 := HB4.out.grow hb02
        have z0 := hB22.cell 0
        have z1 := hB22.cell 1
        have z2 := hB22.cell 2
        have q0 := hB42.cell 0
        have q1 := hB42.cell 1
        have q2 := hB42.cell 2
        have r0 := hB42.frozen 0
        have r1 := hB42.frozen 1
        have r2 := hB42.frozen 2
        simp only [List.getElem?_toArray, List.getElem?_cons_zero, List.getElem?_cons_succ] at z0 z1 z2 q0 q1 q2
        have hm1 := hB22.lt
        have hm2 := hB42.lt
        have Hb02 := Lib.hid (below_call Hb.out hb02)
        have HB22 := Lib.hid hB22
        have HB42 := Lib.hid hB42
        clear hT hb2 hb02 hB22 hB42
        by_cases hgt : (C.1 : Int) < (T.1 : Int)
        · have hst : curK D (k + 1) = T := by rw [Hst.out, if_pos (by omega)]
          have Hst2 := Lib.hid hst
          clear hst
          go_wp2
          go_roundw
          case rel =>
            refine ⟨k + 1, by omega, by go_num, fun h => (by rw [hoff] at h; cases h), (((HB22.out.far (by dsimp only; omega) _).far (by dsimp only; omega) _).far (by dsimp only; omega) _).alloc _, ?_, (((Hb02.out.setCell (by dsimp only; omega) _).setCell (by dsimp only; omega) _).setCell (by dsimp only; omega) _).alloc (by have := Hb02.out.size; simpa [World.setCell] using this) _⟩
            rw [Hst2.out]
            have h3 := ((HB42.out.set_ 0 (.int .u64 (T.1 : Int))).set_ 1 (.int .i64 (T.2.1 : Int))).set_ 2 (.int .i64 (T.2.2 : Int))
            have h4 := h3.alloc (.cells #[.int .u64 (T.1 : Int), .int .i64 (T.2.1 : Int), .int .i64 (T.2.2 : Int)] 90)
            simpa using h4
          case measure => simp [intOf]; omega
        · have hst : curK D (k + 1) = C := by rw [Hst.out, if_neg (by omega)]
          have Hst2 := Lib.hid hst
          clear hst
          go_wp2
          go_roundw
          case rel =>
            refine ⟨k + 1, by omega, by go_num, fun h => (by rw [hoff] at h; cases h), HB22.out.alloc _, ?_, Hb02.out.alloc Hb02.out.size _⟩
            rw [Hst2.out]
            exact HB42.out.alloc _
          case measure => simp [intOf]; omega
    · obtain rfl : k = 2 := by omega
      have hoff : D.off = false := by
        cases hoff : D.off with
        | true => exact absurd (Hk0.out hoff) (by decide)
        | false => rfl
      have hCT : curT D = C := HC.out.symm
      go_wp2
      all_goals refine bodyPost_ret (v := .tuple #[vTally C, .int .i64 0]) (by simp [results, vTally, Tryz.results33, go_sem, x0, x1, x2]) rfl ?_
      all_goals exact ⟨rfl, ((Hb.out.setCell (Nat.le_refl _) _).setCell (Nat.le_refl _) _).setCell (Nat.le_refl _) _⟩
end Go.Proofs.YtdmbmkjiffhbcaaGreat

namespace Go.Proofs.YtdmbmkjiffhbcaaGreat
open Go.RowKit
set_option maxRecDepth 100000

/-- So many sectors, one behind the other. -/
def areaD (D : Dev) (st : Nat) : Nat → List UInt8
  | 0 => []
  | j + 1 => areaD D st j ++ D.now (st + j)
theorem areaD_length {D : Dev} (h : D.Wf) (st j : Nat) (hj : st + j ≤ D.sure.length) : (areaD D st j).length = j * 256 := by
  induction j with
  | zero => rfl
  | succ j ih =>
    show (areaD D st j ++ D.now (st + j)).length = _
    rw [List.length_append, ih (by omega), now_length h _ (by omega)]
    omega
/-- How many sectors so many bytes reach into. -/
def secs (n : Nat) : Nat := (n + 255) / 256
/-- The bytes that are in use of a side, from a sector of it on. -/
def useB (D : Dev) (s u first : Nat) : List UInt8 := (areaD D (2 + s * sideN D + first) (secs (u - first * 256))).take (u - first * 256)

set_option maxHeartbeats 1000000 in
theorem inuse_any (base : Nat) (G : Nat → Prop) (g : Nat) (D : Dev) (n s u first : Nat) (hs : s ≤ 1) (hu : u ≤ sideN D * 256) (hf : first * 256 ≤ u) (w : World) (hd : DevAt w base G g D) (h6 : 6 ≤ D.sure.length) :
    Calls Tryz.prog 35 #[.pointer (some ⟨g, 0, none⟩), vTally (n, s, u), .int .i64 (first : Int)] w fun e w' => Below w.heap.size w w' ∧
      ((D.off = true ∧ first * 256 < u ∧ e = .returned (.tuple #[.slice none 0 0, .int .i64 6])) ∨
       ((D.off = false ∨ first * 256 = u) ∧ ∃ A, e = .returned (.tuple #[.slice A (u - first * 256) (u - first * 256), .int .i64 0]) ∧ (useB D s u first).length = u - first * 256 ∧ Rd w' (fun k => w.heap.size ≤ k) A ((useB D s u first).map u8))) := by
  have hwf := hd.wf
  have hlen := hd.lens
  have hsn := sideN_le D hlen.2
  have hsl : 2 + 2 * sideN D ≤ D.sure.length := by unfold sideN; omega
  have hsm : s * sideN D ≤ sideN D := by
    have := Nat.mul_le_mul_right (sideN D) hs
    rwa [Nat.one_mul] at this
  obtain ⟨Q, hQ⟩ : ∃ Q, Q = sideN D := ⟨_, rfl⟩
  obtain ⟨P, hP⟩ : ∃ P, P = s * sideN D := ⟨_, rfl⟩
  obtain ⟨st, hst⟩ : ∃ st, st = 2 + s * sideN D := ⟨_, rfl⟩
  have hstart := fun (z : World) (hz : DevAt z base G g D) => sidestart_any base G g D s hs z hz
  rw [← hst] at hstart
  have hb0 : Below w.heap.size w (w.alloc (.cells #[.int .u64 (n : Int), .int .i64 (s : Int), .int .i64 (u : Int)] 90)) := (Below.refl _ _).alloc (Nat.le_refl _) _
  have hB0 : Blk (w.alloc (.cells #[.int .u64 (n : Int), .int .i64 (s : Int), .int .i64 (u : Int)] 90)) w.heap.size 90 #[.int .u64 (n : Int), .int .i64 (s : Int), .int .i64 (u : Int)] := Blk.new _ _ _
  have hd0 := hd.grow hb0
  have Hd := Lib.hid hd
  have Hstart := Lib.hid hstart
  have Hwf := Lib.hid hwf
  have Hb0 := Lib.hid hb0
  have HB0 := Lib.hid hB0
  have Hd0 := Lib.hid hd0
  have hub : useB D s u first = (areaD D (st + first) (secs (u - first * 256))).take (u - first * 256) := by rw [hst]; rfl
  rw [← hP] at hst hsm
  rw [← hQ] at hu hsn hsl hsm
  clear hP hQ
  obtain ⟨N, hN⟩ : ∃ N, N = u - first * 256 := ⟨_, rfl⟩
  obtain ⟨F, hF⟩ : ∃ F, F = first * 256 := ⟨_, rfl⟩
  obtain ⟨S, hS⟩ : ∃ S, S = secs N := ⟨_, rfl⟩
  have hS0 : N ≤ (N + 255) / 256 * 256 ∧ ((N + 255) / 256 = 0 ∨ ((N + 255) / 256 - 1) * 256 < N) := by omega
  have hS1 : N ≤ S * 256 := by rw [hS]; exact hS0.1
  have hS2 : S = 0 ∨ (S - 1) * 256 < N := by rw [hS]; exact hS0.2
  rw [← hN, ← hS] at hub
  clear hS hS0
  have e2 : (first : Int) * 256 = (F : Int) := by omega
  have e3 : (u : Int) - (F : Int) = (N : Int) := by omega
  have hn2 : wrap64 ((first : Int) * 256) = (F : Int) := by rw [e2]; exact IntWalk.wrap64_in _ (by omega)
  have Hn2 := Lib.hid hn2
  clear hn2
  have hn3 : wrap64 ((u : Int) - (F : Int)) = (N : Int) := by rw [e3]; exact IntWalk.wrap64_in _ (by omega)
  have Hn3 := Lib.hid hn3
  clear hn3 e2 e3
  have Hst := Lib.hid hst
  have HN := Lib.hid hN
  have HF := Lib.hid hF
  have Hub := Lib.hid hub
  clear hd hstart hwf hb0 hB0 hd0 hub hst
  unfold vTally
  go_enter Tryz.func35, Tryz.ntmps35
  go_wp2_with fail
  refine (Hstart.out _ Hd0.out).mono ?_
  rintro e wq ⟨rfl, rfl⟩
  go_wp2_with fail
  have hoffs : D.off = true → D.why (st + first : Nat) = 6 := fun h => by unfold Dev.why; rw [if_pos h]
  have Hoffs := Lib.hid hoffs
  clear hoffs
  go_loopw [8, 10] (fun x i wr => ∃ j : Nat, j ≤ S ∧ i = .int .i64 ((first + j : Nat) : Int) ∧ (D.off = true → j = 0) ∧ Own1 wr w.heap.size 5 x ((areaD D (st + first) j).map u8) ∧ Below w.heap.size w wr ∧ Blk wr w.heap.size 90 #[.int .u64 (n : Int), .int .i64 (s : Int), .int .i64 (u : Int)]) (fun _ i _ => S + first - (intOf i).toNat)
  case atStart => exact ⟨0, by omega, rfl, fun _ => rfl, Own1.nil _ _ _, Hb0.out, HB0.out⟩
  case round =>
    obtain ⟨j, hj, rfl, hj0, hown, hb, hB⟩ := hrel
    clear Hb0 HB0
    have x2 := hB.cell 2
    simp only [List.getElem?_toArray, List.getElem?_cons_zero, List.getElem?_cons_succ] at x2
    have hbl := hB.lt
    have hst := Hst.out
    have hN' := HN.out
    have hF' := HF.out
    by_cases hlt : j < S
    · have hju : (first + j) * 256 < u := by omega
      have hjs : first + j < Q := by omega
      have hc1 : (((first + j) * 256 : Nat) : Int) < (u : Int) := by omega
      have hstl : st + first + j < D.sure.length := by omega
      have hal := areaD_length Hwf.out (st + first) j (by omega)
      have hnl := now_length Hwf.out (st + first + j) hstl
      have hFu : first * 256 < u := by omega
      have hq0 : ¬ (((st + first + j : Nat) : Int) < 0 ∨ (D.sure.length : Int) ≤ ((st + first + j : Nat) : Int)) := by omega
      have hj1 : j + 1 ≤ S := hlt
      have hA1 : (j * 256 + 256) * 1 ≤ 140737488355328 := by omega
      have hA2 : j * 256 + 256 ≤ 140737488355328 := by omega
      have hme : S + first - (first + (j + 1)) < S + first - (first + j) := by omega
      have hw1 : wrap64 (((first + j : Nat) : Int) * 256) = (((first + j) * 256 : Nat) : Int) := by
        have e : (((first + j) * 256 : Nat) : Int) = ((first + j : Nat) : Int) * 256 := by omega
        rw [e]
        exact IntWalk.wrap64_in _ (by omega)
      have Hw1 := Lib.hid hw1
      clear hw1
      have hw2 : wrap64 ((st : Int) + ((first + j : Nat) : Int)) = ((st + first + j : Nat) : Int) := by
        have e : ((st + first + j : Nat) : Int) = (st : Int) + ((first + j : Nat) : Int) := by omega
        rw [e]
        exact IntWalk.wrap64_in _ (by omega)
      have Hw2 := Lib.hid hw2
      clear hw2
      have hw3 : wrap64 (((first + j : Nat) : Int) + 1) = ((first + (j + 1) : Nat) : Int) := by
        have e : ((first + (j + 1) : Nat) : Int) = ((first + j : Nat) : Int) + 1 := by omega
        rw [e]
        exact IntWalk.wrap64_in _ (by omega)
      have Hw3 := Lib.hid hw3
      clear hw3
      obtain ⟨k, hk⟩ : ∃ k : Nat, k = first + j := ⟨_, rfl⟩
      obtain ⟨K, hK⟩ : ∃ K : Nat, K = (first + j) * 256 := ⟨_, rfl⟩
      obtain ⟨q, hq⟩ : ∃ q : Nat, q = st + first + j := ⟨_, rfl⟩
      obtain ⟨k1, hk1⟩ : ∃ k1 : Nat, k1 = first + (j + 1) := ⟨_, rfl⟩
      obtain ⟨X, hX⟩ : ∃ X, X = areaD D (st + first) j := ⟨_, rfl⟩
      have hnext : areaD D (st + first) (j + 1) = X ++ D.now q := by rw [hX, hq]; rfl
      rw [← hX] at hown hal
      rw [← hq] at Hw2 hstl hnl hq0
      rw [← hK] at Hw1 hc1
      rw [← hk1] at Hw3
      rw [← hk] at Hw1 Hw2 Hw3 ⊢
      have Hown := Lib.hid hown
      have Hb := Lib.hid hb
      have HB := Lib.hid hB
      have Hdw := Lib.hid (Hd.out.grow hb)
      have Hhk := Lib.hid hk
      have Hhk1 := Lib.hid hk1
      have Hal := Lib.hid hal
      have Hnl := Lib.hid hnl
      have Hnext := Lib.hid hnext
      have HFu := Lib.hid hFu
      have Hq0 := Lib.hid hq0
      have HA1 := Lib.hid hA1
      have HA2 := Lib.hid hA2
      have Hme := Lib.hid hme
      have Hj1 := Lib.hid hj1
      obtain ⟨A8, c8, hx8, _, _, _⟩ := hown.form
      rw [List.length_map] at hx8
      subst hx8
      clear hK hq hk hk1 hX hown hb hB hal hnl hnext hju hjs hN' hF' hj0 hFu hq0 hA1 hA2 hme hj1 hstl hsm hsl hst
      have hw1 := Hw1.out
      have hw2 := Hw2.out
      have hw3 := Hw3.out
      go_wp2_with fail
      with_reducible refine (read_any base G g D (q : Int) wr Hdw.out).mono ?_
      rintro e w1 hrd
      cases hoff : D.off with
      | true =>
        have hy : D.why (q : Int) = 6 := by unfold Dev.why; rw [if_pos hoff]
        rcases hrd with ⟨_, rfl, rfl⟩ | ⟨h, _⟩
        · rw [hy]
          have Hoff := Lib.hid hoff
          clear hoff hy
          go_wp2
          go_ret2
          exact ⟨Hb.out, .inl ⟨Hoff.out, HFu.out, rfl⟩⟩
        · rw [hy] at h; cases h
      | false =>
        have hy : D.why (q : Int) = 0 := by
          unfold Dev.why
          rw [if_neg (by rw [hoff]; decide), if_neg Hq0.out]
        rcases hrd with ⟨h, _⟩ | ⟨_, vb, rfl, hob, hb1⟩
        · exact absurd hy h
        rw [show ((q : Int)).toNat = q from rfl] at hob
        obtain ⟨A9, c9, hv9, _, _, hr9⟩ := hob.form
        rw [List.length_map, Hnl.out] at hv9
        subst hv9
        have Hr9 := Lib.hid hr9
        have Hown1 := Lib.hid (Hown.out.grow hb1)
        have hbs1 : w.heap.size ≤ w1.heap.size := Nat.le_trans Hb.out.size hb1.size
        have hxm : (X.map u8).length = j * 256 := by rw [List.length_map]; exact Hal.out
        have Hb01 := Lib.hid (below_call Hb.out hb1)
        have HB1 := Lib.hid (HB.out.grow hb1)
        have Hoff := Lib.hid hoff
        have Hxm := Lib.hid hxm
        clear hob hr9 hb1 hy hoff hxm
        go_wp2_with (at_builtin; refine wpList_app1 _ elemB rfl (.tmp 37) (.tmp 38) rfl w.heap.size _ (X.map u8) rfl Hown1.out _ A9 256 c9 ((D.now q).map u8) (by rw [List.length_map]; exact Hnl.out) rfl Hr9.out (u8_oneCell _) (by rw [Hxm.out]; exact HA1.out) (by rw [Hxm.out]; exact HA2.out) hbs1 ?_; intro v2 w2 hown2 hg2 _; have hb2 := Hb01.out.trans (Hown1.out.below_of hg2 hbs1 (Nat.le_refl _)); have hB2 := HB1.out.grown hg2 (Hown1.out.apart HB1.out (by decide)); have Hown2 := Lib.hid hown2; have Hb2 := Lib.hid hb2; have HB2 := Lib.hid hB2; clear hown2 hg2 hb2 hB2)
        go_roundw
        case rel => exact ⟨j + 1, Hj1.out, by rw [hw3, Hhk1.out], fun h => (by rw [Hoff.out] at h; cases h), by rw [Hnext.out, List.map_append]; exact Hown2.out, Hb2.out, HB2.out⟩
        case measure =>
          have hm : ∀ (a b : Int) (x y : Nat), a = (x : Int) → b = (y : Int) → S + first - x < S + first - y → S + first - (intOf (.int .i64 a)).toNat < S + first - (intOf (.int .i64 b)).toNat := fun a b x y ha hb h => by
            rw [ha, hb]
            exact h
          exact hm _ _ k1 k hw3 rfl (by rw [Hhk1.out, Hhk.out]; exact Hme.out)
    · obtain rfl : j = S := by omega
      have hc1 : ¬ ((((first + j) * 256 : Nat) : Int) < (u : Int)) := by omega
      have hal := areaD_length Hwf.out (st + first) (j) (by omega)
      have hNle : N ≤ j * 256 := by omega
      have hoff : D.off = false ∨ first * 256 = u := by
        cases hoff : D.off with
        | false => exact .inl rfl
        | true =>
          have := hj0 hoff
          exact .inr (by omega)
      have hw1 : wrap64 (((first + j : Nat) : Int) * 256) = (((first + j) * 256 : Nat) : Int) := by
        have e : (((first + j) * 256 : Nat) : Int) = ((first + j : Nat) : Int) * 256 := by omega
        rw [e]
        exact IntWalk.wrap64_in _ (by omega)
      have Hw1 := Lib.hid hw1
      clear hw1
      obtain ⟨k, hk⟩ : ∃ k : Nat, k = first + j := ⟨_, rfl⟩
      obtain ⟨K, hK⟩ : ∃ K : Nat, K = (first + j) * 256 := ⟨_, rfl⟩
      rw [← hK] at Hw1 hc1
      rw [← hk] at Hw1 ⊢
      obtain ⟨A8, c8, hx8, hc8, hm8, hr8⟩ := hown.form
      rw [List.length_map] at hx8 hc8
      rw [hal] at hx8 hc8
      subst hx8
      have hNc : (N : Int) ≤ (c8 : Int) := by omega
      have hul : (useB D s u first).length = N := by rw [Hub.out, List.length_take, hal]; omega
      have hrd : Rd wr (fun k => w.heap.size ≤ k) A8 ((useB D s u first).map u8) := by
        rw [Hub.out, List.map_take]
        exact (hr8.weaken fun q hq => (hown.lt q hq).1).take
      have Hrd := Lib.hid hrd
      have Hul := Lib.hid hul
      have Hb := Lib.hid hb
      have Hoff := Lib.hid hoff
      obtain ⟨M, hM⟩ : ∃ M, M = j * 256 := ⟨_, rfl⟩
      rw [← hM] at hown hc8 ⊢
      have hNM : (N : Int) ≤ (M : Int) := by omega
      clear hrd hul hb hoff hk hK hown hr8 hal hNle hN' hF' hj0 hM hB hst
      have hw1 := Hw1.out
      have hw2 := Hn2.out
      have hw3 := Hn3.out
      go_wp2
      go_ret2
      exact ⟨Hb.out, .inr ⟨Hoff.out, A8, rfl, Hul.out.trans HN.out, Hrd.out⟩⟩
end Go.Proofs.YtdmbmkjiffhbcaaGreat

namespace Go.Proofs.YtdmbmkjiffhbcaaGreat
open Go.RowKit
set_option maxRecDepth 100000

/-- A record as a side has it. -/
def recB (r : List UInt8) : List UInt8 := fieldB (r ++ sumB r)
/-- Records as a side has them. -/
def recsB (L : List (List UInt8)) : List UInt8 := L.flatMap recB
theorem recB_length (r : List UInt8) : 5 ≤ (recB r).length ∧ (recB r).length ≤ r.length + 7 := by
  unfold recB
  rw [fieldB_length, List.length_append, sumB_length]
  have := lenB_le (r.length + 4)
  omega
theorem recsB_take_succ (L : List (List UInt8)) (k : Nat) (h : k < L.length) : recsB (L.take (k + 1)) = recsB (L.take k) ++ recB L[k] := by
  unfold recsB
  rw [List.take_succ_eq_append_getElem h, List.flatMap_append]
  simp
theorem recsB_take_le (L : List (List UInt8)) (k : Nat) : (recsB (L.take k)).length ≤ (recsB L).length := by
  have := congrArg (fun l => (recsB l).length) (List.take_append_drop k L)
  simp only [recsB, List.flatMap_append, List.length_append] at this
  unfold recsB
  omega

set_option maxHeartbeats 1000000 in
theorem jpack_any (ok : Nat → Prop) (v : Value) (L : List (List UInt8)) (room : Nat) (w : World) (hv : IsBB w ok v L) (hlong : ∀ r ∈ L, r.length ≤ 65531) (hroom : room ≤ 1099511627776) :
    Calls Tryz.prog 62 #[v, .int .i64 (room : Int)] w fun e w' => Below w.heap.size w w' ∧
      ((room < (recsB L).length ∧ e = .returned (.tuple #[.slice none 0 0, .int .i64 5])) ∨
       ((recsB L).length ≤ room ∧ ∃ x, e = .returned (.tuple #[x, .int .i64 0]) ∧ Own1 w' w.heap.size 5 x ((recsB L).map u8))) := by
  obtain ⟨A, c, rfl, hc, hm, hel⟩ := hv.elem
  have Hel := Lib.hid hel
  have Hlong := Lib.hid hlong
  have Hroom := Lib.hid hroom
  have hLl : L.length ≤ 9223372036854775807 := by unfold maxLen at hm; omega
  clear hel hv hlong hm hroom
  go_enter Tryz.func62, Tryz.ntmps62
  go_wp2_with fail
  go_loopw [6, 13] (fun x i wr => ∃ k : Nat, k ≤ L.length ∧ i = .int .i64 (k : Int) ∧ (recsB (L.take k)).length ≤ room ∧ Own1 wr w.heap.size 5 x ((recsB (L.take k)).map u8) ∧ Below w.heap.size w wr) (fun _ i _ => L.length - (intOf i).toNat)
  case atStart => exact ⟨0, by omega, rfl, Nat.zero_le _, Own1.nil _ _ _, Below.refl _ _⟩
  case round =>
    obtain ⟨k, hk, rfl, hle, hown, hb⟩ := hrel
    obtain ⟨A6, c6, hx6, _, _, _⟩ := hown.form
    rw [List.length_map] at hx6
    by_cases hlt : k < L.length
    · obtain ⟨b, off, rfl, hob, hbl, hcells⟩ := Hel.out (by intro e; rw [e] at hlt; simp at hlt)
      obtain ⟨Ai, ci, hcell, hci, hcm, hri⟩ := hcells k hlt
      have hcell2 := (hb.cell (p := ⟨b, off + k, none⟩) hbl).trans hcell
      have hri2 : Rd wr ok Ai (L[k].map Go.Proofs.YtdmbmkjiffhbcaaGreat.u8) := hri.frame (fun q _ hq => hb.block q hq)
      have hr1 := Hlong.out L[k] (List.getElem_mem hlt)
      have hrl := recB_length L[k]
      have hst := recsB_take_succ L k hlt
      have hst2 := recsB_take_le L (k + 1)
      obtain ⟨r, hr⟩ : ∃ r, r = L[k] := ⟨_, rfl⟩
      obtain ⟨X, hX⟩ : ∃ X, X = recsB (L.take k) := ⟨_, rfl⟩
      rw [← hr] at hcell2 hri2 hr1 hrl hst hci
      rw [← hX] at hle hown hst hx6
      have hsl := congrArg List.length hst
      rw [List.length_append] at hsl
      have hIs : IsB wr ok (.slice Ai r.length ci) r := ⟨Ai, ci, rfl, hci, hcm, hri2⟩
      obtain ⟨R, hR⟩ : ∃ R : Nat, R = (recB r).length := ⟨_, rfl⟩
      obtain ⟨M, hM⟩ : ∃ M : Nat, M = X.length := ⟨_, rfl⟩
      rw [← hR] at hrl hsl
      rw [← hM] at hle hsl hx6
      have hroom := Hroom.out
      have hM1 : (M + R) * 1 ≤ 140737488355328 := by omega
      have hM2 : M + R ≤ 140737488355328 := by omega
      have hsb : (room : Int) - (M : Int) = ((room - M : Nat) : Int) := by omega
      have hr40 : r.length ≤ 1099511627776 := by omega
      have hpk : (packB [r ++ sumB r]).length ≤ 1099511627776 := by
        have : packB [r ++ sumB r] = recB r := by rw [packB_cons, packB_nil, List.append_nil]; rfl
        rw [this, ← hR]
        omega
      have hpr : packB [r ++ sumB r] = recB r := by rw [packB_cons, packB_nil, List.append_nil]; rfl
      have hall : ∀ f ∈ [r ++ sumB r], f.length ≤ 65535 := by intro f hf; simp only [List.mem_cons, List.not_mem_nil, or_false] at hf; rw [hf, List.length_append, sumB_length]; omega
      have Hpr := Lib.hid hpr
      have Hall := Lib.hid hall
      clear hpr hall
      have hcase : (R ≤ room - M ∧ (recsB (L.take (k + 1))).length ≤ room) ∨ (room - M < R ∧ room < (recsB L).length) := by omega
      have hsw : wrap64 ((room : Int) - (M : Int)) = ((room - M : Nat) : Int) := by rw [hsb]; exact IntWalk.wrap64_in _ (by omega)
      have Hsw := Lib.hid hsw
      clear hsw hsb hroom
      subst hx6
      have Hown := Lib.hid hown
      have Hb := Lib.hid hb
      have HIs := Lib.hid hIs
      have Hr := Lib.hid hr
      have Hst := Lib.hid hst
      have HR := Lib.hid hR
      have HM := Lib.hid hM
      have Hle := Lib.hid hle
      have Hpk := Lib.hid hpk
      have Hr40 := Lib.hid hr40
      clear hcells hcell hri hri2 hown hb hIs hr hst hst2 hX hR hM hle hpk hr40 hrl hsl hr1
      go_wp2_with fail
      with_reducible refine (seal_any ok (.slice Ai r.length ci) r wr HIs.out Hr40.out).mono ?_
      rintro e w1 ⟨v1, rfl, hown1, hb1⟩
      have hbs1 : Below w1.heap.size w1 (w1.alloc (.cells #[v1] 47)) := (Below.refl _ _).alloc (Nat.le_refl _) _
      have hbb : IsBB (w1.alloc (.cells #[v1] 47)) (fun _ => True) (.slice (some ⟨w1.heap.size, 0, none⟩) 1 1) [r ++ sumB r] := by
        refine isBB_of [(v1, r ++ sumB r)] (by simp) (by unfold maxLen; omega) ((Blk.new w1 47 #[v1]).rd _ trivial) ?_
        intro p hp
        simp only [List.mem_cons, List.not_mem_nil, or_false] at hp
        subst hp
        exact (hown1.isB.weaken fun _ _ => trivial).grow hbs1
      obtain ⟨A1, c1, hv1, _, _, _⟩ := hown1.form
      obtain ⟨m1, hm1⟩ : ∃ m1, m1 = ((r ++ sumB r).map Go.Proofs.YtdmbmkjiffhbcaaGreat.u8).length := ⟨_, rfl⟩
      rw [← hm1] at hv1
      clear hm1
      subst hv1
      have Hbb := Lib.hid hbb
      have Hb1 := Lib.hid (below_call hb1 hbs1)
      clear hbb hown1 hb1 hbs1
      go_wp2_with fail
      refine (pack_any (fun _ => True) _ [r ++ sumB r] _ Hbb.out Hpk.out).mono ?_
      rintro e w2 ⟨hpost, hb2⟩
      rw [if_pos Hall.out] at hpost
      obtain ⟨v2, rfl, hown2⟩ := hpost
      rw [Hpr.out] at hown2
      obtain ⟨A2, c2, hv2, _, _, hr2⟩ := hown2.form
      rw [List.length_map, ← HR.out] at hv2
      subst hv2
      have Hr2 := Lib.hid hr2
      have hb02 := below_call Hb1.out hb2
      have Hown2 := Lib.hid (Hown.out.grow hb02)
      have Hb2 := Lib.hid (below_call Hb.out hb02)
      have hbs2 : w.heap.size ≤ w2.heap.size := Hb2.out.size
      clear hr2 hown2 hb2 hb02
      rcases hcase with ⟨hc1, hc2⟩ | ⟨hc1, hc2⟩
      · have hg : ¬ (((room - M : Nat) : Int) < (R : Int)) := by omega
        have hxm : (X.map Go.Proofs.YtdmbmkjiffhbcaaGreat.u8).length = M := by rw [List.length_map]; exact HM.out.symm
        have Hxm := Lib.hid hxm
        have Hc2 := Lib.hid hc2
        clear hxm hc1 hc2
        have hsw := Hsw.out
        go_wp2_with (at_builtin; refine wpList_app1 _ elemB rfl (.tmp 34) (.tmp 35) rfl w.heap.size _ (X.map Go.Proofs.YtdmbmkjiffhbcaaGreat.u8) rfl Hown2.out _ A2 R c2 ((recB r).map Go.Proofs.YtdmbmkjiffhbcaaGreat.u8) (by rw [List.length_map]; exact HR.out.symm) rfl Hr2.out (u8_oneCell _) (by rw [Hxm.out]; exact hM1) (by rw [Hxm.out]; exact hM2) hbs2 ?_; intro v3 w3 hown3 hg3 _; have hb3 := Hb2.out.trans (Hown2.out.below_of hg3 hbs2 (Nat.le_refl _)); have Hown3 := Lib.hid hown3; have Hb3 := Lib.hid hb3; clear hown3 hg3 hb3)
        go_roundw
        case rel =>
          clear hsw
          exact ⟨k + 1, by omega, by go_num, Hc2.out, by rw [Hst.out, List.map_append]; exact Hown3.out, Hb3.out⟩
        case measure =>
          clear hsw
          simp [intOf]
          omega
      · have hg : ((room - M : Nat) : Int) < (R : Int) := by omega
        have Hc2 := Lib.hid hc2
        clear hc1 hc2
        have hsw := Hsw.out
        go_wp2
        go_ret2
        exact ⟨Hb2.out, .inl ⟨Hc2.out, rfl⟩⟩
    · obtain rfl : k = L.length := by omega
      rw [List.take_length] at hle hown hx6
      subst hx6
      have Hown := Lib.hid hown
      have Hle := Lib.hid hle
      have Hb := Lib.hid hb
      clear hown hle hb
      go_wp2
      go_ret2
      exact ⟨Hb.out, .inr ⟨Hle.out, _, rfl, Hown.out⟩⟩
end Go.Proofs.YtdmbmkjiffhbcaaGreat

namespace Go.Proofs.YtdmbmkjiffhbcaaGreat
open Go.RowKit
set_option maxRecDepth 100000

/-- What a journal knows. -/
structure JM where
  number : Nat
  side : Nat
  used : Nat
  count : Nat
  broken : Bool
/-- A journal at a pointer, over the device at another one. -/
def JAt (w : World) (j g : Nat) (J : JM) : Prop := Blk w j 98 #[.pointer (some ⟨g, 0, none⟩), .int .u64 (J.number : Int), .int .i64 (J.side : Int), .int .i64 (J.used : Int), .int .i64 (J.count : Int), .bool J.broken]
theorem JAt.keep {w w' : World} {j g : Nat} {J : JM} (h : JAt w j g J) (hk : w'.heap[j]? = w.heap[j]?) : JAt w' j g J := Blk.keep h hk
theorem JAt.grow {w w' : World} {j g : Nat} {J : JM} (h : JAt w j g J) (hb : Below w.heap.size w w') : JAt w' j g J := Blk.grow h hb
theorem JAt.cells {w : World} {j g : Nat} {J : JM} (h : JAt w j g J) : w.cell? ⟨j, 0, none⟩ = some (.pointer (some ⟨g, 0, none⟩)) ∧ w.cell? ⟨j, 1, none⟩ = some (.int .u64 (J.number : Int)) ∧ w.cell? ⟨j, 2, none⟩ = some (.int .i64 (J.side : Int)) ∧ w.cell? ⟨j, 3, none⟩ = some (.int .i64 (J.used : Int)) ∧ w.cell? ⟨j, 4, none⟩ = some (.int .i64 (J.count : Int)) ∧ w.cell? ⟨j, 5, none⟩ = some (.bool J.broken) := by
  have hb : Blk w j 98 _ := h
  refine ⟨?_, ?_, ?_, ?_, ?_, ?_⟩ <;> (rw [hb.cell]; rfl)

theorem jbroken_nil (w : World) : Calls Tryz.prog 46 #[.pointer none] w fun e w' => e = .returned (.bool true) ∧ w = w' := by
  go_enter Tryz.func46, Tryz.ntmps46
  go_wp2
  go_ret
  exact ⟨rfl, rfl⟩
theorem jbroken_any (w : World) (j g : Nat) (J : JM) (h : JAt w j g J) : Calls Tryz.prog 46 #[.pointer (some ⟨j, 0, none⟩)] w fun e w' => e = .returned (.bool J.broken) ∧ w = w' := by
  obtain ⟨_, _, _, _, _, c5⟩ := h.cells
  clear h
  go_enter Tryz.func46, Tryz.ntmps46
  go_wp2
  go_ret
  exact ⟨rfl, rfl⟩
set_option maxHeartbeats 400000 in
theorem jcheck_any (ok : Nat → Prop) (v : Value) (L : List (List UInt8)) (w : World) (hv : IsBB w ok v L) (j g : Nat) (J : JM) (h : JAt w j g J) :
    Calls Tryz.prog 37 #[.pointer (some ⟨j, 0, none⟩), v] w fun e w' => e = .returned (.int .i64 (if J.broken then 3 else if ∀ r ∈ L, r.length ≤ 65531 then 0 else 4)) ∧ w = w' := by
  obtain ⟨E, hE⟩ : ∃ E : Int, E = if J.broken then 3 else if ∀ r ∈ L, r.length ≤ 65531 then 0 else 4 := ⟨_, rfl⟩
  rw [← hE]
  have HE := Lib.hid hE
  clear hE
  obtain ⟨A, c, rfl, hc, hm, hel⟩ := hv.elem
  have Hel := Lib.hid hel
  have Hj := Lib.hid (jbroken_any w j g J h)
  have hLl : L.length ≤ 9223372036854775807 := by unfold maxLen at hm; omega
  clear hel hv hm h
  cases hbr : J.broken with
  | true =>
    rw [hbr] at Hj
    go_enter Tryz.func37, Tryz.ntmps37
    go_wp2_with fail
    refine Hj.out.mono ?_
    rintro e w' ⟨rfl, rfl⟩
    have h3 : E = 3 := by rw [HE.out, hbr]; rfl
    have H3 := Lib.hid h3
    clear h3
    go_wp2
    go_ret
    exact ⟨by rw [H3.out]; rfl, rfl⟩
  | false =>
    rw [hbr] at Hj
    go_enter Tryz.func37, Tryz.ntmps37
    go_wp2_with fail
    refine Hj.out.mono ?_
    rintro e w' ⟨rfl, rfl⟩
    go_wp2_with fail
    go_loop [11] (fun i => ∃ k : Nat, k ≤ L.length ∧ i = .int .i64 (k : Int) ∧ ∀ r ∈ L.take k, r.length ≤ 65531) (fun i => L.length - (intOf i).toNat)
    case atStart => exact ⟨0, by omega, rfl, by simp⟩
    case round =>
      obtain ⟨k, hk, rfl, hall⟩ := hrel
      by_cases hlt : k < L.length
      · obtain ⟨b, off, rfl, _, _, hcells⟩ := Hel.out (by intro e; rw [e] at hlt; simp at hlt)
        obtain ⟨Ai, ci, hcell, _, _, _⟩ := hcells k hlt
        have hmem := List.getElem_mem hlt
        have hnx : L[k].length ≤ 65531 → ∀ r ∈ L.take (k + 1), r.length ≤ 65531 := fun h r hr => by
          rw [List.take_succ_eq_append_getElem hlt] at hr
          rcases List.mem_append.1 hr with hr | hr
          · exact hall r hr
          · simp at hr; rw [hr]; exact h
        have Hnx := Lib.hid hnx
        have Hmem := Lib.hid hmem
        clear hcells hnx hall hmem
        by_cases hg : (65531 : Int) < (L[k].length : Int)
        · have hno : ¬ ∀ r ∈ L, r.length ≤ 65531 := fun h => by have := h _ Hmem.out; omega
          have h4 : E = 4 := by rw [HE.out, hbr, if_neg (by decide), if_neg hno]
          have H4 := Lib.hid h4
          clear hno h4
          go_wp2
          go_ret
          exact ⟨by rw [H4.out]; rfl, rfl⟩
        · go_wp2
          go_round
          case rel => exact ⟨k + 1, by omega, by go_num, Hnx.out (by omega)⟩
          case measure => simp [intOf]; omega
      · obtain rfl : k = L.length := by omega
        rw [List.take_length] at hall
        have h0 : E = 0 := by rw [HE.out, hbr, if_neg (by decide), if_pos hall]
        have H0 := Lib.hid h0
        clear hall h0
        go_wp2
        go_ret
        exact ⟨by rw [H0.out]; rfl, rfl⟩
end Go.Proofs.YtdmbmkjiffhbcaaGreat
