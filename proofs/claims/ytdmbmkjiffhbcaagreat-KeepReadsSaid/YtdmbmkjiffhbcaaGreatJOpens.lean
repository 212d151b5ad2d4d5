/-
  journal.Open.
  What the laws of layer 4 share.
-/
import Derived.Test.YtdmbmkjiffhbcaaGreatJPutAdd
import Derived.Test.YtdmbmkjiffhbcaaGreatJUnPrep
import Derived.OwnWalk
import Derived.Test.YtdmbmkjiffhbcaaGreatJCrash2
namespace Go.Proofs.YtdmbmkjiffhbcaaGreat
open Go.RowKit
set_option maxRecDepth 100000

theorem curK_none (D : Dev) (k : Nat) (h : (curK D k).1 = 0) : curK D k = (0, 0, 0) := by
  induction k with
  | zero => rfl
  | succ k ih =>
    have e : curK D (k + 1) = if (curK D k).1 < (asTally (D.now k) (sideN D * 256)).1 then asTally (D.now k) (sideN D * 256) else curK D k := rfl
    rw [e] at h ⊢
    split at h
    · omega
    · rename_i hn
      rw [if_neg hn]
      exact ih h
theorem useB_length_le (D : Dev) (s u f : Nat) : (useB D s u f).length ≤ u := by unfold useB; rw [List.length_take]; omega
theorem OwnBB.keep {w w' : World} {base : Nat} {v : Value} {L : List (List UInt8)} (h : OwnBB w base v L) (hk : ∀ k, base ≤ k → k < w.heap.size → w'.heap[k]? = w.heap[k]?) : OwnBB w' base v L := by
  obtain ⟨vs, h1, h2, h3, h4⟩ := h
  exact ⟨vs, h1.keep fun k hk' => hk k (h1.lt k hk').1 (h1.lt k hk').2, h2, fun i hi hi' => (h3 i hi hi').keep fun k hk' => hk k ((h3 i hi hi').lt k hk').1 ((h3 i hi hi').lt k hk').2, h4⟩
theorem OwnBB.grow {w w' : World} {base : Nat} {v : Value} {L : List (List UInt8)} (h : OwnBB w base v L) (hb : Below w.heap.size w w') : OwnBB w' base v L := h.keep fun k _ hk => hb.block k hk
theorem DevAt.alloc_ {w : World} {base : Nat} {F : Nat → Prop} {g : Nat} {D : Dev} (h : DevAt w base F g D) (o : Obj) : DevAt (w.alloc o) base F g D := h.grow ((Below.refl _ _).alloc (Nat.le_refl _) _)

theorem inuse0_any (base : Nat) (G : Nat → Prop) (g : Nat) (D : Dev) (n s u : Nat) (hs : s ≤ 1) (hu : u ≤ sideN D * 256) (w : World) (hd : DevAt w base G g D) (h6 : 6 ≤ D.sure.length) (hoff : D.off = false ∨ u = 0) :
    Calls Tryz.prog 35 #[.pointer (some ⟨g, 0, none⟩), .agg #[.int .u64 (n : Int), .int .i64 (s : Int), .int .i64 (u : Int)], .int .i64 0] w fun e w' => Below w.heap.size w w' ∧
      ∃ A, e = .returned (.tuple #[.slice A u u, .int .i64 0]) ∧ IsB w' (fun _ => True) (.slice A u u) (useB D s u 0) := by
  refine (inuse_any base G g D n s u 0 hs hu (by omega) w hd h6).mono ?_
  rintro e w' ⟨hb, ⟨h1, h2, _⟩ | ⟨_, A, rfl, h2, h3⟩⟩
  · rcases hoff with h | h
    · rw [h] at h1; cases h1
    · omega
  · rw [Nat.zero_mul, Nat.sub_zero] at h2 ⊢
    have := hd.lens.2
    have := sideN_le D this
    exact ⟨hb, A, rfl, A, u, by rw [h2], by rw [h2]; exact Nat.le_refl _, by unfold maxLen; omega, h3.weaken fun _ _ => trivial⟩
theorem recsOf_nil : recsOf [] = ([], 0) := by unfold recsOf; rw [steps_nil]; rfl
theorem inuse00_any (base : Nat) (G : Nat → Prop) (g : Nat) (D : Dev) (w : World) (hd : DevAt w base G g D) (h6 : 6 ≤ D.sure.length) :
    Calls Tryz.prog 35 #[.pointer (some ⟨g, 0, none⟩), .agg #[.int .u64 1, .int .i64 0, .int .i64 0], .int .i64 0] w fun e w' => Below w.heap.size w w' ∧
      ∃ A, e = .returned (.tuple #[.slice A 0 0, .int .i64 0]) ∧ IsB w' (fun _ => True) (.slice A 0 0) [] := by
  have h := inuse0_any base G g D 1 0 0 (by omega) (by omega) w hd h6 (.inr rfl)
  rw [show useB D 0 0 0 = [] by unfold useB; simp] at h
  exact h
theorem junpack0_any (A : Option Addr) (w : World) (h : IsB w (fun _ => True) (.slice A 0 0) []) :
    Calls Tryz.prog 36 #[.slice A 0 0] w fun e w' => ∃ x, e = .returned (.tuple #[x, .int .i64 0]) ∧ OwnBB w' w.heap.size x [] ∧ Below w.heap.size w w' := by
  have h := junpack_any _ _ _ w h (by simp)
  rw [recsOf_nil] at h
  exact h
/-- How Open ends. -/
def JOpenPost (base : Nat) (G : Nat → Prop) (g : Nat) (D : Dev) (w : World) (e : Ending) (w' : World) : Prop :=
  ∃ vp x, e = .returned (.tuple #[vp, x, .int .i64 (openM D).1.2]) ∧ ∃ G', DevAt w' base G' g (openM D).1.1 ∧ Fr G G' w w' ∧
    (((openM D).1.2 ≠ 0 ∧ vp = .pointer none ∧ x = .slice none 0 0) ∨
     ((openM D).1.2 = 0 ∧ ∃ j B, vp = .pointer (some ⟨j, 0, none⟩) ∧ JAt w' j g (openM D).2.1 ∧ w.heap.size ≤ B ∧ (∀ k, G' k → k < B) ∧ OwnBB w' B x (openM D).2.2 ∧ B ≤ j))
theorem jopen_nil (w : World) : Calls Tryz.prog 17 #[.pointer none] w fun e w' => e = .returned (.tuple #[.pointer none, .slice none 0 0, .int .i64 1]) ∧ w = w' := by
  go_enter Tryz.func17, Tryz.ntmps17
  go_wp2_with fail
  refine (size_nil w).mono ?_
  rintro e w' ⟨rfl, rfl⟩
  go_wp2
  go_ret3
  exact ⟨rfl, rfl⟩

set_option maxHeartbeats 1000000 in
theorem jopen_any (base : Nat) (G : Nat → Prop) (g : Nat) (D : Dev) (w : World) (hfew : D.Few 900000) (hd : DevAt w base G g D) : Calls Tryz.prog 17 #[.pointer (some ⟨g, 0, none⟩)] w (JOpenPost base G g D w) := by
  have Hd := Lib.hid hd
  have hsn := sideN_le D hd.lens.2
  have Hsz := Lib.hid (size_any base G g D w hd)
  by_cases h6 : D.sure.length < 6
  · have hM : openM D = ((D, 1), noJ) := by unfold openM; rw [if_pos h6]
    have HM := Lib.hid hM
    clear hM hd hfew
    go_enter Tryz.func17, Tryz.ntmps17
    go_wp2_with fail
    with_reducible refine Hsz.out.mono ?_
    rintro e w' ⟨rfl, rfl⟩
    go_wp2
    go_ret3
    unfold JOpenPost
    rw [HM.out]
    exact ⟨_, _, rfl, G, Hd.out, Fr.refl _ _, .inl ⟨by simp, rfl, rfl⟩⟩
  · have hcu := current_any base G g D w hd (by omega)
    by_cases hoff : D.off = true
    · have hM : openM D = ((D, 6), noJ) := by unfold openM; rw [if_neg h6, if_pos hoff]
      rw [if_pos hoff, if_pos hoff] at hcu
      unfold vTally at hcu
      have HM := Lib.hid hM
      have Hcu := Lib.hid hcu
      have h6' : ¬ ((D.sure.length : Int) < 6) := by omega
      clear hM hd hfew hcu hoff h6
      go_enter Tryz.func17, Tryz.ntmps17
      go_wp2_with fail
      with_reducible refine Hsz.out.mono ?_
      rintro e w' ⟨rfl, rfl⟩
      go_wp2_with fail
      refine Hcu.out.mono ?_
      rintro e w1 ⟨rfl, hb1⟩
      go_wp2
      go_ret3
      unfold JOpenPost
      rw [HM.out]
      exact ⟨_, _, rfl, G, (Hd.out.grow hb1).alloc_ _, (Fr.of_below hb1 _).alloc _, .inl ⟨by simp, rfl, rfl⟩⟩
    · rw [if_neg hoff, if_neg hoff] at hcu
      have hoff' : D.off = false := by simpa using hoff
      have h6' : ¬ ((D.sure.length : Int) < 6) := by omega
      have hok := curK_ok D 2
      have hM0 : openM D = if (curT D).1 = 0 then (if (tellD D 1 0 0).2 ≠ 0 then (tellD D 1 0 0, noJ) else (((tellD D 1 0 0).1, 0), (⟨1, 0, 0, 0, false⟩, [])))
        else if (recsOf (useB D (curT D).2.1 (curT D).2.2 0)).2 ≠ 0 then ((D, (recsOf (useB D (curT D).2.1 (curT D).2.2 0)).2), noJ)
        else ((D, 0), (⟨(curT D).1, (curT D).2.1, (curT D).2.2, (recsOf (useB D (curT D).2.1 (curT D).2.2 0)).1.length, false⟩, (recsOf (useB D (curT D).2.1 (curT D).2.2 0)).1)) := by
        have e : openM D = if D.sure.length < 6 then ((D, 1), noJ) else if D.off then ((D, 6), noJ) else if (curT D).1 = 0 then (if (tellD D 1 0 0).2 ≠ 0 then (tellD D 1 0 0, noJ) else (((tellD D 1 0 0).1, 0), (⟨1, 0, 0, 0, false⟩, [])))
          else if (recsOf (useB D (curT D).2.1 (curT D).2.2 0)).2 ≠ 0 then ((D, (recsOf (useB D (curT D).2.1 (curT D).2.2 0)).2), noJ)
          else ((D, 0), (⟨(curT D).1, (curT D).2.1, (curT D).2.2, (recsOf (useB D (curT D).2.1 (curT D).2.2 0)).1.length, false⟩, (recsOf (useB D (curT D).2.1 (curT D).2.2 0)).1)) := rfl
        rw [e, if_neg h6, if_neg hoff]
      by_cases hz : (curT D).1 = 0
      · rw [if_pos hz] at hM0
        have hT : curT D = (0, 0, 0) := curK_none D 2 hz
        rw [hT] at hcu
        unfold vTally at hcu
        have htl := fun (z : World) (hb : Below w.heap.size w z) => tell_any base G g D 1 0 0 (by omega) (by omega) z (hd.grow hb) ⟨by have := hfew.1; omega, by have := hfew.2; omega⟩
        unfold vTally at htl
        dsimp only at htl hcu
        rw [show ((1 : Nat) : Int) = 1 from rfl, show ((0 : Nat) : Int) = 0 from rfl] at htl
        rw [show ((0 : Nat) : Int) = 0 from rfl] at hcu
        have hlen := tellD_length D 1 0 0
        obtain ⟨R, hR⟩ : ∃ R, R = tellD D 1 0 0 := ⟨_, rfl⟩
        rw [← hR] at hlen
        have HR := Lib.hid hR
        simp only [← hR] at htl hM0
        have HM0 := Lib.hid hM0
        have Hcu := Lib.hid hcu
        have Htl := Lib.hid htl
        have hlen' : 6 ≤ R.1.sure.length := by omega
        clear hM0 hd hfew hcu hoff hoff' h6 hT hz htl hok hR hlen
        go_enter Tryz.func17, Tryz.ntmps17
        go_wp2_with fail
        with_reducible refine Hsz.out.mono ?_
        rintro e w' ⟨rfl, rfl⟩
        go_wp2_with fail
        refine Hcu.out.mono ?_
        rintro e w1 ⟨rfl, hb1⟩
        have hbx := hb1.alloc hb1.size (.cells #[.int .u64 1, .int .i64 0, .int .i64 0] 90)
        go_wp2_with fail
        have hB5 : Blk (w1.alloc (.cells #[.int .u64 1, .int .i64 0, .int .i64 0] 90)) w1.heap.size 90 #[.int .u64 1, .int .i64 0, .int .i64 0] := Blk.new _ _ _
        have hnG : ¬ G w1.heap.size := fun h => by have := (Hd.out.low _ h).2; have := hb1.size; omega
        have Hbx := Lib.hid hbx
        have HB5 := Lib.hid hB5
        have HnG := Lib.hid hnG
        clear hbx hB5 hnG hb1
        refine (Htl.out _ Hbx.out).mono ?_
        rintro e w2 ⟨rfl, G6, hd6, hf6⟩
        have hB6 := HB5.out.keep (hf6.block _ HB5.out.lt HnG.out).2
        have s0 := hB6.cell 0
        have s1 := hB6.cell 1
        have s2 := hB6.cell 2
        simp only [List.getElem?_toArray, List.getElem?_cons_zero, List.getElem?_cons_succ] at s0 s1 s2
        have Hd6 := Lib.hid hd6
        have Hf6 := Lib.hid ((Fr.of_below Hbx.out G).trans hf6)
        clear hd6 hf6 hB6
        by_cases he : R.2 = 0
        · have hM := HM0.out
          rw [if_neg (by rw [he]; decide)] at hM
          have HM := Lib.hid hM
          rw [he]
          clear hM he
          go_wp2_with fail
          refine (inuse00_any base G6 g R.1 w2 Hd6.out hlen').mono ?_
          rintro e w3 ⟨hb3, A, rfl, hB3⟩
          have t0 := cell_then hb3 s0
          have t1 := cell_then hb3 s1
          have t2 := cell_then hb3 s2
          have HB3 := Lib.hid hB3
          have Hb3 := Lib.hid hb3
          clear hB3 hb3 s0 s1 s2
          go_wp2_with fail
          refine (junpack0_any A w3 HB3.out).mono ?_
          rintro e w4 ⟨x, rfl, hx, hb4⟩
          have u0 := cell_then hb4 t0
          have u1 := cell_then hb4 t1
          have u2 := cell_then hb4 t2
          have hb24 := below_call Hb3.out hb4
          have Hf4 := Lib.hid (Hf6.out.then_below (hb24.mono Hf6.out.size))
          have Hd4 := Lib.hid (Hd6.out.grow hb24)
          have Hs2 := Hb3.out.size
          have Hs3 := hb4.size
          clear hb4 hb24 t0 t1 t2
          obtain ⟨vs, hown, hvl, hrest⟩ := hx
          obtain ⟨Ax, cx, hxe, _, _, _⟩ := hown.form
          rw [hvl] at hxe
          subst hxe
          have HO := Lib.hid (show OwnBB w4 w3.heap.size (.slice Ax ([] : List (List UInt8)).length cx) [] from ⟨vs, hown, hvl, hrest⟩)
          clear hown hvl hrest
          simp only [List.length_nil] at HO ⊢
          go_wp2
          go_ret3
          unfold JOpenPost
          rw [HM.out]
          refine ⟨_, _, rfl, G6, Hd4.out.alloc_ _, Hf4.out.alloc _, .inr ⟨rfl, w4.heap.size, w3.heap.size, rfl, Blk.new _ _ _, by have := Hf6.out.size; omega, fun k hk => by have := (Hd6.out.low k hk).2; omega, HO.out.grow ((Below.refl _ _).alloc (Nat.le_refl _) _), Hs3⟩⟩
        · have hM := HM0.out
          rw [if_pos he] at hM
          have hne : (R.2 != 0) = true := by rw [bne_iff_ne]; exact he
          have HM := Lib.hid hM
          have He := Lib.hid he
          clear hM he
          go_wp2
          go_ret3
          unfold JOpenPost
          rw [HM.out]
          exact ⟨_, _, rfl, G6, Hd6.out, Hf6.out, .inl ⟨He.out, rfl, rfl⟩⟩
      · rw [if_neg hz] at hM0
        unfold vTally at hcu
        change (curT D).1 ≤ _ ∧ (curT D).2.1 ≤ _ ∧ (curT D).2.2 ≤ _ at hok
        obtain ⟨⟨n, s, u⟩, hT⟩ : ∃ T, T = curT D := ⟨_, rfl⟩
        rw [← hT] at hcu hok hM0 hz
        dsimp only at hcu hok hM0 hz
        obtain ⟨l, hl⟩ : ∃ l, l = useB D s u 0 := ⟨_, rfl⟩
        have hin := fun (z : World) (hb : Below w.heap.size w z) => inuse0_any base G g D n s u hok.2.1 hok.2.2 z (hd.grow hb) (by omega) (.inl hoff')
        have hll : l.length ≤ 1099511627776 := by have := useB_length_le D s u 0; rw [← hl] at this; omega
        simp only [← hl] at hin hM0
        have hnz : ((n : Int) == 0) = false := by rw [beq_eq_false_iff_ne]; omega
        have HM0 := Lib.hid hM0
        have Hcu := Lib.hid hcu
        have Hin := Lib.hid hin
        have Hll := Lib.hid hll
        clear hM0 hd hfew hcu hoff hoff' h6 hT hz hok hl hin hll
        go_enter Tryz.func17, Tryz.ntmps17
        go_wp2_with fail
        with_reducible refine Hsz.out.mono ?_
        rintro e w' ⟨rfl, rfl⟩
        go_wp2_with fail
        refine Hcu.out.mono ?_
        rintro e w1 ⟨rfl, hb1⟩
        have hbx := hb1.alloc hb1.size (.cells #[.int .u64 (n : Int), .int .i64 (s : Int), .int .i64 (u : Int)] 90)
        have hB5 : Blk (w1.alloc (.cells #[.int .u64 (n : Int), .int .i64 (s : Int), .int .i64 (u : Int)] 90)) w1.heap.size 90 #[.int .u64 (n : Int), .int .i64 (s : Int), .int .i64 (u : Int)] := Blk.new _ _ _
        have s0 := hB5.cell 0
        have s1 := hB5.cell 1
        have s2 := hB5.cell 2
        simp only [List.getElem?_toArray, List.getElem?_cons_zero, List.getElem?_cons_succ] at s0 s1 s2
        have Hbx := Lib.hid hbx
        clear hbx hB5 hb1
        go_wp2_with fail
        refine (Hin.out _ Hbx.out).mono ?_
        rintro e w3 ⟨hb3, A, rfl, hB3⟩
        have t0 := cell_then hb3 s0
        have t1 := cell_then hb3 s1
        have t2 := cell_then hb3 s2
        have HB3 := Lib.hid hB3
        have Hb3 := Lib.hid (below_call Hbx.out hb3)
        clear hB3 hb3 s0 s1 s2
        go_wp2_with fail
        refine (junpack_any (fun _ => True) _ l w3 HB3.out Hll.out).mono ?_
        rintro e w4 ⟨x, rfl, hx, hb4⟩
        have u0 := cell_then hb4 t0
        have u1 := cell_then hb4 t1
        have u2 := cell_then hb4 t2
        have Hb4 := Lib.hid (below_call Hb3.out hb4)
        have Hd4 := Lib.hid (Hd.out.grow Hb4.out)
        have Hs1 := Hb3.out.size
        have Hs3 := hb4.size
        clear hb4 t0 t1 t2
        obtain ⟨Q, hQ⟩ : ∃ Q, Q = recsOf l := ⟨_, rfl⟩
        rw [← hQ] at HM0 hx ⊢
        clear hQ
        by_cases hre : Q.2 = 0
        · have hM := HM0.out
          rw [if_neg (by rw [hre]; simp)] at hM
          obtain ⟨vs, hown, hvl, hrest⟩ := hx
          obtain ⟨Ax, cx, hxe, _, _, _⟩ := hown.form
          rw [hvl] at hxe
          subst hxe
          have HO := Lib.hid (show OwnBB w4 w3.heap.size (.slice Ax Q.1.length cx) Q.1 from ⟨vs, hown, hvl, hrest⟩)
          have HM := Lib.hid hM
          rw [hre, show ((0 : Nat) : Int) = 0 from rfl]
          clear hM hown hvl hrest hre
          go_wp2
          go_ret3
          unfold JOpenPost
          rw [HM.out]
          refine ⟨_, _, rfl, G, Hd4.out.alloc_ _, (Fr.of_below Hb4.out _).alloc _, .inr ⟨rfl, w4.heap.size, w3.heap.size, rfl, Blk.new _ _ _, Hs1, fun k hk => by have := (Hd.out.low k hk).2; omega, HO.out.grow ((Below.refl _ _).alloc (Nat.le_refl _) _), Hs3⟩⟩
        · have hM := HM0.out
          rw [if_pos hre] at hM
          have hne : ((Q.2 : Int) != 0) = true := by rw [bne_iff_ne]; omega
          have HM := Lib.hid hM
          have Hre := Lib.hid hre
          clear hM hre
          go_wp2
          go_ret3
          unfold JOpenPost
          rw [HM.out]
          exact ⟨_, _, rfl, G, Hd4.out, Fr.of_below Hb4.out _, .inl ⟨by have := Hre.out; dsimp only; omega, rfl, rfl⟩⟩
end Go.Proofs.YtdmbmkjiffhbcaaGreat

namespace Go.Proofs.YtdmbmkjiffhbcaaGreat
open Go.RowKit
set_option maxRecDepth 100000

theorem OwnBB.isBB' {w : World} {base : Nat} {x : Value} {L : List (List UInt8)} (h : OwnBB w base x L) : IsBB w (fun k => base ≤ k) x L := by
  obtain ⟨vs, h1, h2, h3, _⟩ := h
  obtain ⟨A, c, hv, hc, hm, hr⟩ := h1.form
  exact ⟨A, c, vs, by rw [hv, h2], h2, by omega, hm, hr.weaken fun k hk => (h1.lt k hk).1, fun i hi hi' => ((h3 i hi' hi).isB).weaken fun k hk => ((h3 i hi' hi).lt k hk).1⟩
theorem JPost.below {base : Nat} {G : Nat → Prop} {j g : Nat} {w w' : World} {R : (JM × Dev) × Int} {e : Ending} (h : JPost base G j g w R e w') {D : Dev} (hd : DevAt w base G g D) (hj : base ≤ j) : Below base w w' := by
  obtain ⟨_, G', _, _, _, hf⟩ := h
  exact hf.below (fun k hk => hk.elim (fun h => (hd.low k h).1) (fun e => by omega)) hd.size

theorem add_inv {D : Dev} {J : JM} {L : List (List UInt8)} (h : JInv D J L) (hn : J.number + 1 ≤ 4611686018427387904) (M : List (List UInt8)) (hM : fewLong M) :
    (sideN D * 256 - J.used < (recsB M).length ∧ addJ J D M = ((J, D), 5)) ∨
    ((recsB M).length ≤ sideN D * 256 - J.used ∧ (addJ J D M).2 = 0 ∧ JInv (addJ J D M).1.2 (addJ J D M).1.1 (L ++ M) ∧ (addJ J D M).1.1.used = J.used + (recsB M).length ∧ (addJ J D M).1.1.number ≤ J.number + 1 ∧ (D.left = -1 → (addJ J D M).1.2.left = -1)) ∨
    ((recsB M).length ≤ sideN D * 256 - J.used ∧ D.left ≠ -1 ∧ (addJ J D M).2 = 6 ∧ (addJ J D M).1.1.broken = true ∧ (addJ J D M).1.2.off = true ∧
      ∃ n' s' u' B', Cont (addJ J D M).1.2 n' s' u' B' ∧ (B' = recsB L ∨ B' = recsB (L ++ M))) := by
  unfold addJ
  rw [if_neg (by rw [h.brk]; decide), if_neg (not_not_intro hM)]
  by_cases h0 : M = []
  · subst h0
    rw [if_pos rfl]
    right; left
    refine ⟨Nat.zero_le _, rfl, ?_, rfl, by dsimp only; omega, fun h => h⟩
    rw [List.append_nil]
    exact h
  · rw [if_neg h0]
    rcases put_inv h hn J.side J.used J.count L M hM (.inl ⟨rfl, rfl, rfl, rfl⟩) with ⟨a, b⟩ | ⟨a, b, c, d, e⟩ | ⟨a, b, c, d, e, f⟩
    · exact .inl ⟨a, b⟩
    · exact .inr (.inl ⟨a, b, c, by rw [d], by rw [d]; exact Nat.le_refl _, e⟩)
    · exact .inr (.inr ⟨a, b, c, d, e, f⟩)
theorem rep_inv {D : Dev} {J : JM} {L : List (List UInt8)} (h : JInv D J L) (hn : J.number + 1 ≤ 4611686018427387904) (M : List (List UInt8)) (hM : fewLong M) :
    (sideN D * 256 < (recsB M).length ∧ repJ J D M = ((J, D), 5)) ∨
    ((recsB M).length ≤ sideN D * 256 ∧ (repJ J D M).2 = 0 ∧ JInv (repJ J D M).1.2 (repJ J D M).1.1 M ∧ (repJ J D M).1.1.used = (recsB M).length ∧ (repJ J D M).1.1.number ≤ J.number + 1 ∧ (D.left = -1 → (repJ J D M).1.2.left = -1)) ∨
    ((recsB M).length ≤ sideN D * 256 ∧ D.left ≠ -1 ∧ (repJ J D M).2 = 6 ∧ (repJ J D M).1.1.broken = true ∧ (repJ J D M).1.2.off = true ∧
      ∃ n' s' u' B', Cont (repJ J D M).1.2 n' s' u' B' ∧ (B' = recsB L ∨ B' = recsB M)) := by
  unfold repJ
  rw [if_neg (by rw [h.brk]; decide), if_neg (not_not_intro hM)]
  rcases put_inv h hn (1 - J.side) 0 0 [] M hM (.inr ⟨rfl, rfl, rfl, rfl⟩) with ⟨a, b⟩ | ⟨a, b, c, d, e⟩ | ⟨a, b, c, d, e, f⟩
  · exact .inl ⟨a, b⟩
  · exact .inr (.inl ⟨a, b, c, by rw [d]; dsimp only; omega, by rw [d]; exact Nat.le_refl _, e⟩)
  · exact .inr (.inr ⟨a, b, c, d, e, f⟩)

theorem putJ_few {D : Dev} {m : Nat} (h : D.Few m) (hl : D.sure.length ≤ 4096) (J : JM) (n s u cnt : Nat) (L : List (List UInt8)) : (putJ J D n s u cnt L).1.2.Few (m + 2100) := by
  have hsn := sideN_le D hl
  have hst := storeD_few h s u (recsB L) (n + 1) s (u + (recsB L).length)
  unfold putJ
  split
  · exact h.mono (by omega)
  · split
    · exact h.mono (by omega)
    · have hm : m + secs (u - u / 256 * 256 + (recsB L).length) + 3 ≤ m + 2100 := by unfold secs; omega
      split
      · exact hst.mono hm
      · exact hst.mono hm
theorem addJ_few {D : Dev} {m : Nat} (h : D.Few m) (hl : D.sure.length ≤ 4096) (J : JM) (L : List (List UInt8)) : (addJ J D L).1.2.Few (m + 2100) := by
  unfold addJ
  split
  · exact h.mono (by omega)
  · split
    · exact h.mono (by omega)
    · split
      · exact h.mono (by omega)
      · exact putJ_few h hl _ _ _ _ _ _
theorem repJ_few {D : Dev} {m : Nat} (h : D.Few m) (hl : D.sure.length ≤ 4096) (J : JM) (L : List (List UInt8)) : (repJ J D L).1.2.Few (m + 2100) := by
  unfold repJ
  split
  · exact h.mono (by omega)
  · split
    · exact h.mono (by omega)
    · exact putJ_few h hl _ _ _ _ _ _
theorem openM_few {D : Dev} {m : Nat} (h : D.Few m) : (openM D).1.1.Few (m + 2) := by
  have ht := tellD_few h 1 0 0
  unfold openM
  split
  · exact h.mono (by omega)
  · split
    · exact h.mono (by omega)
    · split
      · split
        · exact ht
        · exact ht
      · split
        · exact h.mono (by omega)
        · exact h.mono (by omega)
end Go.Proofs.YtdmbmkjiffhbcaaGreat
