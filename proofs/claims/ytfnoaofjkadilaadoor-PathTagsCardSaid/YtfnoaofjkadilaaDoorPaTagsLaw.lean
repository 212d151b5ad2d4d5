/-
  The walk of PathTags.
-/
import Derived.Test.YtfnoaofjkadilaaDoorPaLives
import Derived.Laws.StructEq
namespace Go.Proofs.YtfnoaofjkadilaaDoor
open Go.RowKit
set_option maxRecDepth 100000

def sameI (r : Int) (s : Nat) (r' : Int) (s' : Nat) : Bool := decide (r = r') && decide (s = s')
theorem ideq_run (r : Int) (s : Nat) (r' : Int) (s' : Nat) (w : World) : (binOp .eql 37 (.agg #[.int .i64 r, .int .u32 (s : Int)]) (.agg #[.int .i64 r', .int .u32 (s' : Int)])).run Tryd.prog w = .ok (.bool (sameI r s r' s')) w := by
  have u3 := Tryd.underlying3
  have a3 := Tryd.isAgg3
  have z3 := Tryd.sizeOf3
  have u4 := Tryd.underlying35
  have a4 := Tryd.isAgg35
  have z4 := Tryd.sizeOf35
  have hS : Tryd.prog.underlying 37 = some (.struct (Tryd.prog.fieldsOf 37)) := by kernel_rfl
  have hp : Tryd.prog.stoodInHeld 37 = false := by kernel_rfl
  rw [run_eql_struct, show (10000 : Nat) = 9999 + 1 from rfl, run_equalIn_agg w 9999 37 _ _ hS hp]
  simp only [Program.fieldsOf, Tryd.underlying37]
  go_simp
  unfold sameI
  by_cases h1 : r = r' <;> by_cases h2 : s = s' <;> simp [h1, h2]
  all_goals omega
theorem id_info : (Tryd.prog.info? 37).map (·.size) = some 2 := by kernel_rfl
theorem tag_beq (name : List UInt8) (r q r' q' : Nat) : (tagT name r q == tagT name r' q') = sameI (r : Int) q (r' : Int) q' := by
  rw [Bool.eq_iff_iff, beq_iff_eq, tag_inj]
  unfold sameI
  simp only [Bool.and_eq_true, decide_eq_true_eq]
  omega
set_option maxHeartbeats 4000000 in
theorem pathtags_walk (name : List UInt8) (r0 : Int) (s0 : Nat) (r1 : Int) (s1 : Nat) (w : World) (_hl : name.length ≤ 9223372036854775807) (_h0 : -9223372036854775808 ≤ r0 ∧ r0 ≤ 9223372036854775807) (hs0 : s0 < 4294967296) (_h1 : -9223372036854775808 ≤ r1 ∧ r1 ≤ 9223372036854775807) (hs1 : s1 < 4294967296) (he : Env w) :
    Calls Tryd.prog 5 #[.string ⟨name.toArray⟩, idv r0 s0, idv r1 s1] w fun e w' => e = .returned (.bool true) ∧ Below w.heap.size w w' := by
  have hA0 : Blk ((w.alloc (.cells (iv r0 s0) 37)).alloc (.cells (iv r1 s1) 37)) w.heap.size 37 (iv r0 s0) := (Blk.new w _ _).alloc _
  have hB0 : Blk ((w.alloc (.cells (iv r0 s0) 37)).alloc (.cells (iv r1 s1) 37)) (w.heap.size + 1) 37 (iv r1 s1) := by
    have := Blk.new (w.alloc (.cells (iv r0 s0) 37)) 37 (iv r1 s1)
    rw [World.size_alloc] at this
    exact this
  have hbel : Below w.heap.size w ((w.alloc (.cells (iv r0 s0) 37)).alloc (.cells (iv r1 s1) 37)) := ((Below.refl _ _).alloc (Nat.le_refl _) _).alloc (by simp) _
  have HA := Lib.hid hA0
  have HB := Lib.hid hB0
  have He := Lib.hid he
  have Hbel := Lib.hid hbel
  clear hA0 hB0 he hbel _hl _h0 _h1
  unfold iv at Hbel HA HB
  unfold idv
  go_enter Tryd.func5, Tryd.ntmps5
  go_wp2_with fail
  refine (lives_any _ (He.out.grow Hbel.out)).mono ?_
  rintro e w1 ⟨rfl, hb1⟩
  have hb01 := below_call Hbel.out hb1
  have HA1 := Lib.hid (HA.out.grow hb1)
  have HB1 := Lib.hid (HB.out.grow hb1)
  have x0 : w1.cell? ⟨w.heap.size, 0, none⟩ = some (.int .i64 r0) := by rw [HA1.out.cell]; rfl
  have y0 : w1.cell? ⟨w.heap.size + 1, 0, none⟩ = some (.int .i64 r1) := by rw [HB1.out.cell]; rfl
  clear HA HB hb1 Hbel
  have hend : ∀ (w2 : World), Below w.heap.size w w2 → Calls Tryd.prog 8 #[] w2 fun e w' => e = .returned (.bool true) ∧ Below w2.heap.size w2 w' := fun w2 h => lives_any w2 (He.out.grow h)
  have Hend := Lib.hid hend
  clear hend
  by_cases g1 : 100 < name.length
  · have gg : (100 : Int) < (name.length : Int) := by omega
    go_wp2_with fail
    refine (Hend.out _ hb01).mono ?_
    rintro e w2 ⟨rfl, hb2⟩
    go_wp2_with fail
    go_ret
    exact ⟨rfl, below_call hb01 hb2⟩
  · have gn : ¬ (100 : Int) < (name.length : Int) := by omega
    by_cases g2 : r0 < 0
    · go_wp2_with fail
      refine (Hend.out _ hb01).mono ?_
      rintro e w2 ⟨rfl, hb2⟩
      go_wp2_with fail
      go_ret
      exact ⟨rfl, below_call hb01 hb2⟩
    · by_cases g3 : r1 < 0
      · go_wp2_with fail
        refine (Hend.out _ hb01).mono ?_
        rintro e w2 ⟨rfl, hb2⟩
        go_wp2_with fail
        go_ret
        exact ⟨rfl, below_call hb01 hb2⟩
      · by_cases g4 : 1000 < r0
        · go_wp2_with fail
          refine (Hend.out _ hb01).mono ?_
          rintro e w2 ⟨rfl, hb2⟩
          go_wp2_with fail
          go_ret
          exact ⟨rfl, below_call hb01 hb2⟩
        · by_cases g5 : 1000 < r1
          · go_wp2_with fail
            refine (Hend.out _ hb01).mono ?_
            rintro e w2 ⟨rfl, hb2⟩
            go_wp2_with fail
            go_ret
            exact ⟨rfl, below_call hb01 hb2⟩
          · obtain ⟨n0, rfl⟩ : ∃ n : Nat, r0 = (n : Int) := ⟨r0.toNat, by omega⟩
            obtain ⟨n1, rfl⟩ : ∃ n : Nat, r1 = (n : Int) := ⟨r1.toNat, by omega⟩
            have hn0 : n0 < 4294967296 := by omega
            have hn1 : n1 < 4294967296 := by omega
            have hl : name.length ≤ 400 := by omega
            have t0 := fun z hz => tag_any name n0 s0 hn0 hs0 hl z hz
            have t1 := fun z hz => tag_any name n1 s1 hn1 hs1 hl z hz
            have t2 := fun z hz => reftag_any name n0 s0 hn0 hs0 hl z hz
            have hbq := tag_beq name n0 s0 n1 s1
            have heq := ideq_run (n0 : Int) s0 (n1 : Int) s1
            have hTl : (tagT name n0 s0).length ≤ 400 := by
              have d1 := decDigits_le n0 hn0
              have d2 := decDigits_le s0 hs0
              unfold tagT tagB
              simp
              omega
            have pt := fun z hz => part_any (tagT name n0 s0) hTl z hz
            rw [part_tag name hn0 hs0] at pt
            have nt := fun z => refname_any (tagT name n0 s0) z
            rw [name_tag name n0 s0] at nt
            have nm := fun z => refname_any name z
            generalize nameB name = NB at pt nm
            generalize tagT name n0 s0 = S0 at t0 t2 hbq pt nt
            generalize tagT name n1 s1 = S1 at t1 hbq
            generalize sameI (n0 : Int) s0 (n1 : Int) s1 = Q at hbq heq
            unfold idv at t0 t1 t2
            unfold str at nm nt
            have T0 := Lib.hid t0
            have T1 := Lib.hid t1
            have T2 := Lib.hid t2
            have PT := Lib.hid pt
            have NT := Lib.hid nt
            have NM := Lib.hid nm
            have ra0 : ∀ y : Ext w1, y.now.cell? ⟨w.heap.size, 0, none⟩ = some (.int .i64 (n0 : Int)) := fun y => by rw [(HA1.out.grow y.out).cell]; rfl
            have ra1 : ∀ y : Ext w1, y.now.cell? ⟨w.heap.size, 1, none⟩ = some (.int .u32 (s0 : Int)) := fun y => by rw [(HA1.out.grow y.out).cell]; rfl
            have rb0 : ∀ y : Ext w1, y.now.cell? ⟨w.heap.size + 1, 0, none⟩ = some (.int .i64 (n1 : Int)) := fun y => by rw [(HB1.out.grow y.out).cell]; rfl
            have rb1 : ∀ y : Ext w1, y.now.cell? ⟨w.heap.size + 1, 1, none⟩ = some (.int .u32 (s1 : Int)) := fun y => by rw [(HB1.out.grow y.out).cell]; rfl
            have Hbq := Lib.hid hbq
            have Heq := Lib.hid heq
            clear t0 t1 t2 pt nt nm hbq heq hTl hn0 hn1 hs0 hs1
            go_wp2_with fail
            refine wp_region_grow (by kernel_rfl) (by kernel_rfl) ?_
            repeat (first | go_big_quiet_step ((go_at_call 17; first | (with_reducible exact calls_grow (T0.out _ (He.out.pow.grow (below_call hb01 (Ext.out _))))) | (with_reducible exact calls_grow (T1.out _ (He.out.pow.grow (below_call hb01 (Ext.out _))))))) | quiet_step ((go_at_call 17; first | (with_reducible exact calls_grow (T0.out _ (He.out.pow.grow (below_call hb01 (Ext.out _))))) | (with_reducible exact calls_grow (T1.out _ (He.out.pow.grow (below_call hb01 (Ext.out _))))))))
            refine wpQuiet_nil ?_
            rintro w3 ⟨⟨w3b, hb3⟩, hw3⟩
            obtain rfl : w3 = w3b := hw3
            clear ra0 ra1 rb0 rb1 x0 y0
            have hb03 := below_call hb01 hb3
            have HA3 := Lib.hid (HA1.out.grow hb3)
            have HB3 := Lib.hid (HB1.out.grow hb3)
            have ra0 : w3.cell? ⟨w.heap.size, 0, none⟩ = some (.int .i64 (n0 : Int)) := by rw [HA3.out.cell]; rfl
            have ra1 : w3.cell? ⟨w.heap.size, 1, none⟩ = some (.int .u32 (s0 : Int)) := by rw [HA3.out.cell]; rfl
            go_wp2_with fail
            refine (T2.out _ (He.out.pow.grow hb03)).mono ?_
            rintro e w4 ⟨rfl, hb4⟩
            clear ra0 ra1
            have hb04 := below_call hb03 hb4
            have HA4 := Lib.hid (HA3.out.grow hb4)
            have HB4 := Lib.hid (HB3.out.grow hb4)
            have ra0 : w4.cell? ⟨w.heap.size, 0, none⟩ = some (.int .i64 (n0 : Int)) := by rw [HA4.out.cell]; rfl
            have ra1 : w4.cell? ⟨w.heap.size, 1, none⟩ = some (.int .u32 (s0 : Int)) := by rw [HA4.out.cell]; rfl
            have rb0 : w4.cell? ⟨w.heap.size + 1, 0, none⟩ = some (.int .i64 (n1 : Int)) := by rw [HB4.out.cell]; rfl
            have rb1 : w4.cell? ⟨w.heap.size + 1, 1, none⟩ = some (.int .u32 (s1 : Int)) := by rw [HB4.out.cell]; rfl
            have hbq := Hbq.out
            have heq := Heq.out
            go_wp2_with fail
            refine (PT.out _ (He.out.grow hb04)).mono ?_
            rintro e w5 ⟨rfl, hb5⟩
            have hb05 := below_call hb04 hb5
            go_wp2_with fail
            refine (NM.out _).mono ?_
            rintro e w6 ⟨rfl, hb6⟩
            have hb06 := below_call hb05 hb6
            go_wp2_with fail
            refine (NT.out _).mono ?_
            rintro e w7 ⟨rfl, hb7⟩
            go_wp2_with fail
            go_ret
            exact ⟨by simp, below_call hb06 hb7⟩
end Go.Proofs.YtfnoaofjkadilaaDoor
