/-
  (*slices.xorshift).Next and slices.nextPowerOfTwo, off the library's shelf.
  breakPatternsOrdered at uint64.
  pdqsort's round, in plain words.
  pdqsortOrdered at uint64.
  slices.Sort at uint64.
  The keys of a map, rising: slices.Collect, slices.Sorted, and keep's iterator over them.
-/
import Derived.Test.YtdmbmkjiffhbcaaGreatSort9
import Derived.Shelf.SlSortCmp.Xorshift
import Derived.Sort.LotD1
import Derived.Laws.Bits64b
import Derived.Sort.LotA
import Derived.Sort.LotB
import Derived.Sort.LotC
import Derived.Sort.LotD2
import Derived.Sort.AssemblyPlain
import Derived.Deep.CutRange
import Derived.Test.YtdmbmkjiffhbcaaGreatShelf
import Derived.Sort.WalkA14
import Derived.Test.YtdmbmkjiffhbcaaGreatKMaps
namespace Go.Proofs.YtdmbmkjiffhbcaaGreat
open Go.RowKit
set_option maxRecDepth 100000

def sortRen : Go.Shelf.Ren := ⟨fun | 48 => 110 | 47 => 109 | 15 => 97 | 28 => 107 | 29 => 72 | n => n, fun | 3 => 3 | 4 => 4 | 5 => 5 | 9 => 9 | 39 => 42 | 53 => 159 | 55 => 46 | 66 => 175 | 76 => 181 | n => n, fun | n => n⟩
theorem lays48 : Go.Proofs.SlLaysF0.n48 Tryz.prog sortRen := {
  mixed := by kernel_rfl
  f48 := Tryz.func110.trans (congrArg some (by kernel_rfl))
  t0 := Tryz.underlying0
  a0 := Tryz.isAgg0
  z0 := Tryz.sizeOf0
  v0 := Tryz.zeroValue0
  t39 := Tryz.underlying42
  a39 := Tryz.isAgg42
  z39 := Tryz.sizeOf42
  v39 := Tryz.zeroValue42
  t55 := Tryz.underlying46
  a55 := Tryz.isAgg46
  z55 := Tryz.sizeOf46
  v55 := Tryz.zeroValue46
  t66 := Tryz.underlying175
  a66 := Tryz.isAgg175
  z66 := Tryz.sizeOf175
  v66 := Tryz.zeroValue175
  t76 := Tryz.underlying181
  a76 := Tryz.isAgg181
  z76 := Tryz.sizeOf181
  v76 := Tryz.zeroValue181
}
theorem lays47 : Go.Proofs.SlLaysF0.n47 Tryz.prog sortRen := {
  mixed := by kernel_rfl
  f15 := Tryz.func97.trans (congrArg some (by kernel_rfl))
  f28 := Tryz.func107.trans (congrArg some (by kernel_rfl))
  f29 := Tryz.func72.trans (congrArg some (by kernel_rfl))
  f47 := Tryz.func109.trans (congrArg some (by kernel_rfl))
  t3 := Tryz.underlying3
  a3 := Tryz.isAgg3
  z3 := Tryz.sizeOf3
  v3 := Tryz.zeroValue3
  t4 := Tryz.underlying4
  a4 := Tryz.isAgg4
  z4 := Tryz.sizeOf4
  v4 := Tryz.zeroValue4
  t5 := Tryz.underlying5
  a5 := Tryz.isAgg5
  z5 := Tryz.sizeOf5
  v5 := Tryz.zeroValue5
  t9 := Tryz.underlying9
  a9 := Tryz.isAgg9
  z9 := Tryz.sizeOf9
  v9 := Tryz.zeroValue9
  t39 := Tryz.underlying42
  a39 := Tryz.isAgg42
  z39 := Tryz.sizeOf42
  v39 := Tryz.zeroValue42
  t53 := Tryz.underlying159
  a53 := Tryz.isAgg159
  z53 := Tryz.sizeOf159
  v53 := Tryz.zeroValue159
  t55 := Tryz.underlying46
  a55 := Tryz.isAgg46
  z55 := Tryz.sizeOf46
  v55 := Tryz.zeroValue46
}
theorem next_any (rb ro X : Nat) (hX : X < 18446744073709551616) (w : World) (hc : w.cell? ⟨rb, ro, none⟩ = some (.int .u64 X)) (hf : w.frozen? ⟨rb, ro, none⟩ = false) :
    Calls Tryz.prog 110 #[.pointer (some ⟨rb, ro, none⟩)] w fun e w' => e = .returned (.int .u64 (Sort.xorNextN X : Nat)) ∧ w' = (w.setCell ⟨rb, ro, none⟩ (.int .u64 (Sort.xorNextN X : Nat))).drewN 3 :=
  AnyF.xorshift_Next lays48 rb ro X hX w hc hf
theorem pow2_any (n : Nat) (hn : n < 4611686018427387904) (w : World) :
    Calls Tryz.prog 109 #[.int .i64 n] w fun e w' => e = .returned (.int .u64 ((1 <<< Sort.bitsLen n : Nat) : Int)) ∧ w' = w :=
  AnyF.nextPowerOfTwo lays47 n hn w
end Go.Proofs.YtdmbmkjiffhbcaaGreat

namespace Go.Proofs.YtdmbmkjiffhbcaaGreat
open Go.RowKit
set_option maxRecDepth 100000

/-- The rounds that are left. -/
def brk (a l M x0 : Nat) : Nat → UInt64 × Array Nat → UInt64 × Array Nat
  | 0, st => st
  | t + 1, st => brk a l M x0 t (Sort.breakStep a l M st (x0 + (2 - t)))
theorem brk_eq (d : Array Nat) (a b : Nat) (h : b - a ≥ 8) : Sort.breakPatterns d a b = (brk a (b - a) (1 <<< Sort.bitsLen (b - a)) (a + (b - a) / 4 * 2 - 1) 3 (UInt64.ofNat (b - a), d)).2 := by
  unfold Sort.breakPatterns
  simp only []
  rw [if_pos h]
  rfl
theorem mod_most (l : Nat) (h : 0 < l) (O R : Nat) (hO : O = R &&& (1 <<< Sort.bitsLen l - 1)) : O < 2 * l := by
  have h1 := Sort.two_pow_bitsLen_le h
  have h2 : 0 < 2 ^ Sort.bitsLen l := Nat.pow_pos (by decide)
  have h3 : R &&& (1 <<< Sort.bitsLen l - 1) ≤ 1 <<< Sort.bitsLen l - 1 := Nat.and_le_right
  rw [Nat.one_shiftLeft] at h3 hO
  omega

/-- The cell of the generator. -/
def RndAt (w : World) (s r : Nat) : Prop := w.cell? ⟨s, 0, none⟩ = some (.int .u64 (r : Int)) ∧ w.frozen? ⟨s, 0, none⟩ = false
theorem RndAt.of_alloc (w : World) (l : Nat) : RndAt (w.alloc (Obj.cells #[.int .u64 (l : Int)] 175)) w.heap.size l :=
  ⟨by rw [World.cell?_alloc_at _ _ _ _ rfl]; rfl, World.frozen?_alloc_new _ _ _ _⟩
theorem RndAt.grow {w w' : World} {s r : Nat} (h : RndAt w s r) (hs : s < w.heap.size) (hb : Below w.heap.size w w') : RndAt w' s r :=
  ⟨(hb.cell (p := ⟨s, 0, none⟩) hs).trans h.1, (hb.frozen (p := ⟨s, 0, none⟩) hs).trans h.2⟩
theorem RndAt.set {w : World} {s r : Nat} (h : RndAt w s r) (m : Nat) : RndAt (w.setCell ⟨s, 0, none⟩ (.int .u64 (m : Int))) s m :=
  ⟨World.cell?_setCell_same w _ _ h.1, by rw [World.frozen?_setCell]; exact h.2⟩
theorem RndAt.but {w w' : World} {s g r : Nat} (h : RndAt w s r) (hs : s < w.heap.size) (hsg : s ≠ g) (hb : ButS g w w') : RndAt w' s r :=
  ⟨(World.cell?_of_block (a := ⟨s, 0, none⟩) (hb.2.2.2.2 s hs hsg)).trans h.1, (World.frozen?_of_block (a := ⟨s, 0, none⟩) (hb.2.2.2.2 s hs hsg)).trans h.2⟩
theorem butS_past {w w' w'' : World} {g s : Nat} (h : ButS g w w') (hb : ButS s w' w'') (hs : w.heap.size ≤ s) : ButS g w w'' :=
  ⟨hb.1.trans h.1, hb.2.1.trans h.2.1, hb.2.2.1.trans h.2.2.1, Nat.le_trans h.2.2.2.1 hb.2.2.2.1, fun k hk hp => (hb.2.2.2.2 k (Nat.lt_of_lt_of_le hk h.2.2.2.1) (by omega)).trans (h.2.2.2.2 k hk hp)⟩

set_option maxHeartbeats 8000000 in
theorem brk_any (g off cap n a b : Nat) (d : Array Nat) (w : World) (h : NumsAt w g off d) (hn : n = d.size) (hb : b ≤ n) (hab : a + 8 ≤ b) (hn2 : n ≤ 1152921504606846976) (hg : g < w.heap.size) :
    Calls Tryz.prog 100 #[.slice (some ⟨g, off, none⟩) n cap, .int .i64 (a : Int), .int .i64 (b : Int)] w fun e w' => e = .returned (.tuple #[]) ∧ NumsAt w' g off (Sort.breakPatterns d a b) ∧ (Sort.breakPatterns d a b).size = n ∧ ButS g w w' := by
  rw [brk_eq d a b (by omega)]
  obtain ⟨l, hl⟩ : ∃ x, x = b - a := ⟨_, rfl⟩
  obtain ⟨q, hq⟩ : ∃ x, x = l / 4 := ⟨_, rfl⟩
  obtain ⟨M, hM⟩ : ∃ x, x = 1 <<< Sort.bitsLen l := ⟨_, rfl⟩
  obtain ⟨x0, hx0⟩ : ∃ x, x = a + q * 2 - 1 := ⟨_, rfl⟩
  obtain ⟨x1, hx1⟩ : ∃ x, x = a + q * 2 := ⟨_, rfl⟩
  obtain ⟨x2, hx2⟩ : ∃ x, x = x1 + 1 := ⟨_, rfl⟩
  rw [← hl, ← hq, ← hM, ← hx0]
  obtain ⟨R, hR⟩ : ∃ R, R = brk a l M x0 3 (UInt64.ofNat l, d) := ⟨_, rfl⟩
  rw [← hR]
  have W1 := Lib.hid (wr_nat ((b : Int) - (a : Int)) l (by omega) (by omega))
  have Q := Lib.hid (show wrap64 ((l : Int) / 4) = (q : Int) from (quo_nat l 4 q hq (by omega)).1)
  have W5 := Lib.hid (show wrap64 ((q : Int) * 2) = (q : Int) * 2 by have := (wr_nat ((q : Int) * 2) (q * 2 : Nat) (by omega) (by omega)).1; rw [this]; push_cast; rfl)
  have W9 := Lib.hid (wr_nat ((a : Int) + (q : Int) * 2) x1 (by omega) (by omega)).1
  have W11 := Lib.hid (wr_nat ((x1 : Int) - 1) x0 (by omega) (by omega)).1
  have W13 := Lib.hid (wr_nat ((x1 : Int) + 1) x2 (by omega) (by omega)).1
  have WU := Lib.hid (show IntKind.u64.wrap (l : Int) = (l : Int) by rw [IntKind.wrap_u64]; omega)
  have e1 : decide ((8 : Int) ≤ (l : Int)) = true := by rw [decide_eq_true_iff]; omega
  have e1' : decide (8 ≤ l) = true := by rw [decide_eq_true_iff]; omega
  have hX := Lib.hid (show x0 + 2 = x2 ∧ x2 < n ∧ a + l ≤ n by omega)
  have P2 := Lib.hid (fun w => pow2_any l (by omega) w)
  rw [← hM] at P2
  have hl8 := Lib.hid (show 8 ≤ l ∧ l ≤ 1152921504606846976 by omega)
  have HM := Lib.hid hM
  have Hn := Lib.hid hn
  have HR := Lib.hid hR
  clear hl hq hn hx0 hx1 hx2 hM hR
  go_enter Tryz.func100, Tryz.ntmps100
  obtain ⟨w1, w2⟩ := W1.out
  go_upto_region 2 with fail
  clear w1 w2
  refine wp_region_lit ?_
  go_upto_region 3 with fail
  rw [WU.out]
  obtain ⟨wa, hwa⟩ : ∃ x, x = w.alloc (Obj.cells #[.int .u64 (l : Int)] 175) := ⟨_, rfl⟩
  obtain ⟨s, hs⟩ : ∃ x, x = w.heap.size := ⟨_, rfl⟩
  have hA : RndAt wa s l := by rw [hwa, hs]; exact RndAt.of_alloc w l
  have hbA : Below w.heap.size w wa := by rw [hwa]; exact (Below.refl _ _).alloc (Nat.le_refl _) _
  have hsA : s < wa.heap.size := by rw [hwa, hs]; show _ < (w.heap.push _).size; rw [Array.size_push]; exact Nat.lt_succ_self _
  have hgs : g ≠ s := by rw [hs]; exact Nat.ne_of_lt hg
  have hNA := h.grow hg hbA
  rw [← hwa, ← hs]
  have hsw : w.heap.size ≤ s := by omega
  have HA := Lib.hid hA
  have HNA := Lib.hid hNA
  have HbA := Lib.hid hbA
  clear hwa hs h hA hNA hbA
  refine wp_region_lit ?_
  go_upto_region 4 with (go_at_call 109; (with_reducible refine (P2.out _).mono ?_); rintro e w2 ⟨rfl, rfl⟩)
  refine wp_region_lit ?_
  go_upto_region 5 with fail
  rw [Q.out, W5.out, W9.out, W11.out]
  go_loopw [9] (fun t wr => ∃ (k y : Nat) (r : UInt64) (d1 : Array Nat), k ≤ 3 ∧ y = x0 + (3 - k) ∧ t = .int .i64 (y : Int) ∧ RndAt wr s r.toNat ∧ s < wr.heap.size ∧ NumsAt wr g off d1 ∧ d1.size = n ∧ brk a l M x0 k (r, d1) = R ∧ ButS g w wr) (fun t _ => n + 3 - (intOf t).toNat)
  case atStart => exact ⟨3, x0, UInt64.ofNat l, d, Nat.le_refl _, rfl, rfl, by rw [UInt64.toNat_ofNat_of_lt' (by have := hl8.out; show l < 18446744073709551616; omega)]; exact HA.out, hsA, HNA.out, Hn.out.symm, HR.out.symm, butS_below HbA.out g⟩
  case round =>
    obtain ⟨k, y, r, d1, hk3, hy, rfl, hrnd, hsz, hnum, hd1, heq, hbut⟩ := hrel
    have Hrnd := Lib.hid hrnd
    have Hnum := Lib.hid hnum
    have Hsz := Lib.hid hd1
    have Heq := Lib.hid heq
    clear hrnd hnum hd1 heq
    rcases k with _ | k
    · have e2 : decide ((y : Int) ≤ (x2 : Int)) = false := by rw [decide_eq_false_iff_not]; have := hX.out; omega
      have e3 : decide (y ≤ x2) = false := by rw [decide_eq_false_iff_not]; have := hX.out; omega
      have Hfin := Lib.hid (show R = (r, d1) from Heq.out.symm)
      clear hy
      go_upto_region 5 with fail
      refine wp_region_lit ?_
      obtain q1 := Q.out
      obtain q2 := W5.out
      obtain q3 := W9.out
      obtain q4 := W13.out
      go_wp2_with fail
      rw [Hfin.out]
      first
      | exact bodyPost_ret (v := .tuple #[]) (results_none rfl _ _ _) rfl ⟨rfl, Hnum.out, Hsz.out, hbut⟩
      | exact bodyPost_end (v := .tuple #[]) (results_none rfl _ _ _) rfl ⟨rfl, Hnum.out, Hsz.out, hbut⟩
    · have hyn : y < n := by have := hX.out; omega
      have e2 : decide ((y : Int) ≤ (x2 : Int)) = true := by rw [decide_eq_true_iff]; have := hX.out; omega
      have e3 : decide (y ≤ x2) = true := by rw [decide_eq_true_iff]; have := hX.out; omega
      have Hy := Lib.hid hy
      have C := Lib.hid (next_any s 0 r.toNat r.toNat_lt wr Hrnd.out.1 Hrnd.out.2)
      obtain ⟨X', hX'⟩ : ∃ x, x = Sort.xorNextN r.toNat := ⟨_, rfl⟩
      rw [← hX'] at C
      have HX' := Lib.hid hX'
      clear hy hX'
      go_upto_region 5 with fail
      refine wp_region_lit ?_
      obtain q1 := Q.out
      obtain q2 := W5.out
      obtain q3 := W9.out
      obtain q4 := W13.out
      go_upto_region 7 with fail
      clear q1 q2 q3 q4 e2 e3
      refine wp_region_lit ?_
      go_upto_region 8 with (go_at_call 110; (with_reducible refine C.out.mono ?_); rintro e w2 ⟨rfl, rfl⟩)
      have hM1 : 1 ≤ M ∧ M ≤ 2305843009213693952 := by
        have h1 := Sort.two_pow_bitsLen_le (n := l) (by have := hl8.out; omega)
        have h2 : 0 < 2 ^ Sort.bitsLen l := Nat.pow_pos (by decide)
        rw [HM.out, Nat.one_shiftLeft]
        have := hl8.out
        omega
      have hX64 : X' < 18446744073709551616 := by rw [HX'.out]; exact Sort.xorNextN_lt _ r.toNat_lt
      obtain ⟨O, hO⟩ : ∃ z, z = X' &&& (M - 1) := ⟨_, rfl⟩
      have hOl : O < 2 * l := mod_most l (by have := hl8.out; omega) O X' (by rw [hO, HM.out])
      have HOw : wrap64 (bits BinOp.and IntKind.u64 (X' : Int) (IntKind.u64.wrap ((M : Int) - 1))) = (O : Int) := by
        have e : IntKind.u64.wrap ((M : Int) - 1) = ((M - 1 : Nat) : Int) := by rw [IntKind.wrap_u64]; omega
        rw [e, bits_and_u64_nat _ _ hX64 (by omega), ← hO]
        exact (wr_nat _ _ rfl (by have := hl8.out; omega)).1
      rw [HOw]
      clear HOw
      obtain ⟨x3, hx3⟩ : ∃ z, z = (wr.setCell ⟨s, 0, none⟩ (.int .u64 (X' : Int))).drewN 3 := ⟨_, rfl⟩
      have hbs : ButS s wr x3 := by rw [hx3]; exact (butS_set _ _ _ _).trans (butS_below (below_drewN (Below.refl _ _) 3) s)
      have Hrnd3 := Lib.hid (show RndAt x3 s X' by rw [hx3]; exact (Hrnd.out.set X').grow (by simp [World.setCell]; exact hsz) (below_drewN (Below.refl _ _) 3))
      rw [← hx3]
      clear hx3
      have hgr := Nat.lt_of_lt_of_le hg hbut.2.2.2.1
      have Hnum3 := Lib.hid (Hnum.out.but hgr hgs hbs)
      have hg3 := Nat.lt_of_lt_of_le hgr hbs.2.2.2.1
      have hs3 := Nat.lt_of_lt_of_le hsz hbs.2.2.2.1
      have hbut3 := butS_past hbut hbs hsw
      have HO2 := Lib.hid (show (Sort.xorNext r).toNat &&& (M - 1) = O by rw [Sort.xorNext_toNat, ← HX'.out, hO])
      have Heq3 := Lib.hid (show brk a l M x0 k (Sort.xorNext r, Sort.swp d1 y (a + (if (Sort.xorNext r).toNat &&& (M - 1) ≥ l then ((Sort.xorNext r).toNat &&& (M - 1)) - l else (Sort.xorNext r).toNat &&& (M - 1)))) = R by rw [show y = x0 + (2 - k) by (have := Hy.out; omega)]; exact Heq.out)
      clear hO hbs
      by_cases hlO : l ≤ O
      · obtain ⟨o2, ho2⟩ : ∃ z, z = O - l := ⟨_, rfl⟩
        obtain ⟨fo, hfo⟩ : ∃ z, z = a + o2 := ⟨_, rfl⟩
        have WO := Lib.hid (wr_nat ((O : Int) - (l : Int)) o2 (by omega) (by have := hl8.out; omega))
        have HO3 := Lib.hid (show (if (Sort.xorNext r).toNat &&& (M - 1) ≥ l then ((Sort.xorNext r).toNat &&& (M - 1)) - l else (Sort.xorNext r).toNat &&& (M - 1)) = o2 by rw [HO2.out, if_pos hlO, ho2])
        have e2 : decide ((l : Int) ≤ (O : Int)) = true := by rw [decide_eq_true_iff]; omega
        have e3 : decide (l ≤ O) = true := by rw [decide_eq_true_iff]; omega
        have ho2l : o2 < l := by omega
        clear ho2
        obtain ⟨w5, w6⟩ := WO.out
        go_upto_region 10 with fail
        clear w5 w6 e2 e3
        have hfn : fo < n := by have := hX.out; omega
        have WF := Lib.hid (wr_nat ((a : Int) + (o2 : Int)) fo (by omega) (by omega))
        have Hfo := Lib.hid hfo
        clear hfo
        obtain ⟨w5, w6⟩ := WF.out
        refine wp_region_fixed (fun s => match s with | 47 => .slice (some ⟨g, off, none⟩) n cap | 48 => .int .i64 (y : Int) | 49 => .slice (some ⟨g, off, none⟩) n cap | 50 => .int .i64 (a : Int) | 51 => .int .i64 (o2 : Int) | 52 => .int .i64 (fo : Int) | 53 => .slice (some ⟨g, off, none⟩) n cap | 54 => .int .i64 (a : Int) | 55 => .int .i64 (o2 : Int) | 56 => .int .i64 (fo : Int) | 57 => .pointer (some ⟨g, off + fo, none⟩) | 58 => .int .u64 (d1[fo]! : Int) | 59 => .slice (some ⟨g, off, none⟩) n cap | 60 => .int .i64 (y : Int) | 61 => .pointer (some ⟨g, off + y, none⟩) | 62 => .int .u64 (d1[y]! : Int) | 63 => .pointer (some ⟨g, off + y, none⟩) | 64 => .pointer (some ⟨g, off + fo, none⟩) | _ => undef) (SwJ x3.drew ⟨g, off + y, none⟩ ⟨g, off + fo, none⟩ (.int .u64 (d1[fo]! : Int)) (.int .u64 (d1[y]! : Int)) 17 19 11 15) 65 [47, 48, 49, 50, 51, 52, 53, 54, 55, 56, 57, 58, 59, 60, 61, 62, 63, 64] (by kernel_rfl) (by kernel_rfl) (by kernel_rfl) (by kernel_rfl) rfl SwJ.start ?_ ?_
        · intro i0 o0 hi0 dn a0 x hJ hd hpre hsame hV K hK
          have hlt0 := (Array.getElem?_eq_some_iff.1 hi0).1
          rcases many20 hlt0 rfl with rfl | rfl | rfl | rfl | rfl | rfl | rfl | rfl | rfl | rfl | rfl | rfl | rfl | rfl | rfl | rfl | rfl | rfl | rfl | rfl
          all_goals (have ho0 := Option.some.inj hi0; subst ho0; clear hi0 hlt0)
          · have q0 : a0.tmps[0]?.getD undef = .slice (some ⟨g, off, none⟩) n cap := hsame 0 (slot_free (by decide +kernel))
            have hJ2 := Lib.hid hJ; have hk := Lib.hid hK; clear hsame hpre hK hV hJ hd; go_simp; exact hk.out _ _ (fun s hs => by cases hs; rfl) (hJ2.out.more (by decide) (by decide))
          · have q9 : a0.tmps[9]?.getD undef = .int .i64 (y : Int) := hsame 9 (slot_free (by decide +kernel))
            have hJ2 := Lib.hid hJ; have hk := Lib.hid hK; clear hsame hpre hK hV hJ hd; go_simp; exact hk.out _ _ (fun s hs => by cases hs; rfl) (hJ2.out.more (by decide) (by decide))
          · have q0 : a0.tmps[0]?.getD undef = .slice (some ⟨g, off, none⟩) n cap := hsame 0 (slot_free (by decide +kernel))
            have hJ2 := Lib.hid hJ; have hk := Lib.hid hK; clear hsame hpre hK hV hJ hd; go_simp; exact hk.out _ _ (fun s hs => by cases hs; rfl) (hJ2.out.more (by decide) (by decide))
          · have q1 : a0.tmps[1]?.getD undef = .int .i64 (a : Int) := hsame 1 (slot_free (by decide +kernel))
            have hJ2 := Lib.hid hJ; have hk := Lib.hid hK; clear hsame hpre hK hV hJ hd; go_simp; exact hk.out _ _ (fun s hs => by cases hs; rfl) (hJ2.out.more (by decide) (by decide))
          · have q10 : a0.tmps[10]?.getD undef = .int .i64 (o2 : Int) := hsame 10 (slot_free (by decide +kernel))
            have hJ2 := Lib.hid hJ; have hk := Lib.hid hK; clear hsame hpre hK hV hJ hd; go_simp; exact hk.out _ _ (fun s hs => by cases hs; rfl) (hJ2.out.more (by decide) (by decide))
          · have q50 : a0.tmps[50]?.getD undef = .int .i64 (a : Int) := hV 3 50 (hpre ⟨3, .data⟩ (by simp) rfl) rfl
            have q51 : a0.tmps[51]?.getD undef = .int .i64 (o2 : Int) := hV 4 51 (hpre ⟨4, .data⟩ (by simp) rfl) rfl
            have hJ2 := Lib.hid hJ; have hk := Lib.hid hK; clear hsame hpre hK hV hJ hd; go_simp; exact hk.out _ _ (fun s hs => by cases hs; rfl) (hJ2.out.more (by decide) (by decide))
          · have q0 : a0.tmps[0]?.getD undef = .slice (some ⟨g, off, none⟩) n cap := hsame 0 (slot_free (by decide +kernel))
            have hJ2 := Lib.hid hJ; have hk := Lib.hid hK; clear hsame hpre hK hV hJ hd; go_simp; exact hk.out _ _ (fun s hs => by cases hs; rfl) (hJ2.out.more (by decide) (by decide))
          · have q1 : a0.tmps[1]?.getD undef = .int .i64 (a : Int) := hsame 1 (slot_free (by decide +kernel))
            have hJ2 := Lib.hid hJ; have hk := Lib.hid hK; clear hsame hpre hK hV hJ hd; go_simp; exact hk.out _ _ (fun s hs => by cases hs; rfl) (hJ2.out.more (by decide) (by decide))
          · have q10 : a0.tmps[10]?.getD undef = .int .i64 (o2 : Int) := hsame 10 (slot_free (by decide +kernel))
            have hJ2 := Lib.hid hJ; have hk := Lib.hid hK; clear hsame hpre hK hV hJ hd; go_simp; exact hk.out _ _ (fun s hs => by cases hs; rfl) (hJ2.out.more (by decide) (by decide))
          · have q54 : a0.tmps[54]?.getD undef = .int .i64 (a : Int) := hV 7 54 (hpre ⟨7, .data⟩ (by simp) rfl) rfl
            have q55 : a0.tmps[55]?.getD undef = .int .i64 (o2 : Int) := hV 8 55 (hpre ⟨8, .data⟩ (by simp) rfl) rfl
            have hJ2 := Lib.hid hJ; have hk := Lib.hid hK; clear hsame hpre hK hV hJ hd; go_simp; exact hk.out _ _ (fun s hs => by cases hs; rfl) (hJ2.out.more (by decide) (by decide))
          · have q53 : a0.tmps[53]?.getD undef = .slice (some ⟨g, off, none⟩) n cap := hV 6 53 (hpre ⟨6, .data⟩ (by simp) rfl) rfl
            have q56 : a0.tmps[56]?.getD undef = .int .i64 (fo : Int) := hV 9 56 (hpre ⟨9, .data⟩ (by simp) rfl) rfl
            have hJ2 := Lib.hid hJ; have hk := Lib.hid hK; clear hsame hpre hK hV hJ hd; go_simp; exact hk.out _ _ (fun s hs => by cases hs; rfl) (hJ2.out.more (by decide) (by decide))
          · have q57 : a0.tmps[57]?.getD undef = .pointer (some ⟨g, off + fo, none⟩) := hV 10 57 (hpre ⟨10, .data⟩ (by simp) rfl) rfl
            have hxX := hJ.load (.inl hd)
            have c0 : x.cell? ⟨g, off + fo, none⟩ = some (.int .u64 (d1[fo]! : Int)) := by rw [hxX]; exact (Hnum3.out _ (by rw [Hsz.out]; exact hfn)).1
            clear hxX
            have hJ2 := Lib.hid hJ; have hk := Lib.hid hK; clear hsame hpre hK hV hJ hd; go_simp; exact hk.out _ _ (fun s hs => by cases hs; rfl) (hJ2.out.more (by decide) (by decide))
          · have q0 : a0.tmps[0]?.getD undef = .slice (some ⟨g, off, none⟩) n cap := hsame 0 (slot_free (by decide +kernel))
            have hJ2 := Lib.hid hJ; have hk := Lib.hid hK; clear hsame hpre hK hV hJ hd; go_simp; exact hk.out _ _ (fun s hs => by cases hs; rfl) (hJ2.out.more (by decide) (by decide))
          · have q9 : a0.tmps[9]?.getD undef = .int .i64 (y : Int) := hsame 9 (slot_free (by decide +kernel))
            have hJ2 := Lib.hid hJ; have hk := Lib.hid hK; clear hsame hpre hK hV hJ hd; go_simp; exact hk.out _ _ (fun s hs => by cases hs; rfl) (hJ2.out.more (by decide) (by decide))
          · have q59 : a0.tmps[59]?.getD undef = .slice (some ⟨g, off, none⟩) n cap := hV 12 59 (hpre ⟨12, .data⟩ (by simp) rfl) rfl
            have q60 : a0.tmps[60]?.getD undef = .int .i64 (y : Int) := hV 13 60 (hpre ⟨13, .data⟩ (by simp) rfl) rfl
            have hJ2 := Lib.hid hJ; have hk := Lib.hid hK; clear hsame hpre hK hV hJ hd; go_simp; exact hk.out _ _ (fun s hs => by cases hs; rfl) (hJ2.out.more (by decide) (by decide))
          · have q61 : a0.tmps[61]?.getD undef = .pointer (some ⟨g, off + y, none⟩) := hV 14 61 (hpre ⟨14, .data⟩ (by simp) rfl) rfl
            have hxX := hJ.load (.inr hd)
            have c0 : x.cell? ⟨g, off + y, none⟩ = some (.int .u64 (d1[y]! : Int)) := by rw [hxX]; exact (Hnum3.out _ (by rw [Hsz.out]; exact hyn)).1
            clear hxX
            have hJ2 := Lib.hid hJ; have hk := Lib.hid hK; clear hsame hpre hK hV hJ hd; go_simp; exact hk.out _ _ (fun s hs => by cases hs; rfl) (hJ2.out.more (by decide) (by decide))
          · have q47 : a0.tmps[47]?.getD undef = .slice (some ⟨g, off, none⟩) n cap := hV 0 47 (hpre ⟨0, .data⟩ (by simp) rfl) rfl
            have q48 : a0.tmps[48]?.getD undef = .int .i64 (y : Int) := hV 1 48 (hpre ⟨1, .data⟩ (by simp) rfl) rfl
            have hJ2 := Lib.hid hJ; have hk := Lib.hid hK; clear hsame hpre hK hV hJ hd; go_simp; exact hk.out _ _ (fun s hs => by cases hs; rfl) (hJ2.out.more (by decide) (by decide))
          · have q63 : a0.tmps[63]?.getD undef = .pointer (some ⟨g, off + y, none⟩) := hV 16 63 (hpre ⟨16, .data⟩ (by simp) rfl) rfl
            have q58 : a0.tmps[58]?.getD undef = .int .u64 (d1[fo]! : Int) := hV 11 58 (hpre ⟨11, .data⟩ (by simp) rfl) rfl
            have hk : ∀ x', (SwJ x3.drew ⟨g, off + y, none⟩ ⟨g, off + fo, none⟩ (.int .u64 (d1[fo]! : Int)) (.int .u64 (d1[y]! : Int)) 17 19 11 15) (also dn 17) x' → K a0 x' := fun x' h2 => hK undef x' (fun s hs => by cases hs) h2
            have hJ2 := Lib.hid (hJ.st1 (by decide) hd (hpre ⟨11, .phase⟩ (by simp) rfl) (hpre ⟨15, .phase⟩ (by simp) rfl))
            have hxX : x = x3.drew := hJ.w0 hd
            have c0 : x.cell? ⟨g, off + y, none⟩ = some (.int .u64 (d1[y]! : Int)) := by rw [hxX]; exact (Hnum3.out _ (by rw [Hsz.out]; exact hyn)).1
            have z0 : x.frozen? ⟨g, off + y, none⟩ = false := by rw [hxX]; exact (Hnum3.out _ (by rw [Hsz.out]; exact hyn)).2
            clear hsame hpre hK hV hJ hd hxX
            go_simp
            exact hk _ hJ2.out
          · have q49 : a0.tmps[49]?.getD undef = .slice (some ⟨g, off, none⟩) n cap := hV 2 49 (hpre ⟨2, .data⟩ (by simp) rfl) rfl
            have q52 : a0.tmps[52]?.getD undef = .int .i64 (fo : Int) := hV 5 52 (hpre ⟨5, .data⟩ (by simp) rfl) rfl
            have hJ2 := Lib.hid hJ; have hk := Lib.hid hK; clear hsame hpre hK hV hJ hd; go_simp; exact hk.out _ _ (fun s hs => by cases hs; rfl) (hJ2.out.more (by decide) (by decide))
          · have q64 : a0.tmps[64]?.getD undef = .pointer (some ⟨g, off + fo, none⟩) := hV 18 64 (hpre ⟨18, .data⟩ (by simp) rfl) rfl
            have q62 : a0.tmps[62]?.getD undef = .int .u64 (d1[y]! : Int) := hV 15 62 (hpre ⟨15, .data⟩ (by simp) rfl) rfl
            have hk : ∀ x', (SwJ x3.drew ⟨g, off + y, none⟩ ⟨g, off + fo, none⟩ (.int .u64 (d1[fo]! : Int)) (.int .u64 (d1[y]! : Int)) 17 19 11 15) (also dn 19) x' → K a0 x' := fun x' h2 => hK undef x' (fun s hs => by cases hs) h2
            have hJ2 := Lib.hid (hJ.st2 (by decide) hd (hpre ⟨17, .chain⟩ (by simp) rfl))
            have hxX := hJ.w1 (hpre ⟨17, .chain⟩ (by simp) rfl) hd
            obtain ⟨u0, c0⟩ : ∃ u, x.cell? ⟨g, off + fo, none⟩ = some u := by rw [hxX]; exact cell_some _ _ _ _ _ (Hnum3.out _ (by rw [Hsz.out]; exact hyn)).1 (Hnum3.out _ (by rw [Hsz.out]; exact hfn)).1
            have z0 : x.frozen? ⟨g, off + fo, none⟩ = false := by rw [hxX, World.frozen?_setCell]; exact (Hnum3.out _ (by rw [Hsz.out]; exact hfn)).2
            clear hsame hpre hK hV hJ hd hxX
            go_simp
            exact hk _ hJ2.out
        · intro dn x hall hJ
          have hx := hJ.w2 (hall 19 (by decide))
          have h44 := NumsAt.grow (w' := x3.drew) Hnum3.out hg3 ((Below.refl _ _).drew)
          have HN5 := Lib.hid (show NumsAt x g off (Sort.swp d1 y fo) by rw [hx]; exact h44.swp (by rw [Hsz.out]; exact hyn) (by rw [Hsz.out]; exact hfn))
          have hb5 : ButS g x3 x := by
            rw [hx]
            exact ((butS_below ((Below.refl x3.heap.size x3).drew) g).trans (butS_set _ _ _ _)).trans (butS_set _ _ _ _)
          clear hx h44 hJ hall w5 w6
          have HR5 := Lib.hid (Hrnd3.out.but hs3 (Ne.symm hgs) hb5)
          have hs5 := Nat.lt_of_lt_of_le hs3 hb5.2.2.2.1
          obtain ⟨y1, hy1⟩ : ∃ z, z = y + 1 := ⟨_, rfl⟩
          have WY := Lib.hid (wr_nat ((y : Int) + 1) y1 (by omega) (by omega))
          have Hy1 := Lib.hid hy1
          clear hy1
          obtain ⟨w5, w6⟩ := WY.out
          simp only [putAct]
          go_wp2_with fail
          clear w5 w6
          go_roundw
          case rel => exact ⟨k, y1, Sort.xorNext r, Sort.swp d1 y fo, by omega, by have := Hy1.out; have := Hy.out; omega, rfl, by rw [Sort.xorNext_toNat, ← HX'.out]; exact HR5.out, hs5, HN5.out, by rw [swp_size]; exact Hsz.out, by rw [Hfo.out, ← HO3.out]; exact Heq3.out, hbut3.trans hb5⟩
          case measure => have := Hy1.out; simp [intOf]; omega
      · obtain ⟨o2, ho2⟩ : ∃ z, z = O := ⟨_, rfl⟩
        have HO3 := Lib.hid (show (if (Sort.xorNext r).toNat &&& (M - 1) ≥ l then ((Sort.xorNext r).toNat &&& (M - 1)) - l else (Sort.xorNext r).toNat &&& (M - 1)) = o2 by rw [HO2.out, if_neg hlO, ho2])
        subst ho2
        obtain ⟨fo, hfo⟩ : ∃ z, z = a + o2 := ⟨_, rfl⟩
        have e2 : decide ((l : Int) ≤ (o2 : Int)) = false := by rw [decide_eq_false_iff_not]; omega
        have e3 : decide (l ≤ o2) = false := by rw [decide_eq_false_iff_not]; omega
        have ho2l : o2 < l := by omega
        go_upto_region 10 with fail
        clear e2 e3
        have hfn : fo < n := by have := hX.out; omega
        have WF := Lib.hid (wr_nat ((a : Int) + (o2 : Int)) fo (by omega) (by omega))
        have Hfo := Lib.hid hfo
        clear hfo
        obtain ⟨w5, w6⟩ := WF.out
        refine wp_region_fixed (fun s => match s with | 47 => .slice (some ⟨g, off, none⟩) n cap | 48 => .int .i64 (y : Int) | 49 => .slice (some ⟨g, off, none⟩) n cap | 50 => .int .i64 (a : Int) | 51 => .int .i64 (o2 : Int) | 52 => .int .i64 (fo : Int) | 53 => .slice (some ⟨g, off, none⟩) n cap | 54 => .int .i64 (a : Int) | 55 => .int .i64 (o2 : Int) | 56 => .int .i64 (fo : Int) | 57 => .pointer (some ⟨g, off + fo, none⟩) | 58 => .int .u64 (d1[fo]! : Int) | 59 => .slice (some ⟨g, off, none⟩) n cap | 60 => .int .i64 (y : Int) | 61 => .pointer (some ⟨g, off + y, none⟩) | 62 => .int .u64 (d1[y]! : Int) | 63 => .pointer (some ⟨g, off + y, none⟩) | 64 => .pointer (some ⟨g, off + fo, none⟩) | _ => undef) (SwJ x3.drew ⟨g, off + y, none⟩ ⟨g, off + fo, none⟩ (.int .u64 (d1[fo]! : Int)) (.int .u64 (d1[y]! : Int)) 17 19 11 15) 65 [47, 48, 49, 50, 51, 52, 53, 54, 55, 56, 57, 58, 59, 60, 61, 62, 63, 64] (by kernel_rfl) (by kernel_rfl) (by kernel_rfl) (by kernel_rfl) rfl SwJ.start ?_ ?_
        · intro i0 o0 hi0 dn a0 x hJ hd hpre hsame hV K hK
          have hlt0 := (Array.getElem?_eq_some_iff.1 hi0).1
          rcases many20 hlt0 rfl with rfl | rfl | rfl | rfl | rfl | rfl | rfl | rfl | rfl | rfl | rfl | rfl | rfl | rfl | rfl | rfl | rfl | rfl | rfl | rfl
          all_goals (have ho0 := Option.some.inj hi0; subst ho0; clear hi0 hlt0)
          · have q0 : a0.tmps[0]?.getD undef = .slice (some ⟨g, off, none⟩) n cap := hsame 0 (slot_free (by decide +kernel))
            have hJ2 := Lib.hid hJ; have hk := Lib.hid hK; clear hsame hpre hK hV hJ hd; go_simp; exact hk.out _ _ (fun s hs => by cases hs; rfl) (hJ2.out.more (by decide) (by decide))
          · have q9 : a0.tmps[9]?.getD undef = .int .i64 (y : Int) := hsame 9 (slot_free (by decide +kernel))
            have hJ2 := Lib.hid hJ; have hk := Lib.hid hK; clear hsame hpre hK hV hJ hd; go_simp; exact hk.out _ _ (fun s hs => by cases hs; rfl) (hJ2.out.more (by decide) (by decide))
          · have q0 : a0.tmps[0]?.getD undef = .slice (some ⟨g, off, none⟩) n cap := hsame 0 (slot_free (by decide +kernel))
            have hJ2 := Lib.hid hJ; have hk := Lib.hid hK; clear hsame hpre hK hV hJ hd; go_simp; exact hk.out _ _ (fun s hs => by cases hs; rfl) (hJ2.out.more (by decide) (by decide))
          · have q1 : a0.tmps[1]?.getD undef = .int .i64 (a : Int) := hsame 1 (slot_free (by decide +kernel))
            have hJ2 := Lib.hid hJ; have hk := Lib.hid hK; clear hsame hpre hK hV hJ hd; go_simp; exact hk.out _ _ (fun s hs => by cases hs; rfl) (hJ2.out.more (by decide) (by decide))
          · have q10 : a0.tmps[10]?.getD undef = .int .i64 (o2 : Int) := hsame 10 (slot_free (by decide +kernel))
            have hJ2 := Lib.hid hJ; have hk := Lib.hid hK; clear hsame hpre hK hV hJ hd; go_simp; exact hk.out _ _ (fun s hs => by cases hs; rfl) (hJ2.out.more (by decide) (by decide))
          · have q50 : a0.tmps[50]?.getD undef = .int .i64 (a : Int) := hV 3 50 (hpre ⟨3, .data⟩ (by simp) rfl) rfl
            have q51 : a0.tmps[51]?.getD undef = .int .i64 (o2 : Int) := hV 4 51 (hpre ⟨4, .data⟩ (by simp) rfl) rfl
            have hJ2 := Lib.hid hJ; have hk := Lib.hid hK; clear hsame hpre hK hV hJ hd; go_simp; exact hk.out _ _ (fun s hs => by cases hs; rfl) (hJ2.out.more (by decide) (by decide))
          · have q0 : a0.tmps[0]?.getD undef = .slice (some ⟨g, off, none⟩) n cap := hsame 0 (slot_free (by decide +kernel))
            have hJ2 := Lib.hid hJ; have hk := Lib.hid hK; clear hsame hpre hK hV hJ hd; go_simp; exact hk.out _ _ (fun s hs => by cases hs; rfl) (hJ2.out.more (by decide) (by decide))
          · have q1 : a0.tmps[1]?.getD undef = .int .i64 (a : Int) := hsame 1 (slot_free (by decide +kernel))
            have hJ2 := Lib.hid hJ; have hk := Lib.hid hK; clear hsame hpre hK hV hJ hd; go_simp; exact hk.out _ _ (fun s hs => by cases hs; rfl) (hJ2.out.more (by decide) (by decide))
          · have q10 : a0.tmps[10]?.getD undef = .int .i64 (o2 : Int) := hsame 10 (slot_free (by decide +kernel))
            have hJ2 := Lib.hid hJ; have hk := Lib.hid hK; clear hsame hpre hK hV hJ hd; go_simp; exact hk.out _ _ (fun s hs => by cases hs; rfl) (hJ2.out.more (by decide) (by decide))
          · have q54 : a0.tmps[54]?.getD undef = .int .i64 (a : Int) := hV 7 54 (hpre ⟨7, .data⟩ (by simp) rfl) rfl
            have q55 : a0.tmps[55]?.getD undef = .int .i64 (o2 : Int) := hV 8 55 (hpre ⟨8, .data⟩ (by simp) rfl) rfl
            have hJ2 := Lib.hid hJ; have hk := Lib.hid hK; clear hsame hpre hK hV hJ hd; go_simp; exact hk.out _ _ (fun s hs => by cases hs; rfl) (hJ2.out.more (by decide) (by decide))
          · have q53 : a0.tmps[53]?.getD undef = .slice (some ⟨g, off, none⟩) n cap := hV 6 53 (hpre ⟨6, .data⟩ (by simp) rfl) rfl
            have q56 : a0.tmps[56]?.getD undef = .int .i64 (fo : Int) := hV 9 56 (hpre ⟨9, .data⟩ (by simp) rfl) rfl
            have hJ2 := Lib.hid hJ; have hk := Lib.hid hK; clear hsame hpre hK hV hJ hd; go_simp; exact hk.out _ _ (fun s hs => by cases hs; rfl) (hJ2.out.more (by decide) (by decide))
          · have q57 : a0.tmps[57]?.getD undef = .pointer (some ⟨g, off + fo, none⟩) := hV 10 57 (hpre ⟨10, .data⟩ (by simp) rfl) rfl
            have hxX := hJ.load (.inl hd)
            have c0 : x.cell? ⟨g, off + fo, none⟩ = some (.int .u64 (d1[fo]! : Int)) := by rw [hxX]; exact (Hnum3.out _ (by rw [Hsz.out]; exact hfn)).1
            clear hxX
            have hJ2 := Lib.hid hJ; have hk := Lib.hid hK; clear hsame hpre hK hV hJ hd; go_simp; exact hk.out _ _ (fun s hs => by cases hs; rfl) (hJ2.out.more (by decide) (by decide))
          · have q0 : a0.tmps[0]?.getD undef = .slice (some ⟨g, off, none⟩) n cap := hsame 0 (slot_free (by decide +kernel))
            have hJ2 := Lib.hid hJ; have hk := Lib.hid hK; clear hsame hpre hK hV hJ hd; go_simp; exact hk.out _ _ (fun s hs => by cases hs; rfl) (hJ2.out.more (by decide) (by decide))
          · have q9 : a0.tmps[9]?.getD undef = .int .i64 (y : Int) := hsame 9 (slot_free (by decide +kernel))
            have hJ2 := Lib.hid hJ; have hk := Lib.hid hK; clear hsame hpre hK hV hJ hd; go_simp; exact hk.out _ _ (fun s hs => by cases hs; rfl) (hJ2.out.more (by decide) (by decide))
          · have q59 : a0.tmps[59]?.getD undef = .slice (some ⟨g, off, none⟩) n cap := hV 12 59 (hpre ⟨12, .data⟩ (by simp) rfl) rfl
            have q60 : a0.tmps[60]?.getD undef = .int .i64 (y : Int) := hV 13 60 (hpre ⟨13, .data⟩ (by simp) rfl) rfl
            have hJ2 := Lib.hid hJ; have hk := Lib.hid hK; clear hsame hpre hK hV hJ hd; go_simp; exact hk.out _ _ (fun s hs => by cases hs; rfl) (hJ2.out.more (by decide) (by decide))
          · have q61 : a0.tmps[61]?.getD undef = .pointer (some ⟨g, off + y, none⟩) := hV 14 61 (hpre ⟨14, .data⟩ (by simp) rfl) rfl
            have hxX := hJ.load (.inr hd)
            have c0 : x.cell? ⟨g, off + y, none⟩ = some (.int .u64 (d1[y]! : Int)) := by rw [hxX]; exact (Hnum3.out _ (by rw [Hsz.out]; exact hyn)).1
            clear hxX
            have hJ2 := Lib.hid hJ; have hk := Lib.hid hK; clear hsame hpre hK hV hJ hd; go_simp; exact hk.out _ _ (fun s hs => by cases hs; rfl) (hJ2.out.more (by decide) (by decide))
          · have q47 : a0.tmps[47]?.getD undef = .slice (some ⟨g, off, none⟩) n cap := hV 0 47 (hpre ⟨0, .data⟩ (by simp) rfl) rfl
            have q48 : a0.tmps[48]?.getD undef = .int .i64 (y : Int) := hV 1 48 (hpre ⟨1, .data⟩ (by simp) rfl) rfl
            have hJ2 := Lib.hid hJ; have hk := Lib.hid hK; clear hsame hpre hK hV hJ hd; go_simp; exact hk.out _ _ (fun s hs => by cases hs; rfl) (hJ2.out.more (by decide) (by decide))
          · have q63 : a0.tmps[63]?.getD undef = .pointer (some ⟨g, off + y, none⟩) := hV 16 63 (hpre ⟨16, .data⟩ (by simp) rfl) rfl
            have q58 : a0.tmps[58]?.getD undef = .int .u64 (d1[fo]! : Int) := hV 11 58 (hpre ⟨11, .data⟩ (by simp) rfl) rfl
            have hk : ∀ x', (SwJ x3.drew ⟨g, off + y, none⟩ ⟨g, off + fo, none⟩ (.int .u64 (d1[fo]! : Int)) (.int .u64 (d1[y]! : Int)) 17 19 11 15) (also dn 17) x' → K a0 x' := fun x' h2 => hK undef x' (fun s hs => by cases hs) h2
            have hJ2 := Lib.hid (hJ.st1 (by decide) hd (hpre ⟨11, .phase⟩ (by simp) rfl) (hpre ⟨15, .phase⟩ (by simp) rfl))
            have hxX : x = x3.drew := hJ.w0 hd
            have c0 : x.cell? ⟨g, off + y, none⟩ = some (.int .u64 (d1[y]! : Int)) := by rw [hxX]; exact (Hnum3.out _ (by rw [Hsz.out]; exact hyn)).1
            have z0 : x.frozen? ⟨g, off + y, none⟩ = false := by rw [hxX]; exact (Hnum3.out _ (by rw [Hsz.out]; exact hyn)).2
            clear hsame hpre hK hV hJ hd hxX
            go_simp
            exact hk _ hJ2.out
          · have q49 : a0.tmps[49]?.getD undef = .slice (some ⟨g, off, none⟩) n cap := hV 2 49 (hpre ⟨2, .data⟩ (by simp) rfl) rfl
            have q52 : a0.tmps[52]?.getD undef = .int .i64 (fo : Int) := hV 5 52 (hpre ⟨5, .data⟩ (by simp) rfl) rfl
            have hJ2 := Lib.hid hJ; have hk := Lib.hid hK; clear hsame hpre hK hV hJ hd; go_simp; exact hk.out _ _ (fun s hs => by cases hs; rfl) (hJ2.out.more (by decide) (by decide))
          · have q64 : a0.tmps[64]?.getD undef = .pointer (some ⟨g, off + fo, none⟩) := hV 18 64 (hpre ⟨18, .data⟩ (by simp) rfl) rfl
            have q62 : a0.tmps[62]?.getD undef = .int .u64 (d1[y]! : Int) := hV 15 62 (hpre ⟨15, .data⟩ (by simp) rfl) rfl
            have hk : ∀ x', (SwJ x3.drew ⟨g, off + y, none⟩ ⟨g, off + fo, none⟩ (.int .u64 (d1[fo]! : Int)) (.int .u64 (d1[y]! : Int)) 17 19 11 15) (also dn 19) x' → K a0 x' := fun x' h2 => hK undef x' (fun s hs => by cases hs) h2
            have hJ2 := Lib.hid (hJ.st2 (by decide) hd (hpre ⟨17, .chain⟩ (by simp) rfl))
            have hxX := hJ.w1 (hpre ⟨17, .chain⟩ (by simp) rfl) hd
            obtain ⟨u0, c0⟩ : ∃ u, x.cell? ⟨g, off + fo, none⟩ = some u := by rw [hxX]; exact cell_some _ _ _ _ _ (Hnum3.out _ (by rw [Hsz.out]; exact hyn)).1 (Hnum3.out _ (by rw [Hsz.out]; exact hfn)).1
            have z0 : x.frozen? ⟨g, off + fo, none⟩ = false := by rw [hxX, World.frozen?_setCell]; exact (Hnum3.out _ (by rw [Hsz.out]; exact hfn)).2
            clear hsame hpre hK hV hJ hd hxX
            go_simp
            exact hk _ hJ2.out
        · intro dn x hall hJ
          have hx := hJ.w2 (hall 19 (by decide))
          have h44 := NumsAt.grow (w' := x3.drew) Hnum3.out hg3 ((Below.refl _ _).drew)
          have HN5 := Lib.hid (show NumsAt x g off (Sort.swp d1 y fo) by rw [hx]; exact h44.swp (by rw [Hsz.out]; exact hyn) (by rw [Hsz.out]; exact hfn))
          have hb5 : ButS g x3 x := by
            rw [hx]
            exact ((butS_below ((Below.refl x3.heap.size x3).drew) g).trans (butS_set _ _ _ _)).trans (butS_set _ _ _ _)
          clear hx h44 hJ hall w5 w6
          have HR5 := Lib.hid (Hrnd3.out.but hs3 (Ne.symm hgs) hb5)
          have hs5 := Nat.lt_of_lt_of_le hs3 hb5.2.2.2.1
          obtain ⟨y1, hy1⟩ : ∃ z, z = y + 1 := ⟨_, rfl⟩
          have WY := Lib.hid (wr_nat ((y : Int) + 1) y1 (by omega) (by omega))
          have Hy1 := Lib.hid hy1
          clear hy1
          obtain ⟨w5, w6⟩ := WY.out
          simp only [putAct]
          go_wp2_with fail
          clear w5 w6
          go_roundw
          case rel => exact ⟨k, y1, Sort.xorNext r, Sort.swp d1 y fo, by omega, by have := Hy1.out; have := Hy.out; omega, rfl, by rw [Sort.xorNext_toNat, ← HX'.out]; exact HR5.out, hs5, HN5.out, by rw [swp_size]; exact Hsz.out, by rw [Hfo.out, ← HO3.out]; exact Heq3.out, hbut3.trans hb5⟩
          case measure => have := Hy1.out; simp [intOf]; omega
end Go.Proofs.YtdmbmkjiffhbcaaGreat

namespace Go.Proofs.YtdmbmkjiffhbcaaGreat
set_option maxRecDepth 100000

theorem swo64 : Sort.SWO lt64 where
  irrefl x := by simp [lt64]
  trans x y z h1 h2 := by simp [lt64] at *; omega
  ntrans x y z h1 h2 := by simp [lt64] at *; omega
/-- The end of a round. -/
def pT4 (d : Array Nat) (a b lim : Nat) (wb wp : Bool) (pv : Nat) : Array Nat :=
  if (decide (a > 0) && !lt64 d[a - 1]! d[pv]!) = true then Sort.pdq lt64 (Sort.partitionEqual lt64 d a b pv).2 (Sort.partitionEqual lt64 d a b pv).1 b lim wb wp
  else if (Sort.partition lt64 d a b pv).1 - a < b - (Sort.partition lt64 d a b pv).1 then
    Sort.pdq lt64 (Sort.pdq lt64 (Sort.partition lt64 d a b pv).2.2 a (Sort.partition lt64 d a b pv).1 lim true true) ((Sort.partition lt64 d a b pv).1 + 1) b lim (decide ((Sort.partition lt64 d a b pv).1 - a ≥ (b - a) / 8)) (Sort.partition lt64 d a b pv).2.1
  else Sort.pdq lt64 (Sort.pdq lt64 (Sort.partition lt64 d a b pv).2.2 ((Sort.partition lt64 d a b pv).1 + 1) b lim true true) a (Sort.partition lt64 d a b pv).1 lim (decide (b - (Sort.partition lt64 d a b pv).1 ≥ (b - a) / 8)) (Sort.partition lt64 d a b pv).2.1
theorem pdq_small {d : Array Nat} {a b limit : Nat} {wb wp : Bool} (h : b - a ≤ 12) : Sort.pdq lt64 d a b limit wb wp = Sort.insertionSort lt64 d a b := by
  rw [Sort.pdq, if_pos h]
theorem pdq_heap {d : Array Nat} {a b : Nat} {wb wp : Bool} (h : ¬ b - a ≤ 12) : Sort.pdq lt64 d a b 0 wb wp = Sort.heapSort lt64 d a b := by
  rw [Sort.pdq, if_neg h, if_pos rfl]
theorem eq_range {d : Array Nat} {a b pv : Nat} (h1 : a ≤ pv) (h2 : pv < b) (hb : b ≤ d.size) (hB : Sort.Below lt64 a b d) (ha : 0 < a) (hl : lt64 d[a - 1]! d[pv]! = false) :
    a < (Sort.partitionEqual lt64 d a b pv).1 ∧ (Sort.partitionEqual lt64 d a b pv).1 ≤ b := by
  have h := Sort.partitionEqual_holds lt64 swo64 d a b pv h1 h2 hb fun i hi hi2 => by
    rcases hB with h0 | hB
    · omega
    · exact swo64.ntrans _ _ _ (hB i hi hi2) hl
  exact ⟨h.1, h.2.1⟩
theorem part_range {d : Array Nat} {a b pv : Nat} (h1 : a ≤ pv) (h2 : pv < b) (hb : b ≤ d.size) : a ≤ (Sort.partition lt64 d a b pv).1 ∧ (Sort.partition lt64 d a b pv).1 < b := by
  have h := Sort.partition_holds lt64 swo64 d a b pv h1 h2 hb
  exact ⟨h.1, h.2.1⟩
theorem pdq_round {d d1 d2 : Array Nat} {a b limit lim1 pv : Nat} {wb wp : Bool} {c : Nat × Sort.Hint} {hint : Sort.Hint} {pi : Array Nat × Bool} (h12 : ¬ b - a ≤ 12) (hl : limit ≠ 0) (hb : b ≤ d.size) (hB : Sort.Below lt64 a b d)
    (e1 : d1 = if (!wb) = true then Sort.breakPatterns d a b else d) (e2 : lim1 = if (!wb) = true then limit - 1 else limit) (e3 : c = Sort.choosePivot lt64 d1 a b)
    (e4 : d2 = if c.2 = .decreasing then Sort.reverseRange d1 a b else d1) (e5 : pv = if c.2 = .decreasing then (b - 1) - (c.1 - a) else c.1) (e6 : hint = if c.2 = .decreasing then Sort.Hint.increasing else c.2)
    (e7 : pi = if (wb && wp && decide (hint = .increasing)) = true then Sort.partialInsertionSort lt64 d2 a b else (d2, false)) :
    a ≤ pv ∧ pv < b ∧ Sort.PermIn a b d pi.1 ∧ (pi.2 = true → Sort.pdq lt64 d a b limit wb wp = pi.1) ∧ (pi.2 = false → Sort.pdq lt64 d a b limit wb wp = pT4 pi.1 a b lim1 wb wp pv) := by
  have hab : a < b := by omega
  have hc := Sort.choosePivot_holds lt64 d1 a b hab
  rw [← e3] at hc
  have hpv : a ≤ pv ∧ pv < b := by rw [e5]; split <;> omega
  have p1 : Sort.PermIn a b d d1 := by
    rw [e1]; split
    · exact Sort.breakPatterns_holds d a b (by omega) hb
    · exact Sort.permIn_refl d a b
  have p2 : Sort.PermIn a b d d2 := by
    rw [e4]; split
    · exact Sort.permIn_trans _ _ _ a b p1 (Sort.reverseRange_holds d1 a b (by omega) (by rw [p1.1]; exact hb))
    · exact p1
  have p3 : Sort.PermIn a b d pi.1 := by
    rw [e7]; split
    · exact Sort.permIn_trans _ _ _ a b p2 (Sort.partialInsertionSort_holds swo64 d2 a b hab (by rw [p2.1]; exact hb) (hB.perm hb p2)).1
    · exact p2
  refine ⟨hpv.1, hpv.2, p3, ?_, ?_⟩
  · intro hp
    rw [Sort.pdq, if_neg h12, if_neg hl]
    simp only [dite_eq_ite, ← e1, ← e2, ← e3, ← e4, ← e5, ← e6, ← e7]
    rw [if_pos hp]
  · intro hp
    rw [Sort.pdq, if_neg h12, if_neg hl]
    simp only [dite_eq_ite, ← e1, ← e2, ← e3, ← e4, ← e5, ← e6, ← e7]
    rw [if_neg (by rw [hp]; decide)]
    unfold pT4
    have hb3 : b ≤ pi.1.size := by rw [p3.1]; exact hb
    by_cases hg : (decide (a > 0) && !lt64 pi.1[a - 1]! pi.1[pv]!) = true
    · rw [if_pos hg, if_pos hg]
      rw [Bool.and_eq_true, decide_eq_true_iff, Bool.not_eq_true'] at hg
      rw [if_pos (eq_range hpv.1 hpv.2 hb3 (hB.perm hb p3) hg.1 hg.2)]
    · rw [if_neg hg, if_neg hg, if_pos (part_range hpv.1 hpv.2 hb3)]
/-- What the recursion needs of the rows behind the partitions. -/
theorem eq_next {d : Array Nat} {a b pv : Nat} (h1 : a ≤ pv) (h2 : pv < b) (hb : b ≤ d.size) (hB : Sort.Below lt64 a b d) (ha : 0 < a) (hl : lt64 d[a - 1]! d[pv]! = false) : Sort.Below lt64 (Sort.partitionEqual lt64 d a b pv).1 b (Sort.partitionEqual lt64 d a b pv).2 := by
  have h := Sort.partitionEqual_holds lt64 swo64 d a b pv h1 h2 hb fun i hi hi2 => by
    rcases hB with h0 | hB
    · omega
    · exact swo64.ntrans _ _ _ (hB i hi hi2) hl
  obtain ⟨r1, r2, _, hlo, hhi⟩ := h
  refine .inr fun i hi hi2 => ?_
  have e1 := hhi i hi hi2
  have e2 := hlo ((Sort.partitionEqual lt64 d a b pv).1 - 1) (by omega) (by omega)
  simp only [lt64, decide_eq_true_iff, decide_eq_false_iff_not] at *
  omega
theorem part_left {d : Array Nat} {a b pv : Nat} (h1 : a ≤ pv) (h2 : pv < b) (hb : b ≤ d.size) (hB : Sort.Below lt64 a b d) : Sort.Below lt64 a (Sort.partition lt64 d a b pv).1 (Sort.partition lt64 d a b pv).2.2 := by
  have h := Sort.partition_holds lt64 swo64 d a b pv h1 h2 hb
  exact (hB.perm hb h.2.2.1).mono (by omega)
theorem part_right {d : Array Nat} {a b pv : Nat} (h1 : a ≤ pv) (h2 : pv < b) (hb : b ≤ d.size) : Sort.Below lt64 ((Sort.partition lt64 d a b pv).1 + 1) b (Sort.partition lt64 d a b pv).2.2 := by
  have h := Sort.partition_holds lt64 swo64 d a b pv h1 h2 hb
  refine .inr fun i hi hi2 => ?_
  rw [Nat.add_sub_cancel]
  exact h.2.2.2.2 i (by omega) hi2
end Go.Proofs.YtdmbmkjiffhbcaaGreat

namespace Go.Proofs.YtdmbmkjiffhbcaaGreat
open Go.RowKit
set_option maxRecDepth 100000

set_option maxHeartbeats 16000000 in
theorem pdq_any (g off cap n : Nat) (hn2 : n ≤ 1152921504606846976) : ∀ (N a b limit : Nat) (d : Array Nat) (w : World), b - a ≤ N → a ≤ b → NumsAt w g off d → n = d.size → b ≤ n → Sort.Below lt64 a b d → limit ≤ 1000 → g < w.heap.size →
    Calls Tryz.prog 96 #[.slice (some ⟨g, off, none⟩) n cap, .int .i64 (a : Int), .int .i64 (b : Int), .int .i64 (limit : Int)] w fun e w' => e = .returned (.tuple #[]) ∧ NumsAt w' g off (Sort.pdq lt64 d a b limit true true) ∧ (Sort.pdq lt64 d a b limit true true).size = n ∧ ButS g w w' := by
  intro N
  induction N using Nat.strongRecOn with
  | _ N ih =>
  intro a b limit d w hN hab h hn hb hB hlim hg
  obtain ⟨R, hR⟩ : ∃ R, R = Sort.pdq lt64 d a b limit true true := ⟨_, rfl⟩
  rw [← hR]
  have IH := Lib.hid ih
  have HR := Lib.hid hR
  have Hn := Lib.hid hn
  have HB := Lib.hid hB
  have H := Lib.hid h
  have HS := Lib.hid (show a ≤ b ∧ b ≤ n ∧ b - a ≤ N ∧ limit ≤ 1000 from ⟨hab, hb, hN, hlim⟩)
  clear ih hR hn hB h hab hb hN hlim
  go_enter Tryz.func96, Tryz.ntmps96
  go_wp2_with fail
  go_loopw [1, 2, 3, 8, 9] (fun va vb vl vx vy wr => ∃ (a b l : Nat) (wb wp : Bool) (d1 : Array Nat), va = .int .i64 (a : Int) ∧ vb = .int .i64 (b : Int) ∧ vl = .int .i64 (l : Int) ∧ vx = .bool wb ∧ vy = .bool wp ∧ (a ≤ b ∧ b ≤ n ∧ b - a ≤ N ∧ l ≤ 1000) ∧ NumsAt wr g off d1 ∧ d1.size = n ∧ Sort.Below lt64 a b d1 ∧ Sort.pdq lt64 d1 a b l wb wp = R ∧ ButS g w wr) (fun va vb _ _ _ _ => (intOf vb - intOf va).toNat)
  case atStart => exact ⟨a, b, limit, true, true, d, rfl, rfl, rfl, rfl, rfl, HS.out, H.out, Hn.out.symm, HB.out, HR.out.symm, ButS.refl _ _⟩
  case round =>
    clear HS HB H HR Hn
    obtain ⟨a, b, l, wb, wp, d1, rfl, rfl, rfl, rfl, rfl, hs, hnum, hsz, hbel, heq, hbut⟩ := hrel
    have HS := Lib.hid hs
    have Hnum := Lib.hid hnum
    have Hsz := Lib.hid hsz
    have Hbel := Lib.hid hbel
    have Heq := Lib.hid heq
    have hg1 := Nat.lt_of_lt_of_le hg hbut.2.2.2.1
    obtain ⟨m, hm⟩ : ∃ m, m = b - a := ⟨_, rfl⟩
    have Wm := Lib.hid (wr_nat ((b : Int) - (a : Int)) m (by omega) (by omega))
    have Hm := Lib.hid hm
    clear hs hnum hsz hbel heq
    obtain ⟨w5, w6⟩ := Wm.out
    by_cases h12 : m ≤ 12
    · have e1 : decide ((m : Int) ≤ 12) = true := by rw [decide_eq_true_iff]; omega
      have e2 : decide (m ≤ 12) = true := by rw [decide_eq_true_iff]; omega
      have C := Lib.hid (ins_any g off cap n a b d1 wr Hnum.out Hsz.out.symm HS.out.2.1 (by omega) (by have := HS.out; omega) hg1)
      clear hm
      go_wp2_with (go_at_call 98; (with_reducible refine C.out.mono ?_); rintro e w7 ⟨rfl, hn7, hs7, hb7⟩)
      have hf := Heq.out
      rw [pdq_small (by rw [← Hm.out]; exact h12)] at hf
      rw [hf] at hn7 hs7
      first
      | exact bodyPost_ret (v := .tuple #[]) (results_none rfl _ _ _) rfl ⟨rfl, hn7, hs7, hbut.trans hb7⟩
      | exact bodyPost_end (v := .tuple #[]) (results_none rfl _ _ _) rfl ⟨rfl, hn7, hs7, hbut.trans hb7⟩
    · have e1 : decide ((m : Int) ≤ 12) = false := by rw [decide_eq_false_iff_not]; omega
      have e2 : decide (m ≤ 12) = false := by rw [decide_eq_false_iff_not]; omega
      by_cases hl0 : l = 0
      · subst hl0
        have C := Lib.hid (heap_any g off cap n a b d1 wr Hnum.out Hsz.out.symm HS.out.2.1 (by omega) hn2 hg1)
        clear hm
        go_wp2_with (go_at_call 99; (with_reducible refine C.out.mono ?_); rintro e w7 ⟨rfl, hn7, hs7, hb7⟩)
        have hf := Heq.out
        rw [pdq_heap (by rw [← Hm.out]; exact h12)] at hf
        rw [hf] at hn7 hs7
        first
        | exact bodyPost_ret (v := .tuple #[]) (results_none rfl _ _ _) rfl ⟨rfl, hn7, hs7, hbut.trans hb7⟩
        | exact bodyPost_end (v := .tuple #[]) (results_none rfl _ _ _) rfl ⟨rfl, hn7, hs7, hbut.trans hb7⟩
      · have e3 : ((l : Int) == 0) = false := by rw [beq_eq_false_iff_ne]; omega
        clear hm
        go_upto_region 7 with fail
        clear w5 w6 e1 e2 e3
        obtain ⟨D1, hD1⟩ : ∃ D, D = if (!wb) = true then Sort.breakPatterns d1 a b else d1 := ⟨_, rfl⟩
        obtain ⟨l1, hl1⟩ : ∃ D, D = if (!wb) = true then l - 1 else l := ⟨_, rfl⟩
        have HD1 := Lib.hid hD1
        have Hl1 := Lib.hid hl1
        clear hD1 hl1
        go_upto_if 35 with fail
        go_cut [3] from 19 to 133 (fun v wc => v = .int .i64 (l1 : Int) ∧ NumsAt wc g off D1 ∧ D1.size = n ∧ ButS g w wc)
        case first =>
          cases wb
          · have C := Lib.hid (brk_any g off cap n a b d1 wr Hnum.out Hsz.out.symm HS.out.2.1 (by have := Hm.out; omega) hn2 hg1)
            have hl2 : l1 = l - 1 := Hl1.out
            have hD2 : D1 = Sort.breakPatterns d1 a b := HD1.out
            have WL := Lib.hid (wr_nat ((l : Int) - 1) l1 (by omega) (by have := HS.out; omega))
            rw [← hD2] at C
            clear hl2 hD2
            obtain ⟨w5, w6⟩ := WL.out
            go_wp2_with (go_at_call 100; (with_reducible refine C.out.mono ?_); rintro e w7 ⟨rfl, hn7, hs7, hb7⟩)
            go_meet
            exact ⟨rfl, hn7, hs7, hbut.trans hb7⟩
          · have hl2 : l1 = l := Hl1.out
            have hD2 : D1 = d1 := HD1.out
            subst hl2
            subst hD2
            go_wp2_with fail
            go_meet
            exact ⟨rfl, Hnum.out, Hsz.out, hbut⟩
        case rest =>
          obtain ⟨rfl, hnc, hsc, hbc⟩ := hcut
          have Hnc := Lib.hid hnc
          have Hsc := Lib.hid hsc
          clear hnc hsc
          have hgc := Nat.lt_of_lt_of_le hg hbc.2.2.2.1
          obtain ⟨cp, ch, hch⟩ : ∃ cp ch, Sort.choosePivot lt64 D1 a b = (cp, ch) := ⟨_, _, rfl⟩
          have C := pivot_any g off cap n a b D1 wc Hnc.out Hsc.out.symm HS.out.2.1 (by have := Hm.out; omega) hn2 hgc
          rw [hch] at C
          have C := Lib.hid C
          have Hch := Lib.hid hch
          clear hch
          go_upto_if 50 with (go_at_call 101; (with_reducible refine C.out.mono ?_); rintro e w7 ⟨rfl, hb7⟩)
          obtain ⟨D2, hD2⟩ : ∃ D, D = if ch = .decreasing then Sort.reverseRange D1 a b else D1 := ⟨_, rfl⟩
          obtain ⟨pv, hpv⟩ : ∃ D, D = if ch = .decreasing then (b - 1) - (cp - a) else cp := ⟨_, rfl⟩
          obtain ⟨hi, hhi⟩ : ∃ D, D = if ch = .decreasing then Sort.Hint.increasing else ch := ⟨_, rfl⟩
          have hcp := Sort.choosePivot_holds lt64 D1 a b (by have := Hm.out; omega)
          rw [Hch.out] at hcp
          have Hcp := Lib.hid hcp
          have HD2 := Lib.hid hD2
          have Hpv := Lib.hid hpv
          have Hhi := Lib.hid hhi
          clear hD2 hpv hhi hcp C
          have zU : hintN .unknown = 0 := rfl
          have zI : hintN .increasing = 1 := rfl
          have zD : hintN .decreasing = 2 := rfl
          have hb8 : ButS g w w7 := hbc.trans (butS_below hb7 g)
          have Hn8 := Lib.hid (Hnc.out.grow hgc hb7)
          have hg8 := Nat.lt_of_lt_of_le hgc hb7.size
          go_cut [11, 12] from 19 to 133 (fun v x wc => v = .int .i64 (pv : Int) ∧ x = .int .i64 (hintN hi) ∧ NumsAt wc g off D2 ∧ D2.size = n ∧ ButS g w wc)
          case first =>
            cases ch
            · go_wp2_with fail
              go_meet
              have h1 := HD2.out
              have h2 := Hpv.out
              have h3 := Hhi.out
              rw [if_neg (by decide)] at h1 h2 h3
              subst h1 h2 h3
              exact ⟨rfl, rfl, Hn8.out, Hsc.out, hb8⟩
            · go_wp2_with fail
              go_meet
              have h1 := HD2.out
              have h2 := Hpv.out
              have h3 := Hhi.out
              rw [if_neg (by decide)] at h1 h2 h3
              subst h1 h2 h3
              exact ⟨rfl, rfl, Hn8.out, Hsc.out, hb8⟩
            · have h1 : D2 = Sort.reverseRange D1 a b := HD2.out
              have h2 : pv = (b - 1) - (cp - a) := Hpv.out
              have h3 : hi = .increasing := Hhi.out
              subst h3
              obtain ⟨b1, hb1⟩ : ∃ x, x = b - 1 := ⟨_, rfl⟩
              obtain ⟨ca, hca⟩ : ∃ x, x = cp - a := ⟨_, rfl⟩
              have hcp := Hcp.out
              have hS := HS.out
              have WB := Lib.hid (wr_nat ((b : Int) - 1) b1 (by omega) (by omega))
              have WC := Lib.hid (wr_nat ((cp : Int) - (a : Int)) ca (by omega) (by omega))
              have WP := Lib.hid (wr_nat ((b1 : Int) - (ca : Int)) pv (by omega) (by omega))
              have C := rev_any g off cap n a b D1 w7 Hn8.out Hsc.out.symm HS.out.2.1 (by have := Hm.out; omega) (by omega) (by have := HS.out; omega) hg8
              rw [← h1] at C
              have C := Lib.hid C
              clear h1 h2 hb1 hca hcp hS
              obtain ⟨wb1, wb2⟩ := WB.out
              obtain ⟨wc1, wc2⟩ := WC.out
              obtain ⟨wp1, wp2⟩ := WP.out
              go_wp2_with (go_at_call 102; (with_reducible refine C.out.mono ?_); rintro e w9 ⟨rfl, hn9, hs9, hb9⟩)
              go_meet
              exact ⟨rfl, rfl, hn9, hs9, hb8.trans hb9⟩
          case rest =>
            obtain ⟨rfl, rfl, hnd, hsd, hbd⟩ := hcut
            have Hnd := Lib.hid hnd
            have Hsd := Lib.hid hsd
            clear hnd hsd Hn8
            have hgd := Nat.lt_of_lt_of_le hg hbd.2.2.2.1
            obtain ⟨wd, hwd⟩ : ∃ x, x = wc := ⟨wc, rfl⟩
            subst hwd
            obtain ⟨t, ht⟩ : ∃ t, t = (wb && wp && decide (hi = .increasing)) := ⟨_, rfl⟩
            obtain ⟨pi, hpi⟩ : ∃ p, p = if t = true then Sort.partialInsertionSort lt64 D2 a b else (D2, false) := ⟨_, rfl⟩
            have Ht := Lib.hid ht
            have Hpi := Lib.hid hpi
            have hrd := pdq_round (d := d1) (pi := pi) (limit := l) (wb := wb) (wp := wp) (by rw [← Hm.out]; exact h12) hl0 (by rw [Hsz.out]; exact HS.out.2.1) Hbel.out HD1.out Hl1.out Hch.out.symm HD2.out Hpv.out Hhi.out (by rw [hpi, ht])
            have Hrd := Lib.hid hrd
            clear ht hpi hrd
            go_upto_region 15 with fail
            go_cut [68] from 19 to 133 (fun v w9 => v = .bool t ∧ w9 = wd)
            case first =>
              cases wb <;> cases wp <;> cases hi <;> (go_wp2_with fail; go_meet; exact ⟨by rw [Ht.out]; rfl, rfl⟩)
            case rest =>
              obtain ⟨rfl, rfl⟩ := hcut
              go_upto_if 68 with fail
              go_cut [12] from 19 to 133 (fun v w9 => v = .int .i64 (hintN hi) ∧ NumsAt w9 g off pi.1 ∧ pi.1.size = n ∧ pi.2 = false ∧ ButS g w w9)
              case first =>
                cases t
                · have hp : pi = (D2, false) := Hpi.out
                  subst hp
                  go_wp2_with fail
                  go_meet
                  exact ⟨rfl, Hnd.out, Hsd.out, by trivial, hbd⟩
                · have hp : pi = Sort.partialInsertionSort lt64 D2 a b := Hpi.out
                  have C := pins_any g off cap n a b D2 _ Hnd.out Hsd.out.symm HS.out.2.1 (by have := Hm.out; omega) hn2 hgd
                  rw [← hp] at C
                  obtain ⟨P, q⟩ := pi
                  have C := Lib.hid C
                  clear hp
                  cases q
                  · go_wp2_with (go_at_call 103; (with_reducible refine C.out.mono ?_); rintro e w9 ⟨rfl, hn9, hs9, hb9⟩)
                    go_meet
                    exact ⟨rfl, hn9, hs9, by trivial, hbd.trans hb9⟩
                  · go_wp2_with (go_at_call 103; (with_reducible refine C.out.mono ?_); rintro e w9 ⟨rfl, hn9, hs9, hb9⟩)
                    have hf : R = P := Heq.out.symm.trans (Hrd.out.2.2.2.1 (by trivial))
                    rw [hf]
                    first
                    | exact bodyPost_ret (v := .tuple #[]) (results_none rfl _ _ _) rfl ⟨rfl, hn9, hs9, hbd.trans hb9⟩
                    | exact bodyPost_end (v := .tuple #[]) (results_none rfl _ _ _) rfl ⟨rfl, hn9, hs9, hbd.trans hb9⟩
              case rest =>
                obtain ⟨rfl, hnP, hsP, hf, hbQ⟩ := hcut
                obtain ⟨P, q⟩ := pi
                have hf : q = false := hf
                subst hf
                have HnQ := Lib.hid (show NumsAt wc g off P from hnP)
                have HsP := Lib.hid (show P.size = n from hsP)
                have hpv1 : a ≤ pv := Hrd.out.1
                have hpv2 : pv < b := Hrd.out.2.1
                have HbP := Lib.hid (show Sort.Below lt64 a b P from Hbel.out.perm (by rw [Hsz.out]; exact HS.out.2.1) Hrd.out.2.2.1)
                have HT := Lib.hid (show pT4 P a b l1 wb wp pv = R from (Hrd.out.2.2.2.2 rfl).symm.trans Heq.out)
                have hpvn : pv < n := by have := HS.out; omega
                clear hnP hsP Hrd Hpi Heq Ht
                have hgQ := Nat.lt_of_lt_of_le hg hbQ.2.2.2.1
                obtain ⟨w9, hw9⟩ : ∃ x, x = wc := ⟨wc, rfl⟩
                subst hw9
                by_cases ha0 : 0 < a
                · obtain ⟨am, ham⟩ : ∃ x, x = a - 1 := ⟨_, rfl⟩
                  have hamn : am < n := by omega
                  have WA := Lib.hid (wr_nat ((a : Int) - 1) am (by omega) (by have := HS.out; omega))
                  have e1 : decide ((0 : Int) < (a : Int)) = true := by rw [decide_eq_true_iff]; omega
                  have e2 : decide (0 < a) = true := by rw [decide_eq_true_iff]; omega
                  have ca := fun y : Ext w9 => (HnQ.out.grow hgQ y.out am (by rw [HsP.out]; exact hamn)).1
                  have ck := fun y : Ext w9 => (HnQ.out.grow hgQ y.out pv (by rw [HsP.out]; exact hpvn)).1
                  obtain ⟨c, hc⟩ : ∃ c, c = lt64 P[am]! P[pv]! := ⟨_, rfl⟩
                  have kl := fun y : Ext w9 => less_any P[am]! P[pv]! y.now
                  simp only [← hc] at kl
                  have KL := Lib.hid kl
                  have hc2 : lt64 P[a - 1]! P[pv]! = c := by rw [← ham]; exact hc.symm
                  have Hc := Lib.hid hc2
                  clear kl hc hc2 ham
                  go_upto_region 17 with fail
                  obtain ⟨wa1, wa2⟩ := WA.out
                  cases c
                  all_goals refine wp_region_grow (by kernel_rfl) (by kernel_rfl) ?_
                  all_goals repeat (first | go_big_quiet_step ((go_at_call 104; with_reducible exact calls_grow (KL.out _))) | quiet_step ((go_at_call 104; with_reducible exact calls_grow (KL.out _))))
                  all_goals refine wpQuiet_nil ?_
                  all_goals rintro w8 ⟨⟨_, hbz⟩, rfl⟩
                  all_goals have HnZ := Lib.hid (HnQ.out.grow hgQ hbz)
                  all_goals have hbZ := hbQ.trans (butS_below hbz g)
                  all_goals have hgZ := Nat.lt_of_lt_of_le hgQ hbz.size
                  all_goals clear ca ck KL e1 e2 wa1 wa2
                  · have hgd : (decide (a > 0) && !lt64 P[a - 1]! P[pv]!) = true := by rw [Hc.out, Bool.and_eq_true, decide_eq_true_iff]; exact ⟨ha0, rfl⟩
                    obtain ⟨mid, D4, hr⟩ : ∃ mid D4, Sort.partitionEqual lt64 P a b pv = (mid, D4) := ⟨_, _, rfl⟩
                    have hrng := eq_range hpv1 hpv2 (d := P) (by rw [HsP.out]; exact HS.out.2.1) HbP.out ha0 Hc.out
                    have hbl := eq_next hpv1 hpv2 (d := P) (by rw [HsP.out]; exact HS.out.2.1) HbP.out ha0 Hc.out
                    have hCp := partEq_any g off cap n a b pv P w8 HnZ.out HsP.out.symm HS.out.2.1 (by have := Hm.out; omega) hpvn hn2 hgZ
                    have hT := HT.out
                    unfold pT4 at hT
                    rw [if_pos hgd] at hT
                    rw [hr] at hrng hbl hCp hT
                    have C := Lib.hid hCp
                    have Hrng := Lib.hid hrng
                    have Hbl := Lib.hid hbl
                    have HT2 := Lib.hid hT
                    clear hT hrng hbl hCp hr hgd
                    go_wp2_with (go_at_call 105; (with_reducible refine C.out.mono ?_); rintro e w10 ⟨rfl, hn10, hs10, hb10⟩)
                    refine ⟨⟨mid, b, l1, wb, wp, D4, rfl, rfl, rfl, rfl, rfl, ?_, hn10, hs10, Hbl.out, HT2.out, hbZ.trans hb10⟩, ?_⟩
                    · have h1 : a < mid ∧ mid ≤ b := Hrng.out
                      have h2 := HS.out
                      have h3 := Hl1.out
                      split at h3 <;> omega
                    · have h1 : a < mid ∧ mid ≤ b := Hrng.out
                      simp [intOf]
                      omega
                  · have hgd : ¬ (decide (a > 0) && !lt64 P[a - 1]! P[pv]!) = true := by rw [Hc.out]; simp
                    obtain ⟨mid, ap, D4, hr⟩ : ∃ mid ap D4, Sort.partition lt64 P a b pv = (mid, ap, D4) := ⟨_, _, _, rfl⟩
                    have hrng := part_range hpv1 hpv2 (d := P) (by rw [HsP.out]; exact HS.out.2.1)
                    have hbl := part_left hpv1 hpv2 (d := P) (by rw [HsP.out]; exact HS.out.2.1) HbP.out
                    have hbr := part_right (a := a) (b := b) (pv := pv) hpv1 hpv2 (d := P) (by rw [HsP.out]; exact HS.out.2.1)
                    have hCp := part_any g off cap n a b pv P w8 HnZ.out HsP.out.symm HS.out.2.1 (by have := Hm.out; omega) (by have := HS.out; omega) hn2 hgZ
                    rw [hr] at hrng hbl hbr hCp
                    have C := Lib.hid hCp
                    have Hrng := Lib.hid hrng
                    have Hbl := Lib.hid hbl
                    have Hbr := Lib.hid hbr
                    have hT := HT.out
                    unfold pT4 at hT
                    rw [if_neg hgd] at hT
                    simp only [hr] at hT
                    have HT2 := Lib.hid hT
                    clear hT hrng hbl hbr hCp hr HT
                    obtain ⟨L, hL⟩ : ∃ x, x = mid - a := ⟨_, rfl⟩
                    obtain ⟨Q, hQ⟩ : ∃ x, x = b - mid := ⟨_, rfl⟩
                    obtain ⟨q8, hq8⟩ : ∃ x, x = m / 8 := ⟨_, rfl⟩
                    have hI : a ≤ mid ∧ mid < b ∧ b ≤ n ∧ b - a ≤ N ∧ l1 ≤ 1000 ∧ m = b - a := ⟨Hrng.out.1, Hrng.out.2, HS.out.2.1, HS.out.2.2.1, by (have := HS.out; have := Hl1.out; split at this <;> omega), Hm.out⟩
                    have WL := Lib.hid (wr_nat ((mid : Int) - (a : Int)) L (by omega) (by omega))
                    have WQ := Lib.hid (wr_nat ((b : Int) - (mid : Int)) Q (by omega) (by omega))
                    have W8 := Lib.hid (show wrap64 ((m : Int) / 8) = (q8 : Int) from (quo_nat m 8 q8 hq8 (by omega)).1)
                    obtain ⟨mid1, hmid1⟩ : ∃ x, x = mid + 1 := ⟨_, rfl⟩
                    have WM := Lib.hid (wr_nat ((mid : Int) + 1) mid1 (by omega) (by omega))
                    have HI := Lib.hid hI
                    have HL := Lib.hid (show L = mid - a ∧ Q = b - mid ∧ mid1 = mid + 1 from ⟨hL, hQ, hmid1⟩)
                    have hq : q8 = (b - a) / 8 := by rw [hq8, Hm.out]
                    have Hq8 := Lib.hid hq
                    clear hI hL hQ hq8 hmid1 hq
                    by_cases hLQ : L < Q
                    · have e1 : decide ((L : Int) < (Q : Int)) = true := by rw [decide_eq_true_iff]; omega
                      have e2 : decide (L < Q) = true := by rw [decide_eq_true_iff]; omega
                      obtain ⟨nb, hnb⟩ : ∃ x, x = decide (L ≥ q8) := ⟨_, rfl⟩
                      have e3 : decide ((q8 : Int) ≤ (L : Int)) = nb := by rw [hnb, Bool.eq_iff_iff, decide_eq_true_iff, decide_eq_true_iff]; omega
                      have Hnb := Lib.hid hnb
                      clear hnb
                      obtain ⟨wl1, wl2⟩ := WL.out
                      obtain ⟨wq1, wq2⟩ := WQ.out
                      obtain ⟨wm1, wm2⟩ := WM.out
                      have w88 := W8.out
                      go_upto_region 26 with (go_at_call 106; (with_reducible refine C.out.mono ?_); rintro e w10 ⟨rfl, hn10, hs10, hb10⟩)
                      clear e1 e2 e3 wl1 wl2 wq1 wq2 w88
                      have hg10 := Nat.lt_of_lt_of_le hgZ hb10.2.2.2.1
                      have CR := IH.out L (by have := HI.out; have := HL.out; omega) a mid l1 D4 w10 (by rw [HL.out.1]; exact Nat.le_refl _) HI.out.1 hn10 hs10.symm (by have := HI.out; omega) Hbl.out HI.out.2.2.2.2.1 hg10
                      have CR := Lib.hid CR
                      have HS10 := Lib.hid hs10
                      clear hn10 hs10
                      refine wp_region_lit ?_
                      go_wp2_with (go_at_call 96; (with_reducible refine CR.out.mono ?_); rintro e w11 ⟨rfl, hn11, hs11, hb11⟩)
                      clear wm1 wm2
                      have hperm := (Sort.pdq_sorts lt64 swo64 D4 a mid l1 true true HI.out.1 (by rw [HS10.out]; have := HI.out; omega) Hbl.out).1
                      have hbel2 : Sort.Below lt64 mid1 b (Sort.pdq lt64 D4 a mid l1 true true) := by
                        refine .inr fun i hi hi2 => ?_
                        rw [HL.out.2.2] at hi ⊢
                        rw [hperm.2.1 i (.inr (by omega)), hperm.2.1 (mid + 1 - 1) (.inr (by omega))]
                        rcases Hbr.out with h0 | h0
                        · omega
                        · exact h0 i hi hi2
                      refine ⟨⟨mid1, b, l1, nb, ap, _, rfl, rfl, rfl, by rw [Hnb.out], rfl, by have := HI.out; have := HL.out; omega, hn11, hs11, hbel2, ?_, (hbZ.trans hb10).trans hb11⟩, ?_⟩
                      · rw [← HT2.out, if_pos (by rw [← HL.out.1, ← HL.out.2.1]; exact hLQ), HL.out.2.2, Hnb.out, HL.out.1, Hq8.out]
                      · have := HI.out
                        have := HL.out
                        simp [intOf]
                        omega
                    · have e1 : decide ((L : Int) < (Q : Int)) = false := by rw [decide_eq_false_iff_not]; omega
                      have e2 : decide (L < Q) = false := by rw [decide_eq_false_iff_not]; omega
                      obtain ⟨nb, hnb⟩ : ∃ x, x = decide (Q ≥ q8) := ⟨_, rfl⟩
                      have e3 : decide ((q8 : Int) ≤ (Q : Int)) = nb := by rw [hnb, Bool.eq_iff_iff, decide_eq_true_iff, decide_eq_true_iff]; omega
                      have Hnb := Lib.hid hnb
                      clear hnb
                      obtain ⟨wl1, wl2⟩ := WL.out
                      obtain ⟨wq1, wq2⟩ := WQ.out
                      obtain ⟨wm1, wm2⟩ := WM.out
                      have w88 := W8.out
                      go_upto_region 29 with (go_at_call 106; (with_reducible refine C.out.mono ?_); rintro e w10 ⟨rfl, hn10, hs10, hb10⟩)
                      clear e1 e2 e3 wl1 wl2 wq1 wq2 w88
                      have hg10 := Nat.lt_of_lt_of_le hgZ hb10.2.2.2.1
                      have CR := IH.out (b - mid1) (by have := HI.out; have := HL.out; omega) mid1 b l1 D4 w10 (Nat.le_refl _) (by have := HI.out; have := HL.out; omega) hn10 hs10.symm HI.out.2.2.1 (by rw [HL.out.2.2]; exact Hbr.out) HI.out.2.2.2.2.1 hg10
                      have CR := Lib.hid CR
                      have HS10 := Lib.hid hs10
                      clear hn10 hs10
                      refine wp_region_lit ?_
                      go_wp2_with (go_at_call 96; (with_reducible refine CR.out.mono ?_); rintro e w11 ⟨rfl, hn11, hs11, hb11⟩)
                      clear wm1 wm2
                      have hperm := (Sort.pdq_sorts lt64 swo64 D4 mid1 b l1 true true (by have := HI.out; have := HL.out; omega) (by rw [HS10.out]; exact HI.out.2.2.1) (by rw [HL.out.2.2]; exact Hbr.out)).1
                      have hbel2 : Sort.Below lt64 a mid (Sort.pdq lt64 D4 mid1 b l1 true true) := by
                        rcases Hbl.out with h0 | h0
                        · exact .inl h0
                        · refine .inr fun i hi hi2 => ?_
                          have := HL.out
                          rw [hperm.2.1 i (.inl (by omega)), hperm.2.1 (a - 1) (.inl (by omega))]
                          exact h0 i hi hi2
                      refine ⟨⟨a, mid, l1, nb, ap, _, rfl, rfl, rfl, by rw [Hnb.out], rfl, by have := HI.out; have := HL.out; omega, hn11, hs11, hbel2, ?_, (hbZ.trans hb10).trans hb11⟩, ?_⟩
                      · rw [← HT2.out, if_neg (by rw [← HL.out.1, ← HL.out.2.1]; exact hLQ), HL.out.2.2, Hnb.out, HL.out.2.1, Hq8.out]
                      · have := HI.out
                        simp [intOf]
                        omega
                · have ha00 : a = 0 := by omega
                  have e1 : decide ((0 : Int) < (a : Int)) = false := by rw [decide_eq_false_iff_not]; omega
                  have e2 : decide (0 < a) = false := by rw [decide_eq_false_iff_not]; omega
                  go_upto_region 17 with fail
                  refine wp_region_grow (by kernel_rfl) (by kernel_rfl) ?_
                  repeat (first | go_big_quiet_step (fail) | quiet_step (fail))
                  refine wpQuiet_nil ?_
                  rintro w8 ⟨⟨_, hbz⟩, rfl⟩
                  have HnZ := Lib.hid (HnQ.out.grow hgQ hbz)
                  have hbZ := hbQ.trans (butS_below hbz g)
                  have hgZ := Nat.lt_of_lt_of_le hgQ hbz.size
                  clear e1 e2
                  have hgd : ¬ (decide (a > 0) && !lt64 P[a - 1]! P[pv]!) = true := by rw [show decide (a > 0) = false by rw [decide_eq_false_iff_not]; omega]; simp
                  clear ha00 ha0
                  obtain ⟨mid, ap, D4, hr⟩ : ∃ mid ap D4, Sort.partition lt64 P a b pv = (mid, ap, D4) := ⟨_, _, _, rfl⟩
                  have hrng := part_range hpv1 hpv2 (d := P) (by rw [HsP.out]; exact HS.out.2.1)
                  have hbl := part_left hpv1 hpv2 (d := P) (by rw [HsP.out]; exact HS.out.2.1) HbP.out
                  have hbr := part_right (a := a) (b := b) (pv := pv) hpv1 hpv2 (d := P) (by rw [HsP.out]; exact HS.out.2.1)
                  have hCp := part_any g off cap n a b pv P w8 HnZ.out HsP.out.symm HS.out.2.1 (by have := Hm.out; omega) (by have := HS.out; omega) hn2 hgZ
                  rw [hr] at hrng hbl hbr hCp
                  have C := Lib.hid hCp
                  have Hrng := Lib.hid hrng
                  have Hbl := Lib.hid hbl
                  have Hbr := Lib.hid hbr
                  have hT := HT.out
                  unfold pT4 at hT
                  rw [if_neg hgd] at hT
                  simp only [hr] at hT
                  have HT2 := Lib.hid hT
                  clear hT hrng hbl hbr hCp hr HT
                  obtain ⟨L, hL⟩ : ∃ x, x = mid - a := ⟨_, rfl⟩
                  obtain ⟨Q, hQ⟩ : ∃ x, x = b - mid := ⟨_, rfl⟩
                  obtain ⟨q8, hq8⟩ : ∃ x, x = m / 8 := ⟨_, rfl⟩
                  have hI : a ≤ mid ∧ mid < b ∧ b ≤ n ∧ b - a ≤ N ∧ l1 ≤ 1000 ∧ m = b - a := ⟨Hrng.out.1, Hrng.out.2, HS.out.2.1, HS.out.2.2.1, by (have := HS.out; have := Hl1.out; split at this <;> omega), Hm.out⟩
                  have WL := Lib.hid (wr_nat ((mid : Int) - (a : Int)) L (by omega) (by omega))
                  have WQ := Lib.hid (wr_nat ((b : Int) - (mid : Int)) Q (by omega) (by omega))
                  have W8 := Lib.hid (show wrap64 ((m : Int) / 8) = (q8 : Int) from (quo_nat m 8 q8 hq8 (by omega)).1)
                  obtain ⟨mid1, hmid1⟩ : ∃ x, x = mid + 1 := ⟨_, rfl⟩
                  have WM := Lib.hid (wr_nat ((mid : Int) + 1) mid1 (by omega) (by omega))
                  have HI := Lib.hid hI
                  have HL := Lib.hid (show L = mid - a ∧ Q = b - mid ∧ mid1 = mid + 1 from ⟨hL, hQ, hmid1⟩)
                  have hq : q8 = (b - a) / 8 := by rw [hq8, Hm.out]
                  have Hq8 := Lib.hid hq
                  clear hI hL hQ hq8 hmid1 hq
                  by_cases hLQ : L < Q
                  · have e1 : decide ((L : Int) < (Q : Int)) = true := by rw [decide_eq_true_iff]; omega
                    have e2 : decide (L < Q) = true := by rw [decide_eq_true_iff]; omega
                    obtain ⟨nb, hnb⟩ : ∃ x, x = decide (L ≥ q8) := ⟨_, rfl⟩
                    have e3 : decide ((q8 : Int) ≤ (L : Int)) = nb := by rw [hnb, Bool.eq_iff_iff, decide_eq_true_iff, decide_eq_true_iff]; omega
                    have Hnb := Lib.hid hnb
                    clear hnb
                    obtain ⟨wl1, wl2⟩ := WL.out
                    obtain ⟨wq1, wq2⟩ := WQ.out
                    obtain ⟨wm1, wm2⟩ := WM.out
                    have w88 := W8.out
                    go_upto_region 26 with (go_at_call 106; (with_reducible refine C.out.mono ?_); rintro e w10 ⟨rfl, hn10, hs10, hb10⟩)
                    clear e1 e2 e3 wl1 wl2 wq1 wq2 w88
                    have hg10 := Nat.lt_of_lt_of_le hgZ hb10.2.2.2.1
                    have CR := IH.out L (by have := HI.out; have := HL.out; omega) a mid l1 D4 w10 (by rw [HL.out.1]; exact Nat.le_refl _) HI.out.1 hn10 hs10.symm (by have := HI.out; omega) Hbl.out HI.out.2.2.2.2.1 hg10
                    have CR := Lib.hid CR
                    have HS10 := Lib.hid hs10
                    clear hn10 hs10
                    refine wp_region_lit ?_
                    go_wp2_with (go_at_call 96; (with_reducible refine CR.out.mono ?_); rintro e w11 ⟨rfl, hn11, hs11, hb11⟩)
                    clear wm1 wm2
                    have hperm := (Sort.pdq_sorts lt64 swo64 D4 a mid l1 true true HI.out.1 (by rw [HS10.out]; have := HI.out; omega) Hbl.out).1
                    have hbel2 : Sort.Below lt64 mid1 b (Sort.pdq lt64 D4 a mid l1 true true) := by
                      refine .inr fun i hi hi2 => ?_
                      rw [HL.out.2.2] at hi ⊢
                      rw [hperm.2.1 i (.inr (by omega)), hperm.2.1 (mid + 1 - 1) (.inr (by omega))]
                      rcases Hbr.out with h0 | h0
                      · omega
                      · exact h0 i hi hi2
                    refine ⟨⟨mid1, b, l1, nb, ap, _, rfl, rfl, rfl, by rw [Hnb.out], rfl, by have := HI.out; have := HL.out; omega, hn11, hs11, hbel2, ?_, (hbZ.trans hb10).trans hb11⟩, ?_⟩
                    · rw [← HT2.out, if_pos (by rw [← HL.out.1, ← HL.out.2.1]; exact hLQ), HL.out.2.2, Hnb.out, HL.out.1, Hq8.out]
                    · have := HI.out
                      have := HL.out
                      simp [intOf]
                      omega
                  · have e1 : decide ((L : Int) < (Q : Int)) = false := by rw [decide_eq_false_iff_not]; omega
                    have e2 : decide (L < Q) = false := by rw [decide_eq_false_iff_not]; omega
                    obtain ⟨nb, hnb⟩ : ∃ x, x = decide (Q ≥ q8) := ⟨_, rfl⟩
                    have e3 : decide ((q8 : Int) ≤ (Q : Int)) = nb := by rw [hnb, Bool.eq_iff_iff, decide_eq_true_iff, decide_eq_true_iff]; omega
                    have Hnb := Lib.hid hnb
                    clear hnb
                    obtain ⟨wl1, wl2⟩ := WL.out
                    obtain ⟨wq1, wq2⟩ := WQ.out
                    obtain ⟨wm1, wm2⟩ := WM.out
                    have w88 := W8.out
                    go_upto_region 29 with (go_at_call 106; (with_reducible refine C.out.mono ?_); rintro e w10 ⟨rfl, hn10, hs10, hb10⟩)
                    clear e1 e2 e3 wl1 wl2 wq1 wq2 w88
                    have hg10 := Nat.lt_of_lt_of_le hgZ hb10.2.2.2.1
                    have CR := IH.out (b - mid1) (by have := HI.out; have := HL.out; omega) mid1 b l1 D4 w10 (Nat.le_refl _) (by have := HI.out; have := HL.out; omega) hn10 hs10.symm HI.out.2.2.1 (by rw [HL.out.2.2]; exact Hbr.out) HI.out.2.2.2.2.1 hg10
                    have CR := Lib.hid CR
                    have HS10 := Lib.hid hs10
                    clear hn10 hs10
                    refine wp_region_lit ?_
                    go_wp2_with (go_at_call 96; (with_reducible refine CR.out.mono ?_); rintro e w11 ⟨rfl, hn11, hs11, hb11⟩)
                    clear wm1 wm2
                    have hperm := (Sort.pdq_sorts lt64 swo64 D4 mid1 b l1 true true (by have := HI.out; have := HL.out; omega) (by rw [HS10.out]; exact HI.out.2.2.1) (by rw [HL.out.2.2]; exact Hbr.out)).1
                    have hbel2 : Sort.Below lt64 a mid (Sort.pdq lt64 D4 mid1 b l1 true true) := by
                      rcases Hbl.out with h0 | h0
                      · exact .inl h0
                      · refine .inr fun i hi hi2 => ?_
                        have := HL.out
                        rw [hperm.2.1 i (.inl (by omega)), hperm.2.1 (a - 1) (.inl (by omega))]
                        exact h0 i hi hi2
                    refine ⟨⟨a, mid, l1, nb, ap, _, rfl, rfl, rfl, by rw [Hnb.out], rfl, by have := HI.out; have := HL.out; omega, hn11, hs11, hbel2, ?_, (hbZ.trans hb10).trans hb11⟩, ?_⟩
                    · rw [← HT2.out, if_neg (by rw [← HL.out.1, ← HL.out.2.1]; exact hLQ), HL.out.2.2, Hnb.out, HL.out.2.1, Hq8.out]
                    · have := HI.out
                      simp [intOf]
                      omega
end Go.Proofs.YtdmbmkjiffhbcaaGreat

namespace Go.Proofs.YtdmbmkjiffhbcaaGreat
open Go.RowKit
set_option maxRecDepth 100000

set_option maxHeartbeats 8000000 in
theorem sort_any (g off cap n : Nat) (d : Array Nat) (w : World) (h : NumsAt w g off d) (hn : n = d.size) (hn2 : n ≤ 1152921504606846976) (hg : g < w.heap.size) :
    Calls Tryz.prog 88 #[.slice (some ⟨g, off, none⟩) n cap] w fun e w' => e = .returned (.tuple #[]) ∧ NumsAt w' g off (Sort.sort lt64 d) ∧ (Sort.sort lt64 d).size = n ∧ ButS g w w' := by
  obtain ⟨k, hk⟩ : ∃ k, k = Sort.bitsLen n := ⟨_, rfl⟩
  have hk2 : k ≤ 1000 := by
    rw [hk]
    exact Nat.le_trans ((Sort.bitsLen_le_iff n 64).2 (by omega)) (by decide)
  have hL : ∀ w, Calls Tryz.prog 97 #[.int .u64 (n : Int)] w fun e w' => e = .returned (.int .i64 (k : Int)) ∧ w' = w := fun w => by
    have h1 := Tryz.bits_Len (n : Int) w (by omega) (by omega)
    rw [Int.toNat_natCast, bitLen_eq n (by omega), ← hk] at h1
    exact h1
  have C0 := pdq_any g off cap n hn2 n 0 n k d w (by omega) (by omega) h hn (Nat.le_refl _) (.inl rfl) hk2 hg
  have hr : Sort.sort lt64 d = Sort.pdq lt64 d 0 n k true true := by unfold Sort.sort; rw [← hn, ← hk]
  rw [← hr, show ((0 : Nat) : Int) = 0 from rfl] at C0
  have C := Lib.hid C0
  clear C0
  have HLn := Lib.hid hL
  have WU := Lib.hid (show IntKind.u64.wrap (n : Int) = (n : Int) by rw [IntKind.wrap_u64]; omega)
  clear hr hL hk hn h hk2
  go_enter Tryz.func88, Tryz.ntmps88
  have wu := WU.out
  go_wp2_with (first | (go_at_call 97; (with_reducible refine (HLn.out _).mono ?_); rintro e w1 ⟨rfl, rfl⟩) | (go_at_call 96; (with_reducible refine C.out.mono ?_); rintro e w1 ⟨rfl, hn7, hs7, hb7⟩))
  first
  | exact bodyPost_end (v := .tuple #[]) (results_none rfl _ _ _) rfl ⟨rfl, hn7, hs7, hb7⟩
  | exact bodyPost_ret (v := .tuple #[]) (results_none rfl _ _ _) rfl ⟨rfl, hn7, hs7, hb7⟩
end Go.Proofs.YtdmbmkjiffhbcaaGreat

namespace Go.Proofs.YtdmbmkjiffhbcaaGreat
open Go.RowKit Go.Shelf
set_option maxRecDepth 100000
attribute [local go_sem] Oper.semAt_some

/-- The keys that have a value, rising. -/
def SortedKeys (F : Nat → Option Value) (xs : List Nat) : Prop := xs.Pairwise (· < ·) ∧ ∀ x, x ∈ xs ↔ x < 18446744073709551616 ∧ (F x).isSome = true
theorem sort_rises {xs : List Nat} (hn : xs.Nodup) : (Sort.sort lt64 xs.toArray).toList.Pairwise (· < ·) ∧ (Sort.sort lt64 xs.toArray).toList.Perm xs := by
  obtain ⟨⟨hsz, _, hp⟩, hs⟩ := Sort.sort_sorts lt64 swo64 xs.toArray
  generalize Sort.sort lt64 xs.toArray = e at hsz hp hs ⊢
  have hsz2 : e.size = xs.length := by simpa using hsz
  have hperm : e.toList.Perm xs := by
    have h1 : (e.extract 0 xs.toArray.size).toList = e.toList := by
      rw [Array.toList_extract]
      have : xs.toArray.size = e.toList.length := by rw [Array.length_toList, hsz2]; simp
      rw [this]
      simp
      exact List.take_of_length_le (by simp)
    have h2 : (xs.toArray.extract 0 xs.toArray.size).toList = xs := by
      rw [Array.toList_extract]
      simp
    rw [h1, h2] at hp
    exact hp
  refine ⟨?_, hperm⟩
  have hnd : e.toList.Nodup := hperm.symm.nodup hn
  rw [List.pairwise_iff_getElem]
  intro i j hi hj hij
  have h3 := hs i j (Nat.zero_le _) hij (by rw [Array.length_toList] at hj; simpa using (by omega : j < xs.length))
  rw [Array.length_toList] at hi hj
  rw [getElem!_pos e j hj, getElem!_pos e i hi] at h3
  have h4 : e[i] ≤ e[j] := by simpa [lt64] using h3
  have h5 : e.toList[i] ≠ e.toList[j] := (List.pairwise_iff_getElem.1 hnd) i j (by simpa using hi) (by simpa using hj) hij
  simp only [Array.getElem_toList] at h5 ⊢
  omega
theorem sort_keys {F : Nat → Option Value} {xs : List Nat} (h : AllKeys F xs) : SortedKeys F (Sort.sort lt64 xs.toArray).toList := by
  obtain ⟨h1, h2⟩ := sort_rises h.1
  exact ⟨h1, fun x => by rw [h2.mem_iff]; exact h.2 x⟩
theorem insnil_any (w : World) : Calls Tryz.prog 98 #[.slice none 0 0, .int .i64 0, .int .i64 0] w fun e w' => e = .returned (.tuple #[]) ∧ w = w' := by
  go_enter Tryz.func98, Tryz.ntmps98
  go_wp2
  go_loopw [6] (fun i wr => i = .int .i64 1 ∧ wr = w) (fun _ _ => 0)
  case atStart => exact ⟨rfl, rfl⟩
  case round =>
    obtain ⟨rfl, rfl⟩ := hrel
    go_wp2
    first
    | exact bodyPost_end (v := .tuple #[]) (results_none rfl _ _ _) rfl ⟨rfl, rfl⟩
    | exact bodyPost_ret (v := .tuple #[]) (results_none rfl _ _ _) rfl ⟨rfl, rfl⟩
theorem pdqnil_any (w : World) : Calls Tryz.prog 96 #[.slice none 0 0, .int .i64 0, .int .i64 0, .int .i64 0] w fun e w' => e = .returned (.tuple #[]) ∧ w = w' := by
  go_enter Tryz.func96, Tryz.ntmps96
  go_wp2_with fail
  go_loopw [1, 2, 3, 8, 9] (fun a b l x y wr => a = .int .i64 0 ∧ b = .int .i64 0 ∧ l = .int .i64 0 ∧ x = .bool true ∧ y = .bool true ∧ wr = w) (fun _ _ _ _ _ _ => 0)
  case atStart => exact ⟨rfl, rfl, rfl, rfl, rfl, rfl⟩
  case round =>
    obtain ⟨rfl, rfl, rfl, rfl, rfl, rfl⟩ := hrel
    go_wp2_with fail
    refine (insnil_any _).mono ?_
    rintro e w1 ⟨rfl, rfl⟩
    go_wp2_with fail
    first
    | exact bodyPost_end (v := .tuple #[]) (results_none rfl _ _ _) rfl ⟨rfl, rfl⟩
    | exact bodyPost_ret (v := .tuple #[]) (results_none rfl _ _ _) rfl ⟨rfl, rfl⟩
theorem sortnil_any (w : World) : Calls Tryz.prog 88 #[.slice none 0 0] w fun e w' => e = .returned (.tuple #[]) ∧ w = w' := by
  have h1 := Tryz.bits_Len 0 w (by omega) (by omega)
  have h2 : Lib.bitLen (Int.toNat 0) = 0 := by decide
  rw [h2] at h1
  have H1 := Lib.hid h1
  clear h1 h2
  go_enter Tryz.func88, Tryz.ntmps88
  go_wp2_with fail
  refine H1.out.mono ?_
  rintro e w1 ⟨rfl, rfl⟩
  go_wp2_with fail
  refine (pdqnil_any _).mono ?_
  rintro e w1 ⟨rfl, rfl⟩
  go_wp2_with fail
  first
  | exact bodyPost_end (v := .tuple #[]) (results_none rfl _ _ _) rfl ⟨rfl, rfl⟩
  | exact bodyPost_ret (v := .tuple #[]) (results_none rfl _ _ _) rfl ⟨rfl, rfl⟩
theorem collectu_any (F : Nat → Option Value) (g nn Bm : Nat) (hnn : nn ≤ 1099511627776) (w : World) (hBm : w.cell? ⟨Bm, 0, none⟩ = some (.map (some g))) (hg : MapU w g nn F) :
    Calls Tryz.prog 87 #[.func (.func 89) #[] #[.pointer (some ⟨Bm, 0, none⟩)]] w fun e w' => (∃ v xs, e = .returned v ∧ (AllKeys F xs ∧ xs.length ≤ nn) ∧ Own1 w' (w.heap.size + 1) 46 v (xs.map numV)) ∧ Below w.heap.size w w' := by
  have hBl : Bm < w.heap.size := World.block_lt_of_cell? w _ hBm
  have hc := appendseq_any 89 #[.pointer (some ⟨Bm, 0, none⟩)] (fun k => k = g) nn (fun xs => AllKeys F xs ∧ xs.length ≤ nn) (fun _ => True) w (enters_of Tryz.func89 (by kernel_rfl) rfl) hnn (fun k hk => hk ▸ hg.lt)
    (fun z hz => keys_iter 8 Bm g nn F z ((hz.cell (p := ⟨Bm, 0, none⟩) hBl).trans hBm) (hg.keep (hz.block g hg.lt)))
  have Hc := Lib.hid hc
  clear hc
  go_enter Tryz.func87, Tryz.ntmps87
  go_wp2_with fail
  refine Hc.out.mono ?_
  rintro e w1 ⟨⟨v, xs, rfl, hS, hown⟩, hb1⟩
  obtain ⟨A, c, hv, _⟩ := hown.form
  rw [List.length_map] at hv
  subst hv
  have HS := Lib.hid hS
  have Hown := Lib.hid hown
  clear hS hown
  go_wp2_with fail
  go_ret
  exact ⟨⟨_, xs, rfl, HS.out, Hown.out⟩, hb1⟩
/-- Where the keys lie. -/
def KeysRow (w : World) (base : Nat) (v : Value) (ys : List Nat) : Prop := ∃ A c, v = .slice A ys.length c ∧ ys.length ≤ c ∧ c ≤ maxLen ∧ Rd w (fun k => base ≤ k ∧ k < w.heap.size) A (ys.map numV)
theorem butS_below2 {B g : Nat} {w w' : World} (h : ButS g w w') (hB : B ≤ w.heap.size) (hg : B ≤ g) : Below B w w' := ⟨h.1, h.2.1, h.2.2.1, h.2.2.2.1, fun k hk => h.2.2.2.2 k (by omega) (by omega)⟩
theorem sortedu_any (F : Nat → Option Value) (g nn Bm : Nat) (hnn : nn ≤ 1099511627776) (w : World) (hBm : w.cell? ⟨Bm, 0, none⟩ = some (.map (some g))) (hg : MapU w g nn F) :
    Calls Tryz.prog 67 #[.func (.func 89) #[] #[.pointer (some ⟨Bm, 0, none⟩)]] w fun e w' => (∃ v ys, e = .returned v ∧ (SortedKeys F ys ∧ ys.length ≤ nn) ∧ KeysRow w' (w.heap.size + 1) v ys) ∧ Below w.heap.size w w' := by
  have hc := collectu_any F g nn Bm hnn w hBm hg
  have Hc := Lib.hid hc
  clear hc
  go_enter Tryz.func67, Tryz.ntmps67
  go_wp2_with fail
  refine Hc.out.mono ?_
  rintro e w1 ⟨⟨v, xs, rfl, ⟨hS, hxn⟩, hown⟩, hb1⟩
  have hk := sort_keys hS
  have Hk := Lib.hid hk
  rcases hown.2 with ⟨rfl, h0⟩ | ⟨r, cap, cur, rfl, hr1, hr2, hr3, hr4, hr5, hr6⟩
  · have hx : xs = [] := List.map_eq_nil_iff.1 (List.length_eq_zero_iff.1 h0)
    subst hx
    have hs0 : (Sort.sort lt64 ([] : List Nat).toArray).toList = [] := List.length_eq_zero_iff.1 (by have := (sort_rises (xs := []) List.nodup_nil).2.length_eq; simpa using this)
    rw [hs0] at Hk
    clear hS hown hk h0 hs0
    go_wp2_with fail
    refine (sortnil_any _).mono ?_
    rintro e w2 ⟨rfl, rfl⟩
    go_wp2_with fail
    go_ret
    exact ⟨⟨_, [], rfl, ⟨Hk.out, Nat.zero_le _⟩, none, 0, rfl, Nat.le_refl _, Nat.zero_le _, Rd.nil⟩, hb1⟩
  · rw [List.length_map] at hr3 hr6
    have hblk : Blk w1 r 46 cur := hr2
    have hlen : xs.toArray.size = xs.length := by simp
    have hcur : ∀ i, i < xs.length → cur[i]? = some (numV xs[i]!) := fun i hi => by
      have h1 : (cur.toList.take (xs.length * 1))[i]? = (xs.map numV)[i]? := by rw [hr6]
      rw [List.getElem?_take, if_pos (by omega), List.getElem?_map, List.getElem?_eq_getElem hi] at h1
      rw [getElem!_pos xs i hi]
      simpa using h1
    have hnums : NumsAt w1 r 0 xs.toArray := fun i hi => by
      rw [hlen] at hi
      refine ⟨?_, by rw [Nat.zero_add]; exact hblk.frozen i⟩
      rw [Nat.zero_add, hblk.cell, hcur i hi]
      simp [numV, hi]
    have hrl : r < w1.heap.size := (Array.getElem?_eq_some_iff.1 hr2).1
    have hc := sort_any r 0 cap xs.length xs.toArray w1 hnums hlen.symm (by omega) hrl
    have Hc2 := Lib.hid hc
    have hlen2 : (Sort.sort lt64 xs.toArray).toList.length = xs.length := (sort_rises hS.1).2.length_eq
    clear hc hS hown hk hr6 hcur hnums hblk
    go_wp2_with fail
    refine Hc2.out.mono ?_
    rintro e w2 ⟨rfl, hn2, hs2, hb2⟩
    have Hn2 := Lib.hid hn2
    clear hn2
    go_wp2_with fail
    go_ret
    refine ⟨⟨_, (Sort.sort lt64 xs.toArray).toList, rfl, ⟨Hk.out, by rw [hlen2]; exact hxn⟩, some ⟨r, 0, none⟩, cap, by rw [hlen2]; rfl, by omega, hr4, ?_⟩, hb1.trans (butS_below2 hb2 hb1.size (by omega))⟩
    refine Rd.of_cells ⟨hr1, Nat.lt_of_lt_of_le hrl hb2.2.2.2.1⟩ fun i hi => ?_
    rw [List.length_map, hlen2] at hi
    have h1 := (Hn2.out i (by omega)).1
    rw [h1, List.getElem_map, Array.getElem_toList, getElem!_pos _ i (by omega)]
    rfl
end Go.Proofs.YtdmbmkjiffhbcaaGreat
