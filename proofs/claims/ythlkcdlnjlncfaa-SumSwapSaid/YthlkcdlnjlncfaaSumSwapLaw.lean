/-
  The walk of SumSwap.
-/
import Derived.Test.YthlkcdlnjlncfaaLives02
import Derived.Test.YthlkcdlnjlncfaaSumByteLaw
import Derived.Test.YthlkcdlnjlncfaaQuiet
import Derived.BigQuiet
import Derived.BigRegion
import Derived.RegionTactic
namespace Go.Proofs.Ythlkcdlnjlncfaa
open Go.RowKit
set_option maxRecDepth 100000

theorem swap_seal (b X : List UInt8) (hX : X = b ++ sumB b) (i : Nat) (h : i + 1 < b.length) (h0 : i < X.length) (h1 : i + 1 < X.length) : sealedB ((X.set i X[i + 1]).set (i + 1) X[i]) = (X[i] == X[i + 1]) := by
  subst hX
  exact sealedB_swap b i h h1

set_option maxHeartbeats 2000000 in
theorem sumswap_main (A : Option Addr) (c : Nat) (b : List UInt8) (n : Int) (w : World) (hv : IsB w (fun _ => True) (.slice A b.length c) b) (hshort : b.length ≤ 2000) (h2 : 2 ≤ b.length) :
    Calls Try.prog 6 #[.slice A b.length c, .int .i64 n] w fun e w' => e = .returned (.bool true) ∧ Below w.heap.size w w' := by
  have Hv := Lib.hid hv
  clear hv
  obtain ⟨X, hX⟩ : ∃ X, X = b ++ sumB b := ⟨_, rfl⟩
  have hxl : X.length = b.length + 4 := by rw [hX, List.length_append, sumB_length]
  have hl4 : 4 ≤ X.length := by omega
  have hl2 : X.length ≤ 2004 := by omega
  obtain ⟨m, hm, hml⟩ := rem_index n (b.length - 1) (by omega) (by omega)
  rw [show ((b.length - 1 : Nat) : Int) = (b.length : Int) - 1 by omega] at hm
  have Hm := Lib.hid hm
  clear hm
  have hi0 : m < X.length := by omega
  have hi1 : m + 1 < X.length := by omega
  have hset := swap_seal b X hX m (by omega) hi0 hi1
  have Hset := Lib.hid hset
  have HX := Lib.hid hX
  have Hxl := Lib.hid hxl
  have hb0 := X[m].toNat_lt
  have hb1 := X[m + 1].toNat_lt
  clear hset hX hxl
  go_enter Try.func6, Try.ntmps6
  go_wp2_with fail
  refine (lives_any _).mono ?_
  rintro e w1 ⟨rfl, hb1⟩
  go_wp2_with fail
  refine (seal_any _ _ b _ (Hv.out.grow hb1) (by omega)).mono ?_
  rintro e w2 ⟨x2, rfl, hx2, hb2⟩
  rw [← HX.out] at hx2
  obtain ⟨Ax, cx, rfl, hcx, hmx, hrx⟩ := hx2.isB
  clear hrx
  unfold maxLen at hmx
  obtain ⟨g, cur, rfl, hg, hblk, hcur⟩ := hx2.addr (by intro e; have := congrArg List.length e; simp at this; simp [this] at hl4)
  have hc0 : w2.cell? ⟨g, m, none⟩ = some (.int .u8 (X[m].toNat : Int)) := by
    rw [hblk.cell, hcur m (by simpa using hi0), List.getElem_map]
    rfl
  have hc1 : w2.cell? ⟨g, m + 1, none⟩ = some (.int .u8 (X[m + 1].toNat : Int)) := by
    rw [hblk.cell, hcur (m + 1) (by simpa using hi1), List.getElem_map]
    rfl
  have hf0 : w2.frozen? ⟨g, m, none⟩ = false := hblk.frozen m
  have hf1 : w2.frozen? ⟨g, m + 1, none⟩ = false := hblk.frozen (m + 1)
  have Hx2 := Lib.hid hx2
  have hm := Hm.out
  have hmi : (m : Int) < (X.length : Int) := by omega
  have hmi1 : (m : Int) + 1 < (X.length : Int) := by omega
  have hne : ((X.length : Int) != (b.length : Int) + 4) = false := by rw [Hxl.out]; simp
  have Hhg := Lib.hid hg
  clear hx2 hblk hcur hg
  go_wp2_with fail
  go_quiet (fail)
  go_wp2_with fail
  have hbq := below_drewN (hb1.trans (hb2.mono hb1.size)) nq
  have hc0 : (w2.drewN nq).cell? ⟨g, m, none⟩ = some (.int .u8 (X[m].toNat : Int)) := hc0
  have hc1 : (w2.drewN nq).cell? ⟨g, m + 1, none⟩ = some (.int .u8 (X[m + 1].toNat : Int)) := hc1
  have hf0 : (w2.drewN nq).frozen? ⟨g, m, none⟩ = false := hf0
  have hf1 : (w2.drewN nq).frozen? ⟨g, m + 1, none⟩ = false := hf1
  have Hx2 := Lib.hid (show Own1 (w2.drewN nq) _ _ _ _ from Hx2.out)
  clear hb2
  generalize w2.drewN nq = w3 at *
  go_region
  have hx3 := ((Hx2.out.set_ m (u8 X[m + 1])).set_ (m + 1) (u8 X[m])).drew
  rw [← List.map_set, ← List.map_set] at hx3
  have hb3 := ((hbq.setCell (p := ⟨g, m, none⟩) (Nat.le_trans hb1.size Hhg.out) (u8 X[m + 1])).setCell (p := ⟨g, m + 1, none⟩) (Nat.le_trans hb1.size Hhg.out) (u8 X[m])).drew
  have hset := Hset.out
  have Hx3 := Lib.hid hx3
  clear hx3 hc0 hc1 hf0 hf1
  go_wp2_with fail
  by_cases hxy : X[m] = X[m + 1]
  · rw [show (X[m] == X[m + 1]) = true by simpa using hxy] at hset
    have hlike : ((X[m].toNat : Int) == (X[m + 1].toNat : Int)) = true := by rw [hxy]; simp
    refine (open_any _ _ ((X.set m X[m + 1]).set (m + 1) X[m]) _ Hx3.out.isB (by simp; omega)).mono ?_
    rintro e w5 ⟨h, hb5⟩
    rw [if_neg (by simp; omega), if_pos hset] at h
    obtain ⟨y, rfl, _⟩ := h
    clear hset hxy
    go_wp2_with fail
    go_ret
    exact ⟨by simp, hb3.trans (hb5.mono hb3.size)⟩
  · rw [show (X[m] == X[m + 1]) = false by simpa using hxy] at hset
    have hlike : ((X[m].toNat : Int) == (X[m + 1].toNat : Int)) = false := by
      rw [beq_eq_false_iff_ne]
      intro h
      exact hxy (UInt8.toNat_inj.1 (by omega))
    refine (open_broken _ _ ((X.set m X[m + 1]).set (m + 1) X[m]) _ Hx3.out.isB (by simp; omega) (by simp; omega) hset).mono ?_
    rintro e w5 ⟨rfl, hb5⟩
    clear hset hxy
    go_wp2_with fail
    go_ret
    exact ⟨by simp, hb3.trans (hb5.mono hb3.size)⟩

theorem sumswap_walk (v : Value) (b : List UInt8) (n : Int) (w : World) (hv : IsB w (fun _ => True) v b) :
    Calls Try.prog 6 #[v, .int .i64 n] w fun e w' => e = .returned (.bool true) ∧ Below w.heap.size w w' := by
  have Hv := Lib.hid hv
  obtain ⟨A, c, rfl, hc, hm, hr⟩ := hv
  clear hr hm
  by_cases hlong : 2000 < b.length
  · skip
    go_enter Try.func6, Try.ntmps6
    go_wp2_with fail
    refine (lives_any _).mono ?_
    rintro e w1 ⟨rfl, hb1⟩
    go_wp2_with fail
    refine (lives_any _).mono ?_
    rintro e w2 ⟨rfl, hb2⟩
    go_wp2_with fail
    go_ret
    exact ⟨rfl, hb1.trans (hb2.mono hb1.size)⟩
  · by_cases h2 : b.length < 2
    · skip
      go_enter Try.func6, Try.ntmps6
      go_wp2_with fail
      refine (lives_any _).mono ?_
      rintro e w1 ⟨rfl, hb1⟩
      go_wp2_with fail
      refine (lives_any _).mono ?_
      rintro e w2 ⟨rfl, hb2⟩
      go_wp2_with fail
      go_ret
      exact ⟨rfl, hb1.trans (hb2.mono hb1.size)⟩
    · exact sumswap_main A c b n w Hv.out (by omega) (by omega)
end Go.Proofs.Ythlkcdlnjlncfaa
