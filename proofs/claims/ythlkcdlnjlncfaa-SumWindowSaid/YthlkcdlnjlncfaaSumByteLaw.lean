/-
  The walk of SumByte.
-/
import Derived.Test.YthlkcdlnjlncfaaLives02
import Derived.Test.YthlkcdlnjlncfaaSumKit
import Derived.Test.YthlkcdlnjlncfaaStore
import Derived.Laws.BitsAllLaws
namespace Go.Proofs.Ythlkcdlnjlncfaa
open Go.RowKit
set_option maxRecDepth 100000

/-- An index out of any number, by its remainder. -/
theorem rem_index (n : Int) (L : Nat) (h0 : 0 < L) (hL : L ≤ 1099511627776) : ∃ m : Nat, wrap64 ((IntKind.u64.wrap n).tmod (L : Int)) = (m : Int) ∧ m < L := by
  have h1 : 0 ≤ IntKind.u64.wrap n := by simp only [IntKind.wrap_u64]; exact Int.emod_nonneg _ (by decide)
  have h2 : 0 ≤ IntKind.u64.wrap n % (L : Int) := Int.emod_nonneg _ (by omega)
  have h3 : IntKind.u64.wrap n % (L : Int) < (L : Int) := Int.emod_lt_of_pos _ (by omega)
  rw [Int.tmod_eq_emod_of_nonneg h1]
  obtain ⟨m, hm⟩ := Int.eq_ofNat_of_zero_le h2
  exact ⟨m, by rw [hm]; unfold wrap64; omega, by omega⟩
theorem xor_byte (a : UInt8) (x : Nat) (hx : x < 256) (h0 : x ≠ 0) : ∃ c : UInt8, c ≠ a ∧ bits .xor .u8 (a.toNat : Int) (x : Int) = (c.toNat : Int) := by
  have hlt : a.toNat ^^^ x < 2 ^ 8 := Nat.xor_lt_two_pow a.toNat_lt hx
  have hc : (UInt8.ofNat (a.toNat ^^^ x)).toNat = a.toNat ^^^ x := by rw [UInt8.toNat_ofNat']; omega
  refine ⟨UInt8.ofNat (a.toNat ^^^ x), fun e => h0 ?_, ?_⟩
  · have := congrArg UInt8.toNat e
    rw [hc] at this
    have h2 : a.toNat ^^^ (a.toNat ^^^ x) = a.toNat ^^^ a.toNat := by rw [this]
    rw [← Nat.xor_assoc, Nat.xor_self, Nat.zero_xor] at h2
    exact h2
  · rw [hc]
    exact u8_xor_nat _ _ a.toNat_lt hx

set_option maxHeartbeats 1000000 in
theorem sumbyte_walk (v : Value) (b : List UInt8) (n : Int) (x : Nat) (w : World) (hv : IsB w (fun _ => True) v b) (hx : x < 256) :
    Calls Try.prog 5 #[v, .int .i64 n, .int .u8 (x : Int)] w fun e w' => e = .returned (.bool true) ∧ Below w.heap.size w w' := by
  have Hv := Lib.hid hv
  obtain ⟨A, c, rfl, hc, hm, hr⟩ := hv
  clear hr hm
  by_cases hlong : 2000 < b.length
  · go_enter Try.func5, Try.ntmps5
    go_wp2_with fail
    refine (lives_any _).mono ?_
    rintro e w1 ⟨rfl, hb1⟩
    go_wp2_with fail
    refine (lives_any _).mono ?_
    rintro e w2 ⟨rfl, hb2⟩
    go_wp2_with fail
    go_ret
    exact ⟨rfl, hb1.trans (hb2.mono hb1.size)⟩
  · by_cases hx0 : x = 0
    · subst hx0
      go_enter Try.func5, Try.ntmps5
      go_wp2_with fail
      refine (lives_any _).mono ?_
      rintro e w1 ⟨rfl, hb1⟩
      go_wp2_with fail
      refine (lives_any _).mono ?_
      rintro e w2 ⟨rfl, hb2⟩
      go_wp2_with fail
      go_ret
      exact ⟨rfl, hb1.trans (hb2.mono hb1.size)⟩
    · obtain ⟨X, hX⟩ : ∃ X, X = b ++ sumB b := ⟨_, rfl⟩
      have hxl : X.length = b.length + 4 := by rw [hX, List.length_append, sumB_length]
      obtain ⟨m, hm, hml⟩ := rem_index n X.length (by omega) (by omega)
      have Hm := Lib.hid hm
      clear hm
      obtain ⟨y, hy, hxor⟩ := xor_byte X[m] x hx hx0
      have Hxor := Lib.hid hxor
      have hset := sealedB_set b m (by omega) y (fun h => by simpa [hX] using hy)
      rw [← hX] at hset
      have Hset := Lib.hid hset
      clear hxor hset hy
      have hx1 : ((x : Int) == 0) = false := by simpa using hx0
      have HX := Lib.hid hX
      have Hxl := Lib.hid hxl
      have hl4 : 4 ≤ X.length := by omega
      have hl2 : X.length ≤ 2004 := by omega
      clear hX hxl
      go_enter Try.func5, Try.ntmps5
      go_wp2_with fail
      refine (lives_any _).mono ?_
      rintro e w1 ⟨rfl, hb1⟩
      go_wp2_with fail
      refine (seal_any _ _ b _ (Hv.out.grow hb1) (by omega)).mono ?_
      rintro e w2 ⟨x2, rfl, hx2, hb2⟩
      rw [← HX.out] at hx2
      obtain ⟨Ax, cx, rfl, hcx, hmx, hrx⟩ := hx2.isB
      clear hrx
      unfold maxLen at hmx
      obtain ⟨g, cur, rfl, hg, hblk, hcur⟩ := hx2.addr (by intro e; have := congrArg List.length e; simp at this; simp [this] at hl4)
      have hcell : w2.cell? ⟨g, m, none⟩ = some (.int .u8 (X[m].toNat : Int)) := by
        rw [hblk.cell, hcur m (by simpa using hml), List.getElem_map]
        rfl
      have hfz : w2.frozen? ⟨g, m, none⟩ = false := hblk.frozen m
      have hx3 := hx2.set_ m (u8 y)
      rw [← List.map_set] at hx3
      have hb3 : Below w.heap.size w (w2.setCell ⟨g, m, none⟩ (u8 y)) := (hb1.trans (hb2.mono hb1.size)).setCell (Nat.le_trans hb1.size hg) _
      have Hx3 := Lib.hid hx3
      have hm := Hm.out
      have hxor := Hxor.out
      have hmi : (m : Int) < (X.length : Int) := by omega
      clear hx2 hblk hcur hx3
      have hne : ((X.length : Int) != (b.length : Int) + 4) = false := by rw [Hxl.out]; simp
      go_wp2_with fail
      refine (open_broken _ _ (X.set m y) _ Hx3.out.isB (by rw [List.length_set]; omega) (by rw [List.length_set]; omega) Hset.out).mono ?_
      rintro e w4 ⟨rfl, hb4⟩
      go_wp2_with fail
      go_ret
      exact ⟨by simp, hb3.trans (hb4.mono hb3.size)⟩
end Go.Proofs.Ythlkcdlnjlncfaa
