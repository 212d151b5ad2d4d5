/-
  The walk of SumRolls.
-/
import Derived.Test.YthlkcdlnjlncfaaLives02
import Derived.Test.YthlkcdlnjlncfaaRefSum
import Derived.Test.YthlkcdlnjlncfaaSumOpensLaw
import Derived.Test.YthlkcdlnjlncfaaQuiet
import Derived.BigQuiet
namespace Go.Proofs.Ythlkcdlnjlncfaa
open Go.RowKit
set_option maxRecDepth 100000

theorem below_box {w w1 : World} {o : Obj} {n : Nat} (h : Below ((w.alloc o).drewN n).heap.size ((w.alloc o).drewN n) w1) : Below w.heap.size w w1 :=
  (below_drewN ((Below.refl _ _).alloc (Nat.le_refl _) o) n).trans (h.mono (Nat.le_of_lt (by show w.heap.size < (w.alloc o).heap.size; simp)))

/-- What SumRolls asks of any numbers: its sum is one that can be. -/
theorem rolls_nums (p : Int) : ∃ s0 s1 y : Nat, p % 4294967296 = (s0 : Int) ∧ s0 < 4294967296 ∧ (s0 : Int) / 65536 % 65521 * 65536 + (s0 : Int) % 65536 % 65521 = (s1 : Int) ∧ (s1 : Int) % 256 = (y : Int) ∧ s1 < 4294967296 ∧ s1 % 65536 < 65521 ∧ s1 / 65536 < 65521 ∧ y < 256 :=
  ⟨(p % 4294967296).toNat, (p % 4294967296).toNat / 65536 % 65521 * 65536 + (p % 4294967296).toNat % 65536 % 65521, ((p % 4294967296).toNat / 65536 % 65521 * 65536 + (p % 4294967296).toNat % 65536 % 65521) % 256, by omega, by omega, by omega, by omega, by omega, by omega, by omega, by omega⟩

theorem roll_head (b : List UInt8) (h0 : 0 < b.length) (x : Nat) (hx : x < 256) : roll (adler b) (b.length : Int) b[0].toNat x = adler (b.drop 1 ++ [UInt8.ofNat x]) := by
  match b, h0 with
  | z :: t, _ =>
    have h := roll_adler z t (UInt8.ofNat x)
    rw [show (UInt8.ofNat x).toNat = x by rw [UInt8.toNat_ofNat']; omega] at h
    exact h

set_option maxHeartbeats 1000000 in
theorem sumrolls_long (A : Option Addr) (c : Nat) (b : List UInt8) (x : Nat) (p q : Int) (w : World) (hlong : 2000 < b.length) :
    Calls Try.prog 7 #[.slice A b.length c, .int .u8 (x : Int), .agg #[.int .i64 p, .int .i64 q]] w fun e w' => e = .returned (.bool true) ∧ Below w.heap.size w w' := by
  go_enter Try.func7, Try.ntmps7
  go_wp2_with fail
  go_quiet (fail)
  go_wp2_with fail
  refine (lives_any _).mono ?_
  rintro e w1 ⟨rfl, hb1⟩
  go_wp2_with fail
  refine (lives_any _).mono ?_
  rintro e w2 ⟨rfl, hb2⟩
  go_wp2_with fail
  go_ret
  exact ⟨rfl, (below_box hb1).trans (hb2.mono (below_box hb1).size)⟩

set_option maxHeartbeats 1000000 in
theorem sumrolls_none (A : Option Addr) (c : Nat) (b : List UInt8) (x : Nat) (p q : Int) (w : World) (h0 : b.length = 0) (hx : x < 256) (hq : -9223372036854775808 ≤ q ∧ q ≤ 9223372036854775807) :
    Calls Try.prog 7 #[.slice A b.length c, .int .u8 (x : Int), .agg #[.int .i64 p, .int .i64 q]] w fun e w' => e = .returned (.bool true) ∧ Below w.heap.size w w' := by
  obtain ⟨s0, s1, y, hs0, hs0', hs1, hy1, h1, h2, h3, hy⟩ := rolls_nums p
  go_enter Try.func7, Try.ntmps7
  go_wp2_with fail
  go_quiet (fail)
  go_wp2_with fail
  refine (lives_any _).mono ?_
  rintro e w1 ⟨rfl, hb1⟩
  have hb1 := below_box hb1
  go_wp2_with fail
  refine (roll_any s1 h1 q hq.1 hq.2 x y hx hy _).mono ?_
  rintro e w7 ⟨rfl, rfl⟩
  go_wp2_with fail
  refine (refroll_any s1 h2 h3 q hq.1 hq.2 x y hx hy _).mono ?_
  rintro e w8 ⟨rfl, rfl⟩
  go_wp2_with fail
  go_ret
  exact ⟨by simp, hb1⟩

set_option maxHeartbeats 1000000 in
theorem sumrolls_one (A : Option Addr) (c : Nat) (b : List UInt8) (x : Nat) (p q : Int) (w : World) (hv : IsB w (fun _ => True) (.slice A b.length c) b) (h0 : 0 < b.length) (hshort : b.length ≤ 2000) (hx : x < 256) (hq : -9223372036854775808 ≤ q ∧ q ≤ 9223372036854775807) (hc1 : c = 1) :
    Calls Try.prog 7 #[.slice A b.length c, .int .u8 (x : Int), .agg #[.int .i64 p, .int .i64 q]] w fun e w' => e = .returned (.bool true) ∧ Below w.heap.size w w' := by
  have Hv := Lib.hid hv
  obtain ⟨A0, c0, e0, hc, hm, hr⟩ := hv
  cases e0
  have hc0 : 0 < b.length := h0
  obtain ⟨bb, off, hA, _, hbw, hcells⟩ := hr.byte h0
  have hcell0 := hcells 0 h0
  rw [Nat.add_zero] at hcell0
  have hRt : Rd w (fun _ => True) A ((b.drop 1).map u8) := by
    have hl1 : b.drop 1 = [] := List.drop_eq_nil_of_le (by omega)
    rw [hl1]
    exact Rd.nil
  have hRl : ((b.drop 1).map u8).length = b.length - 1 := by simp
  obtain ⟨t', ht'⟩ : ∃ t', t' = b.drop 1 ++ [UInt8.ofNat x] := ⟨_, rfl⟩
  have hroll : ∀ W : World, Calls Try.prog 16 #[.int .u32 (adler b : Int), .int .i64 (b.length : Int), .int .u8 (b[0].toNat : Int), .int .u8 (x : Int)] W fun e w' => e = .returned (.int .u32 (adler t' : Int)) ∧ W = w' := fun W => by
    have h := roll_any (adler b) (adler_lt b) (b.length : Int) (by omega) (by omega) b[0].toNat x b[0].toNat_lt hx W
    have e1 := roll_head b h0 x hx
    rw [← ht'] at e1
    rw [e1] at h
    exact h
  have Ht' := Lib.hid ht'
  have HRt := Lib.hid hRt
  have HRl := Lib.hid hRl
  have Hroll := Lib.hid hroll
  unfold maxLen at hm
  have hz := b[0].toNat_lt
  obtain ⟨z, hz1⟩ : ∃ z, z = b[0].toNat := ⟨_, rfl⟩
  rw [← hz1] at hcell0 hz
  rw [← hz1] at hroll
  have Hz1 := Lib.hid hz1
  have Hroll := Lib.hid hroll
  subst hA
  clear ht' hRt hroll hr hcells hz1 hRl
  obtain ⟨s0, s1, y, hs0, hs0', hs1, hy1, h1, h2, h3, hy⟩ := rolls_nums p
  go_enter Try.func7, Try.ntmps7
  go_wp2_with fail
  go_quiet (fail)
  go_wp2_with fail
  refine (lives_any _).mono ?_
  rintro e w1 ⟨rfl, hb1⟩
  have hb1 := below_box hb1
  have hc1w : w1.cell? ⟨bb, off, none⟩ = some (.int .u8 (z : Int)) := (hb1.cell (p := ⟨bb, off, none⟩) hbw).trans hcell0
  have hba : Below w.heap.size w (w1.alloc (.cells #[] 5)) := hb1.alloc hb1.size _
  go_wp2_with (first | (at_builtin; refine wpList_app1 _ elemB rfl (.tmp 28) (.tmp 30) rfl w1.heap.size _ [] rfl (own_empty w1) (fun _ => True) (some ⟨bb, off, none⟩) (b.length - 1) 0 ((b.drop 1).map u8) HRl.out rfl (HRt.out.grow hba) (u8_oneCell _) (by simp; omega) (by simp; omega) (by simp) ?_; intro v1 w2 hown1 hg1 _; have hb2 := hba.trans ((own_empty w1).below_of hg1 hba.size hb1.size); have hs2 := hg1.size; rw [List.nil_append] at hown1; clear hg1) | (at_builtin; refine wpList_app1_one _ elemB rfl (.tmp 31) (.tmp 33) rfl w1.heap.size v1 _ rfl hown1 (.int .u8 (x : Int)) _ rfl rfl (by have := HRl.out; omega) (by have := HRl.out; omega) ?_ ?_; rotate_right; intro v2 w3 hown2 hg2 _))
  rotate_left
  · simp at hs2; omega
  have hn : IsB w3 (fun _ => True) v2 t' := by
    have h : Own1 w3 w1.heap.size 5 v2 (t'.map u8) := by
      rw [Ht'.out, List.map_append, List.map_singleton, show u8 (UInt8.ofNat x) = .int .u8 (x : Int) by unfold u8; rw [UInt8.toNat_ofNat', Nat.mod_eq_of_lt (by omega)]]
      exact hown2
    exact h.isB.weaken fun _ _ => trivial
  have hb3 := hb2.trans (hown1.below_of hg2 hb2.size hb1.size)
  have hc3 : w3.cell? ⟨bb, off, none⟩ = some (.int .u8 (z : Int)) := (hb3.cell (p := ⟨bb, off, none⟩) hbw).trans hcell0
  have hvb := Hv.out.grow hb3
  rw [hc1] at hvb
  clear hown1 hown2 hg2 hs2 hcell0 hc1w
  go_quiet (first | (go_at_call 11; (first | (with_reducible exact quiet_same (sum_any _ _ b _ (hvb.drewN _))) | (with_reducible exact quiet_same (sum_any _ _ t' _ (hn.drewN _))))) | (go_at_call 16; refine quiet_same (Hroll.out _)))
  go_wp2_with fail
  refine (roll_any s1 h1 q hq.1 hq.2 x y hx hy _).mono ?_
  rintro e w7 ⟨rfl, rfl⟩
  go_wp2_with fail
  refine (refroll_any s1 h2 h3 q hq.1 hq.2 x y hx hy _).mono ?_
  rintro e w8 ⟨rfl, rfl⟩
  go_wp2_with fail
  go_ret
  exact ⟨by simp, below_drewN hb3 _⟩

set_option maxHeartbeats 1000000 in
theorem sumrolls_more (A : Option Addr) (c : Nat) (b : List UInt8) (x : Nat) (p q : Int) (w : World) (hv : IsB w (fun _ => True) (.slice A b.length c) b) (h0 : 0 < b.length) (hshort : b.length ≤ 2000) (hx : x < 256) (hq : -9223372036854775808 ≤ q ∧ q ≤ 9223372036854775807) (hc1 : ¬ c = 1) :
    Calls Try.prog 7 #[.slice A b.length c, .int .u8 (x : Int), .agg #[.int .i64 p, .int .i64 q]] w fun e w' => e = .returned (.bool true) ∧ Below w.heap.size w w' := by
  have Hv := Lib.hid hv
  obtain ⟨A0, c0, e0, hc, hm, hr⟩ := hv
  cases e0
  have hc0 : 0 < b.length := h0
  obtain ⟨bb, off, hA, _, hbw, hcells⟩ := hr.byte h0
  have hcell0 := hcells 0 h0
  rw [Nat.add_zero] at hcell0
  have hRt : Rd w (fun _ => True) (some ⟨bb, off + 1, none⟩) ((b.drop 1).map u8) := by
    have h := hr.drop (k := 1) (cap := c) (by rw [List.length_map]; exact hc)
    rw [if_neg hc1, ← List.map_drop, hA] at h
    exact h
  have hRl : ((b.drop 1).map u8).length = b.length - 1 := by simp
  obtain ⟨t', ht'⟩ : ∃ t', t' = b.drop 1 ++ [UInt8.ofNat x] := ⟨_, rfl⟩
  have hroll : ∀ W : World, Calls Try.prog 16 #[.int .u32 (adler b : Int), .int .i64 (b.length : Int), .int .u8 (b[0].toNat : Int), .int .u8 (x : Int)] W fun e w' => e = .returned (.int .u32 (adler t' : Int)) ∧ W = w' := fun W => by
    have h := roll_any (adler b) (adler_lt b) (b.length : Int) (by omega) (by omega) b[0].toNat x b[0].toNat_lt hx W
    have e1 := roll_head b h0 x hx
    rw [← ht'] at e1
    rw [e1] at h
    exact h
  have Ht' := Lib.hid ht'
  have HRt := Lib.hid hRt
  have HRl := Lib.hid hRl
  have Hroll := Lib.hid hroll
  unfold maxLen at hm
  have hz := b[0].toNat_lt
  obtain ⟨z, hz1⟩ : ∃ z, z = b[0].toNat := ⟨_, rfl⟩
  rw [← hz1] at hcell0 hz
  rw [← hz1] at hroll
  have Hz1 := Lib.hid hz1
  have Hroll := Lib.hid hroll
  subst hA
  clear ht' hRt hroll hr hcells hz1 hRl
  obtain ⟨s0, s1, y, hs0, hs0', hs1, hy1, h1, h2, h3, hy⟩ := rolls_nums p
  go_enter Try.func7, Try.ntmps7
  go_wp2_with fail
  go_quiet (fail)
  go_wp2_with fail
  refine (lives_any _).mono ?_
  rintro e w1 ⟨rfl, hb1⟩
  have hb1 := below_box hb1
  have hc1w : w1.cell? ⟨bb, off, none⟩ = some (.int .u8 (z : Int)) := (hb1.cell (p := ⟨bb, off, none⟩) hbw).trans hcell0
  have hba : Below w.heap.size w (w1.alloc (.cells #[] 5)) := hb1.alloc hb1.size _
  go_wp2_with (first | (at_builtin; refine wpList_app1 _ elemB rfl (.tmp 28) (.tmp 30) rfl w1.heap.size _ [] rfl (own_empty w1) (fun _ => True) (some ⟨bb, off + 1, none⟩) (b.length - 1) (c - 1) ((b.drop 1).map u8) HRl.out rfl (HRt.out.grow hba) (u8_oneCell _) (by simp; omega) (by simp; omega) (by simp) ?_; intro v1 w2 hown1 hg1 _; have hb2 := hba.trans ((own_empty w1).below_of hg1 hba.size hb1.size); have hs2 := hg1.size; rw [List.nil_append] at hown1; clear hg1) | (at_builtin; refine wpList_app1_one _ elemB rfl (.tmp 31) (.tmp 33) rfl w1.heap.size v1 _ rfl hown1 (.int .u8 (x : Int)) _ rfl rfl (by have := HRl.out; omega) (by have := HRl.out; omega) ?_ ?_; rotate_right; intro v2 w3 hown2 hg2 _))
  rotate_left
  · simp at hs2; omega
  have hn : IsB w3 (fun _ => True) v2 t' := by
    have h : Own1 w3 w1.heap.size 5 v2 (t'.map u8) := by
      rw [Ht'.out, List.map_append, List.map_singleton, show u8 (UInt8.ofNat x) = .int .u8 (x : Int) by unfold u8; rw [UInt8.toNat_ofNat', Nat.mod_eq_of_lt (by omega)]]
      exact hown2
    exact h.isB.weaken fun _ _ => trivial
  have hb3 := hb2.trans (hown1.below_of hg2 hb2.size hb1.size)
  have hc3 : w3.cell? ⟨bb, off, none⟩ = some (.int .u8 (z : Int)) := (hb3.cell (p := ⟨bb, off, none⟩) hbw).trans hcell0
  have hvb := Hv.out.grow hb3
  clear hown1 hown2 hg2 hs2 hcell0 hc1w
  go_quiet (first | (go_at_call 11; (first | (with_reducible exact quiet_same (sum_any _ _ b _ (hvb.drewN _))) | (with_reducible exact quiet_same (sum_any _ _ t' _ (hn.drewN _))))) | (go_at_call 16; refine quiet_same (Hroll.out _)))
  go_wp2_with fail
  refine (roll_any s1 h1 q hq.1 hq.2 x y hx hy _).mono ?_
  rintro e w7 ⟨rfl, rfl⟩
  go_wp2_with fail
  refine (refroll_any s1 h2 h3 q hq.1 hq.2 x y hx hy _).mono ?_
  rintro e w8 ⟨rfl, rfl⟩
  go_wp2_with fail
  go_ret
  exact ⟨by simp, below_drewN hb3 _⟩

theorem sumrolls_walk (v : Value) (b : List UInt8) (x : Nat) (p q : Int) (w : World) (hv : IsB w (fun _ => True) v b) (hx : x < 256) (_ : -9223372036854775808 ≤ p ∧ p ≤ 9223372036854775807) (hq : -9223372036854775808 ≤ q ∧ q ≤ 9223372036854775807) :
    Calls Try.prog 7 #[v, .int .u8 (x : Int), .agg #[.int .i64 p, .int .i64 q]] w fun e w' => e = .returned (.bool true) ∧ Below w.heap.size w w' := by
  have hv' := hv
  obtain ⟨A, c, rfl, _, _, _⟩ := hv
  by_cases hlong : 2000 < b.length
  · exact sumrolls_long A c b x p q w hlong
  · by_cases h0 : b.length = 0
    · exact sumrolls_none A c b x p q w h0 hx hq
    · by_cases hc : c = 1
      · exact sumrolls_one A c b x p q w hv' (by omega) (by omega) hx hq hc
      · exact sumrolls_more A c b x p q w hv' (by omega) (by omega) hx hq hc
end Go.Proofs.Ythlkcdlnjlncfaa
