/-
  The walk of SumWindow.
-/
import Derived.Test.YthlkcdlnjlncfaaLives02
import Derived.Test.YthlkcdlnjlncfaaSumByteLaw
import Derived.Test.YthlkcdlnjlncfaaSumOpensLaw
import Derived.Test.YthlkcdlnjlncfaaQuiet
import Derived.BigQuiet
namespace Go.Proofs.Ythlkcdlnjlncfaa
open Go.RowKit
set_option maxRecDepth 100000

/-- The window of k bytes from j on. -/
def win (b : List UInt8) (k j : Nat) : List UInt8 := (b.drop j).take k
theorem win_next (b : List UInt8) (k j : Nat) (hk : 0 < k) (h : j + k < b.length) :
    roll (adler (win b k j)) (k : Int) (b[j]'(by omega)).toNat b[j + k].toNat = adler (win b k (j + 1)) := by
  have hd : b.drop j = b[j]'(by omega) :: b.drop (j + 1) := List.drop_eq_getElem_cons (by omega)
  obtain ⟨m, rfl⟩ : ∃ m, k = m + 1 := ⟨k - 1, by omega⟩
  have e1 : win b (m + 1) j = b[j]'(by omega) :: (b.drop (j + 1)).take m := by
    unfold win
    rw [hd, List.take_succ_cons]
  have e2 : win b (m + 1) (j + 1) = (b.drop (j + 1)).take m ++ [b[j + (m + 1)]] := by
    unfold win
    rw [List.take_succ_eq_append_getElem (by rw [List.length_drop]; omega), List.getElem_drop]
    simp only [show j + 1 + m = j + (m + 1) by omega]
  have h := roll_adler (b[j]'(by omega)) ((b.drop (j + 1)).take m) b[j + (m + 1)]
  rw [← e1, ← e2, List.length_take, List.length_drop, Nat.min_eq_left (by omega)] at h
  exact h
theorem win_length (b : List UInt8) (k j : Nat) (h : j + k ≤ b.length) : (win b k j).length = k := by
  unfold win
  rw [List.length_take, List.length_drop]
  omega
theorem isB_win {w : World} {ok : Nat → Prop} {bb off n c : Nat} {b : List UInt8} (h : IsB w ok (.slice (some ⟨bb, off, none⟩) n c) b) (k j : Nat) (hj : j + k ≤ b.length) (c' : Nat) (hc1 : k ≤ c') (hc2 : c' ≤ maxLen) :
    IsB w ok (.slice (some ⟨bb, off + j, none⟩) k c') (win b k j) := by
  obtain ⟨A', c0, e, h1, h2, h3⟩ := h
  cases e
  have hw := win_length b k j hj
  have e1 : (win b k j).map u8 = ((b.map u8).drop j).take k := by unfold win; rw [List.map_take, List.map_drop]
  refine ⟨_, c', by rw [hw], by rw [hw]; exact hc1, hc2, ?_⟩
  rw [e1]
  exact h3.drop'.take

set_option maxHeartbeats 2000000 in
theorem sumwindow_main (bb off c : Nat) (b : List UInt8) (n : Int) (w : World) (hv : IsB w (fun _ => True) (.slice (some ⟨bb, off, none⟩) b.length c) b) (hshort : b.length ≤ 400) (h0 : 0 < b.length) :
    Calls Try.prog 8 #[.slice (some ⟨bb, off, none⟩) b.length c, .int .i64 n] w fun e w' => e = .returned (.bool true) ∧ Below w.heap.size w w' := by
  obtain ⟨m, hm, hml⟩ := rem_index n b.length h0 (by omega)
  have Hv := Lib.hid hv
  obtain ⟨A', c0, e, hc, hmx, hr⟩ := hv
  cases e
  obtain ⟨_, _, e, _, hbw, hcells⟩ := hr.byte h0
  cases e
  have Hc := Lib.hid hcells
  clear hr hcells
  obtain ⟨k, hk, hk0, hkl⟩ : ∃ k : Nat, 1 + (m : Int) = (k : Int) ∧ 0 < k ∧ k ≤ b.length := ⟨m + 1, by omega, by omega, by omega⟩
  have hb0 : ((b.length : Int) == 0) = false := by rw [beq_eq_false_iff_ne]; omega
  unfold maxLen at hmx
  go_enter Try.func8, Try.ntmps8
  go_wp2_with fail
  refine (lives_any _).mono ?_
  rintro e w1 ⟨rfl, hb1⟩
  go_wp2_with fail
  have hw0 := isB_win (Hv.out.grow hb1) k 0 (by omega) c (by omega) (by unfold maxLen; omega)
  rw [Nat.add_zero] at hw0
  refine (sum_any _ _ (win b k 0) _ hw0).mono ?_
  rintro e w2 ⟨rfl, hw2⟩
  subst hw2
  clear hw0 hm hml
  go_wp2_with fail
  go_loopw [6, 7] (fun s i wr => ∃ j q : Nat, q = k + j ∧ q ≤ b.length ∧ i = .int .i64 (q : Int) ∧ s = .int .u32 (adler (win b k j) : Int) ∧ Below w1.heap.size w1 wr) (fun _ i _ => b.length - (intOf i).toNat)
  case atStart => exact ⟨0, k, rfl, hkl, rfl, rfl, Below.refl _ _⟩
  case round =>
    obtain ⟨j, q, hq, hql, rfl, rfl, hbr⟩ := hrel
    by_cases hlt : q < b.length
    · have hroll : ∀ W : World, Calls Try.prog 16 #[.int .u32 (adler (win b k j) : Int), .int .i64 (k : Int), .int .u8 ((b[j]'(by omega)).toNat : Int), .int .u8 (b[q].toNat : Int)] W fun e w' => e = .returned (.int .u32 (adler (win b k (j + 1)) : Int)) ∧ W = w' := fun W => by
        have h := roll_any (adler (win b k j)) (adler_lt _) (k : Int) (by omega) (by omega) (b[j]'(by omega)).toNat b[q].toNat (UInt8.toNat_lt _) (UInt8.toNat_lt _) W
        have e1 := win_next b k j hk0 (by omega)
        simp only [show j + k = q by omega] at e1
        rw [e1] at h
        exact h
      have hca : wr.cell? ⟨bb, off + j, none⟩ = some (.int .u8 ((b[j]'(by omega)).toNat : Int)) := (hbr.cell (p := ⟨bb, off + j, none⟩) (Nat.lt_of_lt_of_le hbw hb1.size)).trans ((hb1.cell (p := ⟨bb, off + j, none⟩) hbw).trans (Hc.out j (by omega)))
      have hcb : wr.cell? ⟨bb, off + q, none⟩ = some (.int .u8 (b[q].toNat : Int)) := (hbr.cell (p := ⟨bb, off + q, none⟩) (Nat.lt_of_lt_of_le hbw hb1.size)).trans ((hb1.cell (p := ⟨bb, off + q, none⟩) hbw).trans (Hc.out q hlt))
      have hx := (b[j]'(by omega)).toNat_lt
      have hy := b[q].toNat_lt
      generalize (b[j]'(by omega)).toNat = x at hroll hca hx
      generalize b[q].toNat = y at hroll hcb hy
      have hqk : (q : Int) - (k : Int) = (j : Int) := by omega
      have hjl : (j : Int) < (b.length : Int) := by omega
      have hql' : (q : Int) < (b.length : Int) := by omega
      have hwin : ∀ n', IsB (wr.drewN n') (fun _ => True) (.slice (some ⟨bb, off + (j + 1), none⟩) (q - j) (c - (j + 1))) (win b k (j + 1)) := fun n' => by
        rw [show q - j = k by omega]
        exact (isB_win ((Hv.out.grow hb1).grow hbr) k (j + 1) (by omega) _ (by omega) (by unfold maxLen; omega)).drewN n'
      have Hroll := Lib.hid hroll
      have Hq := Lib.hid hq
      clear hroll hq
      go_wp2_with fail
      go_quiet ((go_at_call 16; refine quiet_same (Hroll.out _)))
      go_wp2_with (go_at_call 11; (with_reducible refine (sum_any _ _ (win b k (j + 1)) _ (hwin _)).mono ?_); rintro e w3 ⟨rfl, rfl⟩)
      go_roundw
      case rel => exact ⟨j + 1, q + 1, by have := Hq.out; omega, by omega, by go_num, rfl, below_drewN hbr _⟩
      case measure => simp [intOf]; omega
    · obtain rfl : q = b.length := by omega
      clear hq
      go_wp2
      go_ret
      exact ⟨rfl, hb1.trans (hbr.mono hb1.size)⟩

theorem sumwindow_walk (v : Value) (b : List UInt8) (n : Int) (w : World) (hv : IsB w (fun _ => True) v b) :
    Calls Try.prog 8 #[v, .int .i64 n] w fun e w' => e = .returned (.bool true) ∧ Below w.heap.size w w' := by
  have Hv := Lib.hid hv
  obtain ⟨A, c, rfl, hc, hm, hr⟩ := hv
  by_cases hlong : 400 < b.length
  · clear hr hm
    go_enter Try.func8, Try.ntmps8
    go_wp2_with fail
    refine (lives_any _).mono ?_
    rintro e w1 ⟨rfl, hb1⟩
    go_wp2_with fail
    refine (lives_any _).mono ?_
    rintro e w2 ⟨rfl, hb2⟩
    go_wp2_with fail
    go_ret
    exact ⟨rfl, hb1.trans (hb2.mono hb1.size)⟩
  · by_cases h0 : b.length = 0
    · have hb0 : ((b.length : Int) == 0) = true := by rw [beq_iff_eq]; omega
      clear hr hm
      go_enter Try.func8, Try.ntmps8
      go_wp2_with fail
      refine (lives_any _).mono ?_
      rintro e w1 ⟨rfl, hb1⟩
      go_wp2_with fail
      refine (lives_any _).mono ?_
      rintro e w2 ⟨rfl, hb2⟩
      go_wp2_with fail
      go_ret
      exact ⟨rfl, hb1.trans (hb2.mono hb1.size)⟩
    · obtain ⟨bb, off, rfl, _, _, _⟩ := hr.byte (by omega)
      exact sumwindow_main bb off c b n w Hv.out (by omega) (by omega)
end Go.Proofs.Ythlkcdlnjlncfaa
