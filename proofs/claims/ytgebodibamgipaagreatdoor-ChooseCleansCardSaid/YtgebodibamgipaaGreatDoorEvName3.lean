/-
  The document's Name.
-/
import Derived.Test.YtgebodibamgipaaGreatDoorEvNames
namespace Go.Proofs.YtgebodibamgipaaGreatDoor
open Go.RowKit
set_option maxRecDepth 100000

theorem byte_index (s : List UInt8) (pos : Nat) (h : pos < s.length) (c : Nat) (hc : c = s[pos].toNat) : ∀ w : World, (Instr.index 9 (.string ⟨s.toArray⟩) (.int .i64 (pos : Int))).run Tryz.prog w = .ok (.int .u8 (c : Int)) w := fun w => by
  subst hc
  have hs : pos < (⟨s.toArray⟩ : ByteArray).size := h
  rw [run_index_string (h := by kernel_rfl), dif_pos ⟨by omega, by omega⟩]
  simp only [Int.toNat_natCast]
  rfl

theorem refname_head (s : List UInt8) (w : World) (h : nameB s = false) (hw : s = [] ∨ (s.isEmpty = false ∧ 12 < s.length) ∨ s = [46] ∨ s = [46, 46]) : Calls Tryz.prog 58 #[str s] w fun e w' => e = .returned (.bool (nameB s)) ∧ Below w.heap.size w w' := by
  rw [h]
  clear h
  rcases hw with rfl | ⟨h0, h1⟩ | rfl | rfl
  all_goals go_enter Tryz.func58, Tryz.ntmps58
  all_goals go_wp2
  all_goals go_ret
  all_goals exact ⟨rfl, Below.refl _ _⟩
set_option maxHeartbeats 4000000 in
theorem refname_any (s : List UInt8) (w : World) : Calls Tryz.prog 58 #[str s] w fun e w' => e = .returned (.bool (nameB s)) ∧ Below w.heap.size w w' := by
  rcases name_ways s with h | ⟨h0, h1⟩ | h | h | ⟨h0, h1, h2, h3⟩
  · exact refname_head s w (by subst h; rfl) (.inl h)
  · exact refname_head s w (name_long h1) (.inr (.inl ⟨h0, h1⟩))
  · exact refname_head s w (by subst h; rfl) (.inr (.inr (.inl h)))
  · exact refname_head s w (by subst h; rfl) (.inr (.inr (.inr h)))
  · obtain ⟨b, hb⟩ : ∃ b, b = nameB s := ⟨_, rfl⟩
    rw [← hb]
    have hyes := name_yes h0 h1 h2 h3
    have hno := fun k (hk : k < s.length) => name_no (s := s) hk
    rw [← hb] at hyes hno
    have Hyes := Lib.hid hyes
    have Hno := Lib.hid hno
    clear hb hyes hno
    go_enter Tryz.func58, Tryz.ntmps58
    go_wp2_with fail
    go_loop [3] (fun i => ∃ pos : Nat, pos ≤ s.length ∧ i = .int .i64 (pos : Int) ∧ ∀ k (hk : k < s.length), k < pos → letterN s[k].toNat = true) (fun i => s.length - (intOf i).toNat)
    case atStart => exact ⟨0, by omega, rfl, fun k hk h => by omega⟩
    case round =>
      obtain ⟨pos, hle, rfl, hall⟩ := hrel
      have Hall := Lib.hid hall
      clear hall
      by_cases hp : pos < s.length
      · obtain ⟨c, hc⟩ : ∃ c, c = s[pos].toNat := ⟨_, rfl⟩
        have hix := byte_index s pos hp c hc
        have hno := Hno.out pos hp
        have hyes : letterN c = true → ∀ k (hk : k < s.length), k < pos + 1 → letterN s[k].toNat = true := fun h k hk hlt => by
          by_cases e : k = pos
          · subst e; rw [← hc]; exact h
          · exact Hall.out k hk (by omega)
        rw [← hc] at hno
        have Hno2 := Lib.hid hno
        have Hyes2 := Lib.hid hyes
        have hc8 : c < 256 := by rw [hc]; exact s[pos].toNat_lt
        clear hc hno hyes
        rcases letter_cases c with h | h | h | h | h | h | h | h | h | h | h | h
        · have f0 : decide ((97 : Int) ≤ (c : Int)) = false := by rw [decide_eq_false_iff_not]; omega
          have f1 : decide ((65 : Int) ≤ (c : Int)) = false := by rw [decide_eq_false_iff_not]; omega
          have f2 : decide ((48 : Int) ≤ (c : Int)) = false := by rw [decide_eq_false_iff_not]; omega
          have g0 : decide ((c : Int) ≤ 122) = true := by rw [decide_eq_true_iff]; omega
          have g1 : decide ((c : Int) ≤ 90) = true := by rw [decide_eq_true_iff]; omega
          have g2 : decide ((c : Int) ≤ 57) = true := by rw [decide_eq_true_iff]; omega
          have e0 : ((c : Int) != 46) = true := by rw [bne_iff_ne]; omega
          have e1 : ((c : Int) != 95) = true := by rw [bne_iff_ne]; omega
          have e2 : ((c : Int) != 45) = true := by rw [bne_iff_ne]; omega
          have hl : letterN c = false := by unfold letterN; simp; omega
          have Hl := Lib.hid hl
          clear hl h hc8
          go_wp2_with fail
          go_ret
          exact ⟨by rw [Hno2.out Hl.out]; rfl, Below.refl _ _⟩
        · subst h
          go_wp2_with fail
          go_round
          case rel => exact ⟨pos + 1, by omega, by go_num, Hyes2.out (by rfl)⟩
          case measure => simp [intOf]; omega
        · subst h
          go_wp2_with fail
          go_round
          case rel => exact ⟨pos + 1, by omega, by go_num, Hyes2.out (by rfl)⟩
          case measure => simp [intOf]; omega
        · subst h
          go_wp2_with fail
          go_ret
          exact ⟨by rw [Hno2.out (by rfl)]; rfl, Below.refl _ _⟩
        · have f0 : decide ((97 : Int) ≤ (c : Int)) = false := by rw [decide_eq_false_iff_not]; omega
          have f1 : decide ((65 : Int) ≤ (c : Int)) = false := by rw [decide_eq_false_iff_not]; omega
          have f2 : decide ((48 : Int) ≤ (c : Int)) = true := by rw [decide_eq_true_iff]; omega
          have g0 : decide ((c : Int) ≤ 122) = true := by rw [decide_eq_true_iff]; omega
          have g1 : decide ((c : Int) ≤ 90) = true := by rw [decide_eq_true_iff]; omega
          have g2 : decide ((c : Int) ≤ 57) = true := by rw [decide_eq_true_iff]; omega
          have e0 : ((c : Int) != 46) = true := by rw [bne_iff_ne]; omega
          have e1 : ((c : Int) != 95) = true := by rw [bne_iff_ne]; omega
          have e2 : ((c : Int) != 45) = true := by rw [bne_iff_ne]; omega
          have hl : letterN c = true := by unfold letterN; simp; omega
          have Hl := Lib.hid hl
          clear hl h hc8
          go_wp2_with fail
          go_round
          case rel => exact ⟨pos + 1, by omega, by go_num, Hyes2.out Hl.out⟩
          case measure => simp [intOf]; omega
        · have f0 : decide ((97 : Int) ≤ (c : Int)) = false := by rw [decide_eq_false_iff_not]; omega
          have f1 : decide ((65 : Int) ≤ (c : Int)) = false := by rw [decide_eq_false_iff_not]; omega
          have f2 : decide ((48 : Int) ≤ (c : Int)) = true := by rw [decide_eq_true_iff]; omega
          have g0 : decide ((c : Int) ≤ 122) = true := by rw [decide_eq_true_iff]; omega
          have g1 : decide ((c : Int) ≤ 90) = true := by rw [decide_eq_true_iff]; omega
          have g2 : decide ((c : Int) ≤ 57) = false := by rw [decide_eq_false_iff_not]; omega
          have e0 : ((c : Int) != 46) = true := by rw [bne_iff_ne]; omega
          have e1 : ((c : Int) != 95) = true := by rw [bne_iff_ne]; omega
          have e2 : ((c : Int) != 45) = true := by rw [bne_iff_ne]; omega
          have hl : letterN c = false := by unfold letterN; simp; omega
          have Hl := Lib.hid hl
          clear hl h hc8
          go_wp2_with fail
          go_ret
          exact ⟨by rw [Hno2.out Hl.out]; rfl, Below.refl _ _⟩
        · have f0 : decide ((97 : Int) ≤ (c : Int)) = false := by rw [decide_eq_false_iff_not]; omega
          have f1 : decide ((65 : Int) ≤ (c : Int)) = true := by rw [decide_eq_true_iff]; omega
          have f2 : decide ((48 : Int) ≤ (c : Int)) = true := by rw [decide_eq_true_iff]; omega
          have g0 : decide ((c : Int) ≤ 122) = true := by rw [decide_eq_true_iff]; omega
          have g1 : decide ((c : Int) ≤ 90) = true := by rw [decide_eq_true_iff]; omega
          have g2 : decide ((c : Int) ≤ 57) = false := by rw [decide_eq_false_iff_not]; omega
          have e0 : ((c : Int) != 46) = true := by rw [bne_iff_ne]; omega
          have e1 : ((c : Int) != 95) = true := by rw [bne_iff_ne]; omega
          have e2 : ((c : Int) != 45) = true := by rw [bne_iff_ne]; omega
          have hl : letterN c = true := by unfold letterN; simp; omega
          have Hl := Lib.hid hl
          clear hl h hc8
          go_wp2_with fail
          go_round
          case rel => exact ⟨pos + 1, by omega, by go_num, Hyes2.out Hl.out⟩
          case measure => simp [intOf]; omega
        · have f0 : decide ((97 : Int) ≤ (c : Int)) = false := by rw [decide_eq_false_iff_not]; omega
          have f1 : decide ((65 : Int) ≤ (c : Int)) = true := by rw [decide_eq_true_iff]; omega
          have f2 : decide ((48 : Int) ≤ (c : Int)) = true := by rw [decide_eq_true_iff]; omega
          have g0 : decide ((c : Int) ≤ 122) = true := by rw [decide_eq_true_iff]; omega
          have g1 : decide ((c : Int) ≤ 90) = false := by rw [decide_eq_false_iff_not]; omega
          have g2 : decide ((c : Int) ≤ 57) = false := by rw [decide_eq_false_iff_not]; omega
          have e0 : ((c : Int) != 46) = true := by rw [bne_iff_ne]; omega
          have e1 : ((c : Int) != 95) = true := by rw [bne_iff_ne]; omega
          have e2 : ((c : Int) != 45) = true := by rw [bne_iff_ne]; omega
          have hl : letterN c = false := by unfold letterN; simp; omega
          have Hl := Lib.hid hl
          clear hl h hc8
          go_wp2_with fail
          go_ret
          exact ⟨by rw [Hno2.out Hl.out]; rfl, Below.refl _ _⟩
        · subst h
          go_wp2_with fail
          go_round
          case rel => exact ⟨pos + 1, by omega, by go_num, Hyes2.out (by rfl)⟩
          case measure => simp [intOf]; omega
        · subst h
          go_wp2_with fail
          go_ret
          exact ⟨by rw [Hno2.out (by rfl)]; rfl, Below.refl _ _⟩
        · have f0 : decide ((97 : Int) ≤ (c : Int)) = true := by rw [decide_eq_true_iff]; omega
          have f1 : decide ((65 : Int) ≤ (c : Int)) = true := by rw [decide_eq_true_iff]; omega
          have f2 : decide ((48 : Int) ≤ (c : Int)) = true := by rw [decide_eq_true_iff]; omega
          have g0 : decide ((c : Int) ≤ 122) = true := by rw [decide_eq_true_iff]; omega
          have g1 : decide ((c : Int) ≤ 90) = false := by rw [decide_eq_false_iff_not]; omega
          have g2 : decide ((c : Int) ≤ 57) = false := by rw [decide_eq_false_iff_not]; omega
          have e0 : ((c : Int) != 46) = true := by rw [bne_iff_ne]; omega
          have e1 : ((c : Int) != 95) = true := by rw [bne_iff_ne]; omega
          have e2 : ((c : Int) != 45) = true := by rw [bne_iff_ne]; omega
          have hl : letterN c = true := by unfold letterN; simp; omega
          have Hl := Lib.hid hl
          clear hl h hc8
          go_wp2_with fail
          go_round
          case rel => exact ⟨pos + 1, by omega, by go_num, Hyes2.out Hl.out⟩
          case measure => simp [intOf]; omega
        · have f0 : decide ((97 : Int) ≤ (c : Int)) = true := by rw [decide_eq_true_iff]; omega
          have f1 : decide ((65 : Int) ≤ (c : Int)) = true := by rw [decide_eq_true_iff]; omega
          have f2 : decide ((48 : Int) ≤ (c : Int)) = true := by rw [decide_eq_true_iff]; omega
          have g0 : decide ((c : Int) ≤ 122) = false := by rw [decide_eq_false_iff_not]; omega
          have g1 : decide ((c : Int) ≤ 90) = false := by rw [decide_eq_false_iff_not]; omega
          have g2 : decide ((c : Int) ≤ 57) = false := by rw [decide_eq_false_iff_not]; omega
          have e0 : ((c : Int) != 46) = true := by rw [bne_iff_ne]; omega
          have e1 : ((c : Int) != 95) = true := by rw [bne_iff_ne]; omega
          have e2 : ((c : Int) != 45) = true := by rw [bne_iff_ne]; omega
          have hl : letterN c = false := by unfold letterN; simp; omega
          have Hl := Lib.hid hl
          clear hl h hc8
          go_wp2_with fail
          go_ret
          exact ⟨by rw [Hno2.out Hl.out]; rfl, Below.refl _ _⟩
      · obtain rfl : pos = s.length := by omega
        go_wp2_with fail
        go_ret
        exact ⟨by rw [Hyes.out fun k hk => Hall.out k hk hk]; rfl, Below.refl _ _⟩
end Go.Proofs.YtgebodibamgipaaGreatDoor
