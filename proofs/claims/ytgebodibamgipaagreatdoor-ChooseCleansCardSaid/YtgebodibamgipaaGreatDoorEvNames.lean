/-
  Names: inName, Name, and the document's Name.
  Name, and the document's Name.
-/
import Derived.Test.YtgebodibamgipaaGreatDoorNameMath
import Derived.Test.YtgebodibamgipaaGreatDoorWordsB
import Derived.Test.YtgebodibamgipaaGreatDoorPlainKit
import Derived.Laws.RangeAny
import Derived.Lib.Hide
import Derived.WalkSpells
import Derived.Deep.QuietTactic
import Derived.BigQuiet
namespace Go.Proofs.YtgebodibamgipaaGreatDoor
open Go.RowKit
set_option maxRecDepth 100000

theorem letter_cases (c : Nat) : (c < 45) ∨ (c = 45) ∨ (c = 46) ∨ (c = 47) ∨ (48 ≤ c ∧ c ≤ 57) ∨ (58 ≤ c ∧ c ≤ 64) ∨ (65 ≤ c ∧ c ≤ 90) ∨ (91 ≤ c ∧ c ≤ 94) ∨ (c = 95) ∨ (c = 96) ∨ (97 ≤ c ∧ c ≤ 122) ∨ (123 ≤ c) := by omega
set_option maxHeartbeats 1000000 in
theorem inname_any (c : Nat) (w : World) : Calls Tryz.prog 64 #[.int .i32 (c : Int)] w fun e w' => e = .returned (.bool (letterN c)) ∧ w = w' := by
  obtain ⟨b, hb⟩ : ∃ b, b = letterN c := ⟨_, rfl⟩
  rw [← hb]
  rcases letter_cases c with h | h | h | h | h | h | h | h | h | h | h | h
  · have hb2 : b = false := by rw [hb]; unfold letterN; simp; omega
    clear hb
    have f0 : decide ((97 : Int) ≤ (c : Int)) = false := by rw [decide_eq_false_iff_not]; omega
    have f1 : decide ((65 : Int) ≤ (c : Int)) = false := by rw [decide_eq_false_iff_not]; omega
    have f2 : decide ((48 : Int) ≤ (c : Int)) = false := by rw [decide_eq_false_iff_not]; omega
    have g0 : decide ((c : Int) ≤ 122) = true := by rw [decide_eq_true_iff]; omega
    have g1 : decide ((c : Int) ≤ 90) = true := by rw [decide_eq_true_iff]; omega
    have g2 : decide ((c : Int) ≤ 57) = true := by rw [decide_eq_true_iff]; omega
    have e0 : ((c : Int) == 46) = false := by rw [beq_eq_false_iff_ne]; omega
    have e1 : ((c : Int) == 95) = false := by rw [beq_eq_false_iff_ne]; omega
    have e2 : ((c : Int) == 45) = false := by rw [beq_eq_false_iff_ne]; omega
    clear h
    subst hb2
    go_enter Tryz.func64, Tryz.ntmps64
    go_wp2
    go_ret
    exact ⟨rfl, rfl⟩
  · subst h
    obtain rfl : b = true := by rw [hb]; rfl
    clear hb
    go_enter Tryz.func64, Tryz.ntmps64
    go_wp2
    go_ret
    exact ⟨rfl, rfl⟩
  · subst h
    obtain rfl : b = true := by rw [hb]; rfl
    clear hb
    go_enter Tryz.func64, Tryz.ntmps64
    go_wp2
    go_ret
    exact ⟨rfl, rfl⟩
  · subst h
    obtain rfl : b = false := by rw [hb]; rfl
    clear hb
    go_enter Tryz.func64, Tryz.ntmps64
    go_wp2
    go_ret
    exact ⟨rfl, rfl⟩
  · have hb2 : b = true := by rw [hb]; unfold letterN; simp; omega
    clear hb
    have f0 : decide ((97 : Int) ≤ (c : Int)) = false := by rw [decide_eq_false_iff_not]; omega
    have f1 : decide ((65 : Int) ≤ (c : Int)) = false := by rw [decide_eq_false_iff_not]; omega
    have f2 : decide ((48 : Int) ≤ (c : Int)) = true := by rw [decide_eq_true_iff]; omega
    have g0 : decide ((c : Int) ≤ 122) = true := by rw [decide_eq_true_iff]; omega
    have g1 : decide ((c : Int) ≤ 90) = true := by rw [decide_eq_true_iff]; omega
    have g2 : decide ((c : Int) ≤ 57) = true := by rw [decide_eq_true_iff]; omega
    have e0 : ((c : Int) == 46) = false := by rw [beq_eq_false_iff_ne]; omega
    have e1 : ((c : Int) == 95) = false := by rw [beq_eq_false_iff_ne]; omega
    have e2 : ((c : Int) == 45) = false := by rw [beq_eq_false_iff_ne]; omega
    clear h
    subst hb2
    go_enter Tryz.func64, Tryz.ntmps64
    go_wp2
    go_ret
    exact ⟨rfl, rfl⟩
  · have hb2 : b = false := by rw [hb]; unfold letterN; simp; omega
    clear hb
    have f0 : decide ((97 : Int) ≤ (c : Int)) = false := by rw [decide_eq_false_iff_not]; omega
    have f1 : decide ((65 : Int) ≤ (c : Int)) = false := by rw [decide_eq_false_iff_not]; omega
    have f2 : decide ((48 : Int) ≤ (c : Int)) = true := by rw [decide_eq_true_iff]; omega
    have g0 : decide ((c : Int) ≤ 122) = true := by rw [decide_eq_true_iff]; omega
    have g1 : decide ((c : Int) ≤ 90) = true := by rw [decide_eq_true_iff]; omega
    have g2 : decide ((c : Int) ≤ 57) = false := by rw [decide_eq_false_iff_not]; omega
    have e0 : ((c : Int) == 46) = false := by rw [beq_eq_false_iff_ne]; omega
    have e1 : ((c : Int) == 95) = false := by rw [beq_eq_false_iff_ne]; omega
    have e2 : ((c : Int) == 45) = false := by rw [beq_eq_false_iff_ne]; omega
    clear h
    subst hb2
    go_enter Tryz.func64, Tryz.ntmps64
    go_wp2
    go_ret
    exact ⟨rfl, rfl⟩
  · have hb2 : b = true := by rw [hb]; unfold letterN; simp; omega
    clear hb
    have f0 : decide ((97 : Int) ≤ (c : Int)) = false := by rw [decide_eq_false_iff_not]; omega
    have f1 : decide ((65 : Int) ≤ (c : Int)) = true := by rw [decide_eq_true_iff]; omega
    have f2 : decide ((48 : Int) ≤ (c : Int)) = true := by rw [decide_eq_true_iff]; omega
    have g0 : decide ((c : Int) ≤ 122) = true := by rw [decide_eq_true_iff]; omega
    have g1 : decide ((c : Int) ≤ 90) = true := by rw [decide_eq_true_iff]; omega
    have g2 : decide ((c : Int) ≤ 57) = false := by rw [decide_eq_false_iff_not]; omega
    have e0 : ((c : Int) == 46) = false := by rw [beq_eq_false_iff_ne]; omega
    have e1 : ((c : Int) == 95) = false := by rw [beq_eq_false_iff_ne]; omega
    have e2 : ((c : Int) == 45) = false := by rw [beq_eq_false_iff_ne]; omega
    clear h
    subst hb2
    go_enter Tryz.func64, Tryz.ntmps64
    go_wp2
    go_ret
    exact ⟨rfl, rfl⟩
  · have hb2 : b = false := by rw [hb]; unfold letterN; simp; omega
    clear hb
    have f0 : decide ((97 : Int) ≤ (c : Int)) = false := by rw [decide_eq_false_iff_not]; omega
    have f1 : decide ((65 : Int) ≤ (c : Int)) = true := by rw [decide_eq_true_iff]; omega
    have f2 : decide ((48 : Int) ≤ (c : Int)) = true := by rw [decide_eq_true_iff]; omega
    have g0 : decide ((c : Int) ≤ 122) = true := by rw [decide_eq_true_iff]; omega
    have g1 : decide ((c : Int) ≤ 90) = false := by rw [decide_eq_false_iff_not]; omega
    have g2 : decide ((c : Int) ≤ 57) = false := by rw [decide_eq_false_iff_not]; omega
    have e0 : ((c : Int) == 46) = false := by rw [beq_eq_false_iff_ne]; omega
    have e1 : ((c : Int) == 95) = false := by rw [beq_eq_false_iff_ne]; omega
    have e2 : ((c : Int) == 45) = false := by rw [beq_eq_false_iff_ne]; omega
    clear h
    subst hb2
    go_enter Tryz.func64, Tryz.ntmps64
    go_wp2
    go_ret
    exact ⟨rfl, rfl⟩
  · subst h
    obtain rfl : b = true := by rw [hb]; rfl
    clear hb
    go_enter Tryz.func64, Tryz.ntmps64
    go_wp2
    go_ret
    exact ⟨rfl, rfl⟩
  · subst h
    obtain rfl : b = false := by rw [hb]; rfl
    clear hb
    go_enter Tryz.func64, Tryz.ntmps64
    go_wp2
    go_ret
    exact ⟨rfl, rfl⟩
  · have hb2 : b = true := by rw [hb]; unfold letterN; simp; omega
    clear hb
    have f0 : decide ((97 : Int) ≤ (c : Int)) = true := by rw [decide_eq_true_iff]; omega
    have f1 : decide ((65 : Int) ≤ (c : Int)) = true := by rw [decide_eq_true_iff]; omega
    have f2 : decide ((48 : Int) ≤ (c : Int)) = true := by rw [decide_eq_true_iff]; omega
    have g0 : decide ((c : Int) ≤ 122) = true := by rw [decide_eq_true_iff]; omega
    have g1 : decide ((c : Int) ≤ 90) = false := by rw [decide_eq_false_iff_not]; omega
    have g2 : decide ((c : Int) ≤ 57) = false := by rw [decide_eq_false_iff_not]; omega
    have e0 : ((c : Int) == 46) = false := by rw [beq_eq_false_iff_ne]; omega
    have e1 : ((c : Int) == 95) = false := by rw [beq_eq_false_iff_ne]; omega
    have e2 : ((c : Int) == 45) = false := by rw [beq_eq_false_iff_ne]; omega
    clear h
    subst hb2
    go_enter Tryz.func64, Tryz.ntmps64
    go_wp2
    go_ret
    exact ⟨rfl, rfl⟩
  · have hb2 : b = false := by rw [hb]; unfold letterN; simp; omega
    clear hb
    have f0 : decide ((97 : Int) ≤ (c : Int)) = true := by rw [decide_eq_true_iff]; omega
    have f1 : decide ((65 : Int) ≤ (c : Int)) = true := by rw [decide_eq_true_iff]; omega
    have f2 : decide ((48 : Int) ≤ (c : Int)) = true := by rw [decide_eq_true_iff]; omega
    have g0 : decide ((c : Int) ≤ 122) = false := by rw [decide_eq_false_iff_not]; omega
    have g1 : decide ((c : Int) ≤ 90) = false := by rw [decide_eq_false_iff_not]; omega
    have g2 : decide ((c : Int) ≤ 57) = false := by rw [decide_eq_false_iff_not]; omega
    have e0 : ((c : Int) == 46) = false := by rw [beq_eq_false_iff_ne]; omega
    have e1 : ((c : Int) == 95) = false := by rw [beq_eq_false_iff_ne]; omega
    have e2 : ((c : Int) == 45) = false := by rw [beq_eq_false_iff_ne]; omega
    clear h
    subst hb2
    go_enter Tryz.func64, Tryz.ntmps64
    go_wp2
    go_ret
    exact ⟨rfl, rfl⟩
end Go.Proofs.YtgebodibamgipaaGreatDoor

namespace Go.Proofs.YtgebodibamgipaaGreatDoor
open Go.RowKit
set_option maxRecDepth 100000

theorem letterN_big {n : Nat} (h : 123 ≤ n) : letterN n = false := by unfold letterN; simp; omega
theorem name_no {s : List UInt8} {k : Nat} (hk : k < s.length) (h : letterN s[k].toNat = false) : nameB s = false := by
  unfold nameB
  have : (s.all fun c => letterN c.toNat) = false := by
    rw [List.all_eq_false]
    exact ⟨s[k], List.getElem_mem hk, by rw [h]; simp⟩
  rw [this, Bool.and_false]
theorem name_yes {s : List UInt8} (h0 : s.isEmpty = false) (h1 : s.length ≤ 12) (h2 : (s == [46]) = false) (h3 : (s == [46, 46]) = false) (h : ∀ k (hk : k < s.length), letterN s[k].toNat = true) : nameB s = true := by
  unfold nameB
  rw [h0, h2, h3, decide_eq_true h1]
  simp only [Bool.not_false, Bool.true_and, List.all_eq_true]
  intro c hc
  obtain ⟨k, hk, rfl⟩ := List.getElem_of_mem hc
  exact h k hk
/-- The ways in which a text is none ahead of its bytes. -/
theorem name_ways (s : List UInt8) : s = [] ∨ (s.isEmpty = false ∧ 12 < s.length) ∨ s = [46] ∨ s = [46, 46] ∨ (s.isEmpty = false ∧ s.length ≤ 12 ∧ (s == [46]) = false ∧ (s == [46, 46]) = false) := by
  by_cases h0 : s = []
  · exact .inl h0
  · have h0' : s.isEmpty = false := by simpa using h0
    by_cases h1 : 12 < s.length
    · exact .inr (.inl ⟨h0', h1⟩)
    · by_cases h2 : s = [46]
      · exact .inr (.inr (.inl h2))
      · by_cases h3 : s = [46, 46]
        · exact .inr (.inr (.inr (.inl h3)))
        · exact .inr (.inr (.inr (.inr ⟨h0', by omega, by simpa using h2, by simpa using h3⟩)))
theorem name_long {s : List UInt8} (h : 12 < s.length) : nameB s = false := by
  unfold nameB
  rw [decide_eq_false (by omega), Bool.and_false]
  rfl
/-- What comes next of a text: how many bytes, and which sign. -/
theorem next_sign (w : World) (s : List UInt8) (pos : Nat) (h : pos < s.length) : ∃ n d : Nat, 1 ≤ d ∧ n ≤ 2147483647 ∧ letterN n = letterN s[pos].toNat ∧ (letterN n = true → d = 1) ∧ (∀ ty, (Instr.next (.pointer (some ⟨w.heap.size, 0, none⟩)) true ty).run Tryz.prog (w.iter ⟨s.toArray⟩ pos) = .ok (.tuple #[.bool true, .int .i64 (pos : Int), .int .i32 (n : Int)]) (w.iter ⟨s.toArray⟩ (pos + d))) := by
  have hs : pos < (⟨s.toArray⟩ : ByteArray).size := h
  have he : (⟨s.toArray⟩ : ByteArray)[pos]'hs = s[pos] := rfl
  by_cases ha : s[pos].toNat < 128
  · refine ⟨s[pos].toNat, 1, Nat.le_refl _, by omega, rfl, fun _ => rfl, fun ty => ?_⟩
    rw [run_next_ascii w ⟨s.toArray⟩ pos ty hs (by rw [he]; exact ha), he]
  · have hd := decode_high ⟨s.toArray⟩ pos hs (by rw [he]; omega)
    have h1 := letterN_big (n := (Utf8.decode ⟨s.toArray⟩ pos).1) (by omega)
    have h2 := letterN_big (n := s[pos].toNat) (by omega)
    exact ⟨_, _, hd.2, decode_le _ _, h1.trans h2.symm, fun h => (by rw [h1] at h; cases h), fun ty => run_next_any w ⟨s.toArray⟩ pos ty hs⟩

set_option maxHeartbeats 1000000 in
theorem name_any (s : List UInt8) (w : World) : Calls Tryz.prog 45 #[str s] w fun e w' => e = .returned (.bool (nameB s)) ∧ Below w.heap.size w w' := by
  rcases name_ways s with rfl | ⟨h0, h1⟩ | rfl | rfl | ⟨h0, h1, h2, h3⟩
  · go_enter Tryz.func45, Tryz.ntmps45
    go_wp2
    go_ret
    exact ⟨rfl, Below.refl _ _⟩
  · rw [name_long h1]
    go_enter Tryz.func45, Tryz.ntmps45
    go_wp2
    go_ret
    exact ⟨rfl, Below.refl _ _⟩
  · go_enter Tryz.func45, Tryz.ntmps45
    go_wp2
    go_ret
    exact ⟨rfl, Below.refl _ _⟩
  · go_enter Tryz.func45, Tryz.ntmps45
    go_wp2
    go_ret
    exact ⟨rfl, Below.refl _ _⟩
  · obtain ⟨b, hb⟩ : ∃ b, b = nameB s := ⟨_, rfl⟩
    rw [← hb]
    have hyes := name_yes h0 h1 h2 h3
    have hno := fun k (hk : k < s.length) => name_no (s := s) hk
    rw [← hb] at hyes hno
    have Hyes := Lib.hid hyes
    have Hno := Lib.hid hno
    clear hb hyes hno
    go_enter Tryz.func45, Tryz.ntmps45
    go_wp2_with fail
    go_loopw [4] (fun _ w' => ∃ pos : Nat, pos ≤ s.length ∧ w' = w.iter ⟨s.toArray⟩ pos ∧ ∀ k (hk : k < s.length), k < pos → letterN s[k].toNat = true) (fun _ w' => s.length - w'.iterPos w.heap.size)
    case atStart => exact ⟨0, by omega, rfl, fun k hk h => by omega⟩
    case round =>
      obtain ⟨pos, hle, rfl, hall⟩ := hrel
      have Hall := Lib.hid hall
      clear hall
      by_cases hp : pos < s.length
      · obtain ⟨n, d, hd1, hn1, hn2, hn3, hnx⟩ := next_sign w s pos hp
        have Hn2 := Lib.hid hn2
        have Hn3 := Lib.hid hn3
        clear hn2 hn3
        obtain ⟨q, hq⟩ : ∃ q, q = letterN n := ⟨_, rfl⟩
        have hcall := inname_any n
        rw [← hq] at hcall
        have Hcall := Lib.hid hcall
        have Hq := Lib.hid hq
        clear hcall hq
        cases q with
        | true =>
          go_wp2_with (go_at_call 64; refine (Hcall.out _).mono ?_; rintro e w1 ⟨rfl, rfl⟩)
          have e1 : d = 1 := Hn3.out Hq.out.symm
          subst e1
          go_roundw
          case rel => exact ⟨pos + 1, by omega, rfl, fun k hk h => by
            by_cases e : k = pos
            · subst e; rw [← Hn2.out]; exact Hq.out.symm
            · exact Hall.out k hk (by omega)⟩
          case measure => simp; omega
        | false =>
          go_wp2_with (go_at_call 64; refine (Hcall.out _).mono ?_; rintro e w1 ⟨rfl, rfl⟩)
          go_ret
          exact ⟨by rw [Hno.out pos hp (by rw [← Hn2.out]; exact Hq.out.symm)]; rfl, (Below.refl _ _).alloc (Nat.le_refl _) _⟩
      · have hnx : ∀ ty, (Instr.next (.pointer (some ⟨w.heap.size, 0, none⟩)) true ty).run Tryz.prog (w.iter ⟨s.toArray⟩ pos) = _ := fun ty => run_next_end w ⟨s.toArray⟩ pos ty hp
        go_wp2_with fail
        go_ret
        exact ⟨by rw [Hyes.out fun k hk => Hall.out k hk (by omega)]; rfl, (Below.refl _ _).alloc (Nat.le_refl _) _⟩
end Go.Proofs.YtgebodibamgipaaGreatDoor
