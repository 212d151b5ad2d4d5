/-
  wardshipref01.Num and AsNum.
-/
import Derived.Test.YtdmbmkjiffhbcaaGreatNums
import Derived.Deep.RegionWith
import Derived.WalkSpells
namespace Go.Proofs.YtdmbmkjiffhbcaaGreat
open Go.RowKit

set_option maxHeartbeats 400000 in
theorem refnum_any (k : Nat) : ∀ (N : Nat) (w : World), numLen N ≤ k → N < 18446744073709551616 →
    Calls Tryz.prog 65 #[.int .u64 (N : Int)] w fun e w' => e = .returned (str (numB N)) ∧ Below w.heap.size w w' := by
  induction k with
  | zero =>
    intro N w hk hN
    have h0 : N = 0 := by
      rcases Nat.eq_zero_or_pos N with h | h
      · exact h
      · have := numLen_step N (by omega) (by omega); omega
    subst h0
    go_enter Tryz.func65, Tryz.ntmps65
    go_wp2_with fail
    go_ret
    exact ⟨by rw [numB_zero]; rfl, Below.refl _ _⟩
  | succ k ih =>
    intro N w hk hN
    by_cases h0 : N = 0
    · subst h0
      go_enter Tryz.func65, Tryz.ntmps65
      go_wp2_with fail
      go_ret
      exact ⟨by rw [numB_zero]; rfl, Below.refl _ _⟩
    · have hb : ((N : Int) == 0) = false := by simpa using h0
      have hl := numLen_step N h0 (by omega)
      have ih' : ∀ w : World, Calls Tryz.prog 65 #[.int .u64 ((N : Int) / 256)] w fun e w' => e = .returned (str (numB (N / 256))) ∧ Below w.heap.size w w' := fun w => ih (N / 256) w (by omega) (by omega)
      have e1 : IntKind.u64.wrap ((N : Int) / 256) = (N : Int) / 256 := IntWalk.u64_in _ (by omega)
      have e2 : (N : Int).tmod 256 = (N : Int) % 256 := Int.tmod_eq_emod_of_nonneg (by omega)
      have e3 : IntKind.u8.wrap ((N : Int) % 256) = (N : Int) % 256 := IntWalk.u8_in _ (by omega)
      go_enter Tryz.func65, Tryz.ntmps65
      go_wp2_with fail
      have hadd : ∀ u : World, (Op.stringOp .add ⟨(numB (N / 256)).toArray⟩ ⟨[UInt8.ofNat (N % 256)].toArray⟩).run Tryz.prog u = .ok (str (numB N)) u := fun u => by
        rw [run_str_add u _ _ (by have := numB_length (N / 256); have := numLen_le (N / 256) (by omega); simp only [List.length_singleton]; omega), ← numB_step N h0 (by omega)]
      have hcv : ∀ (u : World) (b : Nat), u.cell? ⟨b, 0, none⟩ = some (.int .u8 ((N : Int) % 256)) → (convert 47 9 (.slice (some ⟨b, 0, none⟩) 1 1)).run Tryz.prog u = .ok (str [UInt8.ofNat (N % 256)]) u := fun u b hu =>
        run_bytes_str (c := 1) (l := [UInt8.ofNat (N % 256)]) _ _ _ Tryz.underlying47 Tryz.underlying5 Tryz.underlying9 (ok := fun _ => True) (fun _ => ⟨_, rfl, trivial, fun j v hj => by
          match j, hj with
          | 0, hj => simp only [List.map_cons, List.getElem?_cons_zero, Option.some.injEq] at hj; subst hj; rw [u8_ofNat]; exact hu⟩)
      go_region_with (go_at_call 65; refine (ih' _).mono ?_; rintro e w' ⟨rfl, hw⟩; obtain ⟨hc, hf⟩ := bcell hw)
      all_goals go_wp2
      all_goals go_ret
      · exact ⟨rfl, (((Below.refl w.heap.size w).drew).trans hw).alloc hw.size _⟩
      · exact ⟨rfl, (((Below.refl w.heap.size w).drew).alloc (Nat.le_refl _) _).trans (hw.mono (by simp))⟩
      · exact ⟨rfl, (((Below.refl w.heap.size w).drew).alloc (Nat.le_refl _) _).trans (hw.mono (by simp))⟩

theorem refnum (N : Nat) (w : World) (hN : N < 18446744073709551616) :
    Calls Tryz.prog 65 #[.int .u64 (N : Int)] w fun e w' => e = .returned (str (numB N)) ∧ Below w.heap.size w w' :=
  refnum_any _ N w (Nat.le_refl _) hN
theorem mk_get (l : List UInt8) (k : Nat) (h : k < (⟨l.toArray⟩ : ByteArray).size) (h' : k < l.length) : (⟨l.toArray⟩ : ByteArray)[k]'h = l[k]'h' := rfl

theorem asNumV_of (l : List UInt8) (h8 : ¬8 < l.length) : asNumV l = if numB (asNum l) = l then (asNum l, 0) else (0, 7) := by
  have hi := numB_asNum_iff l (by omega)
  unfold asNumV
  rw [if_neg h8]
  by_cases h : l.head? = some 0
  · rw [if_pos h, if_neg (fun e => hi.1 e h)]
  · rw [if_neg h, if_pos (hi.2 h)]

set_option maxHeartbeats 400000 in
theorem refasnum_any (l : List UInt8) (w : World) (hl : l.length ≤ maxLen) :
    Calls Tryz.prog 40 #[str l] w fun e w' => e = .returned (.tuple #[.int .u64 ((asNumV l).1 : Int), .int .i64 ((asNumV l).2 : Int)]) ∧ Below w.heap.size w w' := by
  unfold maxLen at hl
  by_cases h8 : 8 < l.length
  · have hv : asNumV l = (0, 4) := if_pos h8
    rw [hv]
    go_enter Tryz.func40, Tryz.ntmps40
    go_wp2
    go_ret2
    exact ⟨rfl, Below.refl _ _⟩
  · go_enter Tryz.func40, Tryz.ntmps40
    go_wp2
    go_loop [4, 5] (fun n i => ∃ k : Nat, k ≤ l.length ∧ i = .int .i64 (k : Int) ∧ n = .int .u64 (asNum (l.take k) : Int)) (fun _ i => l.length - (intOf i).toNat)
    case atStart => exact ⟨0, by omega, rfl, rfl⟩
    case round =>
      obtain ⟨k, hk, rfl, rfl⟩ := hrel
      have ha := asNum_lt (l.take k)
      by_cases hlt : k < l.length
      · have h56 : asNum (l.take k) < 72057594037927936 := by
          have e1 : (l.take k).length ≤ 7 := by rw [List.length_take]; omega
          have e2 : 256 ^ (l.take k).length ≤ 256 ^ 7 := Nat.pow_le_pow_right (by decide) e1
          have e3 : (256 : Nat) ^ 7 = 72057594037927936 := by decide
          omega
        have hbb := l[k].toNat_lt
        clear ha
        go_wp2
        go_round
        case rel =>
          refine ⟨k + 1, by omega, by go_num, ?_⟩
          have e1 : IntKind.u64.wrap (l[k].toNat : Int) = (l[k].toNat : Int) := IntWalk.u64_in _ (by omega)
          rw [take_succ l k hlt, asNum_snoc, mk_get l k _ hlt, e1, IntWalk.u64_in _ (by omega)]
          go_num
        case measure => simp [intOf]; omega
      · have h64 := asNum_lt64 l (by omega)
        obtain rfl : k = l.length := by omega
        rw [List.take_length]
        go_wp2_with (go_at_call 65; refine (refnum _ _ (by omega)).mono ?_; rintro e w' ⟨rfl, hw⟩)
        · have hne : numB (asNum l) ≠ l := by simpa using (by assumption : (!numB (asNum l) == l) = true)
          go_ret2
          rw [asNumV_of l h8, if_neg hne]
          exact ⟨rfl, hw⟩
        · have he : numB (asNum l) = l := by simpa using (by assumption : (!numB (asNum l) == l) = false)
          go_ret2
          rw [asNumV_of l h8, if_pos he]
          exact ⟨rfl, hw⟩
end Go.Proofs.YtdmbmkjiffhbcaaGreat
