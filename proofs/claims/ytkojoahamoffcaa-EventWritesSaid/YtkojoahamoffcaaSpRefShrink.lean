/-
  wardshipref07.bit, Shrink.
-/
import Derived.Test.YtkojoahamoffcaaSpShrink
import Derived.Test.YtkojoahamoffcaaRef01
namespace Go.Proofs.Ytkojoahamoffcaa
open Go.RowKit
set_option maxRecDepth 100000

theorem bit_any (i q : Nat) (hi : i < 8) (hq : q = 2 ^ i) (w : World) : Calls Try.prog 57 #[.int .i64 (i : Int)] w fun e w' => e = .returned (.int .u8 (q : Int)) ∧ w = w' := by
  have Hq := Lib.hid hq
  clear hq
  go_enter Try.func57, Try.ntmps57
  go_wp2_with fail
  go_loop [3, 4] (fun b j => ∃ k p : Nat, k ≤ i ∧ j = .int .i64 (k : Int) ∧ p = 2 ^ k ∧ b = .int .u8 (p : Int)) (fun _ j => i - (intOf j).toNat)
  case atStart => exact ⟨0, 1, by omega, rfl, rfl, rfl⟩
  case round =>
    obtain ⟨k, p, hk, rfl, hp, rfl⟩ := hrel
    by_cases hlt : k < i
    · have hp7 : p ≤ 64 := by
        have : (2 : Nat) ^ k ≤ 2 ^ 6 := Nat.pow_le_pow_right (by omega) (by omega)
        omega
      have Hp := Lib.hid hp
      clear hp
      go_wp2_with fail
      go_round
      case rel => exact ⟨k + 1, p * 2, by omega, by go_num, by rw [Nat.pow_succ, Hp.out], by go_num⟩
      case measure => simp [intOf]; omega
    · obtain rfl : k = i := by omega
      have Hp := Lib.hid hp
      clear hp
      go_wp2_with fail
      go_ret
      exact ⟨by rw [Hq.out, ← Hp.out]; rfl, rfl⟩

def u8' (m : Nat) : Value := Go.Proofs.Ytkojoahamoffcaa.u8 (UInt8.ofNat m)
theorem u8'_lt {m : Nat} (h : m < 256) : u8' m = .int .u8 (m : Int) := by
  unfold u8' u8
  rw [UInt8.toNat_ofNat', Nat.mod_eq_of_lt (by omega)]

set_option maxHeartbeats 400000 in
theorem refshrink_any (V B : Nat → Nat) (hV : okV V) (hB : okV B) (w : World) :
    Calls Try.prog 36 #[vv V, vv B] w fun e w' => e = .returned (str (spanB V B)) ∧ Below w.heap.size w w' := by
  obtain ⟨h1, h2, hbel⟩ := boxes2 V B w
  obtain ⟨W, hW⟩ : ∃ W, W = ((w.alloc (.cells (av V) 26)).alloc (.cells (av B) 26)) := ⟨_, rfl⟩
  rw [← hW] at h1 h2 hbel
  have HW := Lib.hid hW
  have HV := Lib.hid hV
  have HB := Lib.hid hB
  clear hW
  unfold vv
  go_enter Try.func36, Try.ntmps36
  go_wp2_with fail
  rw [← HW.out]
  go_loopw [5, 6, 7, 8] (fun m s t i wr => ∃ k m1 m2 : Nat, k ≤ 8 ∧ i = .int .i64 (k : Int) ∧ m1 = moreN V B k ∧ m2 = moreN B V k ∧ m = .int .u8 (m1 : Int) ∧ s = .int .u8 (m2 : Int) ∧ t = str (bodyB V B k) ∧ Blk wr w.heap.size 26 (av V) ∧ Blk wr (w.heap.size + 1) 26 (av B) ∧ Below w.heap.size w wr) (fun _ _ _ i _ => 8 - (intOf i).toNat)
  case atStart => exact ⟨0, 0, 0, by omega, rfl, rfl, rfl, rfl, rfl, rfl, h1, h2, hbel⟩
  case round =>
    obtain ⟨k, m1, m2, hk, rfl, hm1, hm2, rfl, rfl, rfl, hb1, hb2, hbw⟩ := hrel
    clear h1 h2 hbel
    have hble := bodyB_le HV.out HB.out hk
    have hml1 := moreN_lt V B k
    have hml2 := moreN_lt B V k
    rw [← hm1] at hml1
    rw [← hm2] at hml2
    have Hm1 := Lib.hid hm1
    have Hm2 := Lib.hid hm2
    have Hb1 := Lib.hid hb1
    have Hb2 := Lib.hid hb2
    by_cases hlt : k < 8
    · have hc1 := hb1.cell k
      rw [av_get V hlt] at hc1
      have hc2 := hb2.cell k
      rw [av_get B hlt] at hc2
      have hVk := HV.out k hlt
      have hBk := HB.out k hlt
      have e1 : moreN V B (k + 1) = m1 + (if B k < V k then 2 ^ k else 0) := by rw [Hm1.out]; rfl
      have e2 : moreN B V (k + 1) = m2 + (if V k < B k then 2 ^ k else 0) := by rw [Hm2.out]; rfl
      have e3 : bodyB V B (k + 1) = bodyB V B k ++ entB (distN (V k) (B k)) := rfl
      obtain ⟨p, hp⟩ : ∃ p, p = (2 : Nat) ^ k := ⟨_, rfl⟩
      have hbit := fun w => bit_any k p hlt hp w
      have hp7 : p ≤ 128 := by
        have : (2 : Nat) ^ k ≤ 2 ^ 7 := Nat.pow_le_pow_right (by omega) (by omega)
        omega
      rw [← hp] at e1 e2 hml1 hml2
      have Hbit := Lib.hid hbit
      clear hm1 hm2 hb1 hb2 hp hbit
      generalize hvk : V k = vk at *
      generalize hbk : B k = bk at *
      generalize hbod : bodyB V B k = bod at *
      have hw1 : IntKind.i64.wrap (vk : Int) = (vk : Int) := IntWalk.i64_in _ (by omega)
      have hw2 : IntKind.i64.wrap (bk : Int) = (bk : Int) := IntWalk.i64_in _ (by omega)
      rcases Nat.lt_trichotomy bk vk with h | h | h
      · obtain ⟨N, hN⟩ : ∃ N, vk = bk + N := ⟨vk - bk, by omega⟩
        rw [if_pos h] at e1
        rw [if_neg (by omega)] at e2
        rw [show distN vk bk = N by unfold distN; omega, entB_pos (by omega)] at e3
        have hsub : (vk : Int) - (bk : Int) = (N : Int) := by omega
        have hN0 : 0 < N := by omega
        have hNb : N < 4294967296 := by omega
        have hnl : (numB N).length ≤ 8 := by rw [numB_length]; exact numLen_le N (by omega)
        have hxl := u8_len (n := N) (by omega)
        have hnum := fun w => refnum N w (by omega)
        generalize UInt8.ofNat (numLen N) = x at hxl e3
        generalize numB N = nb at hnl hxl e3 hnum
        have hadd1 : ∀ u : World, (Op.stringOp .add ⟨[x].toArray⟩ ⟨nb.toArray⟩).run Try.prog u = .ok (str (x :: nb)) u := fun u => run_str_add u [x] nb (by simp only [List.length_singleton]; omega)
        have hadd2 : ∀ u : World, (Op.stringOp .add ⟨bod.toArray⟩ ⟨(x :: nb).toArray⟩).run Try.prog u = .ok (str (bod ++ x :: nb)) u := fun u => run_str_add u bod (x :: nb) (by simp only [List.length_cons]; omega)
        have hcv : ∀ (u : World) (b : Nat), u.cell? ⟨b, 0, none⟩ = some (.int .u8 ((nb.length : Nat) : Int)) → (convert 34 9 (.slice (some ⟨b, 0, none⟩) 1 1)).run Try.prog u = .ok (str [x]) u := fun u b hu =>
          run_bytes_str (c := 1) (l := [x]) _ _ _ Try.underlying34 Try.underlying5 Try.underlying9 (ok := fun _ => True) (fun _ => ⟨_, rfl, trivial, fun j v hj => by
            match j, hj with
            | 0, hj => simp only [List.map_cons, List.getElem?_cons_zero, Option.some.injEq] at hj; subst hj; rw [hxl]; exact hu⟩)
        have Hnum := Lib.hid hnum
        clear hnum hxl
        have E1 := Lib.hid e1
        have E2 := Lib.hid e2
        have E3 := Lib.hid e3
        clear e1 e2 e3 hvk hbk hbod h hN hVk hBk
        go_wp2_with fail
        go_quiet (fail)
        go_wp2_with (first | (go_at_call 57; refine (Hbit.out _).mono ?_; rintro e w1 ⟨rfl, rfl⟩) | (go_at_call 35; refine (Hnum.out _).mono ?_; rintro e w2 ⟨rfl, hb2⟩))
        go_roundw
        case rel =>
          exact ⟨k + 1, m1 + p, m2, by omega, by go_num, E1.out.symm, E2.out.symm, by go_num, rfl, by rw [E3.out], (Blk.grow (w := wr.drewN nq) Hb1.out hb2).alloc _, (Blk.grow (w := wr.drewN nq) Hb2.out hb2).alloc _, (below_call (below_drewN hbw _) hb2).alloc (below_call (below_drewN hbw _) hb2).size _⟩
        case measure => simp [intOf]; omega
      · subst h
        rw [if_neg (by omega)] at e1
        rw [if_neg (by omega)] at e2
        rw [show distN bk bk = 0 by unfold distN; omega, entB_zero, List.append_nil] at e3
        have hsub : (bk : Int) - (bk : Int) = 0 := by omega
        have E1 := Lib.hid e1
        have E2 := Lib.hid e2
        have E3 := Lib.hid e3
        clear e1 e2 e3 hvk hbk hbod hVk hBk
        go_wp2_with fail
        go_quiet (fail)
        go_wp2_with fail
        go_roundw
        case rel => exact ⟨k + 1, m1, m2, by omega, by go_num, E1.out.symm, E2.out.symm, rfl, rfl, by rw [E3.out], Hb1.out, Hb2.out, below_drewN hbw _⟩
        case measure => simp [intOf]; omega
      · obtain ⟨N, hN⟩ : ∃ N, bk = vk + N := ⟨bk - vk, by omega⟩
        rw [if_neg (by omega)] at e1
        rw [if_pos h] at e2
        rw [show distN vk bk = N by unfold distN; omega, entB_pos (by omega)] at e3
        have hsub : (vk : Int) - (bk : Int) = -(N : Int) := by omega
        have hN0 : 0 < N := by omega
        have hNb : N < 4294967296 := by omega
        have hnl : (numB N).length ≤ 8 := by rw [numB_length]; exact numLen_le N (by omega)
        have hxl := u8_len (n := N) (by omega)
        have hnum := fun w => refnum N w (by omega)
        generalize UInt8.ofNat (numLen N) = x at hxl e3
        generalize numB N = nb at hnl hxl e3 hnum
        have hadd1 : ∀ u : World, (Op.stringOp .add ⟨[x].toArray⟩ ⟨nb.toArray⟩).run Try.prog u = .ok (str (x :: nb)) u := fun u => run_str_add u [x] nb (by simp only [List.length_singleton]; omega)
        have hadd2 : ∀ u : World, (Op.stringOp .add ⟨bod.toArray⟩ ⟨(x :: nb).toArray⟩).run Try.prog u = .ok (str (bod ++ x :: nb)) u := fun u => run_str_add u bod (x :: nb) (by simp only [List.length_cons]; omega)
        have hcv : ∀ (u : World) (b : Nat), u.cell? ⟨b, 0, none⟩ = some (.int .u8 ((nb.length : Nat) : Int)) → (convert 34 9 (.slice (some ⟨b, 0, none⟩) 1 1)).run Try.prog u = .ok (str [x]) u := fun u b hu =>
          run_bytes_str (c := 1) (l := [x]) _ _ _ Try.underlying34 Try.underlying5 Try.underlying9 (ok := fun _ => True) (fun _ => ⟨_, rfl, trivial, fun j v hj => by
            match j, hj with
            | 0, hj => simp only [List.map_cons, List.getElem?_cons_zero, Option.some.injEq] at hj; subst hj; rw [hxl]; exact hu⟩)
        have Hnum := Lib.hid hnum
        clear hnum hxl
        have E1 := Lib.hid e1
        have E2 := Lib.hid e2
        have E3 := Lib.hid e3
        clear e1 e2 e3 hvk hbk hbod h hN hVk hBk
        go_wp2_with fail
        go_quiet (fail)
        go_wp2_with (first | (go_at_call 57; refine (Hbit.out _).mono ?_; rintro e w1 ⟨rfl, rfl⟩) | (go_at_call 35; refine (Hnum.out _).mono ?_; rintro e w2 ⟨rfl, hb2⟩))
        go_roundw
        case rel =>
          exact ⟨k + 1, m1, m2 + p, by omega, by go_num, E1.out.symm, E2.out.symm, rfl, by go_num, by rw [E3.out], (Blk.grow (w := wr.drewN nq) Hb1.out hb2).alloc _, (Blk.grow (w := wr.drewN nq) Hb2.out hb2).alloc _, (below_call (below_drewN hbw _) hb2).alloc (below_call (below_drewN hbw _) hb2).size _⟩
        case measure => simp [intOf]; omega
    · obtain rfl : k = 8 := by omega
      have hfin : spanB V B = UInt8.ofNat m1 :: UInt8.ofNat m2 :: bodyB V B 8 := by rw [Hm1.out, Hm2.out]; rfl
      have h81 : m1 < 256 := by omega
      have h82 : m2 < 256 := by omega
      have hx1 : u8' m1 = .int .u8 (m1 : Int) := u8'_lt h81
      have hx2 : u8' m2 = .int .u8 (m2 : Int) := u8'_lt h82
      generalize hbod : bodyB V B 8 = bod at *
      have hadd2 : ∀ u : World, (Op.stringOp .add ⟨[UInt8.ofNat m1, UInt8.ofNat m2].toArray⟩ ⟨bod.toArray⟩).run Try.prog u = .ok (str (spanB V B)) u := fun u => by
        rw [hfin]
        exact run_str_add u [UInt8.ofNat m1, UInt8.ofNat m2] bod (by simp only [List.length_cons, List.length_nil]; omega)
      have hcv : ∀ (u : World) (b : Nat), u.cell? ⟨b, 0, none⟩ = some (.int .u8 (m1 : Int)) → u.cell? ⟨b, 1, none⟩ = some (.int .u8 (m2 : Int)) → (convert 34 9 (.slice (some ⟨b, 0, none⟩) 2 2)).run Try.prog u = .ok (str [UInt8.ofNat m1, UInt8.ofNat m2]) u := fun u b hu hu2 =>
        run_bytes_str (c := 2) (l := [UInt8.ofNat m1, UInt8.ofNat m2]) _ _ _ Try.underlying34 Try.underlying5 Try.underlying9 (ok := fun _ => True) (fun _ => ⟨_, rfl, trivial, fun j v hj => by
          match j, hj with
          | 0, hj => simp only [List.map_cons, List.getElem?_cons_zero, Option.some.injEq] at hj; subst hj; exact hu.trans (congrArg some hx1.symm)
          | 1, hj => simp only [List.map_cons, List.getElem?_cons_zero, List.getElem?_cons_succ, Option.some.injEq] at hj; subst hj; exact hu2.trans (congrArg some hx2.symm)⟩)
      clear hfin hbod hb1 hb2 hm1 hm2 hx1 hx2
      go_wp2_with fail
      go_ret
      exact ⟨rfl, hbw.alloc hbw.size _⟩
end Go.Proofs.Ytkojoahamoffcaa
