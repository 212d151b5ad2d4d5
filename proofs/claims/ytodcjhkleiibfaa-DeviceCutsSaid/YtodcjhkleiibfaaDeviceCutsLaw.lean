/-
  The walk of DeviceCuts.
-/
import Derived.Test.YtodcjhkleiibfaaDevMore
namespace Go.Proofs.Ytodcjhkleiibfaa
open Go.RowKit
set_option maxRecDepth 100000

/-- What holds of the device ahead of round i. -/
structure CutInv (after : Int) (i : Nat) (D : Dev) : Prop where
  off : D.off = false
  changes : D.changes = i
  few : D.loose.length ≤ i
  len : D.sure.length = 4
  left : D.left = if after < i then -1 else after - i
theorem cutInv_start (after : Int) (c : Choice) : CutInv after 0 ((newD 4).plan after c) := by
  refine ⟨rfl, rfl, Nat.le_refl _, List.length_replicate, ?_⟩
  show max after (-1) = _
  split <;> omega
theorem cutInv_change {after : Int} {i : Nat} {D : Dev} (ho : D.off = false) (hc : D.changes = i) (hf : D.loose.length ≤ i + 1) (hl : D.sure.length = 4) (hleft : D.left = if after < i then -1 else after - i) :
    D.change.2 = (if (i : Int) = after then 6 else 0) ∧ D.change.1.off = decide ((i : Int) = after) ∧ CutInv after (i + 1) { D.change.1 with off := false } := by
  unfold Dev.change
  by_cases h : (i : Int) = after
  · have h0 : D.left = 0 := by rw [hleft, if_neg (by omega)]; omega
    rw [if_pos h0, if_pos h]
    have hcut : ({ D with changes := D.changes + 1 } : Dev).cut D.choice = ⟨cutS D.choice D.sure 0 D.loose, [], -1, noChoice, D.changes + 1, true⟩ := by unfold Dev.cut; rw [ho]; rfl
    rw [hcut]
    refine ⟨rfl, by simp [h], rfl, by simp [hc], Nat.zero_le _, by simp [cutS_length, hl], ?_⟩
    rw [if_pos (by omega)]
  · have h0 : D.left ≠ 0 := by rw [hleft]; split <;> omega
    rw [if_neg h0, if_neg h]
    refine ⟨rfl, by simp [ho, h], rfl, by simp [hc], hf, hl, ?_⟩
    show (if 0 < D.left then D.left - 1 else D.left) = _
    rw [hleft]
    split <;> split <;> omega
theorem cutInv_put {after : Int} {i : Nat} {D : Dev} (h : CutInv after i D) (k : Int) (b : List UInt8) (hk : 0 ≤ k ∧ k < 4) (hb : b.length = 256) :
    (D.put k b).2 = (if (i : Int) = after then 6 else 0) ∧ (D.put k b).1.off = decide ((i : Int) = after) ∧ CutInv after (i + 1) { (D.put k b).1 with off := false } := by
  have hp : D.put k b = ({ D with loose := D.loose ++ [(k.toNat, b)] } : Dev).change := by
    unfold Dev.put Dev.why
    rw [h.off, h.len]
    simp [hb]
    omega
  rw [hp]
  exact cutInv_change h.off h.changes (by show (D.loose ++ _).length ≤ _; rw [List.length_append]; have := h.few; simp; omega) h.len h.left
theorem cutInv_barrier {after : Int} {i : Nat} {D : Dev} (h : CutInv after i D) :
    D.barrier.2 = (if (i : Int) = after then 6 else 0) ∧ D.barrier.1.off = decide ((i : Int) = after) ∧ CutInv after (i + 1) { D.barrier.1 with off := false } := by
  have hc := cutInv_change h.off h.changes (by have := h.few; omega) h.len h.left
  unfold Dev.barrier
  rw [h.off]
  by_cases he : (i : Int) = after
  · rw [if_pos he] at hc
    rw [if_neg (by decide), if_pos (by rw [hc.1]; decide)]
    rw [if_pos he]
    exact hc
  · rw [if_neg he] at hc
    rw [if_neg (by decide), if_neg (by rw [hc.1]; decide), if_neg he]
    refine ⟨rfl, hc.2.1, rfl, hc.2.2.changes, Nat.zero_le _, ?_, hc.2.2.left⟩
    show (applyW _ _).length = 4
    rw [applyW_length]
    exact hc.2.2.len

set_option maxHeartbeats 1000000 in
theorem devicecuts_walk (after n : Int) (v : Value) (c : Choice) (w : World) (ha : -9223372036854775808 ≤ after ∧ after ≤ 9223372036854775807) (hn : -9223372036854775808 ≤ n ∧ n ≤ 9223372036854775807) (hv : IsC w (fun _ => True) v c) :
    Calls Try.prog 5 #[.int .i64 after, .int .i64 n, v] w fun e w' => e = .returned (.bool true) ∧ Below w.heap.size w w' := by
  obtain ⟨vk, rfl, hL⟩ := hv
  have hL0 := hL.move (w' := w) (ok' := fun k => k < w.heap.size) (fun k _ hk => ⟨hk, rfl⟩)
  obtain ⟨A, nk, ds, rfl, hnk1, hnk2, _, _⟩ := hL
  have HL := Lib.hid hL0
  unfold maxLen at hnk2
  have hba : Below w.heap.size w (w.alloc (.cells #[.slice A c.kept.length nk, .int .i64 c.torn, .int .i64 c.half] 34)) := (Below.refl _ _).alloc (Nat.le_refl _) _
  have hbx := Blk.new w 34 #[.slice A c.kept.length nk, .int .i64 c.torn, .int .i64 c.half]
  obtain ⟨W, hW⟩ : ∃ W, W = w.alloc (.cells #[.slice A c.kept.length nk, .int .i64 c.torn, .int .i64 c.half] 34) := ⟨_, rfl⟩
  rw [← hW] at hba hbx
  have HW := Lib.hid hW
  have Hba := Lib.hid hba
  have Hbx := Lib.hid hbx
  clear hW hL0 hba hbx
  by_cases hfit : 0 ≤ n ∧ n ≤ 40 ∧ c.kept.length ≤ 70
  · obtain ⟨h0, h1, h2⟩ := hfit
    obtain ⟨N, rfl⟩ := Int.eq_ofNat_of_zero_le h0
    have hN : N ≤ 40 := by omega
    have hd1 : ¬ (N : Int) < 0 := by omega
    have hd2 : ¬ (40 : Int) < (N : Int) := by omega
    have hd3 : ¬ (70 : Int) < (c.kept.length : Int) := by omega
    go_enter Try.func5, Try.ntmps5
    go_wp2_with fail
    rw [← HW.out]
    refine (lives_any _).mono ?_
    rintro e w1 ⟨rfl, hb1⟩
    have hb01 := below_call Hba.out hb1
    have hbx1 := Hbx.out.grow hb1
    have he0 := hbx1.cell 0
    have he1 := hbx1.cell 1
    have he2 := hbx1.cell 2
    simp at he0 he1 he2
    have Hb01 := Lib.hid hb01
    have Hbx1 := Lib.hid hbx1
    clear hb1 hb01 hbx1
    go_wp2_with fail
    refine (new_ok 4 _ (by omega) (by omega)).mono ?_
    rintro e w2 ⟨g, F, rfl, hdev, hb2⟩
    have hb02 := below_call Hb01.out hb2
    have hbx2 := Hbx1.out.grow hb2
    clear he0 he1 he2
    have he0 := hbx2.cell 0
    have he1 := hbx2.cell 1
    have he2 := hbx2.cell 2
    simp at he0 he1 he2
    have hgw : w1.heap.size ≤ g := by
      obtain ⟨gs, gl, vl, vp, m, hin, _⟩ := hdev
      exact (hin.low _ hin.fg).1
    have hs01 := Hb01.out.size
    have Hdev := Lib.hid hdev
    have Hb02 := Lib.hid hb02
    have hs12 := hb2.size
    clear hb2 hb02 hbx2 hdev
    go_wp2_with fail
    refine (plan_any _ _ _ _ (fun k => k < w.heap.size) after _ c _ Hdev.out (HL.out.grow Hb02.out) (fun k hk => by omega) (by omega) hs12 ha).mono ?_
    rintro e w3 ⟨rfl, F3, hdev3, hfr3⟩
    have hb03 := Hb02.out.trans (hfr3.below (fun k hk => by have := (Hdev.out.low k hk).1; omega) Hb02.out.size)
    have Hdev3 := Lib.hid hdev3
    have Hb03 := Lib.hid hb03
    clear hdev3 hfr3 hb03 he0 he1 he2
    go_wp2_with fail
    go_loopw [37] (fun x wr => ∃ (k : Nat) (D : Dev) (G : Nat → Prop), k ≤ N ∧ x = .int .i64 (k : Int) ∧ DevAt wr w1.heap.size G g D ∧ CutInv after k D ∧ Below w.heap.size w wr) (fun x _ => N - (intOf x).toNat)
    case atStart => exact ⟨0, _, F3, by omega, rfl, Hdev3.out, cutInv_start after c, Hb03.out⟩
    case round =>
      obtain ⟨k, D, G, hk, rfl, hdv, hinv, hbw⟩ := hrel
      have hoff := hinv.off
      have hch := hinv.changes
      have hfew := hinv.few
      by_cases hlt : k < N
      · have Hdv := Lib.hid hdv
        have Hinv := Lib.hid hinv
        have Hbw := Lib.hid hbw
        have hch' : D.changes ≤ 40 := by omega
        have hsw := hbw.size
        by_cases h3 : (k : Int) % 3 = 2
        · obtain ⟨p1, p2, p3⟩ := cutInv_barrier hinv
          have P1 := Lib.hid p1
          have P2 := Lib.hid p2
          have P3 := Lib.hid p3
          have hd : ((k : Int) % 3 == 2) = true := by simpa using h3
          clear hdv hinv hbw hoff hch p1 p2 p3 h3
          by_cases ht : (k : Int) = after
          · have hP1 : D.barrier.2 = 6 := by rw [P1.out, if_pos ht]
            have hP2 : D.barrier.1.off = true := by rw [P2.out]; simpa using ht
            have hq1 : ((k : Int) == after) = true := by simpa using ht
            have hq2 : ((k : Int) != after) = false := by simpa using ht
            have HP1 := Lib.hid hP1
            have HP2 := Lib.hid hP2
            clear hP1 hP2 ht
            go_wp2_with fail
            refine (barrier_any _ _ _ D _ Hdv.out (by omega) (by omega)).mono ?_
            rintro e w5 ⟨rfl, hd5, hf5⟩
            rw [HP1.out]
            have hb5 := Hbw.out.trans (hf5.below (fun j hj => by have := (Hdv.out.low j hj).1; omega) hsw)
            obtain ⟨G5, hG5⟩ : ∃ G5, G5 = G := ⟨_, rfl⟩
            rw [← hG5] at hd5
            clear hG5
            have Hd5 := Lib.hid hd5
            have Hb5 := Lib.hid hb5
            clear hd5 hf5 hb5
            go_wp2_with fail
            refine (off_any _ _ _ _ _ Hd5.out).mono ?_
            rintro e w' ⟨rfl, rfl⟩
            rw [HP2.out]
            go_wp2_with fail
            refine (on_any _ _ _ _ _ Hd5.out).mono ?_
            rintro e w6 ⟨rfl, hd6, hf6⟩
            have hb6 := Hb5.out.trans (hf6.below (fun j hj => by have := (Hd5.out.low j hj).1; omega) Hb5.out.size)
            have Hd6 := Lib.hid hd6
            have Hb6 := Lib.hid hb6
            clear hd6 hf6 hb6
            go_wp2_with fail
            go_roundw
            case rel => exact ⟨k + 1, _, G5, by omega, by go_num, Hd6.out, P3.out, Hb6.out⟩
            case measure => simp [intOf]; omega
          · have hP1 : D.barrier.2 = 0 := by rw [P1.out, if_neg ht]
            have hP2 : D.barrier.1.off = false := by rw [P2.out]; simpa using ht
            have hq1 : ((k : Int) == after) = false := by simpa using ht
            have hq2 : ((k : Int) != after) = true := by simpa using ht
            have HP1 := Lib.hid hP1
            have HP2 := Lib.hid hP2
            clear hP1 hP2 ht
            go_wp2_with fail
            refine (barrier_any _ _ _ D _ Hdv.out (by omega) (by omega)).mono ?_
            rintro e w5 ⟨rfl, hd5, hf5⟩
            rw [HP1.out]
            have hb5 := Hbw.out.trans (hf5.below (fun j hj => by have := (Hdv.out.low j hj).1; omega) hsw)
            obtain ⟨G5, hG5⟩ : ∃ G5, G5 = G := ⟨_, rfl⟩
            rw [← hG5] at hd5
            clear hG5
            have Hd5 := Lib.hid hd5
            have Hb5 := Lib.hid hb5
            clear hd5 hf5 hb5
            go_wp2_with fail
            refine (off_any _ _ _ _ _ Hd5.out).mono ?_
            rintro e w' ⟨rfl, rfl⟩
            rw [HP2.out]
            go_wp2_with fail
            refine (on_any _ _ _ _ _ Hd5.out).mono ?_
            rintro e w6 ⟨rfl, hd6, hf6⟩
            have hb6 := Hb5.out.trans (hf6.below (fun j hj => by have := (Hd5.out.low j hj).1; omega) Hb5.out.size)
            have Hd6 := Lib.hid hd6
            have Hb6 := Lib.hid hb6
            clear hd6 hf6 hb6
            go_wp2_with fail
            go_roundw
            case rel => exact ⟨k + 1, _, G5, by omega, by go_num, Hd6.out, P3.out, Hb6.out⟩
            case measure => simp [intOf]; omega
        · obtain ⟨p1, p2, p3⟩ := cutInv_put hinv ((k : Int) % 4) (fullB (UInt8.ofNat k) []) (by omega) (fullB_length _ _)
          have P1 := Lib.hid p1
          have P2 := Lib.hid p2
          have P3 := Lib.hid p3
          have Hu8 := Lib.hid (u8_nat k (by omega))
          have hd : ((k : Int) % 3 == 2) = false := by simpa using h3
          clear hdv hinv hbw hoff hch p1 p2 p3 h3
          by_cases ht : (k : Int) = after
          · have hP1 : (D.put ((k : Int) % 4) (fullB (UInt8.ofNat k) [])).2 = 6 := by rw [P1.out, if_pos ht]
            have hP2 : (D.put ((k : Int) % 4) (fullB (UInt8.ofNat k) [])).1.off = true := by rw [P2.out]; simpa using ht
            have hq1 : ((k : Int) == after) = true := by simpa using ht
            have hq2 : ((k : Int) != after) = false := by simpa using ht
            have HP1 := Lib.hid hP1
            have HP2 := Lib.hid hP2
            clear hP1 hP2 ht
            go_wp2_with fail
            rw [← Hu8.out]
            refine (full_any (UInt8.ofNat k) [] _).mono ?_
            rintro e w4 ⟨g4, rfl, hg4, hbl4, hb4⟩
            have Hdv4 := Lib.hid (Hdv.out.grow hb4)
            have Hbw4 := Lib.hid (below_call Hbw.out hb4)
            have Hbl4 := Lib.hid hbl4
            have hs4 := hb4.size
            have hs0 := Hdv4.out.size
            clear hbl4 hb4
            go_wp2_with fail
            refine (write_any _ _ _ D _ ((k : Int) % 4) _ _ _ Hdv4.out (isB_full Hbl4.out) (by omega) (by omega) (by omega)).mono ?_
            rintro e w5 ⟨rfl, G5, hd5, hf5⟩
            rw [HP1.out]
            have hb5 := Hbw4.out.trans (hf5.below (fun j hj => by have := (Hdv4.out.low j hj).1; omega) (by omega))
            have Hd5 := Lib.hid hd5
            have Hb5 := Lib.hid hb5
            clear hd5 hf5 hb5
            go_wp2_with fail
            refine (off_any _ _ _ _ _ Hd5.out).mono ?_
            rintro e w' ⟨rfl, rfl⟩
            rw [HP2.out]
            go_wp2_with fail
            refine (on_any _ _ _ _ _ Hd5.out).mono ?_
            rintro e w6 ⟨rfl, hd6, hf6⟩
            have hb6 := Hb5.out.trans (hf6.below (fun j hj => by have := (Hd5.out.low j hj).1; omega) Hb5.out.size)
            have Hd6 := Lib.hid hd6
            have Hb6 := Lib.hid hb6
            clear hd6 hf6 hb6
            go_wp2_with fail
            go_roundw
            case rel => exact ⟨k + 1, _, G5, by omega, by go_num, Hd6.out, P3.out, Hb6.out⟩
            case measure => simp [intOf]; omega
          · have hP1 : (D.put ((k : Int) % 4) (fullB (UInt8.ofNat k) [])).2 = 0 := by rw [P1.out, if_neg ht]
            have hP2 : (D.put ((k : Int) % 4) (fullB (UInt8.ofNat k) [])).1.off = false := by rw [P2.out]; simpa using ht
            have hq1 : ((k : Int) == after) = false := by simpa using ht
            have hq2 : ((k : Int) != after) = true := by simpa using ht
            have HP1 := Lib.hid hP1
            have HP2 := Lib.hid hP2
            clear hP1 hP2 ht
            go_wp2_with fail
            rw [← Hu8.out]
            refine (full_any (UInt8.ofNat k) [] _).mono ?_
            rintro e w4 ⟨g4, rfl, hg4, hbl4, hb4⟩
            have Hdv4 := Lib.hid (Hdv.out.grow hb4)
            have Hbw4 := Lib.hid (below_call Hbw.out hb4)
            have Hbl4 := Lib.hid hbl4
            have hs4 := hb4.size
            have hs0 := Hdv4.out.size
            clear hbl4 hb4
            go_wp2_with fail
            refine (write_any _ _ _ D _ ((k : Int) % 4) _ _ _ Hdv4.out (isB_full Hbl4.out) (by omega) (by omega) (by omega)).mono ?_
            rintro e w5 ⟨rfl, G5, hd5, hf5⟩
            rw [HP1.out]
            have hb5 := Hbw4.out.trans (hf5.below (fun j hj => by have := (Hdv4.out.low j hj).1; omega) (by omega))
            have Hd5 := Lib.hid hd5
            have Hb5 := Lib.hid hb5
            clear hd5 hf5 hb5
            go_wp2_with fail
            refine (off_any _ _ _ _ _ Hd5.out).mono ?_
            rintro e w' ⟨rfl, rfl⟩
            rw [HP2.out]
            go_wp2_with fail
            refine (on_any _ _ _ _ _ Hd5.out).mono ?_
            rintro e w6 ⟨rfl, hd6, hf6⟩
            have hb6 := Hb5.out.trans (hf6.below (fun j hj => by have := (Hd5.out.low j hj).1; omega) Hb5.out.size)
            have Hd6 := Lib.hid hd6
            have Hb6 := Lib.hid hb6
            clear hd6 hf6 hb6
            go_wp2_with fail
            go_roundw
            case rel => exact ⟨k + 1, _, G5, by omega, by go_num, Hd6.out, P3.out, Hb6.out⟩
            case measure => simp [intOf]; omega
      · obtain rfl : k = N := by omega
        have Hdv := Lib.hid hdv
        have Hch := Lib.hid hch
        have Hbw := Lib.hid hbw
        clear hdv hch hinv hoff hbw
        go_wp2_with fail
        refine (changes_any _ _ _ D _ Hdv.out).mono ?_
        rintro e w' ⟨rfl, rfl⟩
        rw [Hch.out]
        go_wp2_with fail
        go_ret
        exact ⟨by simp, Hbw.out⟩
  · go_enter Try.func5, Try.ntmps5
    go_wp2_with fail
    rw [← HW.out]
    refine (lives_any _).mono ?_
    rintro e w1 ⟨rfl, hb1⟩
    have hb01 := below_call Hba.out hb1
    have hbx1 := Hbx.out.grow hb1
    have he0 := hbx1.cell 0
    simp at he0
    by_cases g1 : n < 0
    · clear hfit
      go_wp2_with fail
      refine (lives_any _).mono ?_
      rintro e w2 ⟨rfl, hb2⟩
      go_wp2
      go_ret
      exact ⟨rfl, below_call hb01 hb2⟩
    · by_cases g2 : 40 < n
      · clear hfit
        go_wp2_with fail
        refine (lives_any _).mono ?_
        rintro e w2 ⟨rfl, hb2⟩
        go_wp2
        go_ret
        exact ⟨rfl, below_call hb01 hb2⟩
      · have g3 : (70 : Int) < (c.kept.length : Int) := by omega
        clear hfit
        go_wp2_with fail
        refine (lives_any _).mono ?_
        rintro e w2 ⟨rfl, hb2⟩
        go_wp2
        go_ret
        exact ⟨rfl, below_call hb01 hb2⟩
end Go.Proofs.Ytodcjhkleiibfaa
