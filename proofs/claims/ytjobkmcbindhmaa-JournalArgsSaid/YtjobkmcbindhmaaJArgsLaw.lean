/-
  The walk of JournalArgs.
-/
import Derived.Test.YtjobkmcbindhmaaJLives
namespace Go.Proofs.Ytjobkmcbindhmaa
open Go.RowKit
set_option maxRecDepth 100000

theorem run_bytesN (n : Nat) (h : n ≤ 1099511627776) (u : World) : (Instr.makeSlice 48 (.int .i64 (n : Int)) (.int .i64 (n : Int))).run Try.prog u = .ok (.slice (some ⟨u.heap.size, 0, none⟩) n n) (u.alloc (.cells (Array.replicate n (.int .u8 0)) 5)) := by
  have hr := run_make_row' (P := Try.prog) 48 5 (.int .u8 0) 1 Try.underlying48 (by kernel_rfl) rfl .i64 .i64 n (by omega) (by omega) u
  rw [show (#[Value.int .u8 0] : Array Value) = Array.replicate 1 (.int .u8 0) from rfl, madeCells_rep _ 1 _ (by decide)] at hr
  exact hr
theorem recB_big (r : List UInt8) : r.length + 4 ≤ (recB r).length := by
  unfold recB
  rw [fieldB_length, List.length_append, sumB_length]
  omega
theorem recsB_big (L : List (List UInt8)) (r : List UInt8) (h : r ∈ L) : r.length + 4 ≤ (recsB L).length := by
  induction L with
  | nil => simp at h
  | cons a L ih =>
    have e : (recsB (a :: L)).length = (recB a).length + (recsB L).length := by
      show (recB a ++ recsB L).length = _
      rw [List.length_append]
    rw [e]
    rcases List.mem_cons.1 h with rfl | h
    · have := recB_big r
      omega
    · have := ih h
      omega
/-- A record that is too long for the device, or for any one. -/
theorem big_add {D : Dev} {J : JM} {L : List (List UInt8)} (h : JInv D J L) (hn : J.number + 1 ≤ 4611686018427387904) (hs : sideN D ≤ 14) (M : List (List UInt8)) (k : Nat) (hk : 65529 ≤ k) (z : List UInt8) (hz : z.length = k) (hm : z ∈ M) (hrest : ∀ r ∈ M, r = z ∨ r.length ≤ 65531) :
    addJ J D M = ((J, D), if 65531 < k then 4 else 5) ∧ repJ J D M = ((J, D), if 65531 < k then 4 else 5) := by
  by_cases hl : 65531 < k
  · have hf : ¬ fewLong M := fun h => by have := h z hm; omega
    rw [if_pos hl]
    unfold addJ repJ
    rw [if_neg (by rw [h.brk]; decide), if_pos hf, if_neg (by rw [h.brk]; decide), if_pos hf]
    exact ⟨rfl, rfl⟩
  · rw [if_neg hl]
    have hf : fewLong M := fun r hr => by
      rcases hrest r hr with rfl | h
      · omega
      · exact h
    have hb := recsB_big M z hm
    constructor
    · rcases add_inv h hn M hf with ⟨_, b⟩ | ⟨a, _⟩ | ⟨a, _⟩
      · exact b
      · omega
      · omega
    · rcases rep_inv h hn M hf with ⟨_, b⟩ | ⟨a, _⟩ | ⟨a, _⟩
      · exact b
      · omega
      · omega

theorem isBB_nil (w : World) : IsBB w (fun _ => True) (.slice none 0 0) [] := ⟨none, 0, [], rfl, rfl, Nat.le_refl _, Nat.zero_le _, Rd.nil, fun i h => by simp at h⟩
theorem isBB_one (w : World) : IsBB (w.alloc (.cells #[.slice none 0 0] 48)) (fun _ => True) (.slice (some ⟨w.heap.size, 0, none⟩) 1 1) [[]] := by
  refine isBB_of [(.slice none 0 0, [])] (by simp) (by unfold maxLen; omega) ((Blk.new w 48 #[.slice none 0 0]).rd _ trivial) ?_
  intro p hp
  simp only [List.mem_cons, List.not_mem_nil, or_false] at hp
  subst hp
  exact ⟨none, 0, rfl, Nat.le_refl _, Nat.zero_le _, Rd.nil⟩
theorem isB_zeros (w : World) (N : Nat) (h : N ≤ 1099511627776) : IsB (w.alloc (.cells (Array.replicate N (.int .u8 0)) 5)) (fun _ => True) (.slice (some ⟨w.heap.size, 0, none⟩) N N) (List.replicate N 0) := by
  refine ⟨_, N, by rw [List.length_replicate], by rw [List.length_replicate]; exact Nat.le_refl _, by unfold maxLen; omega, ?_⟩
  have := (Blk.new w 5 (Array.replicate N (.int .u8 0))).rd (fun _ => True) trivial
  rw [show (List.replicate N (0 : UInt8)).map u8 = (Array.replicate N (Value.int .u8 0)).toList by rw [List.map_replicate]; simp [u8]]
  exact this
theorem isBB_z1 (w : World) (N : Nat) (h : N ≤ 1099511627776) : IsBB ((w.alloc (.cells (Array.replicate N (.int .u8 0)) 5)).alloc (.cells #[.slice (some ⟨w.heap.size, 0, none⟩) N N] 48)) (fun _ => True) (.slice (some ⟨w.heap.size + 1, 0, none⟩) 1 1) [List.replicate N 0] := by
  have hb := (Blk.new (w.alloc (.cells (Array.replicate N (.int .u8 0)) 5)) 48 #[.slice (some ⟨w.heap.size, 0, none⟩) N N]).rd (fun _ => True) trivial
  rw [World.size_alloc] at hb
  refine isBB_of [(.slice (some ⟨w.heap.size, 0, none⟩) N N, List.replicate N 0)] (by simp) (by unfold maxLen; omega) hb ?_
  intro p hp
  simp only [List.mem_cons, List.not_mem_nil, or_false] at hp
  subst hp
  exact (isB_zeros w N h).grow ((Below.refl _ _).alloc (Nat.le_refl _) _)
theorem isBB_z2 (w : World) (N : Nat) (h : N ≤ 1099511627776) : IsBB ((w.alloc (.cells (Array.replicate N (.int .u8 0)) 5)).alloc (.cells #[.slice none 0 0, .slice (some ⟨w.heap.size, 0, none⟩) N N] 48)) (fun _ => True) (.slice (some ⟨w.heap.size + 1, 0, none⟩) 2 2) [[], List.replicate N 0] := by
  have hb := (Blk.new (w.alloc (.cells (Array.replicate N (.int .u8 0)) 5)) 48 #[.slice none 0 0, .slice (some ⟨w.heap.size, 0, none⟩) N N]).rd (fun _ => True) trivial
  rw [World.size_alloc] at hb
  refine isBB_of [(.slice none 0 0, []), (.slice (some ⟨w.heap.size, 0, none⟩) N N, List.replicate N 0)] (by simp) (by unfold maxLen; omega) hb ?_
  intro p hp
  simp only [List.mem_cons, List.not_mem_nil, or_false] at hp
  rcases hp with rfl | rfl
  · exact ⟨none, 0, rfl, Nat.le_refl _, Nat.zero_le _, Rd.nil⟩
  · exact (isB_zeros w N h).grow ((Below.refl _ _).alloc (Nat.le_refl _) _)

set_option maxHeartbeats 1000000 in
theorem journalargs_small (m : Nat) (long : Int) (w : World) (hm : 1 ≤ m) (hm6 : m < 6) :
    Calls Try.prog 6 #[.int .i64 (m : Int), .int .i64 long] w fun e w' => e = .returned (.bool true) ∧ Below w.heap.size w w' := by
  have hM : openM (newD m) = ((newD m, 1), noJ) := by
    unfold openM
    rw [if_pos (by show (List.replicate m _).length < 6; rw [List.length_replicate]; exact hm6)]
  have HM := Lib.hid hM
  clear hM
  go_enter Try.func6, Try.ntmps6
  go_wp2_with fail
  refine (lives_any _).mono ?_
  rintro e w1 ⟨rfl, hb1⟩
  go_wp2_with fail
  refine (new_ok m w1 (by omega) (by omega)).mono ?_
  rintro e w2 ⟨g, F2, rfl, hd2, hb2⟩
  have Hd2 := Lib.hid hd2
  have Hb2 := Lib.hid (below_call hb1 hb2)
  have hs1 := hb1.size
  have hs2 := hb2.size
  clear hd2 hb1 hb2
  go_wp2_with fail
  refine (jopen_any _ _ _ _ _ (newD_few m 900000) Hd2.out).mono ?_
  rintro e w3 ⟨vp, x, rfl, G3, hd3, hfr3, ⟨_, rfl, rfl⟩ | ⟨hbad, _⟩⟩
  case inr =>
    rw [HM.out] at hbad
    exact absurd hbad (by simp)
  rw [HM.out] at hd3 ⊢
  dsimp only at hd3 ⊢
  have hb3 := below_dev Hb2.out Hd2.out hs1 hfr3
  have Hd3 := Lib.hid hd3
  have Hb3 := Lib.hid hb3
  clear hd3 hb3 hfr3
  go_wp2_with fail
  refine (jopen_nil _).mono ?_
  rintro e w' ⟨rfl, rfl⟩
  go_wp2_with fail
  refine (jadd_nil _ _).mono ?_
  rintro e w' ⟨rfl, rfl⟩
  go_wp2_with fail
  refine (jreplace_nil _ _).mono ?_
  rintro e w' ⟨rfl, rfl⟩
  go_wp2_with fail
  refine (jroom_nil _).mono ?_
  rintro e w' ⟨rfl, rfl⟩
  go_wp2_with fail
  refine (jlen_nil _).mono ?_
  rintro e w' ⟨rfl, rfl⟩
  go_wp2_with fail
  refine (jbroken_nil _).mono ?_
  rintro e w' ⟨rfl, rfl⟩
  go_wp2_with fail
  refine (changes_any _ _ _ (newD m) _ (Hd3.out.alloc_ _)).mono ?_
  rintro e w' ⟨rfl, rfl⟩
  go_wp2
  go_ret
  exact ⟨rfl, (Hb3.out.alloc Hb3.out.size _)⟩

set_option maxHeartbeats 1000000 in
theorem journalargs_big (m : Nat) (long : Int) (w : World) (hm6 : 6 ≤ m) (hm : m ≤ 30) :
    Calls Try.prog 6 #[.int .i64 (m : Int), .int .i64 long] w fun e w' => e = .returned (.bool true) ∧ Below w.heap.size w w' := by
  obtain ⟨D1, ho1, hi1, hl1, hn1, hc1, hlo1⟩ := open_new m hm6 (by omega)
  have hs1 : sideN D1 ≤ 14 := by unfold sideN; omega
  obtain ⟨k, hk5, hkk⟩ := mod_idx long 5 (by omega) (by omega)
  rw [show ((5 : Nat) : Int) = 5 from rfl] at hkk
  obtain ⟨N, hN⟩ : ∃ N, N = 65529 + k := ⟨_, rfl⟩
  have hN5 : N ≤ 65533 := by omega
  have hNk : 65529 + (k : Int) = (N : Int) := by omega
  have HM := Lib.hid ho1
  have Hi1 := Lib.hid hi1
  have Hs1 := Lib.hid hs1
  have Hf1 := Lib.hid (show D1.Few 10 from ⟨by rw [hlo1]; decide, by rw [hc1]; decide⟩)
  have Hc1 := Lib.hid hc1
  have hfit := hi1.fit
  have hfit2 : JFit ⟨1, 0, 0, 0, true⟩ (D1.cut ⟨[], 0, 0⟩) := ⟨by decide, by decide, Nat.zero_le _, by decide, by rw [cut_length]; exact hfit.big⟩
  have hfit3 : JFit ⟨1, 0, 0, 0, false⟩ (D1.cut ⟨[], 0, 0⟩) := ⟨by decide, by decide, Nat.zero_le _, by decide, by rw [cut_length]; exact hfit.big⟩
  have hoff2 : (D1.cut ⟨[], 0, 0⟩).off = true := by unfold Dev.cut; rw [if_neg (by rw [hi1.off]; decide)]
  have hbig := big_add hi1 (by decide) hs1
  have hadd0 : addJ ⟨1, 0, 0, 0, false⟩ D1 [] = ((⟨1, 0, 0, 0, false⟩, D1), 0) := by
    unfold addJ
    rw [if_neg (by decide), if_neg (not_not_intro (by decide : fewLong [])), if_pos rfl]
  have hb1 : addJ ⟨1, 0, 0, 0, false⟩ D1 [List.replicate N 0] = ((⟨1, 0, 0, 0, false⟩, D1), if 65531 < N then 4 else 5) := (hbig [List.replicate N 0] N (by omega) (List.replicate N 0) List.length_replicate (by simp) (fun r hr => .inl (by simpa using hr))).1
  have hb2 : repJ ⟨1, 0, 0, 0, false⟩ D1 [[], List.replicate N 0] = ((⟨1, 0, 0, 0, false⟩, D1), if 65531 < N then 4 else 5) := (hbig [[], List.replicate N 0] N (by omega) (List.replicate N 0) List.length_replicate (by simp) (fun r hr => by
    simp only [List.mem_cons, List.not_mem_nil, or_false] at hr
    rcases hr with rfl | rfl
    · exact .inr (Nat.zero_le _)
    · exact .inl rfl)).2
  have hone : (recsB [[]]).length = 5 := by decide +kernel
  have hsz2 : sideN (D1.cut ⟨[], 0, 0⟩) = sideN D1 := sideN_same (cut_length _ _)
  have hs2 : 2 ≤ sideN D1 := by unfold sideN; omega
  have hadd1 : addJ ⟨1, 0, 0, 0, false⟩ (D1.cut ⟨[], 0, 0⟩) [[]] = ((⟨1, 0, 0, 0, true⟩, D1.cut ⟨[], 0, 0⟩), 6) := by
    unfold addJ
    rw [if_neg (by decide), if_neg (not_not_intro (by decide : fewLong [[]])), if_neg (by decide)]
    unfold putJ
    rw [if_neg (by decide), if_neg (by rw [hone, hsz2]; dsimp only; omega), storeD_off _ hoff2, if_pos (by simp)]
  have hadd2 : addJ ⟨1, 0, 0, 0, true⟩ (D1.cut ⟨[], 0, 0⟩) [[]] = ((⟨1, 0, 0, 0, true⟩, D1.cut ⟨[], 0, 0⟩), 3) := by unfold addJ; rw [if_pos rfl]
  have hrep2 : repJ ⟨1, 0, 0, 0, true⟩ (D1.cut ⟨[], 0, 0⟩) [[]] = ((⟨1, 0, 0, 0, true⟩, D1.cut ⟨[], 0, 0⟩), 3) := by unfold repJ; rw [if_pos rfl]
  have hM2 : openM (D1.cut ⟨[], 0, 0⟩) = ((D1.cut ⟨[], 0, 0⟩, 6), noJ) := by
    unfold openM
    rw [if_neg (by rw [cut_length]; omega), if_pos hoff2]
  have hll : D1.loose.length ≤ 1099511627776 := by rw [hlo1]; decide
  have Hfit := Lib.hid hfit
  have Hfit2 := Lib.hid hfit2
  have Hfit3 := Lib.hid hfit3
  have Hadd0 := Lib.hid hadd0
  have Ha1 := Lib.hid hb1
  have Hr1 := Lib.hid hb2
  have Hadd1 := Lib.hid hadd1
  have Hadd2 := Lib.hid hadd2
  have Hrep2 := Lib.hid hrep2
  have HM2 := Lib.hid hM2
  have Hll := Lib.hid hll
  have Hf2 := Lib.hid (cut_few (show D1.Few 10 from ⟨by rw [hlo1]; decide, by rw [hc1]; decide⟩) ⟨[], 0, 0⟩)
  clear ho1 hi1 hs1 hl1 hlo1 hN hc1 hfit hfit2 hfit3 hoff2 hbig hadd0 hb1 hb2 hone hsz2 hs2 hadd1 hadd2 hrep2 hM2 hll
  have hmk := run_bytesN N (by omega)
  obtain ⟨E, hE⟩ : ∃ E : Int, E = if 65531 < N then 4 else 5 := ⟨_, rfl⟩
  rw [← hE] at Ha1 Hr1
  have HE := Lib.hid hE
  clear hE
  go_enter Try.func6, Try.ntmps6
  go_wp2_with fail
  refine (lives_any _).mono ?_
  rintro e w1 ⟨rfl, hb1⟩
  go_wp2_with fail
  refine (new_ok m w1 (by omega) (by omega)).mono ?_
  rintro e w2 ⟨g, F2, rfl, hd2, hb2⟩
  have Hd2 := Lib.hid hd2
  have Hb2 := Lib.hid (below_call hb1 hb2)
  have hs1 := hb1.size
  have hs2 := hb2.size
  clear hd2 hb1 hb2
  go_wp2_with fail
  refine (jopen_any _ _ _ _ _ (newD_few m 900000) Hd2.out).mono ?_
  rintro e w3 ⟨vp, x, rfl, G3, hd3, hfr3, ⟨hbad, _⟩ | ⟨_, j, B3, rfl, hja3, hB3, hG3, hx3, hBj⟩⟩
  · rw [HM.out] at hbad
    exact absurd rfl hbad
  rw [HM.out] at hd3 hja3 hx3 ⊢
  dsimp only at hd3 hja3 hx3 ⊢
  obtain ⟨vs3, hown3, hvl3, _⟩ := hx3
  obtain ⟨A3, c3, hxe3, _, _, _⟩ := hown3.form
  rw [hvl3, List.length_nil] at hxe3
  subst hxe3
  have hb3 := below_dev Hb2.out Hd2.out hs1 hfr3
  have hnj3 : ¬ G3 j := fun h => by have := hG3 _ h; omega
  have Hd3 := Lib.hid hd3
  have Hja3 := Lib.hid hja3
  have Hb3 := Lib.hid hb3
  have Hnj3 := Lib.hid hnj3
  have hs3 := hb3.size
  have hs12 : w.heap.size ≤ w1.heap.size := hs1
  have hwj : w1.heap.size ≤ j := by omega
  clear hd3 hja3 hb3 hnj3 hG3 hfr3 hown3
  go_wp2_with fail
  refine (jopen_nil _).mono ?_
  rintro e w' ⟨rfl, rfl⟩
  go_wp2_with fail
  refine (jadd_nil _ _).mono ?_
  rintro e w' ⟨rfl, rfl⟩
  go_wp2_with fail
  refine (jreplace_nil _ _).mono ?_
  rintro e w' ⟨rfl, rfl⟩
  go_wp2_with fail
  refine (jroom_nil _).mono ?_
  rintro e w' ⟨rfl, rfl⟩
  go_wp2_with fail
  refine (jlen_nil _).mono ?_
  rintro e w' ⟨rfl, rfl⟩
  go_wp2_with fail
  refine (jbroken_nil _).mono ?_
  rintro e w' ⟨rfl, rfl⟩
  have hs3' := Hb3.out.size
  have hwa : Below w3.heap.size w3 (w3.alloc (.cells #[.slice none 0 0] 48)) := (Below.refl _ _).alloc (Nat.le_refl _) _
  have Hd4 := Lib.hid (Hd3.out.grow hwa)
  have Hja4 := Lib.hid (Hja3.out.grow hwa)
  have Hb4 := Lib.hid (below_call Hb3.out hwa)
  clear hwa
  by_cases hbig : 65531 < N
  · have hE : E = 4 := by rw [HE.out, if_pos hbig]
    subst hE
    have hbi : (65531 : Int) < (N : Int) := by omega
    clear hbig
    go_wp2_with fail
    refine (jadd_any w1.heap.size G3 (fun _ => True) j g ⟨1, 0, 0, 0, false⟩ D1 _ [] _ Hfit.out (Hf1.out.mono (by decide)) Hd4.out Hja4.out Hnj3.out (isBB_nil _)).mono ?_
    rintro e w5 hp5
    have hb5 := hp5.below Hd4.out hwj
    obtain ⟨rfl, G5, hd5, hja5, hnj5, _⟩ := hp5
    rw [Hadd0.out] at hd5 hja5 ⊢
    dsimp only at hd5 hja5 ⊢
    have Hb5 := Lib.hid (Hb4.out.trans (hb5.mono hs12))
    have Hd5 := Lib.hid hd5
    have Hja5 := Lib.hid hja5
    have Hnj5 := Lib.hid hnj5
    clear hb5 hd5 hja5 hnj5
    go_wp2_with fail
    refine (changes_any _ _ _ D1 _ Hd5.out).mono ?_
    rintro e w' ⟨rfl, rfl⟩
    rw [Hc1.out, show ((2 : Nat) : Int) = 2 from rfl]
    have hbz : Below w5.heap.size w5 ((w5.alloc (.cells (Array.replicate N (.int .u8 0)) 5)).alloc (.cells #[.slice (some ⟨w5.heap.size, 0, none⟩) N N] 48)) := ((Below.refl _ _).alloc (Nat.le_refl _) _).alloc (by simp) _
    have Hadd5 := Lib.hid (jadd_any w1.heap.size G5 (fun _ => True) j g ⟨1, 0, 0, 0, false⟩ D1 _ [List.replicate N 0] _ Hfit.out (Hf1.out.mono (by decide)) (Hd5.out.grow hbz) (Hja5.out.grow hbz) Hnj5.out (isBB_z1 w5 N (by omega)))
    have Hbz := Lib.hid hbz
    clear hbz
    go_wp2_with fail
    refine Hadd5.out.mono ?_
    rintro e w6 hp6
    have hb6 := hp6.below (Hd5.out.grow Hbz.out) hwj
    obtain ⟨rfl, G6, hd6, hja6, hnj6, _⟩ := hp6
    rw [Ha1.out] at hd6 hja6 ⊢
    dsimp only at hd6 hja6 ⊢
    have Hb6 := Lib.hid ((below_call Hb5.out Hbz.out).trans (hb6.mono hs12))
    have Hd6 := Lib.hid hd6
    have Hja6 := Lib.hid hja6
    have Hnj6 := Lib.hid hnj6
    clear hb6 hd6 hja6 hnj6
    clear Hadd5 Hbz
    have hbz : Below w6.heap.size w6 ((w6.alloc (.cells (Array.replicate N (.int .u8 0)) 5)).alloc (.cells #[.slice none 0 0, .slice (some ⟨w6.heap.size, 0, none⟩) N N] 48)) := ((Below.refl _ _).alloc (Nat.le_refl _) _).alloc (by simp) _
    have Hrep6 := Lib.hid (jreplace_any w1.heap.size G6 (fun _ => True) j g ⟨1, 0, 0, 0, false⟩ D1 _ [[], List.replicate N 0] _ Hfit.out (Hf1.out.mono (by decide)) (Hd6.out.grow hbz) (Hja6.out.grow hbz) Hnj6.out (isBB_z2 w6 N (by omega)))
    have Hbz := Lib.hid hbz
    clear hbz
    go_wp2_with fail
    refine Hrep6.out.mono ?_
    rintro e w7 hp7
    have hb7 := hp7.below (Hd6.out.grow Hbz.out) hwj
    obtain ⟨rfl, G7, hd7, hja7, hnj7, _⟩ := hp7
    rw [Hr1.out] at hd7 hja7 ⊢
    dsimp only at hd7 hja7 ⊢
    have Hb7 := Lib.hid ((below_call Hb6.out Hbz.out).trans (hb7.mono hs12))
    have Hd7 := Lib.hid hd7
    have Hja7 := Lib.hid hja7
    have Hnj7 := Lib.hid hnj7
    clear hb7 hd7 hja7 hnj7
    clear Hrep6 Hbz
    go_wp2_with fail
    refine (changes_any _ _ _ D1 _ Hd7.out).mono ?_
    rintro e w' ⟨rfl, rfl⟩
    rw [Hc1.out, show ((2 : Nat) : Int) = 2 from rfl]
    go_wp2_with fail
    refine (cut_any _ _ _ D1 (fun _ => True) (.slice none 0 0) ⟨[], 0, 0⟩ _ Hd7.out IsL.nil Hll.out).mono ?_
    rintro e w8 ⟨rfl, hd8, hf8⟩
    have hb8 := hf8.below (fun k hk => (Hd7.out.low k hk).1) Hd7.out.size
    have hja8 := Hja7.out.keep (hf8.block j Hja7.out.blk.lt Hnj7.out).2
    have Hb8 := Lib.hid (Hb7.out.trans (hb8.mono hs12))
    have Hd8 := Lib.hid hd8
    have Hja8 := Lib.hid hja8
    clear hb8 hf8 hd8 hja8
    go_wp2_with fail
    refine (jopen_any _ _ _ _ _ (Hf2.out.mono (by decide)) Hd8.out).mono ?_
    rintro e w9 ⟨vp, x, rfl, G9, hd9, hf9, hpost⟩
    rw [HM2.out] at hd9 hpost ⊢
    dsimp only at hd9 hpost ⊢
    rcases hpost with ⟨_, rfl, rfl⟩ | ⟨hbad, _⟩
    case inr => exact absurd hbad (by decide)
    have hb9 := hf9.below (fun k hk => (Hd8.out.low k hk).1) Hd8.out.size
    have hk9 := hf9.block j Hja8.out.blk.lt Hnj7.out
    have Hb9 := Lib.hid (Hb8.out.trans (hb9.mono hs12))
    have Hd9 := Lib.hid hd9
    have Hja9 := Lib.hid (Hja8.out.keep hk9.2)
    have Hnj9 := Lib.hid hk9.1
    clear hb9 hf9 hd9 hk9
    have hbz : Below w9.heap.size w9 (w9.alloc (.cells #[.slice none 0 0] 48)) := (Below.refl _ _).alloc (Nat.le_refl _) _
    have Hadd9 := Lib.hid (jadd_any w1.heap.size G9 (fun _ => True) j g ⟨1, 0, 0, 0, false⟩ (D1.cut ⟨[], 0, 0⟩) _ [[]] _ Hfit3.out (Hf2.out.mono (by decide)) (Hd9.out.grow hbz) (Hja9.out.grow hbz) Hnj9.out (isBB_one w9))
    have Hbz := Lib.hid hbz
    clear hbz
    go_wp2_with fail
    refine Hadd9.out.mono ?_
    rintro e w10 hp10
    have hb10 := hp10.below (Hd9.out.grow Hbz.out) hwj
    obtain ⟨rfl, G10, hd10, hja10, hnj10, _⟩ := hp10
    rw [Hadd1.out] at hd10 hja10 ⊢
    dsimp only at hd10 hja10 ⊢
    have Hb10 := Lib.hid ((below_call Hb9.out Hbz.out).trans (hb10.mono hs12))
    have Hd10 := Lib.hid hd10
    have Hja10 := Lib.hid hja10
    have Hnj10 := Lib.hid hnj10
    clear hb10 hd10 hja10 hnj10
    clear Hadd9 Hbz
    go_wp2_with fail
    refine (jbroken_any _ j g _ Hja10.out).mono ?_
    rintro e w' ⟨rfl, rfl⟩
    have hbz : Below w10.heap.size w10 (w10.alloc (.cells #[.slice none 0 0] 48)) := (Below.refl _ _).alloc (Nat.le_refl _) _
    have Hadd10 := Lib.hid (jadd_any w1.heap.size G10 (fun _ => True) j g ⟨1, 0, 0, 0, true⟩ (D1.cut ⟨[], 0, 0⟩) _ [[]] _ Hfit2.out (Hf2.out.mono (by decide)) (Hd10.out.grow hbz) (Hja10.out.grow hbz) Hnj10.out (isBB_one w10))
    have Hbz := Lib.hid hbz
    clear hbz
    go_wp2_with fail
    refine Hadd10.out.mono ?_
    rintro e w11 hp11
    have hb11 := hp11.below (Hd10.out.grow Hbz.out) hwj
    obtain ⟨rfl, G11, hd11, hja11, hnj11, _⟩ := hp11
    rw [Hadd2.out] at hd11 hja11 ⊢
    dsimp only at hd11 hja11 ⊢
    have Hb11 := Lib.hid ((below_call Hb10.out Hbz.out).trans (hb11.mono hs12))
    have Hd11 := Lib.hid hd11
    have Hja11 := Lib.hid hja11
    have Hnj11 := Lib.hid hnj11
    clear hb11 hd11 hja11 hnj11
    clear Hadd10 Hbz
    have hbz : Below w11.heap.size w11 (w11.alloc (.cells #[.slice none 0 0] 48)) := (Below.refl _ _).alloc (Nat.le_refl _) _
    have Hrep11 := Lib.hid (jreplace_any w1.heap.size G11 (fun _ => True) j g ⟨1, 0, 0, 0, true⟩ (D1.cut ⟨[], 0, 0⟩) _ [[]] _ Hfit2.out (Hf2.out.mono (by decide)) (Hd11.out.grow hbz) (Hja11.out.grow hbz) Hnj11.out (isBB_one w11))
    have Hbz := Lib.hid hbz
    clear hbz
    go_wp2_with fail
    refine Hrep11.out.mono ?_
    rintro e w12 hp12
    have hb12 := hp12.below (Hd11.out.grow Hbz.out) hwj
    obtain ⟨rfl, G12, hd12, hja12, hnj12, _⟩ := hp12
    rw [Hrep2.out] at hd12 hja12 ⊢
    dsimp only at hd12 hja12 ⊢
    have Hb12 := Lib.hid ((below_call Hb11.out Hbz.out).trans (hb12.mono hs12))
    have Hd12 := Lib.hid hd12
    have Hja12 := Lib.hid hja12
    have Hnj12 := Lib.hid hnj12
    clear hb12 hd12 hja12 hnj12
    go_wp2
    go_ret
    exact ⟨rfl, Hb12.out⟩
  · have hE : E = 5 := by rw [HE.out, if_neg hbig]
    subst hE
    have hbi : ¬ (65531 : Int) < (N : Int) := by omega
    clear hbig
    go_wp2_with fail
    refine (jadd_any w1.heap.size G3 (fun _ => True) j g ⟨1, 0, 0, 0, false⟩ D1 _ [] _ Hfit.out (Hf1.out.mono (by decide)) Hd4.out Hja4.out Hnj3.out (isBB_nil _)).mono ?_
    rintro e w5 hp5
    have hb5 := hp5.below Hd4.out hwj
    obtain ⟨rfl, G5, hd5, hja5, hnj5, _⟩ := hp5
    rw [Hadd0.out] at hd5 hja5 ⊢
    dsimp only at hd5 hja5 ⊢
    have Hb5 := Lib.hid (Hb4.out.trans (hb5.mono hs12))
    have Hd5 := Lib.hid hd5
    have Hja5 := Lib.hid hja5
    have Hnj5 := Lib.hid hnj5
    clear hb5 hd5 hja5 hnj5
    go_wp2_with fail
    refine (changes_any _ _ _ D1 _ Hd5.out).mono ?_
    rintro e w' ⟨rfl, rfl⟩
    rw [Hc1.out, show ((2 : Nat) : Int) = 2 from rfl]
    have hbz : Below w5.heap.size w5 ((w5.alloc (.cells (Array.replicate N (.int .u8 0)) 5)).alloc (.cells #[.slice (some ⟨w5.heap.size, 0, none⟩) N N] 48)) := ((Below.refl _ _).alloc (Nat.le_refl _) _).alloc (by simp) _
    have Hadd5 := Lib.hid (jadd_any w1.heap.size G5 (fun _ => True) j g ⟨1, 0, 0, 0, false⟩ D1 _ [List.replicate N 0] _ Hfit.out (Hf1.out.mono (by decide)) (Hd5.out.grow hbz) (Hja5.out.grow hbz) Hnj5.out (isBB_z1 w5 N (by omega)))
    have Hbz := Lib.hid hbz
    clear hbz
    go_wp2_with fail
    refine Hadd5.out.mono ?_
    rintro e w6 hp6
    have hb6 := hp6.below (Hd5.out.grow Hbz.out) hwj
    obtain ⟨rfl, G6, hd6, hja6, hnj6, _⟩ := hp6
    rw [Ha1.out] at hd6 hja6 ⊢
    dsimp only at hd6 hja6 ⊢
    have Hb6 := Lib.hid ((below_call Hb5.out Hbz.out).trans (hb6.mono hs12))
    have Hd6 := Lib.hid hd6
    have Hja6 := Lib.hid hja6
    have Hnj6 := Lib.hid hnj6
    clear hb6 hd6 hja6 hnj6
    clear Hadd5 Hbz
    have hbz : Below w6.heap.size w6 ((w6.alloc (.cells (Array.replicate N (.int .u8 0)) 5)).alloc (.cells #[.slice none 0 0, .slice (some ⟨w6.heap.size, 0, none⟩) N N] 48)) := ((Below.refl _ _).alloc (Nat.le_refl _) _).alloc (by simp) _
    have Hrep6 := Lib.hid (jreplace_any w1.heap.size G6 (fun _ => True) j g ⟨1, 0, 0, 0, false⟩ D1 _ [[], List.replicate N 0] _ Hfit.out (Hf1.out.mono (by decide)) (Hd6.out.grow hbz) (Hja6.out.grow hbz) Hnj6.out (isBB_z2 w6 N (by omega)))
    have Hbz := Lib.hid hbz
    clear hbz
    go_wp2_with fail
    refine Hrep6.out.mono ?_
    rintro e w7 hp7
    have hb7 := hp7.below (Hd6.out.grow Hbz.out) hwj
    obtain ⟨rfl, G7, hd7, hja7, hnj7, _⟩ := hp7
    rw [Hr1.out] at hd7 hja7 ⊢
    dsimp only at hd7 hja7 ⊢
    have Hb7 := Lib.hid ((below_call Hb6.out Hbz.out).trans (hb7.mono hs12))
    have Hd7 := Lib.hid hd7
    have Hja7 := Lib.hid hja7
    have Hnj7 := Lib.hid hnj7
    clear hb7 hd7 hja7 hnj7
    clear Hrep6 Hbz
    go_wp2_with fail
    refine (changes_any _ _ _ D1 _ Hd7.out).mono ?_
    rintro e w' ⟨rfl, rfl⟩
    rw [Hc1.out, show ((2 : Nat) : Int) = 2 from rfl]
    go_wp2_with fail
    refine (cut_any _ _ _ D1 (fun _ => True) (.slice none 0 0) ⟨[], 0, 0⟩ _ Hd7.out IsL.nil Hll.out).mono ?_
    rintro e w8 ⟨rfl, hd8, hf8⟩
    have hb8 := hf8.below (fun k hk => (Hd7.out.low k hk).1) Hd7.out.size
    have hja8 := Hja7.out.keep (hf8.block j Hja7.out.blk.lt Hnj7.out).2
    have Hb8 := Lib.hid (Hb7.out.trans (hb8.mono hs12))
    have Hd8 := Lib.hid hd8
    have Hja8 := Lib.hid hja8
    clear hb8 hf8 hd8 hja8
    go_wp2_with fail
    refine (jopen_any _ _ _ _ _ (Hf2.out.mono (by decide)) Hd8.out).mono ?_
    rintro e w9 ⟨vp, x, rfl, G9, hd9, hf9, hpost⟩
    rw [HM2.out] at hd9 hpost ⊢
    dsimp only at hd9 hpost ⊢
    rcases hpost with ⟨_, rfl, rfl⟩ | ⟨hbad, _⟩
    case inr => exact absurd hbad (by decide)
    have hb9 := hf9.below (fun k hk => (Hd8.out.low k hk).1) Hd8.out.size
    have hk9 := hf9.block j Hja8.out.blk.lt Hnj7.out
    have Hb9 := Lib.hid (Hb8.out.trans (hb9.mono hs12))
    have Hd9 := Lib.hid hd9
    have Hja9 := Lib.hid (Hja8.out.keep hk9.2)
    have Hnj9 := Lib.hid hk9.1
    clear hb9 hf9 hd9 hk9
    have hbz : Below w9.heap.size w9 (w9.alloc (.cells #[.slice none 0 0] 48)) := (Below.refl _ _).alloc (Nat.le_refl _) _
    have Hadd9 := Lib.hid (jadd_any w1.heap.size G9 (fun _ => True) j g ⟨1, 0, 0, 0, false⟩ (D1.cut ⟨[], 0, 0⟩) _ [[]] _ Hfit3.out (Hf2.out.mono (by decide)) (Hd9.out.grow hbz) (Hja9.out.grow hbz) Hnj9.out (isBB_one w9))
    have Hbz := Lib.hid hbz
    clear hbz
    go_wp2_with fail
    refine Hadd9.out.mono ?_
    rintro e w10 hp10
    have hb10 := hp10.below (Hd9.out.grow Hbz.out) hwj
    obtain ⟨rfl, G10, hd10, hja10, hnj10, _⟩ := hp10
    rw [Hadd1.out] at hd10 hja10 ⊢
    dsimp only at hd10 hja10 ⊢
    have Hb10 := Lib.hid ((below_call Hb9.out Hbz.out).trans (hb10.mono hs12))
    have Hd10 := Lib.hid hd10
    have Hja10 := Lib.hid hja10
    have Hnj10 := Lib.hid hnj10
    clear hb10 hd10 hja10 hnj10
    clear Hadd9 Hbz
    go_wp2_with fail
    refine (jbroken_any _ j g _ Hja10.out).mono ?_
    rintro e w' ⟨rfl, rfl⟩
    have hbz : Below w10.heap.size w10 (w10.alloc (.cells #[.slice none 0 0] 48)) := (Below.refl _ _).alloc (Nat.le_refl _) _
    have Hadd10 := Lib.hid (jadd_any w1.heap.size G10 (fun _ => True) j g ⟨1, 0, 0, 0, true⟩ (D1.cut ⟨[], 0, 0⟩) _ [[]] _ Hfit2.out (Hf2.out.mono (by decide)) (Hd10.out.grow hbz) (Hja10.out.grow hbz) Hnj10.out (isBB_one w10))
    have Hbz := Lib.hid hbz
    clear hbz
    go_wp2_with fail
    refine Hadd10.out.mono ?_
    rintro e w11 hp11
    have hb11 := hp11.below (Hd10.out.grow Hbz.out) hwj
    obtain ⟨rfl, G11, hd11, hja11, hnj11, _⟩ := hp11
    rw [Hadd2.out] at hd11 hja11 ⊢
    dsimp only at hd11 hja11 ⊢
    have Hb11 := Lib.hid ((below_call Hb10.out Hbz.out).trans (hb11.mono hs12))
    have Hd11 := Lib.hid hd11
    have Hja11 := Lib.hid hja11
    have Hnj11 := Lib.hid hnj11
    clear hb11 hd11 hja11 hnj11
    clear Hadd10 Hbz
    have hbz : Below w11.heap.size w11 (w11.alloc (.cells #[.slice none 0 0] 48)) := (Below.refl _ _).alloc (Nat.le_refl _) _
    have Hrep11 := Lib.hid (jreplace_any w1.heap.size G11 (fun _ => True) j g ⟨1, 0, 0, 0, true⟩ (D1.cut ⟨[], 0, 0⟩) _ [[]] _ Hfit2.out (Hf2.out.mono (by decide)) (Hd11.out.grow hbz) (Hja11.out.grow hbz) Hnj11.out (isBB_one w11))
    have Hbz := Lib.hid hbz
    clear hbz
    go_wp2_with fail
    refine Hrep11.out.mono ?_
    rintro e w12 hp12
    have hb12 := hp12.below (Hd11.out.grow Hbz.out) hwj
    obtain ⟨rfl, G12, hd12, hja12, hnj12, _⟩ := hp12
    rw [Hrep2.out] at hd12 hja12 ⊢
    dsimp only at hd12 hja12 ⊢
    have Hb12 := Lib.hid ((below_call Hb11.out Hbz.out).trans (hb12.mono hs12))
    have Hd12 := Lib.hid hd12
    have Hja12 := Lib.hid hja12
    have Hnj12 := Lib.hid hnj12
    clear hb12 hd12 hja12 hnj12
    go_wp2
    go_ret
    exact ⟨rfl, Hb12.out⟩

set_option maxHeartbeats 400000 in
theorem journalargs_walk (n long : Int) (w : World) (_ : -9223372036854775808 ≤ n ∧ n ≤ 9223372036854775807) (_ : -9223372036854775808 ≤ long ∧ long ≤ 9223372036854775807) :
    Calls Try.prog 6 #[.int .i64 n, .int .i64 long] w fun e w' => e = .returned (.bool true) ∧ Below w.heap.size w w' := by
  by_cases hbad : n < 1 ∨ 30 < n
  · rcases hbad with hbad | hbad
    all_goals
      go_enter Try.func6, Try.ntmps6
      go_wp2_with fail
      refine (lives_any _).mono ?_
      rintro e w1 ⟨rfl, hb1⟩
      go_wp2_with fail
      refine (lives_any _).mono ?_
      rintro e w2 ⟨rfl, hb2⟩
      go_wp2
      go_ret
      exact ⟨rfl, below_call hb1 hb2⟩
  · obtain ⟨m, rfl⟩ := Int.eq_ofNat_of_zero_le (show 0 ≤ n by omega)
    by_cases h6 : m < 6
    · exact journalargs_small m long w (by omega) h6
    · exact journalargs_big m long w (by omega) (by omega)
end Go.Proofs.Ytjobkmcbindhmaa
