/-
  wardshipref01.One and Fields.
-/
import Derived.Test.YtdmbmkjiffhbcaaGreatWordsB
import Derived.Test.YtdmbmkjiffhbcaaGreatCodNumMath
import Derived.Lib.Hide
import Derived.WalkSpells
import Derived.Test.YtdmbmkjiffhbcaaGreatPlainKit
import Derived.Deep.QuietTactic
import Derived.BigQuiet
import Derived.OwnWalk
namespace Go.Proofs.YtdmbmkjiffhbcaaGreat
open Go.RowKit
set_option maxRecDepth 100000

theorem extract_str (b : List UInt8) (i j : Nat) : (⟨b.toArray⟩ : ByteArray).extract i j = ⟨((b.take j).drop i).toArray⟩ := by
  apply ByteArray.ext
  rw [ByteArray.data_extract]
  apply Array.ext'
  rw [Array.toList_extract]
  simp [List.drop_take]
theorem byte_at (b : List UInt8) (k : Nat) (h : k < b.length) (hs : k < (⟨b.toArray⟩ : ByteArray).size) : ((⟨b.toArray⟩ : ByteArray)[k]'hs) = b.getD k 0 := by
  rw [List.getD_eq_getElem?_getD, List.getElem?_eq_getElem h]
  rfl

set_option maxHeartbeats 400000 in
theorem refone_any (b : List UInt8) (w : World) (hb : b ≠ []) (hl : b.length ≤ 1099511627776) :
    Calls Tryz.prog 64 #[str b] w fun e w' => e = .returned (.tuple #[str (firstF b).1, str (firstF b).2.1, .int .i64 ((firstF b).2.2 : Int)]) ∧ Below w.heap.size w w' := by
  have h0 : 0 < b.length := List.length_pos_iff.2 hb
  have hs0 : 0 < (⟨b.toArray⟩ : ByteArray).size := h0
  have e0 := byte_at b 0 h0 hs0
  obtain ⟨x, hx⟩ : ∃ x : Nat, x = (b.getD 0 0).toNat := ⟨_, rfl⟩
  have hx8 : x < 256 := by rw [hx]; exact (b.getD 0 0).toNat_lt
  have hv0 : (((⟨b.toArray⟩ : ByteArray)[0]'hs0).toNat : Int) = (x : Int) := by rw [e0, hx]
  by_cases h255 : x = 255
  · subst h255
    by_cases h3 : b.length < 3
    · have hF : firstF b = ([], [], 8) := by
        unfold firstF firstLen
        rw [← hx, if_neg (by omega : ¬ (255 : Nat) ≠ 255), if_pos h3]
        rfl
      have HF := Lib.hid hF
      have h3' : (b.length : Int) < 3 := by omega
      clear hF hx e0
      go_enter Tryz.func64, Tryz.ntmps64
      go_wp2
      go_ret3
      rw [HF.out]
      exact ⟨rfl, Below.refl _ _⟩
    · have h3' : ¬ (b.length : Int) < 3 := by omega
      have hs1 : 1 < (⟨b.toArray⟩ : ByteArray).size := by show 1 < b.length; omega
      have hs2 : 2 < (⟨b.toArray⟩ : ByteArray).size := by show 2 < b.length; omega
      have e1 := byte_at b 1 (by omega) hs1
      have e2 := byte_at b 2 (by omega) hs2
      obtain ⟨y, hy⟩ : ∃ y : Nat, y = (b.getD 1 0).toNat := ⟨_, rfl⟩
      obtain ⟨z, hz⟩ : ∃ z : Nat, z = (b.getD 2 0).toNat := ⟨_, rfl⟩
      have hy8 : y < 256 := by rw [hy]; exact (b.getD 1 0).toNat_lt
      have hz8 : z < 256 := by rw [hz]; exact (b.getD 2 0).toNat_lt
      have hv1 : (((⟨b.toArray⟩ : ByteArray)[1]'hs1).toNat : Int) = (y : Int) := by rw [e1, hy]
      have hv2 : (((⟨b.toArray⟩ : ByteArray)[2]'hs2).toNat : Int) = (z : Int) := by rw [e2, hz]
      have hfl : firstLen b = if y * 256 + z < 255 then (0, 0, 7) else (y * 256 + z, 3, 0) := by
        unfold firstLen
        rw [← hx, if_neg (by omega : ¬ (255 : Nat) ≠ 255), if_neg h3, ← hy, ← hz]
      clear hx e0 e1 e2 hy hz
      by_cases hsm : y * 256 + z < 255
      · have hF : firstF b = ([], [], 7) := by
          unfold firstF
          rw [hfl, if_pos hsm]
          rfl
        have HF := Lib.hid hF
        have hsm' : (y : Int) * 256 + (z : Int) < 255 := by omega
        clear hF hfl
        go_enter Tryz.func64, Tryz.ntmps64
        go_wp2_with fail
        go_quiet (fail)
        go_wp2
        go_ret3
        rw [HF.out]
        exact ⟨rfl, below_drewN (Below.refl _ _) _⟩
      · rw [if_neg hsm] at hfl
        obtain ⟨n, hn⟩ : ∃ n, n = y * 256 + z := ⟨_, rfl⟩
        rw [← hn] at hfl
        have hnn : (y : Int) * 256 + (z : Int) = (n : Int) := by omega
        have hsm' : ¬ (n : Int) < 255 := by omega
        have hn16 : n < 65536 := by omega
        by_cases hlt : b.length < 3 + n
        · have hF : firstF b = ([], [], 8) := by unfold firstF; rw [hfl]; dsimp only; rw [if_neg (by simp), if_pos hlt]
          have HF := Lib.hid hF
          have hlt' : (b.length : Int) < 3 + (n : Int) := by omega
          clear hF hfl hn
          go_enter Tryz.func64, Tryz.ntmps64
          go_wp2_with fail
          go_quiet (fail)
          go_wp2
          go_ret3
          rw [HF.out]
          exact ⟨rfl, below_drewN (Below.refl _ _) _⟩
        · have hF : firstF b = ((b.drop 3).take n, b.drop (3 + n), 0) := by unfold firstF; rw [hfl]; dsimp only; rw [if_neg (by simp), if_neg hlt]
          have HF := Lib.hid hF
          have hlt' : ¬ (b.length : Int) < 3 + (n : Int) := by omega
          clear hF hfl hn
          go_enter Tryz.func64, Tryz.ntmps64
          go_wp2_with fail
          go_quiet (fail)
          go_wp2_with fail
          go_quiet (fail)
          go_wp2
          go_ret3
          rw [HF.out]
          refine ⟨?_, ?_⟩
          · simp only [extract_str, List.drop_take, List.take_length, Nat.add_sub_cancel_left]
            try rfl
          · exact below_drewN (below_drewN (Below.refl _ _) _) _
  · have hf : firstLen b = (x, 1, 0) := by unfold firstLen; rw [if_pos (by rw [← hx]; exact h255), hx]
    have h255' : ¬ (x : Int) = 255 := by omega
    by_cases hlt : b.length < 1 + x
    · have hF : firstF b = ([], [], 8) := by unfold firstF; rw [hf]; dsimp only; rw [if_neg (by simp), if_pos hlt]
      have HF := Lib.hid hF
      have hlt' : (b.length : Int) < 1 + (x : Int) := by omega
      clear hF hf hx e0
      go_enter Tryz.func64, Tryz.ntmps64
      go_wp2
      go_ret3
      rw [HF.out]
      exact ⟨rfl, Below.refl _ _⟩
    · have hF : firstF b = ((b.drop 1).take x, b.drop (1 + x), 0) := by unfold firstF; rw [hf]; dsimp only; rw [if_neg (by simp), if_neg hlt]
      have HF := Lib.hid hF
      have hlt' : ¬ (b.length : Int) < 1 + (x : Int) := by omega
      clear hF hf hx e0
      go_enter Tryz.func64, Tryz.ntmps64
      go_wp2_with fail
      go_quiet (fail)
      go_wp2
      go_ret3
      rw [HF.out]
      refine ⟨?_, ?_⟩
      · simp only [extract_str, List.drop_take, List.take_length, Nat.add_sub_cancel_left]
        try rfl
      · exact below_drewN (Below.refl _ _) _
end Go.Proofs.YtdmbmkjiffhbcaaGreat
