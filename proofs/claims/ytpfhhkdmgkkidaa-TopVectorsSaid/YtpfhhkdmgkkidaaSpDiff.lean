/-
  Differences as values: eight numbers with signs in an array.
-/
import Derived.Test.YtpfhhkdmgkkidaaSpFirst
namespace Go.Proofs.Ytpfhhkdmgkkidaa
open Go.RowKit
set_option maxRecDepth 100000

def ai (D : Nat → Int) : Array Value := #[.int .i64 (D 0), .int .i64 (D 1), .int .i64 (D 2), .int .i64 (D 3), .int .i64 (D 4), .int .i64 (D 5), .int .i64 (D 6), .int .i64 (D 7)]
theorem ai_get (D : Nat → Int) {k : Nat} (h : k < 8) : (ai D)[k]? = some (.int .i64 (D k)) := by
  rcases lt8 h with rfl | rfl | rfl | rfl | rfl | rfl | rfl | rfl <;> rfl
theorem ai_set (D : Nat → Int) (k : Nat) (n : Int) (h : k < 8) : (ai D).setIfInBounds k (.int .i64 n) = ai (updD D k n) := by
  rcases lt8 h with rfl | rfl | rfl | rfl | rfl | rfl | rfl | rfl <;> rfl
theorem ai_one (D : Nat → Int) : (ai D).all (·.oneCell') = true := by simp [ai, Value.oneCell']
theorem zero_ai : ai zeroD = #[.int .i64 0, .int .i64 0, .int .i64 0, .int .i64 0, .int .i64 0, .int .i64 0, .int .i64 0, .int .i64 0] := rfl
theorem diff_info : (Try.prog.info? 47).map (·.size) = some 8 := by kernel_rfl
theorem diff_index (D : Nat → Int) (k : Nat) (h : k < 8) (w : World) : (Instr.index 47 (.agg (ai D)) (.int .i64 (k : Int))).run Try.prog w = .ok (.int .i64 (D k)) w := by
  rcases lt8 h with rfl | rfl | rfl | rfl | rfl | rfl | rfl | rfl <;> kernel_rfl
theorem arr_info : (Try.prog.info? 46).map (·.size) = some 8 := by kernel_rfl
theorem Rd.low {w : World} {ok : Nat → Prop} {A : Option Addr} {xs : List Value} (h : Rd w ok A xs) : Rd w (fun k => k < w.heap.size) A xs := fun hn => by
  obtain ⟨ad, e, _, hlt⟩ := h.lt hn
  obtain ⟨ad', e', _, hc⟩ := h hn
  subst e
  cases e'
  exact ⟨ad, rfl, hlt, hc⟩
theorem IsB.low {w : World} {ok : Nat → Prop} {v : Value} {l : List UInt8} (h : IsB w ok v l) : IsB w (fun k => k < w.heap.size) v l := by
  obtain ⟨A, c, e, h1, h2, h3⟩ := h
  exact ⟨A, c, e, h1, h2, h3.low⟩
theorem bits_and_of {m k : Nat} (hm : m < 256) (hk : k < 8) : bits .and .u8 (m : Int) ((2 ^ k : Nat) : Int) = if bitN m k = true then ((2 ^ k : Nat) : Int) else 0 := bits_and8 ⟨k, hk⟩ ⟨m, hm⟩
theorem bits_or_of {m k : Nat} (hm : m < 2 ^ k) (hk : k < 8) : bits .or .u8 (m : Int) ((2 ^ k : Nat) : Int) = ((m + 2 ^ k : Nat) : Int) := bits_or8 ⟨k, hk⟩ ⟨m, by have : 2 ^ k ≤ 2 ^ 7 := Nat.pow_le_pow_right (by omega) (by omega); omega⟩ hm
theorem and_eq8 : ∀ k : Fin 8, ∀ m : Fin 256, (((2 : Int) ^ k.val % 256) == bits .and .u8 (m.val : Int) ((2 : Int) ^ k.val % 256)) = bitN m.val k.val := by decide +kernel
theorem and_eq {m k : Nat} (hm : m < 256) (hk : k < 8) : (((2 : Int) ^ k % 256) == bits .and .u8 (m : Int) ((2 : Int) ^ k % 256)) = bitN m k := and_eq8 ⟨k, hk⟩ ⟨m, hm⟩
theorem u8_and_nat {m s : Nat} (hm : m < 256) (hs : s < 256) : bits .and .u8 (m : Int) (s : Int) = ((m &&& s : Nat) : Int) := by
  have hlt : m &&& s < 256 := Nat.lt_of_le_of_lt Nat.and_le_left hm
  show IntKind.u8.wrap ((BitVec.ofInt 8 (m : Int) &&& BitVec.ofInt 8 (s : Int)).toNat : Int) = _
  have e1 : (BitVec.ofInt 8 (m : Int)).toNat = m := by rw [BitVec.ofInt_natCast, BitVec.toNat_ofNat]; exact Nat.mod_eq_of_lt (by omega)
  have e2 : (BitVec.ofInt 8 (s : Int)).toNat = s := by rw [BitVec.ofInt_natCast, BitVec.toNat_ofNat]; exact Nat.mod_eq_of_lt (by omega)
  rw [BitVec.toNat_and, e1, e2, IntWalk.u8_in _ (by omega)]
theorem bitN_test (m i : Nat) : bitN m i = m.testBit i := by
  unfold bitN
  rw [Nat.testBit_eq_decide_div_mod_eq]
theorem and_zero {m s : Nat} (hm : m < 256) (hs : s < 256) : (bits .and .u8 (m : Int) (s : Int) != 0) = bothN m s := by
  rw [u8_and_nat hm hs]
  have hlt : m &&& s < 2 ^ 8 := Nat.lt_of_le_of_lt Nat.and_le_left hm
  cases h : bothN m s
  · unfold bothN at h
    rw [List.any_eq_false] at h
    have h0 : m &&& s = 0 := by
      apply Nat.eq_of_testBit_eq
      intro i
      rw [Nat.zero_testBit]
      rcases Nat.lt_or_ge i 8 with h8 | h8
      · have := h i (by simpa using h8)
        rw [bitN_test, bitN_test] at this
        rw [Nat.testBit_and]
        simpa using this
      · exact Nat.testBit_lt_two_pow (Nat.lt_of_lt_of_le hlt (Nat.pow_le_pow_right (by omega) h8))
    rw [h0]
    rfl
  · unfold bothN at h
    rw [List.any_eq_true] at h
    obtain ⟨i, _, hi⟩ := h
    rw [bitN_test, bitN_test, ← Nat.testBit_and] at hi
    rw [bne_iff_ne]
    intro h0
    have : m &&& s = 0 := by omega
    rw [this, Nat.zero_testBit] at hi
    cases hi
end Go.Proofs.Ytpfhhkdmgkkidaa
