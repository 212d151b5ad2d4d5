/-
  wardshipref02.Sum, Seal and Roll: the same over texts.
-/
import Derived.Test.YtjobkmcbindhmaaSumAll
namespace Go.Proofs.Ytjobkmcbindhmaa
open Go.RowKit

set_option maxHeartbeats 400000 in
theorem refsum_any (l : List UInt8) (w : World) (hl : l.length ≤ 1099511627776) :
    Calls Try.prog 70 #[str l] w fun e w' => e = .returned (.int .u32 (adler l : Int)) ∧ w = w' := by
  go_enter Try.func70, Try.ntmps70
  go_wp2
  go_loop [3, 4, 5] (fun a b i => ∃ k h : Nat, k ≤ l.length ∧ i = .int .i64 (k : Int) ∧ a = .int .i64 ((1 + totS (l.take k) : Nat) : Int) ∧ b = .int .i64 (h : Int) ∧ h % 65521 = hi (l.take k) ∧ h ≤ 65520 * k) (fun _ _ i => l.length - (intOf i).toNat)
  case atStart => exact ⟨0, 0, by omega, rfl, rfl, rfl, rfl, by omega⟩
  case round =>
    obtain ⟨k, h, hk, rfl, rfl, rfl, hh, hb⟩ := hrel
    have hS := totS_le (l.take k)
    rw [List.length_take, Nat.min_eq_left hk] at hS
    by_cases hlt : k < l.length
    · have e1 := Lib.hid (totS_take l k hlt)
      have e2 := Lib.hid (hi_take l k hlt)
      have h3 := l[k].toNat_lt
      have hidx : ((⟨l.toArray⟩ : ByteArray)[k]'(by simpa [ByteArray.size] using hlt)).toNat = l[k].toNat := rfl
      have e3 := Lib.hid (lo_take l k hlt)
      have Hh := Lib.hid hh
      clear hh
      generalize l[k].toNat = x at *
      have hS' := Lib.hid (show lo (l.take k) = (1 + totS (l.take k)) % 65521 from rfl)
      have hS2 := Lib.hid (show lo (l.take (k + 1)) = (1 + totS (l.take (k + 1))) % 65521 from rfl)
      generalize totS (l.take k) = S at *
      go_wp2
      go_round
      case rel =>
        refine ⟨k + 1, h + (1 + S + x) % 65521, by omega, by go_num, ?_, by go_num, ?_, by omega⟩
        · rw [e1.out]; go_num
        · rw [e2.out, e3.out, ← Hh.out, hS'.out]
          omega
      case measure => simp [intOf]; omega
    · obtain rfl : k = l.length := by omega
      have Hh := Lib.hid hh
      clear hh
      simp only [List.take_length] at hS ⊢
      go_wp2
      go_ret
      refine ⟨?_, rfl⟩
      have h1 := Hh.out
      rw [List.take_length] at h1
      have h2 : adler l = h % 65521 * 65536 + (1 + totS l) % 65521 := by rw [h1]; rfl
      simp [h2]

theorem be4_vals (n : Nat) (hn : n < 4294967296) : (be4 n).map u8 = [.int .u8 ((n : Int) / 16777216), .int .u8 ((n : Int) / 65536 % 256), .int .u8 ((n : Int) / 256 % 256), .int .u8 ((n : Int) % 256)] := by
  simp only [be4, List.map_cons, List.map_nil, u8_ofNat]
  simp
  omega

theorem refseal_any (l : List UInt8) (w : World) (hl : l.length ≤ 1099511627776) :
    Calls Try.prog 51 #[str l] w fun e w' => e = .returned (str (l ++ sumB l)) ∧ Below w.heap.size w w' := by
  have ha := adler_lt l
  have hcv : ∀ (u : World), (convert 48 9 (.slice (some ⟨u.heap.size, 0, none⟩) 4 4)).run Try.prog (u.alloc (.cells #[.int .u8 ((adler l : Int) / 16777216), .int .u8 ((adler l : Int) / 65536 % 256), .int .u8 ((adler l : Int) / 256 % 256), .int .u8 ((adler l : Int) % 256)] 5)) = .ok (str (sumB l)) (u.alloc (.cells #[.int .u8 ((adler l : Int) / 16777216), .int .u8 ((adler l : Int) / 65536 % 256), .int .u8 ((adler l : Int) / 256 % 256), .int .u8 ((adler l : Int) % 256)] 5)) := fun u => by
    have hb := (Blk.new u 5 #[.int .u8 ((adler l : Int) / 16777216), .int .u8 ((adler l : Int) / 65536 % 256), .int .u8 ((adler l : Int) / 256 % 256), .int .u8 ((adler l : Int) % 256)]).rd (fun _ => True) trivial
    have hv := be4_vals (adler l) ha
    rw [show #[Value.int .u8 ((adler l : Int) / 16777216), .int .u8 ((adler l : Int) / 65536 % 256), .int .u8 ((adler l : Int) / 256 % 256), .int .u8 ((adler l : Int) % 256)].toList = (sumB l).map u8 from hv.symm] at hb
    exact run_bytes_str (c := 4) (l := sumB l) _ _ _ Try.underlying48 Try.underlying5 Try.underlying9 hb
  have hadd : ∀ u : World, (Op.stringOp .add ⟨l.toArray⟩ ⟨(sumB l).toArray⟩).run Try.prog u = .ok (str (l ++ sumB l)) u := fun u => run_str_add u _ _ (by rw [sumB_length]; omega)
  go_enter Try.func51, Try.ntmps51
  go_wp2_with (go_at_call 70; refine (refsum_any l _ hl).mono ?_; rintro e w1 ⟨rfl, rfl⟩)
  go_ret
  exact ⟨rfl, (Below.refl _ _).alloc (Nat.le_refl _) _⟩
end Go.Proofs.Ytjobkmcbindhmaa
