/-
  wardshipref01.Num: the bytes of a number, as a text.
  wardshipref04.eight and number.
  The reference's Field: a field as it lies, as a text.
  wardshipref02.Sum, Seal and Roll: the same over texts.
  wardshipref04.Lie.
  wardshipref04.Tally.
  wardshipref01.One.
  wardshipref04.Right: its mathematics. A tally told by its pieces.
  wardshipref04.Right.
  The laws' texts and same.
  wardshipref04.Records.
-/
import Derived.Test.YtiaabgmmmekpnaaBytes
import Derived.Test.YtiaabgmmmekpnaaNumMath
import Derived.Lib.Hide
import Derived.Deep.RegionWith
import Derived.WalkSpells
import Derived.Test.YtiaabgmmmekpnaaJBase
import Derived.Test.YtiaabgmmmekpnaaCodMath
import Derived.Test.YtiaabgmmmekpnaaSumAll
import Derived.Test.YtiaabgmmmekpnaaJRead
import Derived.Test.YtiaabgmmmekpnaaDevTail
import Derived.Test.YtiaabgmmmekpnaaQuiet
import Derived.Deep.QuietTactic
import Derived.BigQuiet
import Derived.OwnWalk
import Derived.Test.YtiaabgmmmekpnaaJCrash2
import Derived.Test.YtiaabgmmmekpnaaJUnpack2
import Derived.Test.YtiaabgmmmekpnaaGrow
namespace Go.Proofs.Ytiaabgmmmekpnaa
open Go.RowKit

set_option maxHeartbeats 400000 in
theorem refnum_any (k : Nat) : ∀ (N : Nat) (w : World), numLen N ≤ k → N < 18446744073709551616 →
    Calls Try.prog 91 #[.int .u64 (N : Int)] w fun e w' => e = .returned (str (numB N)) ∧ Below w.heap.size w w' := by
  induction k with
  | zero =>
    intro N w hk hN
    have h0 : N = 0 := by
      rcases Nat.eq_zero_or_pos N with h | h
      · exact h
      · have := numLen_step N (by omega) (by omega); omega
    subst h0
    go_enter Try.func91, Try.ntmps91
    go_wp2_with fail
    go_ret
    exact ⟨by rw [numB_zero]; rfl, Below.refl _ _⟩
  | succ k ih =>
    intro N w hk hN
    by_cases h0 : N = 0
    · subst h0
      go_enter Try.func91, Try.ntmps91
      go_wp2_with fail
      go_ret
      exact ⟨by rw [numB_zero]; rfl, Below.refl _ _⟩
    · have hb : ((N : Int) == 0) = false := by simpa using h0
      have hl := numLen_step N h0 (by omega)
      have ih' : ∀ w : World, Calls Try.prog 91 #[.int .u64 ((N : Int) / 256)] w fun e w' => e = .returned (str (numB (N / 256))) ∧ Below w.heap.size w w' := fun w => ih (N / 256) w (by omega) (by omega)
      have e1 : IntKind.u64.wrap ((N : Int) / 256) = (N : Int) / 256 := IntWalk.u64_in _ (by omega)
      have e2 : (N : Int).tmod 256 = (N : Int) % 256 := Int.tmod_eq_emod_of_nonneg (by omega)
      have e3 : IntKind.u8.wrap ((N : Int) % 256) = (N : Int) % 256 := IntWalk.u8_in _ (by omega)
      go_enter Try.func91, Try.ntmps91
      go_wp2_with fail
      have hadd : ∀ u : World, (Op.stringOp .add ⟨(numB (N / 256)).toArray⟩ ⟨[UInt8.ofNat (N % 256)].toArray⟩).run Try.prog u = .ok (str (numB N)) u := fun u => by
        rw [run_str_add u _ _ (by have := numB_length (N / 256); have := numLen_le (N / 256) (by omega); simp only [List.length_singleton]; omega), ← numB_step N h0 (by omega)]
      have hcv : ∀ (u : World) (b : Nat), u.cell? ⟨b, 0, none⟩ = some (.int .u8 ((N : Int) % 256)) → (convert 48 9 (.slice (some ⟨b, 0, none⟩) 1 1)).run Try.prog u = .ok (str [UInt8.ofNat (N % 256)]) u := fun u b hu =>
        run_bytes_str (c := 1) (l := [UInt8.ofNat (N % 256)]) _ _ _ Try.underlying48 Try.underlying5 Try.underlying9 (ok := fun _ => True) (fun _ => ⟨_, rfl, trivial, fun j v hj => by
          match j, hj with
          | 0, hj => simp only [List.map_cons, List.getElem?_cons_zero, Option.some.injEq] at hj; subst hj; rw [u8_ofNat]; exact hu⟩)
      go_region_with (go_at_call 91; refine (ih' _).mono ?_; rintro e w' ⟨rfl, hw⟩; obtain ⟨hc, hf⟩ := bcell hw)
      all_goals go_wp2
      all_goals go_ret
      · exact ⟨rfl, (((Below.refl w.heap.size w).drew).trans hw).alloc hw.size _⟩
      · exact ⟨rfl, (((Below.refl w.heap.size w).drew).alloc (Nat.le_refl _) _).trans (hw.mono (by simp))⟩
      · exact ⟨rfl, (((Below.refl w.heap.size w).drew).alloc (Nat.le_refl _) _).trans (hw.mono (by simp))⟩

theorem refnum (N : Nat) (w : World) (hN : N < 18446744073709551616) :
    Calls Try.prog 91 #[.int .u64 (N : Int)] w fun e w' => e = .returned (str (numB N)) ∧ Below w.heap.size w w' :=
  refnum_any _ N w (Nat.le_refl _) hN
end Go.Proofs.Ytiaabgmmmekpnaa

namespace Go.Proofs.Ytiaabgmmmekpnaa
open Go.RowKit
set_option maxRecDepth 100000

theorem be8_digs (n : Nat) : be8 n = digs 8 n := by
  rw [be8_list]
  simp only [digs_cons]
  rfl
theorem digs_pad (k n : Nat) (h : n < 256 ^ k) (j : Nat) : digs (k + j) n = List.replicate j 0 ++ digs k n := by
  induction j with
  | zero => rfl
  | succ j ih =>
    rw [← Nat.add_assoc, digs_cons, ih, List.replicate_succ, List.cons_append]
    congr 1
    have : n / 256 ^ (k + j) = 0 := Nat.div_eq_of_lt (Nat.lt_of_lt_of_le h (Nat.pow_le_pow_right (by decide) (by omega)))
    rw [this]
    rfl
theorem be8_pad (n : Nat) (h : n < 18446744073709551616) : be8 n = List.replicate (8 - (numB n).length) 0 ++ numB n := by
  have h1 := numLen_le n (by omega)
  have h2 := numLen_bound (numLen n) n (Nat.le_refl _) (by omega)
  rw [be8_digs, numB_length]
  have := digs_pad (numLen n) n h2 (8 - numLen n)
  rw [show numLen n + (8 - numLen n) = 8 by omega] at this
  exact this

set_option maxHeartbeats 400000 in
theorem refeight_any (N : Nat) (w : World) (hN : N < 18446744073709551616) :
    Calls Try.prog 84 #[.int .u64 (N : Int)] w fun e w' => e = .returned (str (be8 N)) ∧ Below w.heap.size w w' := by
  have hpad := be8_pad N hN
  have h8 : (numB N).length ≤ 8 := by rw [numB_length]; exact numLen_le N (by omega)
  obtain ⟨X, hX⟩ : ∃ X, X = numB N := ⟨_, rfl⟩
  have hnum := refnum N w hN
  rw [← hX] at hpad h8 hnum
  have Hpad := Lib.hid hpad
  have Hnum := Lib.hid hnum
  clear hpad hnum hX hN
  go_enter Try.func84, Try.ntmps84
  go_wp2_with fail
  refine Hnum.out.mono ?_
  rintro e w1 ⟨rfl, hb1⟩
  go_wp2_with fail
  go_loopw [3] (fun v wr => ∃ j : Nat, j + X.length ≤ 8 ∧ v = str (List.replicate j 0 ++ X) ∧ wr = w1) (fun v _ => match v with | .string s => 8 - s.size | _ => 0)
  case atStart => exact ⟨0, by omega, rfl, rfl⟩
  case round =>
    obtain ⟨j, hj, rfl, rfl⟩ := hrel
    obtain ⟨Y, hY⟩ : ∃ Y, Y = List.replicate j (0 : UInt8) ++ X := ⟨_, rfl⟩
    have hYl : Y.length = j + X.length := by rw [hY, List.length_append, List.length_replicate]
    have HYl := Lib.hid hYl
    have HY := Lib.hid hY
    rw [← hY]
    clear hY hYl
    by_cases hlt : Y.length < 8
    · have hadd : ∀ u : World, (Op.stringOp .add ⟨[(0 : UInt8)].toArray⟩ ⟨Y.toArray⟩).run Try.prog u = .ok (str (0 :: Y)) u := fun u => by
        rw [run_str_add u _ _ (by simp only [List.length_singleton]; omega)]
        rfl
      have hlt' : (Y.length : Int) < 8 := by omega
      go_wp2
      go_roundw
      case rel => exact ⟨j + 1, by have := HYl.out; omega, by rw [List.replicate_succ, List.cons_append, ← HY.out], trivial⟩
      case measure => simp [ByteArray.size]; omega
    · have hlt' : ¬ (Y.length : Int) < 8 := by omega
      have he : Y = be8 N := by rw [HY.out, Hpad.out]; congr 2; have := HYl.out; omega
      have He := Lib.hid he
      clear he
      go_wp2
      go_ret
      exact ⟨by rw [← He.out]; rfl, hb1⟩

set_option maxHeartbeats 400000 in
theorem refnumber_any (l : List UInt8) (w : World) (hl : l.length ≤ 8) :
    Calls Try.prog 63 #[str l] w fun e w' => e = .returned (.int .u64 (unbe l : Int)) ∧ w = w' := by
  go_enter Try.func63, Try.ntmps63
  go_wp2_with fail
  go_loopw [3, 4] (fun v i wr => ∃ k : Nat, k ≤ l.length ∧ i = .int .i64 (k : Int) ∧ v = .int .u64 (unbe (l.take k) : Int) ∧ wr = w) (fun _ i _ => l.length - (intOf i).toNat)
  case atStart => exact ⟨0, by omega, rfl, rfl, rfl⟩
  case round =>
    obtain ⟨k, hk, rfl, rfl, rfl⟩ := hrel
    by_cases hlt : k < l.length
    · have hst : unbe (l.take (k + 1)) = unbe (l.take k) * 256 + l[k].toNat := by rw [List.take_succ_eq_append_getElem hlt, unbe_snoc]
      have hb8 := l[k].toNat_lt
      have hlt2 := unbe_lt (l.take k)
      have hbound : unbe (l.take k) < 72057594037927936 := by
        refine Nat.lt_of_lt_of_le hlt2 ?_
        rw [List.length_take, Nat.min_eq_left (by omega), show 72057594037927936 = 256 ^ 7 from rfl]
        exact Nat.pow_le_pow_right (by decide) (by omega)
      obtain ⟨a, ha⟩ : ∃ a, a = unbe (l.take k) := ⟨_, rfl⟩
      obtain ⟨b, hb⟩ : ∃ b, b = l[k].toNat := ⟨_, rfl⟩
      rw [← ha, ← hb] at hst
      rw [← ha] at hbound ⊢
      rw [← hb] at hb8
      have hsz : k < (⟨l.toArray⟩ : ByteArray).size := hlt
      have hbb : ((⟨l.toArray⟩ : ByteArray)[k]'hsz).toNat = b := by rw [hb]; rfl
      have hval : IntKind.u64.wrap (IntKind.u64.wrap ((a : Int) * 256) + IntKind.u64.wrap (((⟨l.toArray⟩ : ByteArray)[k]'hsz).toNat : Int)) = ((unbe (l.take (k + 1)) : Nat) : Int) := by
        rw [hbb, IntWalk.u64_in (b : Int) (by omega), IntWalk.u64_in ((a : Int) * 256) (by omega), IntWalk.u64_in _ (by omega), hst]
        omega
      have hkl : (k : Int) < (l.length : Int) := by omega
      have Hval := Lib.hid hval
      clear hst hlt2 ha hval hbb hb hb8 hbound
      go_wp2
      go_roundw
      case rel => exact ⟨k + 1, by omega, by go_num, by rw [← Hval.out], trivial⟩
      case measure => simp [intOf]; omega
    · obtain rfl : k = l.length := by omega
      rw [List.take_length]
      go_wp2
      go_ret
      exact ⟨rfl, rfl⟩
end Go.Proofs.Ytiaabgmmmekpnaa

namespace Go.Proofs.Ytiaabgmmmekpnaa
open Go.RowKit
set_option maxRecDepth 100000

theorem conv_new (w : World) (l : List UInt8) (cs : List Value) (n c : Nat) (hcs : cs = l.map u8) (hn : n = l.length) :
    (convert 48 9 (.slice (some ⟨w.heap.size, 0, none⟩) n c)).run Try.prog (w.alloc (.cells cs.toArray 5)) = .ok (str l) (w.alloc (.cells cs.toArray 5)) := by
  subst hcs
  subst hn
  exact run_bytes_str _ _ _ Try.underlying48 Try.underlying5 Try.underlying9 ((Blk.new w 5 (l.map u8).toArray).rd (fun _ => True) trivial)

theorem reffield_any (f : List UInt8) (w : World) (hf : f.length ≤ 65535) :
    Calls Try.prog 69 #[str f] w fun e w' => e = .returned (.tuple #[str (fieldB f), .bool true]) ∧ Below w.heap.size w w' := by
  by_cases h : f.length < 255
  · have hl2 : lenB f.length = [UInt8.ofNat (f.length % 256)] := by rw [lenB, if_pos h, Nat.mod_eq_of_lt (by omega)]
    have hv : fieldB f = [UInt8.ofNat (f.length % 256)] ++ f := by rw [fieldB, hl2]
    have hcv := conv_new w [UInt8.ofNat (f.length % 256)] [.int .u8 (f.length : Int)] 1 1 (by rw [List.map_singleton, u8_ofNat, Int.emod_eq_of_lt (by omega) (by omega)]) rfl
    have hadd : ∀ u : World, (Op.stringOp .add ⟨[UInt8.ofNat (f.length % 256)].toArray⟩ ⟨f.toArray⟩).run Try.prog u = .ok (str (fieldB f)) u := fun u => by
      rw [run_str_add u _ _ (by simp only [List.length_singleton]; omega), hv]
    clear hv hl2
    go_enter Try.func69, Try.ntmps69
    go_wp2_with fail
    go_ret2
    exact ⟨rfl, (Below.refl _ _).alloc (Nat.le_refl _) _⟩
  · have hl2 : lenB f.length = [255, UInt8.ofNat (f.length / 256 % 256), UInt8.ofNat (f.length % 256)] := by rw [lenB, if_neg h]
    have hv : fieldB f = [255, UInt8.ofNat (f.length / 256 % 256), UInt8.ofNat (f.length % 256)] ++ f := by rw [fieldB, hl2]
    have hcv := conv_new w [255, UInt8.ofNat (f.length / 256 % 256), UInt8.ofNat (f.length % 256)] [.int .u8 255, .int .u8 ((f.length : Int) / 256), .int .u8 ((f.length : Int) % 256)] 3 3
      (by rw [List.map_cons, List.map_cons, List.map_singleton, u8_ofNat, u8_ofNat, show ((f.length / 256 : Nat) : Int) % 256 = (f.length : Int) / 256 from by omega]; rfl) rfl
    have hadd : ∀ u : World, (Op.stringOp .add ⟨[255, UInt8.ofNat (f.length / 256 % 256), UInt8.ofNat (f.length % 256)].toArray⟩ ⟨f.toArray⟩).run Try.prog u = .ok (str (fieldB f)) u := fun u => by
      rw [run_str_add u _ _ (by simp only [List.length_cons, List.length_nil]; omega), hv]
    clear hv hl2
    go_enter Try.func69, Try.ntmps69
    go_wp2_with fail
    go_ret2
    exact ⟨rfl, (Below.refl _ _).alloc (Nat.le_refl _) _⟩

end Go.Proofs.Ytiaabgmmmekpnaa

namespace Go.Proofs.Ytiaabgmmmekpnaa
open Go.RowKit

set_option maxHeartbeats 400000 in
theorem refsum_any (l : List UInt8) (w : World) (hl : l.length ≤ 1099511627776) :
    Calls Try.prog 85 #[str l] w fun e w' => e = .returned (.int .u32 (adler l : Int)) ∧ w = w' := by
  go_enter Try.func85, Try.ntmps85
  go_wp2
  go_loop [3, 4, 5] (fun a b i => ∃ k h : Nat, k ≤ l.length ∧ i = .int .i64 (k : Int) ∧ a = .int .i64 ((1 + totS (l.take k) : Nat) : Int) ∧ b = .int .i64 (h : Int) ∧ h % 65521 = hi (l.take k) ∧ h ≤ 65520 * k) (fun _ _ i => l.length - (intOf i).toNat)
  case atStart => exact ⟨0, 0, by omega, rfl, rfl, rfl, rfl, by omega⟩
  case round =>
    obtain ⟨k, h, hk, rfl, rfl, rfl, hh, hb⟩ := hrel
    have hS := totS_le (l.take k)
    rw [List.length_take, Nat.min_eq_left hk] at hS
    by_cases hlt : k < l.length
    · have e1 := Lib.hid (totS_take l k hlt)
      have e2 := Lib.hid (hi_take l k hlt)
      have h3 := l[k].toNat_lt
      have hidx : ((⟨l.toArray⟩ : ByteArray)[k]'(by simpa [ByteArray.size] using hlt)).toNat = l[k].toNat := rfl
      have e3 := Lib.hid (lo_take l k hlt)
      have Hh := Lib.hid hh
      clear hh
      generalize l[k].toNat = x at *
      have hS' := Lib.hid (show lo (l.take k) = (1 + totS (l.take k)) % 65521 from rfl)
      have hS2 := Lib.hid (show lo (l.take (k + 1)) = (1 + totS (l.take (k + 1))) % 65521 from rfl)
      generalize totS (l.take k) = S at *
      go_wp2
      go_round
      case rel =>
        refine ⟨k + 1, h + (1 + S + x) % 65521, by omega, by go_num, ?_, by go_num, ?_, by omega⟩
        · rw [e1.out]; go_num
        · rw [e2.out, e3.out, ← Hh.out, hS'.out]
          omega
      case measure => simp [intOf]; omega
    · obtain rfl : k = l.length := by omega
      have Hh := Lib.hid hh
      clear hh
      simp only [List.take_length] at hS ⊢
      go_wp2
      go_ret
      refine ⟨?_, rfl⟩
      have h1 := Hh.out
      rw [List.take_length] at h1
      have h2 : adler l = h % 65521 * 65536 + (1 + totS l) % 65521 := by rw [h1]; rfl
      simp [h2]

theorem be4_vals (n : Nat) (hn : n < 4294967296) : (be4 n).map u8 = [.int .u8 ((n : Int) / 16777216), .int .u8 ((n : Int) / 65536 % 256), .int .u8 ((n : Int) / 256 % 256), .int .u8 ((n : Int) % 256)] := by
  simp only [be4, List.map_cons, List.map_nil, u8_ofNat]
  simp
  omega

theorem refseal_any (l : List UInt8) (w : World) (hl : l.length ≤ 1099511627776) :
    Calls Try.prog 68 #[str l] w fun e w' => e = .returned (str (l ++ sumB l)) ∧ Below w.heap.size w w' := by
  have ha := adler_lt l
  have hcv : ∀ (u : World), (convert 48 9 (.slice (some ⟨u.heap.size, 0, none⟩) 4 4)).run Try.prog (u.alloc (.cells #[.int .u8 ((adler l : Int) / 16777216), .int .u8 ((adler l : Int) / 65536 % 256), .int .u8 ((adler l : Int) / 256 % 256), .int .u8 ((adler l : Int) % 256)] 5)) = .ok (str (sumB l)) (u.alloc (.cells #[.int .u8 ((adler l : Int) / 16777216), .int .u8 ((adler l : Int) / 65536 % 256), .int .u8 ((adler l : Int) / 256 % 256), .int .u8 ((adler l : Int) % 256)] 5)) := fun u => by
    have hb := (Blk.new u 5 #[.int .u8 ((adler l : Int) / 16777216), .int .u8 ((adler l : Int) / 65536 % 256), .int .u8 ((adler l : Int) / 256 % 256), .int .u8 ((adler l : Int) % 256)]).rd (fun _ => True) trivial
    have hv := be4_vals (adler l) ha
    rw [show #[Value.int .u8 ((adler l : Int) / 16777216), .int .u8 ((adler l : Int) / 65536 % 256), .int .u8 ((adler l : Int) / 256 % 256), .int .u8 ((adler l : Int) % 256)].toList = (sumB l).map u8 from hv.symm] at hb
    exact run_bytes_str (c := 4) (l := sumB l) _ _ _ Try.underlying48 Try.underlying5 Try.underlying9 hb
  have hadd : ∀ u : World, (Op.stringOp .add ⟨l.toArray⟩ ⟨(sumB l).toArray⟩).run Try.prog u = .ok (str (l ++ sumB l)) u := fun u => run_str_add u _ _ (by rw [sumB_length]; omega)
  go_enter Try.func68, Try.ntmps68
  go_wp2_with (go_at_call 85; refine (refsum_any l _ hl).mono ?_; rintro e w1 ⟨rfl, rfl⟩)
  go_ret
  exact ⟨rfl, (Below.refl _ _).alloc (Nat.le_refl _) _⟩
end Go.Proofs.Ytiaabgmmmekpnaa

namespace Go.Proofs.Ytiaabgmmmekpnaa
open Go.RowKit
set_option maxRecDepth 100000

set_option maxHeartbeats 400000 in
theorem reflie_any (ok : Nat → Prop) (A : Option Addr) (c : Nat) (L : List (List UInt8)) (w : World) (hr : Rd w ok A (L.map str)) (hn : L.length ≤ 1099511627776) (hsum : (recsB L).length ≤ 1099511627776) (hall : ∀ f ∈ L, f.length ≤ 65531) :
    Calls Try.prog 45 #[.slice A L.length c] w fun e w' => e = .returned (str (recsB L)) ∧ Below w.heap.size w w' := by
  have Hr := Lib.hid hr
  have Hsum := Lib.hid hsum
  have Hall := Lib.hid hall
  clear hr hsum hall
  go_enter Try.func45, Try.ntmps45
  go_wp2_with fail
  go_loopw [3, 4] (fun v i wr => ∃ k : Nat, k ≤ L.length ∧ i = .int .i64 (k : Int) ∧ v = str (recsB (L.take k)) ∧ Below w.heap.size w wr) (fun _ i _ => L.length - (intOf i).toNat)
  case atStart => exact ⟨0, by omega, rfl, rfl, Below.refl _ _⟩
  case round =>
    obtain ⟨k, hk, rfl, rfl, hbel⟩ := hrel
    by_cases hlt : k < L.length
    · obtain ⟨b, off, rfl, _, had, hel⟩ := Hr.out.at' (by intro e; have := congrArg List.length e; simp at this; subst this; simp at hlt)
      have hcell := (hbel.cell (p := ⟨b, off + k, none⟩) had).trans (hel k (by simpa using hlt))
      rw [List.getElem_map] at hcell
      clear hel
      have hlen := Hall.out _ (List.getElem_mem hlt)
      have hadd : ∀ u : World, (Op.stringOp .add ⟨(recsB (L.take k)).toArray⟩ ⟨(recB L[k]).toArray⟩).run Try.prog u = .ok (str (recsB (L.take (k + 1)))) u := fun u => by
        rw [run_str_add u _ _ (by have := recsB_take_le L (k + 1); have := Hsum.out; rw [recsB_take_succ L k hlt, List.length_append] at *; omega), recsB_take_succ L k hlt]
      go_wp2_with (first | (go_at_call 68; refine (refseal_any L[k] _ (by omega)).mono ?_; rintro e w1 ⟨rfl, hb1⟩) | (go_at_call 69; refine (reffield_any (L[k] ++ sumB L[k]) _ (by rw [List.length_append, sumB_length]; omega)).mono ?_; rintro e w2 ⟨rfl, hb2⟩; rw [show fieldB (L[k] ++ sumB L[k]) = recB L[k] from rfl]))
      go_roundw
      case rel => exact ⟨k + 1, by omega, by go_num, rfl, below_call (below_call hbel hb1) hb2⟩
      case measure => simp [intOf]; omega
    · obtain rfl : k = L.length := by omega
      rw [List.take_length]
      go_wp2
      go_ret
      exact ⟨rfl, hbel⟩
end Go.Proofs.Ytiaabgmmmekpnaa

namespace Go.Proofs.Ytiaabgmmmekpnaa
open Go.RowKit
set_option maxRecDepth 100000

theorem run_bytes192 (u : World) : (Instr.makeSlice 48 (.int .i64 192) (.int .i64 192)).run Try.prog u = .ok (.slice (some ⟨u.heap.size, 0, none⟩) 192 192) (u.alloc (.cells (Array.replicate 192 (.int .u8 0)) 5)) := by
  have hr := run_make_row' (P := Try.prog) 48 5 (.int .u8 0) 1 Try.underlying48 (by kernel_rfl) rfl .i64 .i64 192 (by omega) (by omega) u
  rw [show (#[Value.int .u8 0] : Array Value) = Array.replicate 1 (.int .u8 0) from rfl, madeCells_rep _ 1 _ (by decide)] at hr
  exact hr

theorem below_alloc' {w u : World} {o : Obj} (h : Below w.heap.size w u) : Below w.heap.size w (u.alloc o) := h.alloc h.size o

set_option maxHeartbeats 1000000 in
theorem reftally_any (n s u : Nat) (w : World) (hn : n < 18446744073709551616) (hs : s < 18446744073709551616) (hu : u < 18446744073709551616) :
    Calls Try.prog 65 #[.int .u64 (n : Int), .int .u64 (s : Int), .int .u64 (u : Int)] w fun e w' => e = .returned (str (tallyB n s u)) ∧ Below w.heap.size w w' := by
  have hmk := run_bytes192
  obtain ⟨Z, hZ⟩ : ∃ Z : Array Value, Z = Array.replicate 192 (.int .u8 0) := ⟨_, rfl⟩
  rw [← hZ] at hmk
  have hZl : Z.toList = (List.replicate 192 (0 : UInt8)).map u8 := by rw [hZ, List.map_replicate]; simp [u8]
  have hzl : (List.replicate 192 (0 : UInt8)).length = 192 := List.length_replicate
  have hcv : ∀ (z : World) (b : Nat), Blk z b 5 Z → (convert 48 9 (.slice (some ⟨b, 0, none⟩) 192 192)).run Try.prog z = .ok (str (List.replicate 192 0)) z := fun z b h => by
    refine conv_is (ok := fun _ => True) ⟨some ⟨b, 0, none⟩, 192, by rw [hzl], by rw [hzl]; exact Nat.le_refl _, by unfold maxLen; omega, ?_⟩
    rw [← hZl]
    exact h.rd _ trivial
  have hBlk : ∀ z : World, Blk (z.alloc (.cells Z 5)) z.heap.size 5 Z := fun z => Blk.new z _ _
  have hBlke : ∀ z : World, Blk (z.alloc (.cells Z 5)).drew z.heap.size 5 Z := fun z => (Blk.new z _ _).drew
  have hBlkd : ∀ z : World, Blk (z.drew.alloc (.cells Z 5)) z.heap.size 5 Z := fun z => Blk.new z.drew _ _
  obtain ⟨ZZ, hZZ⟩ : ∃ ZZ, ZZ = List.replicate 192 (0 : UInt8) := ⟨_, rfl⟩
  rw [← hZZ] at hcv hzl
  have h8 := be8_length
  obtain ⟨N8, hN8⟩ : ∃ N8, N8 = be8 n := ⟨_, rfl⟩
  obtain ⟨S8, hS8⟩ : ∃ S8, S8 = be8 s := ⟨_, rfl⟩
  obtain ⟨U8, hU8⟩ : ∃ U8, U8 = be8 u := ⟨_, rfl⟩
  have hN := fun (z : World) => refeight_any n z hn
  have hS := fun (z : World) => refeight_any s z hs
  have hU := fun (z : World) => refeight_any u z hu
  rw [← hN8] at hN
  rw [← hS8] at hS
  rw [← hU8] at hU
  have lN : N8.length = 8 := by rw [hN8]; exact h8 n
  have lS : S8.length = 8 := by rw [hS8]; exact h8 s
  have lU : U8.length = 8 := by rw [hU8]; exact h8 u
  have hfin : markB ++ N8 ++ (S8 ++ U8) ++ markB ++ (S8 ++ U8) ++ N8 ++ ZZ = tallyB n s u := by
    rw [hN8, hS8, hU8, hZZ]
    unfold tallyB tally64
    simp [List.append_assoc]
  have lM : markB.length = 8 := rfl
  have a1 : ∀ z : World, (Op.stringOp .add ⟨S8.toArray⟩ ⟨U8.toArray⟩).run Try.prog z = .ok (str (S8 ++ U8)) z := fun z => run_str_add z _ _ (by omega)
  have a2 : ∀ z : World, (Op.stringOp .add ⟨markB.toArray⟩ ⟨N8.toArray⟩).run Try.prog z = .ok (str (markB ++ N8)) z := fun z => run_str_add z _ _ (by omega)
  obtain ⟨R, hR⟩ : ∃ R, R = S8 ++ U8 := ⟨_, rfl⟩
  rw [← hR] at hfin a1
  have lR : R.length = 16 := by rw [hR, List.length_append]; omega
  obtain ⟨X1, hX1⟩ : ∃ X1, X1 = markB ++ N8 := ⟨_, rfl⟩
  rw [← hX1] at hfin a2
  have l1 : X1.length = 16 := by rw [hX1, List.length_append]; omega
  have a3 : ∀ z : World, (Op.stringOp .add ⟨X1.toArray⟩ ⟨R.toArray⟩).run Try.prog z = .ok (str (X1 ++ R)) z := fun z => run_str_add z _ _ (by omega)
  obtain ⟨X2, hX2⟩ : ∃ X2, X2 = X1 ++ R := ⟨_, rfl⟩
  rw [← hX2] at hfin a3
  have l2 : X2.length = 32 := by rw [hX2, List.length_append]; omega
  have a4 : ∀ z : World, (Op.stringOp .add ⟨X2.toArray⟩ ⟨markB.toArray⟩).run Try.prog z = .ok (str (X2 ++ markB)) z := fun z => run_str_add z _ _ (by omega)
  obtain ⟨X3, hX3⟩ : ∃ X3, X3 = X2 ++ markB := ⟨_, rfl⟩
  rw [← hX3] at hfin a4
  have l3 : X3.length = 40 := by rw [hX3, List.length_append]; omega
  have a5 : ∀ z : World, (Op.stringOp .add ⟨X3.toArray⟩ ⟨R.toArray⟩).run Try.prog z = .ok (str (X3 ++ R)) z := fun z => run_str_add z _ _ (by omega)
  obtain ⟨X4, hX4⟩ : ∃ X4, X4 = X3 ++ R := ⟨_, rfl⟩
  rw [← hX4] at hfin a5
  have l4 : X4.length = 56 := by rw [hX4, List.length_append]; omega
  have a6 : ∀ z : World, (Op.stringOp .add ⟨X4.toArray⟩ ⟨N8.toArray⟩).run Try.prog z = .ok (str (X4 ++ N8)) z := fun z => run_str_add z _ _ (by omega)
  obtain ⟨X5, hX5⟩ : ∃ X5, X5 = X4 ++ N8 := ⟨_, rfl⟩
  rw [← hX5] at hfin a6
  have l5 : X5.length = 64 := by rw [hX5, List.length_append]; omega
  have a7 : ∀ z : World, (Op.stringOp .add ⟨X5.toArray⟩ ⟨ZZ.toArray⟩).run Try.prog z = .ok (str (X5 ++ ZZ)) z := fun z => run_str_add z _ _ (by omega)
  rw [hfin] at a7
  have HN := Lib.hid hN
  have HS := Lib.hid hS
  have HU := Lib.hid hU
  clear hN hS hU hZ hZl hZZ hzl h8 hN8 hS8 hU8 hfin hR hX1 hX2 hX3 hX4 hX5 lN lS lU lM lR l1 l2 l3 l4 l5
  unfold markB at a2 a4
  go_enter Try.func65, Try.ntmps65
  go_wp2_with fail
  refine (HS.out _).mono ?_
  rintro e w1 ⟨rfl, hb1⟩
  go_wp2_with fail
  refine (HU.out _).mono ?_
  rintro e w2 ⟨rfl, hb2⟩
  have hb02 := below_call hb1 hb2
  go_wp2_with fail
  go_region_with (go_at_call 84; refine (HN.out _).mono ?_; rintro e w' ⟨rfl, hb'⟩; (first | (have hk := Blk.grow (hBlke _) hb') | (have hk := Blk.grow (hBlkd _) hb') | (have hk := Blk.grow (hBlk _) hb') | (have hk := Blk.grow (cs := Z) (t := 5) (by assumption) hb') | skip))
  all_goals
    go_wp2
    go_ret
    refine ⟨rfl, ?_⟩
    repeat (first | exact hb02 | refine below_alloc' ?_ | refine below_then_drew ?_ | refine below_call ?_ (by assumption))
end Go.Proofs.Ytiaabgmmmekpnaa

namespace Go.Proofs.Ytiaabgmmmekpnaa
open Go.RowKit
set_option maxRecDepth 100000

theorem extract_str (b : List UInt8) (i j : Nat) : (⟨b.toArray⟩ : ByteArray).extract i j = ⟨((b.take j).drop i).toArray⟩ := by
  apply ByteArray.ext
  rw [ByteArray.data_extract]
  apply Array.ext'
  rw [Array.toList_extract]
  simp [List.drop_take]
theorem byte_at (b : List UInt8) (k : Nat) (h : k < b.length) (hs : k < (⟨b.toArray⟩ : ByteArray).size) : ((⟨b.toArray⟩ : ByteArray)[k]'hs) = b.getD k 0 := by
  rw [List.getD_eq_getElem?_getD, List.getElem?_eq_getElem h]
  rfl

set_option maxHeartbeats 400000 in
theorem refone_any (b : List UInt8) (w : World) (hb : b ≠ []) (hl : b.length ≤ 1099511627776) :
    Calls Try.prog 67 #[str b] w fun e w' => e = .returned (.tuple #[str (firstF b).1, str (firstF b).2.1, .int .i64 ((firstF b).2.2 : Int)]) ∧ Below w.heap.size w w' := by
  have h0 : 0 < b.length := List.length_pos_iff.2 hb
  have hs0 : 0 < (⟨b.toArray⟩ : ByteArray).size := h0
  have e0 := byte_at b 0 h0 hs0
  obtain ⟨x, hx⟩ : ∃ x : Nat, x = (b.getD 0 0).toNat := ⟨_, rfl⟩
  have hx8 : x < 256 := by rw [hx]; exact (b.getD 0 0).toNat_lt
  have hv0 : (((⟨b.toArray⟩ : ByteArray)[0]'hs0).toNat : Int) = (x : Int) := by rw [e0, hx]
  by_cases h255 : x = 255
  · subst h255
    by_cases h3 : b.length < 3
    · have hF : firstF b = ([], [], 8) := by
        unfold firstF firstLen
        rw [← hx, if_neg (by omega : ¬ (255 : Nat) ≠ 255), if_pos h3]
        rfl
      have HF := Lib.hid hF
      have h3' : (b.length : Int) < 3 := by omega
      clear hF hx e0
      go_enter Try.func67, Try.ntmps67
      go_wp2
      go_ret3
      rw [HF.out]
      exact ⟨rfl, Below.refl _ _⟩
    · have h3' : ¬ (b.length : Int) < 3 := by omega
      have hs1 : 1 < (⟨b.toArray⟩ : ByteArray).size := by show 1 < b.length; omega
      have hs2 : 2 < (⟨b.toArray⟩ : ByteArray).size := by show 2 < b.length; omega
      have e1 := byte_at b 1 (by omega) hs1
      have e2 := byte_at b 2 (by omega) hs2
      obtain ⟨y, hy⟩ : ∃ y : Nat, y = (b.getD 1 0).toNat := ⟨_, rfl⟩
      obtain ⟨z, hz⟩ : ∃ z : Nat, z = (b.getD 2 0).toNat := ⟨_, rfl⟩
      have hy8 : y < 256 := by rw [hy]; exact (b.getD 1 0).toNat_lt
      have hz8 : z < 256 := by rw [hz]; exact (b.getD 2 0).toNat_lt
      have hv1 : (((⟨b.toArray⟩ : ByteArray)[1]'hs1).toNat : Int) = (y : Int) := by rw [e1, hy]
      have hv2 : (((⟨b.toArray⟩ : ByteArray)[2]'hs2).toNat : Int) = (z : Int) := by rw [e2, hz]
      have hfl : firstLen b = if y * 256 + z < 255 then (0, 0, 7) else (y * 256 + z, 3, 0) := by
        unfold firstLen
        rw [← hx, if_neg (by omega : ¬ (255 : Nat) ≠ 255), if_neg h3, ← hy, ← hz]
      clear hx e0 e1 e2 hy hz
      by_cases hsm : y * 256 + z < 255
      · have hF : firstF b = ([], [], 7) := by
          unfold firstF
          rw [hfl, if_pos hsm]
          rfl
        have HF := Lib.hid hF
        have hsm' : (y : Int) * 256 + (z : Int) < 255 := by omega
        clear hF hfl
        go_enter Try.func67, Try.ntmps67
        go_wp2_with fail
        go_quiet (fail)
        go_wp2
        go_ret3
        rw [HF.out]
        exact ⟨rfl, below_drewN (Below.refl _ _) _⟩
      · rw [if_neg hsm] at hfl
        obtain ⟨n, hn⟩ : ∃ n, n = y * 256 + z := ⟨_, rfl⟩
        rw [← hn] at hfl
        have hnn : (y : Int) * 256 + (z : Int) = (n : Int) := by omega
        have hsm' : ¬ (n : Int) < 255 := by omega
        have hn16 : n < 65536 := by omega
        by_cases hlt : b.length < 3 + n
        · have hF : firstF b = ([], [], 8) := by unfold firstF; rw [hfl]; dsimp only; rw [if_neg (by simp), if_pos hlt]
          have HF := Lib.hid hF
          have hlt' : (b.length : Int) < 3 + (n : Int) := by omega
          clear hF hfl hn
          go_enter Try.func67, Try.ntmps67
          go_wp2_with fail
          go_quiet (fail)
          go_wp2
          go_ret3
          rw [HF.out]
          exact ⟨rfl, below_drewN (Below.refl _ _) _⟩
        · have hF : firstF b = ((b.drop 3).take n, b.drop (3 + n), 0) := by unfold firstF; rw [hfl]; dsimp only; rw [if_neg (by simp), if_neg hlt]
          have HF := Lib.hid hF
          have hlt' : ¬ (b.length : Int) < 3 + (n : Int) := by omega
          clear hF hfl hn
          go_enter Try.func67, Try.ntmps67
          go_wp2_with fail
          go_quiet (fail)
          go_wp2_with fail
          go_quiet (fail)
          go_wp2
          go_ret3
          rw [HF.out]
          refine ⟨?_, ?_⟩
          · simp only [extract_str, List.drop_take, List.take_length, Nat.add_sub_cancel_left]
            try rfl
          · exact below_drewN (below_drewN (Below.refl _ _) _) _
  · have hf : firstLen b = (x, 1, 0) := by unfold firstLen; rw [if_pos (by rw [← hx]; exact h255), hx]
    have h255' : ¬ (x : Int) = 255 := by omega
    by_cases hlt : b.length < 1 + x
    · have hF : firstF b = ([], [], 8) := by unfold firstF; rw [hf]; dsimp only; rw [if_neg (by simp), if_pos hlt]
      have HF := Lib.hid hF
      have hlt' : (b.length : Int) < 1 + (x : Int) := by omega
      clear hF hf hx e0
      go_enter Try.func67, Try.ntmps67
      go_wp2
      go_ret3
      rw [HF.out]
      exact ⟨rfl, Below.refl _ _⟩
    · have hF : firstF b = ((b.drop 1).take x, b.drop (1 + x), 0) := by unfold firstF; rw [hf]; dsimp only; rw [if_neg (by simp), if_neg hlt]
      have HF := Lib.hid hF
      have hlt' : ¬ (b.length : Int) < 1 + (x : Int) := by omega
      clear hF hf hx e0
      go_enter Try.func67, Try.ntmps67
      go_wp2_with fail
      go_quiet (fail)
      go_wp2
      go_ret3
      rw [HF.out]
      refine ⟨?_, ?_⟩
      · simp only [extract_str, List.drop_take, List.take_length, Nat.add_sub_cancel_left]
        try rfl
      · exact below_drewN (Below.refl _ _) _
end Go.Proofs.Ytiaabgmmmekpnaa

namespace Go.Proofs.Ytiaabgmmmekpnaa
open Go.RowKit
set_option maxRecDepth 100000

theorem be8_unbe (p : List UInt8) (h : p.length = 8) : be8 (unbe p) = p :=
  unbe_inj 8 _ _ (be8_length _) h (unbe_be8 _ (by have := unbe_lt p; rw [h] at this; exact this))
theorem take64_pieces (b : List UInt8) : b.take 64 = b.take 8 ++ ((b.drop 8).take 8 ++ ((b.drop 16).take 8 ++ ((b.drop 24).take 8 ++ ((b.drop 32).take 8 ++ ((b.drop 40).take 16 ++ (b.drop 56).take 8))))) := by
  rw [show (64 : Nat) = 8 + (8 + (8 + (8 + (8 + (16 + 8))))) from rfl, List.take_add, List.take_add, List.take_add, List.take_add, List.take_add, List.take_add]
  simp only [List.drop_drop]
theorem take16_pieces (b : List UInt8) (i : Nat) : (b.drop i).take 16 = (b.drop i).take 8 ++ (b.drop (i + 8)).take 8 := by
  rw [show (16 : Nat) = 8 + 8 from rfl, List.take_add, List.drop_drop]
theorem tally64_more (n s u : Nat) : ((tally64 n s u).drop 32).take 8 = markB ∧ ((tally64 n s u).drop 40).take 8 = be8 s ∧ ((tally64 n s u).drop 48).take 8 = be8 u := by
  have h1 := be8_length n
  have h2 := be8_length s
  have h3 := be8_length u
  have h4 : markB.length = 8 := rfl
  have e : tally64 n s u = markB ++ (be8 n ++ (be8 s ++ (be8 u ++ (markB ++ (be8 s ++ (be8 u ++ be8 n)))))) := by simp [tally64, List.append_assoc]
  rw [e]
  refine ⟨?_, ?_, ?_⟩
  · rw [show (32 : Nat) = 8 + (8 + (8 + 8)) from rfl, ← List.drop_drop, ← List.drop_drop, ← List.drop_drop, List.drop_left' h4, List.drop_left' h1, List.drop_left' h2, List.drop_left' h3, List.take_left' h4]
  · rw [show (40 : Nat) = 8 + (8 + (8 + (8 + 8))) from rfl, ← List.drop_drop, ← List.drop_drop, ← List.drop_drop, ← List.drop_drop, List.drop_left' h4, List.drop_left' h1, List.drop_left' h2, List.drop_left' h3, List.drop_left' h4, List.take_left' h2]
  · rw [show (48 : Nat) = 8 + (8 + (8 + (8 + (8 + 8)))) from rfl, ← List.drop_drop, ← List.drop_drop, ← List.drop_drop, ← List.drop_drop, ← List.drop_drop, List.drop_left' h4, List.drop_left' h1, List.drop_left' h2, List.drop_left' h3, List.drop_left' h4, List.drop_left' h2, List.take_left' h3]

/-- A tally is told by its pieces, as the document tells it. -/
theorem asTally_pieces (b : List UInt8) (size : Nat) (hb : b.length = 256) :
    asTally b size = if b.take 8 ≠ markB ∨ (b.drop 32).take 8 ≠ markB ∨ (b.drop 16).take 16 ≠ (b.drop 40).take 16 ∨ (b.drop 8).take 8 ≠ (b.drop 56).take 8 ∨ unbe ((b.drop 8).take 8) = 0 ∨ 4611686018427387904 < unbe ((b.drop 8).take 8) ∨ 1 < unbe ((b.drop 16).take 8) ∨ size < unbe ((b.drop 24).take 8) then (0, 0, 0) else (unbe ((b.drop 8).take 8), unbe ((b.drop 16).take 8), unbe ((b.drop 24).take 8)) := by
  have hl : ∀ i, i + 8 ≤ 256 → ((b.drop i).take 8).length = 8 := fun i hi => by rw [List.length_take, List.length_drop]; omega
  have e1 := be8_unbe _ (hl 8 (by omega))
  have e2 := be8_unbe _ (hl 16 (by omega))
  have e3 := be8_unbe _ (hl 24 (by omega))
  have hiff : b.take 64 = tally64 (unbe ((b.drop 8).take 8)) (unbe ((b.drop 16).take 8)) (unbe ((b.drop 24).take 8)) ↔ (b.take 8 = markB ∧ (b.drop 32).take 8 = markB ∧ (b.drop 16).take 16 = (b.drop 40).take 16 ∧ (b.drop 8).take 8 = (b.drop 56).take 8) := by
    constructor
    · intro h
      have hc : b.take 64 = (tally64 (unbe ((b.drop 8).take 8)) (unbe ((b.drop 16).take 8)) (unbe ((b.drop 24).take 8))).take 64 := by
        rw [List.take_of_length_le (l := tally64 _ _ _) (by rw [tally64_length]; omega)]
        exact h
      obtain ⟨p0, p1, p2, p3, p7⟩ := tally64_parts (unbe ((b.drop 8).take 8)) (unbe ((b.drop 16).take 8)) (unbe ((b.drop 24).take 8))
      obtain ⟨p4, p5, p6⟩ := tally64_more (unbe ((b.drop 8).take 8)) (unbe ((b.drop 16).take 8)) (unbe ((b.drop 24).take 8))
      refine ⟨?_, ?_, ?_, ?_⟩
      · have := sub_take 8 hc 0 (by omega)
        rw [List.drop_zero, List.drop_zero] at this
        rw [this, p0]
      · rw [sub_take 8 hc 32 (by omega), p4]
      · rw [take16_pieces, take16_pieces, sub_take 8 hc 40 (by omega), sub_take 8 hc 48 (by omega), p5, p6, e2, e3]
      · rw [sub_take 8 hc 56 (by omega), p7, e1]
    · rintro ⟨h0, h4, h56, h7⟩
      rw [take64_pieces, h0, h4, ← h56, ← h7, take16_pieces]
      unfold tally64
      rw [e1, e2, e3]
      simp only [List.append_assoc]
  unfold asTally
  by_cases hbad : unbe ((b.drop 8).take 8) < 1 ∨ 4611686018427387904 < unbe ((b.drop 8).take 8) ∨ 1 < unbe ((b.drop 16).take 8) ∨ size < unbe ((b.drop 24).take 8)
  · rw [if_pos hbad, if_pos]
    rcases hbad with h | h | h | h
    · exact .inr (.inr (.inr (.inr (.inl (by omega)))))
    · exact .inr (.inr (.inr (.inr (.inr (.inl h)))))
    · exact .inr (.inr (.inr (.inr (.inr (.inr (.inl h))))))
    · exact .inr (.inr (.inr (.inr (.inr (.inr (.inr h))))))
  · rw [if_neg hbad]
    by_cases ht : b.take 64 = tally64 (unbe ((b.drop 8).take 8)) (unbe ((b.drop 16).take 8)) (unbe ((b.drop 24).take 8))
    · obtain ⟨a0, a4, a5, a7⟩ := hiff.1 ht
      rw [if_pos ht, if_neg]
      rintro (h | h | h | h | h | h | h | h)
      · exact h a0
      · exact h a4
      · exact h a5
      · exact h a7
      all_goals exact hbad (by omega)
    · rw [if_neg ht, if_pos]
      by_cases a0 : b.take 8 = markB
      · by_cases a4 : (b.drop 32).take 8 = markB
        · by_cases a5 : (b.drop 16).take 16 = (b.drop 40).take 16
          · exact .inr (.inr (.inr (.inl fun a7 => ht (hiff.2 ⟨a0, a4, a5, a7⟩))))
          · exact .inr (.inr (.inl a5))
        · exact .inr (.inl a4)
      · exact .inl a0
end Go.Proofs.Ytiaabgmmmekpnaa

namespace Go.Proofs.Ytiaabgmmmekpnaa
open Go.RowKit
set_option maxRecDepth 100000

theorem text_inj {l m : List UInt8} : ((⟨l.toArray⟩ : ByteArray) = ⟨m.toArray⟩) ↔ l = m := by
  constructor
  · intro h
    have := congrArg (fun x : ByteArray => x.data.toList) h
    simpa using this
  · rintro rfl
    rfl
theorem extract_at (b : List UInt8) (i k : Nat) : (⟨b.toArray⟩ : ByteArray).extract i (i + k) = ⟨((b.drop i).take k).toArray⟩ := by
  rw [extract_str, List.drop_take, Nat.add_sub_cancel_left]

theorem text_ne {X Y : ByteArray} (h : ¬ X = Y) : (X.toList == Y.toList) = false := by
  rw [beq_eq_false_iff_ne, ByteArray.toList_eq, ByteArray.toList_eq]
  intro e
  exact h (ByteArray.ext (Array.ext' e))
theorem text_mark {X : ByteArray} (h : ¬ X = (⟨#[119, 97, 114, 100, 115, 104, 105, 112]⟩ : ByteArray)) : (X.toList == [119, 97, 114, 100, 115, 104, 105, 112]) = false := by
  have := text_ne h
  rwa [ByteArray.toList_eq (⟨#[119, 97, 114, 100, 115, 104, 105, 112]⟩ : ByteArray)] at this

set_option maxHeartbeats 1000000 in
theorem refright_any (b : List UInt8) (room : Nat) (w : World) (hb : b.length = 256) (hroom : room < 4611686018427387904) :
    Calls Try.prog 39 #[str b, .int .i64 (room : Int)] w fun e w' => e = .returned (.tuple #[.int .u64 ((asTally b room).1 : Int), .int .i64 ((asTally b room).2.1 : Int), .int .i64 ((asTally b room).2.2 : Int)]) ∧ Below w.heap.size w w' := by
  have hA := asTally_pieces b room hb
  have hl8 : ∀ i, i + 8 ≤ 256 → ((b.drop i).take 8).length = 8 := fun i hi => by rw [List.length_take, List.length_drop]; omega
  have hun : ∀ p : List UInt8, p.length = 8 → unbe p < 18446744073709551616 := fun p h => by have := unbe_lt p; rw [h] at this; exact this
  have x0 : (⟨b.toArray⟩ : ByteArray).extract 0 8 = ⟨(b.take 8).toArray⟩ := extract_str b 0 8
  have x8 : (⟨b.toArray⟩ : ByteArray).extract 8 16 = ⟨((b.drop 8).take 8).toArray⟩ := extract_at b 8 8
  have x16 : (⟨b.toArray⟩ : ByteArray).extract 16 24 = ⟨((b.drop 16).take 8).toArray⟩ := extract_at b 16 8
  have x24 : (⟨b.toArray⟩ : ByteArray).extract 24 32 = ⟨((b.drop 24).take 8).toArray⟩ := extract_at b 24 8
  have x32 : (⟨b.toArray⟩ : ByteArray).extract 32 40 = ⟨((b.drop 32).take 8).toArray⟩ := extract_at b 32 8
  have xq : (⟨b.toArray⟩ : ByteArray).extract 16 32 = ⟨((b.drop 16).take 16).toArray⟩ := extract_at b 16 16
  have xr : (⟨b.toArray⟩ : ByteArray).extract 40 56 = ⟨((b.drop 40).take 16).toArray⟩ := extract_at b 40 16
  have x56 : (⟨b.toArray⟩ : ByteArray).extract 56 64 = ⟨((b.drop 56).take 8).toArray⟩ := extract_at b 56 8
  have l8 := hl8 8 (by omega)
  have l16 := hl8 16 (by omega)
  have l24 := hl8 24 (by omega)
  have n8 := hun _ l8
  have n16 := hun _ l16
  have n24 := hun _ l24
  have hN8 := fun z : World => refnumber_any _ z (Nat.le_of_eq l8)
  have hN16 := fun z : World => refnumber_any _ z (Nat.le_of_eq l16)
  have hN24 := fun z : World => refnumber_any _ z (Nat.le_of_eq l24)
  obtain ⟨n, hn⟩ : ∃ n, n = unbe ((b.drop 8).take 8) := ⟨_, rfl⟩
  obtain ⟨s, hs⟩ : ∃ n, n = unbe ((b.drop 16).take 8) := ⟨_, rfl⟩
  obtain ⟨u, hu⟩ : ∃ n, n = unbe ((b.drop 24).take 8) := ⟨_, rfl⟩
  rw [← hn] at hN8 n8
  rw [← hs] at hN16 n16
  rw [← hu] at hN24 n24
  rw [← hn, ← hs, ← hu] at hA
  simp only [ne_eq, ← text_inj (l := b.take 8), ← text_inj (l := (b.drop 32).take 8), ← text_inj (l := (b.drop 16).take 16), ← text_inj (l := (b.drop 8).take 8)] at hA
  rw [← x0, ← x8, ← x32, ← xq, ← xr, ← x56] at hA
  unfold str at hN8 hN16 hN24
  rw [← x8] at hN8
  rw [← x16] at hN16
  rw [← x24] at hN24
  obtain ⟨T, hT⟩ : ∃ T, T = asTally b room := ⟨_, rfl⟩
  rw [← hT] at hA ⊢
  clear x0 x8 x16 x24 x32 xq xr x56 hn hs hu hT
  obtain ⟨X0, x0⟩ : ∃ X, (⟨b.toArray⟩ : ByteArray).extract 0 8 = X := ⟨_, rfl⟩
  obtain ⟨X8, x8⟩ : ∃ X, (⟨b.toArray⟩ : ByteArray).extract 8 16 = X := ⟨_, rfl⟩
  obtain ⟨X16, x16⟩ : ∃ X, (⟨b.toArray⟩ : ByteArray).extract 16 24 = X := ⟨_, rfl⟩
  obtain ⟨X24, x24⟩ : ∃ X, (⟨b.toArray⟩ : ByteArray).extract 24 32 = X := ⟨_, rfl⟩
  obtain ⟨X32, x32⟩ : ∃ X, (⟨b.toArray⟩ : ByteArray).extract 32 40 = X := ⟨_, rfl⟩
  obtain ⟨Xq, xq⟩ : ∃ X, (⟨b.toArray⟩ : ByteArray).extract 16 32 = X := ⟨_, rfl⟩
  obtain ⟨Xr, xr⟩ : ∃ X, (⟨b.toArray⟩ : ByteArray).extract 40 56 = X := ⟨_, rfl⟩
  obtain ⟨X56, x56⟩ : ∃ X, (⟨b.toArray⟩ : ByteArray).extract 56 64 = X := ⟨_, rfl⟩
  rw [x0, x8, x32, xq, xr, x56] at hA
  rw [x8] at hN8
  rw [x16] at hN16
  rw [x24] at hN24
  rw [show (⟨markB.toArray⟩ : ByteArray) = (⟨#[119, 97, 114, 100, 115, 104, 105, 112]⟩ : ByteArray) from rfl] at hA
  have HA := Lib.hid hA
  have H8 := Lib.hid hN8
  have H16 := Lib.hid hN16
  have H24 := Lib.hid hN24
  clear hA hN8 hN16 hN24 hl8 hun l8 l16 l24
  go_enter Try.func39, Try.ntmps39
  go_wp2_with fail
  go_quiet ((go_at_call 63; (first | (with_reducible exact quiet_same (H8.out _)) | (with_reducible exact quiet_same (H16.out _)) | (with_reducible exact quiet_same (H24.out _)))))
  go_wp2_with fail
  have hwr : IntKind.u64.wrap (room : Int) = (room : Int) := IntWalk.u64_in _ (by omega)
  by_cases c0 : X0 = (⟨#[119, 97, 114, 100, 115, 104, 105, 112]⟩ : ByteArray)
  rotate_left
  · have hT := HA.out
    rw [if_pos (.inl (c0))] at hT
    have t0 := text_mark c0
    have HT := Lib.hid hT
    clear hT
    go_quiet (fail)
    go_wp2
    go_ret3
    rw [HT.out]
    exact ⟨rfl, by first | exact below_drewN (below_drewN (Below.refl _ _) _) _ | exact below_drewN (Below.refl _ _) _⟩
  by_cases c1 : X32 = (⟨#[119, 97, 114, 100, 115, 104, 105, 112]⟩ : ByteArray)
  rotate_left
  · have hT := HA.out
    rw [if_pos (.inr (.inl (c1)))] at hT
    have t1 := text_mark c1
    have HT := Lib.hid hT
    clear hT
    go_quiet (fail)
    go_wp2
    go_ret3
    rw [HT.out]
    exact ⟨rfl, by first | exact below_drewN (below_drewN (Below.refl _ _) _) _ | exact below_drewN (Below.refl _ _) _⟩
  by_cases c2 : Xq = Xr
  rotate_left
  · have hT := HA.out
    rw [if_pos (.inr (.inr (.inl (c2))))] at hT
    have t2 := text_ne c2
    have HT := Lib.hid hT
    clear hT
    go_quiet (fail)
    go_wp2
    go_ret3
    rw [HT.out]
    exact ⟨rfl, by first | exact below_drewN (below_drewN (Below.refl _ _) _) _ | exact below_drewN (Below.refl _ _) _⟩
  by_cases c3 : X8 = X56
  rotate_left
  · have hT := HA.out
    rw [if_pos (.inr (.inr (.inr (.inl (c3)))))] at hT
    have t3 := text_ne c3
    have HT := Lib.hid hT
    clear hT
    go_quiet (fail)
    go_wp2
    go_ret3
    rw [HT.out]
    exact ⟨rfl, by first | exact below_drewN (below_drewN (Below.refl _ _) _) _ | exact below_drewN (Below.refl _ _) _⟩
  by_cases c4 : n = 0
  · have hT := HA.out
    rw [if_pos (.inr (.inr (.inr (.inr (.inl (c4))))))] at hT
    have d4 : (n : Int) = 0 := by omega
    have HT := Lib.hid hT
    clear hT
    go_quiet (fail)
    go_wp2
    go_ret3
    rw [HT.out]
    exact ⟨rfl, by first | exact below_drewN (below_drewN (Below.refl _ _) _) _ | exact below_drewN (Below.refl _ _) _⟩
  have d4 : ¬ (n : Int) = 0 := by omega
  by_cases c5 : 4611686018427387904 < n
  · have hT := HA.out
    rw [if_pos (.inr (.inr (.inr (.inr (.inr (.inl (c5)))))))] at hT
    have d5 : 4611686018427387904 < (n : Int) := by omega
    have HT := Lib.hid hT
    clear hT
    go_quiet (fail)
    go_wp2
    go_ret3
    rw [HT.out]
    exact ⟨rfl, by first | exact below_drewN (below_drewN (Below.refl _ _) _) _ | exact below_drewN (Below.refl _ _) _⟩
  have d5 : ¬ 4611686018427387904 < (n : Int) := by omega
  by_cases c6 : 1 < s
  · have hT := HA.out
    rw [if_pos (.inr (.inr (.inr (.inr (.inr (.inr (.inl (c6))))))))] at hT
    have d6 : 1 < (s : Int) := by omega
    have HT := Lib.hid hT
    clear hT
    go_quiet (fail)
    go_wp2
    go_ret3
    rw [HT.out]
    exact ⟨rfl, by first | exact below_drewN (below_drewN (Below.refl _ _) _) _ | exact below_drewN (Below.refl _ _) _⟩
  have d6 : ¬ 1 < (s : Int) := by omega
  by_cases c7 : room < u
  · have hT := HA.out
    rw [if_pos (.inr (.inr (.inr (.inr (.inr (.inr (.inr (c7))))))))] at hT
    have d7 : (room : Int) < (u : Int) := by omega
    have HT := Lib.hid hT
    clear hT
    go_quiet (fail)
    go_wp2
    go_ret3
    rw [HT.out]
    exact ⟨rfl, by first | exact below_drewN (below_drewN (Below.refl _ _) _) _ | exact below_drewN (Below.refl _ _) _⟩
  have d7 : ¬ (room : Int) < (u : Int) := by omega
  have hT := HA.out
  rw [if_neg (by rintro (h | h | h | h | h | h | h | h) <;> first | exact h ‹_› | exact absurd h ‹_›)] at hT
  have HT := Lib.hid hT
  clear hT
  have hw1 : IntKind.i64.wrap (s : Int) = (s : Int) := IntWalk.i64_in _ (by omega)
  have hw2 : IntKind.i64.wrap (u : Int) = (u : Int) := IntWalk.i64_in _ (by omega)
  go_quiet (fail)
  go_wp2
  go_ret3
  rw [HT.out]
  exact ⟨rfl, by first | exact below_drewN (below_drewN (Below.refl _ _) _) _ | exact below_drewN (Below.refl _ _) _⟩
end Go.Proofs.Ytiaabgmmmekpnaa

namespace Go.Proofs.Ytiaabgmmmekpnaa
open Go.RowKit
set_option maxRecDepth 100000

theorem elemST : ElemT Try.prog 30 9 16 := ElemT.mk_ (z := .string ByteArray.empty) Try.underlying30 (by kernel_rfl) rfl

/-- What texts answers. -/
def TextsPost (L : List (List UInt8)) (w : World) (e : Ending) (w' : World) : Prop :=
  (∃ v, e = .returned v ∧ Own1 w' w.heap.size 9 v (L.map str)) ∧ Below w.heap.size w w'

theorem texts_any (ok : Nat → Prop) (v0 : Value) (L : List (List UInt8)) (w : World) (hL : IsBB w ok v0 L) (hn : L.length ≤ 1099511627776) :
    Calls Try.prog 20 #[v0] w (TextsPost L w) := by
  obtain ⟨A, c, rfl, hc, hm, hel⟩ := hL.elem
  unfold maxLen at hm
  have Hel := Lib.hid hel
  clear hel hm
  go_enter Try.func20, Try.ntmps20
  go_wp2
  go_loopw [3, 8] (fun v i wr => ∃ k : Nat, k ≤ L.length ∧ i = .int .i64 (k : Int) ∧ Own1 wr w.heap.size 9 v ((L.take k).map str) ∧ Below w.heap.size w wr) (fun _ i _ => L.length - (intOf i).toNat)
  case atStart => exact ⟨0, by omega, rfl, Own1.nil _ _ _, Below.refl _ _⟩
  case round =>
    obtain ⟨k, hk, rfl, hown, hbel⟩ := hrel
    by_cases hlt : k < L.length
    · obtain ⟨b, off, rfl, _, had, hel⟩ := Hel.out (by intro e; subst e; simp at hlt)
      obtain ⟨Ai, ci, hcell, hci, hcm, hrd⟩ := hel k hlt
      have hcell' : wr.cell? ⟨b, off + k, none⟩ = some (.slice Ai L[k].length ci) := (hbel.cell (p := ⟨b, off + k, none⟩) had).trans hcell
      clear hel
      have hrd' := hrd.grow hbel
      clear hcell hrd
      go_wp2_with (first | (with_reducible refine wpList_bytes_str 5 Try.underlying48 Try.underlying5 Try.underlying9 ok Ai ci L[k] rfl hrd' ?_) | (at_builtin; refine wpList_app1_one _ elemST rfl (.tmp 12) (.tmp 15) rfl w.heap.size _ _ rfl hown (str L[k]) _ rfl rfl (by simp; omega) (by simp; omega) hbel.size ?_; intro v2 w2 hown2 hg2 hat2))
      go_roundw
      case rel =>
        refine ⟨k + 1, by omega, by go_num, ?_, hbel.trans (hown.below_of hg2 hbel.size (Nat.le_refl _))⟩
        rw [List.take_succ_eq_append_getElem hlt, List.map_append]
        exact hown2
      case measure => simp [intOf]; omega
    · obtain rfl : k = L.length := by omega
      rw [List.take_length] at hown
      go_wp2
      go_ret
      exact ⟨⟨_, rfl, hown⟩, hbel⟩

/-- The same, opened: texts that lie in fresh memory. -/
theorem texts_at (ok : Nat → Prop) (v0 : Value) (L : List (List UInt8)) (w : World) (hL : IsBB w ok v0 L) (hn : L.length ≤ 1099511627776) :
    Calls Try.prog 20 #[v0] w fun e w' => ∃ A c, e = .returned (.slice A L.length c) ∧ Own1 w' w.heap.size 9 (.slice A L.length c) (L.map str) ∧ Rd w' (fun _ => True) A (L.map str) ∧ Below w.heap.size w w' :=
  (texts_any ok v0 L w hL hn).mono fun e w' ⟨⟨v, he, ho⟩, hb⟩ => by
    obtain ⟨A, c, hv, _, _, hr⟩ := ho.form
    rw [List.length_map] at hv
    subst hv
    exact ⟨A, c, he, ho, hr.weaken fun _ _ => trivial, hb⟩

def SamePost (X Y : List (List UInt8)) (w : World) (e : Ending) (w' : World) : Prop := e = .returned (.bool (X == Y)) ∧ Below w.heap.size w w'
set_option maxHeartbeats 400000 in
theorem samej_any (ok ok' : Nat → Prop) (v : Value) (B : Option Addr) (d : Nat) (X Y : List (List UInt8)) (w : World) (hX : IsBB w ok v X) (hY : Rd w ok' B (Y.map str)) (hx : X.length ≤ 1099511627776) :
    Calls Try.prog 18 #[v, .slice B Y.length d] w (SamePost X Y w) := by
  obtain ⟨A, c, rfl, hc, hm, hel⟩ := hX.elem
  have Hel := Lib.hid hel
  clear hel hm hX
  by_cases hlen : X.length = Y.length
  · have hlen' : (X.length : Int) = (Y.length : Int) := by omega
    go_enter Try.func18, Try.ntmps18
    go_wp2_with fail
    go_loopw [14] (fun i wr => ∃ k : Nat, k ≤ Y.length ∧ i = .int .i64 (k : Int) ∧ X.take k = Y.take k ∧ Below w.heap.size w wr) (fun i _ => Y.length - (intOf i).toNat)
    case atStart => exact ⟨0, by omega, rfl, by simp, Below.refl _ _⟩
    case round =>
      obtain ⟨k, hk, rfl, htk, hbel⟩ := hrel
      by_cases hlt : k < Y.length
      · have hlt' : k < X.length := by omega
        obtain ⟨b, off, rfl, _, had, hcells⟩ := Hel.out (by intro e; rw [e] at hlt'; simp at hlt')
        obtain ⟨Ai, ci, hcell, hci, hcm, hri⟩ := hcells k hlt'
        obtain ⟨b', off', rfl, _, had', hel'⟩ := hY.at' (by intro e; have := congrArg List.length e; simp at this; subst this; simp at hlt)
        have hc1 := (hbel.cell (p := ⟨b, off + k, none⟩) had).trans hcell
        have hc2 := (hbel.cell (p := ⟨b', off' + k, none⟩) had').trans (hel' k (by simpa using hlt))
        rw [List.getElem_map] at hc2
        have hcv := conv_is (show IsB wr ok (.slice Ai X[k].length ci) X[k] from ⟨Ai, ci, rfl, hci, hcm, hri.frame fun q _ hq => hbel.block q hq⟩)
        clear hel' hcells hcell hri
        have hidx : (k : Int) < (X.length : Int) := by omega
        have hidx' : (k : Int) < (Y.length : Int) := by omega
        have Htk := Lib.hid htk
        clear htk
        go_wp2
        · rename_i hb
          have hne : X ≠ Y := fun e => by simp [e] at hb
          go_ret
          exact ⟨by rw [beq_eq_false_iff_ne.2 hne]; rfl, hbel⟩
        · rename_i hb
          have heq : X[k] = Y[k] := by simpa using hb
          go_roundw
          case rel => exact ⟨k + 1, by omega, by go_num, by rw [List.take_succ_eq_append_getElem hlt, List.take_succ_eq_append_getElem hlt', Htk.out, heq], hbel⟩
          case measure => simp [intOf]; omega
      · obtain rfl : k = Y.length := by omega
        have hXY : X = Y := by
          rw [← hlen, List.take_length, hlen, List.take_length] at htk
          exact htk
        have HXY := Lib.hid hXY
        clear hXY htk
        go_wp2
        go_ret
        exact ⟨by rw [beq_iff_eq.2 HXY.out]; rfl, hbel⟩
  · have hne : X ≠ Y := fun e => hlen (by rw [e])
    have hlen' : ¬ (X.length : Int) = (Y.length : Int) := by omega
    have Hne := Lib.hid hne
    clear hne
    go_enter Try.func18, Try.ntmps18
    go_wp2
    go_ret
    exact ⟨by rw [beq_eq_false_iff_ne.2 Hne.out]; rfl, Below.refl _ _⟩
end Go.Proofs.Ytiaabgmmmekpnaa

namespace Go.Proofs.Ytiaabgmmmekpnaa
open Go.RowKit
set_option maxRecDepth 100000

theorem recF_short {f : List UInt8} (h : f.length < 4) : recF f = none := by
  unfold recF
  rw [if_neg (by omega)]
theorem recF_ok {f : List UInt8} (he : f.take (f.length - 4) ++ sumB (f.take (f.length - 4)) = f) : recF f = some (f.take (f.length - 4)) := by
  have := recF_seal (f.take (f.length - 4))
  rwa [he] at this
theorem recF_bad {f : List UInt8} (he : ¬ f.take (f.length - 4) ++ sumB (f.take (f.length - 4)) = f) : recF f = none := by
  unfold recF
  rw [if_neg]
  rintro ⟨_, hs⟩
  apply he
  unfold sealedB at hs
  rw [← eq_of_beq hs, List.take_append_drop]
theorem firstF_less (T : List UInt8) (h0 : T ≠ []) (h : (firstF T).2.2 = 0) : (firstF T).1.length + 1 + (firstF T).2.1.length ≤ T.length := by
  have hs := firstLen_size T h0
  unfold firstF at h ⊢
  by_cases a : (firstLen T).2.2 ≠ 0
  · rw [if_pos a] at h
    exact absurd h a
  · by_cases c : T.length < (firstLen T).2.1 + (firstLen T).1
    · rw [if_neg a, if_pos c] at h
      exact absurd h (by decide)
    · rw [if_neg a, if_neg c]
      obtain ⟨h1, h2, _⟩ := hs (by simpa using a)
      show ((T.drop _).take _).length + 1 + (T.drop _).length ≤ _
      rw [List.length_take, List.length_drop, List.length_drop]
      omega
/-- How long a text is. -/
def lenS : Value → Nat
  | .string s => s.size
  | _ => 0

set_option maxHeartbeats 1000000 in
theorem refrecords_any (b : List UInt8) (w : World) (hl : b.length ≤ 1099511627776) :
    Calls Try.prog 42 #[str b] w fun e w' => ∃ v, e = .returned (.tuple #[v, .int .i64 ((recsOf b).2 : Int)]) ∧ Own1 w' w.heap.size 9 v ((recsOf b).1.map str) ∧ Below w.heap.size w w' := by
  obtain ⟨Z, hZ⟩ : ∃ Z, Z = recsOf b := ⟨_, rfl⟩
  rw [← hZ]
  have hZ' : recsV [] (steps b) = Z := hZ.symm
  have HZ := Lib.hid hZ'
  clear hZ hZ'
  go_enter Try.func42, Try.ntmps42
  go_wp2_with fail
  go_loopw [0, 4] (fun t v wr => ∃ (T : List UInt8) (acc : List (List UInt8)), t = str T ∧ T.length + acc.length ≤ b.length ∧ recsV acc (steps T) = Z ∧ Own1 wr w.heap.size 9 v (acc.map str) ∧ Below w.heap.size w wr) (fun t _ _ => lenS t)
  case atStart => exact ⟨b, [], rfl, by simp, HZ.out, Own1.nil _ _ _, Below.refl _ _⟩
  case round =>
    obtain ⟨T, acc, rfl, hlen, hrec, hown, hbel⟩ := hrel
    have Hrec := Lib.hid hrec
    clear hrec
    by_cases h0 : T = []
    · subst h0
      have hz : Z = (acc, 0) := Hrec.out.symm
      have HZ2 := Lib.hid hz
      clear hz
      go_wp2_with fail
      go_ret2
      rw [HZ2.out]
      exact ⟨_, rfl, hown, hbel⟩
    · have ht0 : (T == []) = false := beq_eq_false_iff_ne.2 h0
      have ht1 : T.isEmpty = false := by cases T with | nil => exact absurd rfl h0 | cons _ _ => rfl
      have hone := fun z : World => refone_any T z h0 (by omega)
      have herr := steps_err T h0
      have hok := steps_ok T h0
      have hlt : (firstF T).2.2 = 0 → (firstF T).1.length + 1 + (firstF T).2.1.length ≤ T.length := firstF_less T h0
      obtain ⟨F, hF⟩ : ∃ F, F = (firstF T).1 := ⟨_, rfl⟩
      obtain ⟨R, hR⟩ : ∃ R, R = (firstF T).2.1 := ⟨_, rfl⟩
      obtain ⟨e0, he0⟩ : ∃ e0, e0 = (firstF T).2.2 := ⟨_, rfl⟩
      rw [← hF, ← hR, ← he0] at hone hlt
      rw [← he0] at herr
      rw [← hF, ← hR, ← he0] at hok
      clear hF hR he0
      have Hone := Lib.hid hone
      have Hlt := Lib.hid hlt
      have Herr := Lib.hid herr
      have Hok := Lib.hid hok
      clear hone hlt herr hok
      by_cases hE : e0 = 0
      · subst hE
        have hl2 := Hlt.out rfl
        by_cases h4 : F.length < 4
        · have hz : Z = ([], 9) := by
            rw [← Hrec.out, Hok.out rfl]
            show (if (0 : Nat) ≠ 0 then _ else match recF F with | none => _ | some x => _) = _
            rw [if_neg (by simp), recF_short h4]
          have HZ2 := Lib.hid hz
          clear hz
          have hneg : (F.length : Int) - 4 < 0 := by omega
          go_wp2_with (go_at_call 67; refine (Hone.out _).mono ?_; rintro e w1 ⟨rfl, hb1⟩)
          go_ret2
          rw [HZ2.out]
          exact ⟨_, rfl, Own1.nil _ _ _, below_call hbel hb1⟩
        · have hsub : (F.length : Int) - 4 = ((F.length - 4 : Nat) : Int) := by omega
          have hneg : ¬ ((F.length - 4 : Nat) : Int) < 0 := by omega
          have hx := extract_str F 0 (F.length - 4)
          rw [List.drop_zero] at hx
          have hcase := recF_ok (f := F)
          have hcase2 := recF_bad (f := F)
          have hmle : F.length - 4 ≤ F.length := Nat.sub_le _ _
          obtain ⟨X, hX⟩ : ∃ X, X = F.take (F.length - 4) := ⟨_, rfl⟩
          rw [← hX] at hx hcase hcase2
          have hXl : X.length ≤ 1099511627776 := by rw [hX, List.length_take]; omega
          clear hX
          obtain ⟨m, hm⟩ : ∃ m, m = F.length - 4 := ⟨_, rfl⟩
          rw [← hm] at hsub hneg hx hmle
          clear hm
          have Hcase := Lib.hid hcase
          have Hcase2 := Lib.hid hcase2
          clear hcase hcase2
          by_cases heq : X ++ sumB X = F
          · have hz : Z = recsV (acc ++ [X]) (steps R) := by
              rw [← Hrec.out, Hok.out rfl]
              show (if (0 : Nat) ≠ 0 then _ else match recF F with | none => _ | some x => _) = _
              rw [if_neg (by simp), Hcase.out heq]
            have HZ2 := Lib.hid hz
            clear hz
            have hbq : (X ++ sumB X == F) = true := beq_iff_eq.2 heq
            have Heq := Lib.hid heq
            clear heq
            go_wp2_with (go_at_call 67; refine (Hone.out _).mono ?_; rintro e w1 ⟨rfl, hb1⟩)
            refine (refseal_any X _ hXl).mono ?_
            rintro e w6 ⟨rfl, hb6⟩
            have hbel2 := below_call (below_call hbel hb1) hb6
            have hown2 := (hown.grow hb1).grow hb6
            go_wp2_with (at_builtin; refine wpList_app1_one _ elemST rfl (.tmp 32) (.tmp 36) rfl w.heap.size _ _ rfl hown2 (str X) _ rfl rfl (by simp; omega) (by simp; omega) hbel2.size ?_; intro v2 w2 hown3 hg2 hat2)
            go_roundw
            case rel =>
              refine ⟨R, acc ++ [X], rfl, ?_, HZ2.out.symm, ?_, hbel2.trans (hown2.below_of hg2 hbel2.size (Nat.le_refl _))⟩
              · rw [List.length_append, List.length_singleton]; omega
              · rw [List.map_append]; exact hown3
            case measure => show R.length < T.length; omega
          · have hz : Z = ([], 9) := by
              rw [← Hrec.out, Hok.out rfl]
              show (if (0 : Nat) ≠ 0 then _ else match recF F with | none => _ | some x => _) = _
              rw [if_neg (by simp), Hcase2.out heq]
            have HZ2 := Lib.hid hz
            clear hz
            have hbq : (X ++ sumB X == F) = false := beq_eq_false_iff_ne.2 heq
            go_wp2_with (go_at_call 67; refine (Hone.out _).mono ?_; rintro e w1 ⟨rfl, hb1⟩)
            refine (refseal_any X _ hXl).mono ?_
            rintro e w6 ⟨rfl, hb6⟩
            go_wp2
            go_ret2
            rw [HZ2.out]
            exact ⟨_, rfl, Own1.nil _ _ _, below_call (below_call hbel hb1) hb6⟩
      · have hz : Z = ([], 7) := by
          rw [← Hrec.out, Herr.out hE]
          show (if e0 ≠ 0 then _ else _) = _
          rw [if_pos hE]
        have HZ2 := Lib.hid hz
        clear hz
        have hE' : ¬ (e0 : Int) = 0 := by omega
        go_wp2_with (go_at_call 67; refine (Hone.out _).mono ?_; rintro e w1 ⟨rfl, hb1⟩)
        go_ret2
        rw [HZ2.out]
        exact ⟨_, rfl, Own1.nil _ _ _, below_call hbel hb1⟩
end Go.Proofs.Ytiaabgmmmekpnaa
