/-
  codec.firstLength and firstField: the first field of bytes.
-/
import Derived.Test.YtiaabgmmmekpnaaQuiet
import Derived.Test.YtiaabgmmmekpnaaBytes
import Derived.Test.YtiaabgmmmekpnaaCodMath
import Derived.Deep.QuietTactic
import Derived.BigQuiet
import Derived.Lib.Hide
namespace Go.Proofs.Ytiaabgmmmekpnaa
open Go.RowKit
set_option maxRecDepth 100000


theorem i64_join (x y : Nat) (hx : x < 256) (hy : y < 256) : bits .or .i64 ((x : Int) * 256) (y : Int) = ((x * 256 + y : Nat) : Int) := by
  have h : bits .or .i64 ((x * 256 : Nat) : Int) (y : Int) = ((x * 256 ||| y : Nat) : Int) := by
    have hlt : x * 256 ||| y < 2 ^ 63 := Nat.or_lt_two_pow (by omega) (by omega)
    show IntKind.i64.wrap ((BitVec.ofInt 64 ((x * 256 : Nat) : Int) ||| BitVec.ofInt 64 (y : Int)).toNat : Int) = _
    have e1 : (BitVec.ofInt 64 ((x * 256 : Nat) : Int)).toNat = x * 256 := by rw [BitVec.ofInt_natCast, BitVec.toNat_ofNat]; exact Nat.mod_eq_of_lt (by omega)
    have e2 : (BitVec.ofInt 64 (y : Int)).toNat = y := by rw [BitVec.ofInt_natCast, BitVec.toNat_ofNat]; exact Nat.mod_eq_of_lt (by omega)
    rw [BitVec.toNat_or, e1, e2, IntKind.wrap_i64]
    omega
  rw [nat_join 8 (x * 256) y (by omega) (by omega)] at h
  simpa using h

theorem getD_get (l : List UInt8) (k : Nat) (h : k < l.length) : l.getD k 0 = l[k] := by simp [List.getD, h]

set_option maxHeartbeats 400000 in
theorem firstlen_any (ok : Nat → Prop) (A : Option Addr) (c : Nat) (l : List UInt8) (w : World) (hl : l.length ≤ maxLen) (h0 : l ≠ []) (hr : Rd w ok A (l.map u8)) :
    Calls Try.prog 87 #[.slice A l.length c] w fun e w' => e = .returned (.tuple #[.int .i64 ((firstLen l).1 : Int), .int .i64 ((firstLen l).2.1 : Int), .int .i64 ((firstLen l).2.2 : Int)]) ∧ Below w.heap.size w w' := by
  unfold maxLen at hl
  have hl0 : 0 < l.length := List.length_pos_iff.2 h0
  obtain ⟨b, off, rfl, _, _, hc⟩ := hr.byte hl0
  have hc0 := hc 0 hl0
  rw [Nat.add_zero, ← getD_get l 0 hl0] at hc0
  have hb0 := (l.getD 0 0).toNat_lt
  have Hc := Lib.hid hc
  clear hc hr h0
  generalize hx0 : l.getD 0 0 = x0 at *
  have Hx0 := Lib.hid hx0
  clear hx0
  by_cases h1 : x0.toNat = 255
  · by_cases h3 : l.length < 3
    · have hv : firstLen l = (0, 0, 8) := by unfold firstLen; rw [Hx0.out, if_neg (by simpa using h1), if_pos h3]
      rw [hv]
      rw [h1] at hc0
      clear hv h1 hb0
      go_enter Try.func87, Try.ntmps87
      go_wp2
      go_ret3
      exact ⟨rfl, Below.refl _ _⟩
    · have hc1 := Hc.out 1 (by omega)
      have hc2 := Hc.out 2 (by omega)
      rw [← getD_get l 1 (by omega)] at hc1
      rw [← getD_get l 2 (by omega)] at hc2
      generalize hx1 : l.getD 1 0 = x1 at *
      generalize hx2 : l.getD 2 0 = x2 at *
      have hb1 := x1.toNat_lt
      have hb2 := x2.toNat_lt
      have hv : firstLen l = if x1.toNat * 256 + x2.toNat < 255 then (0, 0, 7) else (x1.toNat * 256 + x2.toNat, 3, 0) := by
        unfold firstLen; rw [Hx0.out, hx1, hx2, if_neg (by simpa using h1), if_neg h3]
      rw [h1] at hc0
      have e1 : IntKind.i64.wrap (x1.toNat : Int) = (x1.toNat : Int) := IntWalk.i64_in _ (by omega)
      have e2 : IntKind.i64.wrap (x2.toNat : Int) = (x2.toNat : Int) := IntWalk.i64_in _ (by omega)
      have e3 : IntKind.i64.wrap ((x1.toNat : Int) * 256) = (x1.toNat : Int) * 256 := IntWalk.i64_in _ (by omega)
      have hi1 : (1 : Int) < (l.length : Int) := by omega
      have hi2 : (2 : Int) < (l.length : Int) := by omega
      have e4 := i64_join x1.toNat x2.toNat hb1 hb2
      clear hx1 hx2 h1
      by_cases h255 : x1.toNat * 256 + x2.toNat < 255
      · rw [if_pos h255] at hv
        rw [hv]
        clear hv
        go_enter Try.func87, Try.ntmps87
        go_wp2_with fail
        go_quiet (fail)
        go_wp2
        go_ret3
        exact ⟨rfl, below_drewN (Below.refl _ _) _⟩
      · rw [if_neg h255] at hv
        rw [hv]
        clear hv
        go_enter Try.func87, Try.ntmps87
        go_wp2_with fail
        go_quiet (fail)
        go_wp2
        go_ret3
        exact ⟨rfl, below_drewN (Below.refl _ _) _⟩
  · have hv : firstLen l = (x0.toNat, 1, 0) := by unfold firstLen; rw [Hx0.out, if_pos (by simpa using h1)]
    rw [hv]
    clear hv
    have hne : ((x0.toNat : Int) != 255) = true := by rw [bne_iff_ne]; omega
    clear h1
    go_enter Try.func87, Try.ntmps87
    go_wp2
    go_ret3
    exact ⟨rfl, Below.refl _ _⟩

theorem firstF_eq (l : List UInt8) : firstF l = if (firstLen l).2.2 ≠ 0 then ([], [], (firstLen l).2.2) else if l.length < (firstLen l).2.1 + (firstLen l).1 then ([], [], 8)
    else ((l.drop (firstLen l).2.1).take (firstLen l).1, l.drop ((firstLen l).2.1 + (firstLen l).1), 0) := rfl

/-- What firstField answers: parts of the bytes. -/
def FirstPost (ok : Nat → Prop) (l : List UInt8) (w : World) (e : Ending) (w' : World) : Prop :=
  (∃ x y, e = .returned (.tuple #[x, y, .int .i64 ((firstF l).2.2 : Int)]) ∧ IsB w' ok x (firstF l).1 ∧ IsB w' ok y (firstF l).2.1) ∧ Below w.heap.size w w'
theorem IsB.none_ {w : World} {ok : Nat → Prop} : IsB w ok (.slice none 0 0) [] := ⟨none, 0, rfl, Nat.le_refl _, Nat.zero_le _, Rd.nil⟩
theorem IsB.of {w : World} {ok : Nat → Prop} {A : Option Addr} {n c : Nat} {l : List UInt8} (hn : n = l.length) (hc : l.length ≤ c) (hm : c ≤ maxLen) (hr : Rd w ok A (l.map u8)) : IsB w ok (.slice A n c) l := ⟨A, c, by rw [hn], hc, hm, hr⟩
theorem IsB.nil_any {w : World} {ok : Nat → Prop} {A : Option Addr} {c : Nat} (h : c ≤ maxLen) : IsB w ok (.slice A 0 c) [] := ⟨A, c, rfl, Nat.zero_le _, h, Rd.nil⟩
theorem FirstPost.err {ok : Nat → Prop} {l : List UInt8} {w w' : World} {k : Nat} (h : firstF l = ([], [], k)) (hb : Below w.heap.size w w') : FirstPost ok l w (.returned (.tuple #[.slice none 0 0, .slice none 0 0, .int .i64 (k : Int)])) w' := by
  refine ⟨⟨.slice none 0 0, .slice none 0 0, ?_, ?_, ?_⟩, hb⟩ <;> rw [h]
  · exact IsB.none_
  · exact IsB.none_
theorem FirstPost.fine {ok : Nat → Prop} {l f r : List UInt8} {w w' : World} {x y : Value} (h : firstF l = (f, r, 0)) (hx : IsB w' ok x f) (hy : IsB w' ok y r) (hb : Below w.heap.size w w') : FirstPost ok l w (.returned (.tuple #[x, y, .int .i64 0])) w' := by
  refine ⟨⟨x, y, ?_, ?_, ?_⟩, hb⟩ <;> rw [h]
  · rfl
  · exact hx
  · exact hy

theorem firstfield_any (ok : Nat → Prop) (A : Option Addr) (c : Nat) (l : List UInt8) (w : World) (hlc : l.length ≤ c) (hcm : c ≤ maxLen) (h0 : l ≠ []) (hr : Rd w ok A (l.map u8)) :
    Calls Try.prog 77 #[.slice A l.length c] w (FirstPost ok l w) := by
  have hsz := firstLen_size l h0
  have hll := firstlen_any ok A c l w (Nat.le_trans hlc hcm) h0 hr
  have hfo := firstF_eq l
  unfold maxLen at hcm
  obtain ⟨n, hn⟩ : ∃ n, n = (firstLen l).1 := ⟨_, rfl⟩
  obtain ⟨s, hs⟩ : ∃ n, n = (firstLen l).2.1 := ⟨_, rfl⟩
  obtain ⟨e, he⟩ : ∃ n, n = (firstLen l).2.2 := ⟨_, rfl⟩
  rw [← hn, ← hs, ← he] at hll hfo
  rw [← hn, ← hs, ← he] at hsz
  have Hll := Lib.hid hll
  have Hr := Lib.hid hr
  have Hsz := Lib.hid hsz
  have Hfo := Lib.hid hfo
  clear hll hr hfo hn hs he hsz
  by_cases hee : e = 0
  · subst hee
    obtain ⟨hs1, hs2, hn1⟩ := Hsz.out rfl
    by_cases hcut : l.length < s + n
    · have hf : firstF l = ([], [], 8) := by rw [Hfo.out, if_neg (by simp), if_pos hcut]
      have Hf := Lib.hid hf
      clear hf
      go_enter Try.func77, Try.ntmps77
      go_wp2_with (go_at_call 87; refine Hll.out.mono ?_; rintro e1 w1 ⟨rfl, hb1⟩)
      all_goals go_ret3
      all_goals exact FirstPost.err Hf.out hb1
    · have hf : firstF l = ((l.drop s).take n, l.drop (s + n), 0) := by rw [Hfo.out, if_neg (by simp), if_neg hcut]
      have Hf := Lib.hid hf
      clear hf
      have hsl : s + n ≤ l.length := by omega
      have hR := Hr.out
      obtain ⟨b, off, rfl, ho, hlt, hc⟩ := hR.at' (by simpa using h0)
      clear hR hc hlt hcut
      by_cases hcs : c = s
      · subst hcs
        obtain rfl : n = 0 := by omega
        go_enter Try.func77, Try.ntmps77
        go_wp2_with (go_at_call 87; refine Hll.out.mono ?_; rintro e1 w1 ⟨rfl, hb1⟩)
        go_quiet (fail)
        go_wp2
        go_ret3
        have hlc' : l.length = c := by omega
        have Hf' : firstF l = ([], [], 0) := by rw [Hf.out, List.take_zero, List.drop_eq_nil_of_le (by omega)]
        exact FirstPost.fine Hf' (IsB.nil_any (Nat.zero_le _)) (IsB.nil_any (Nat.zero_le _)) (below_drewN hb1 _)
      · have Hr1 : Hid (Rd w ok (some ⟨b, off + s, none⟩) ((l.drop s).map u8)) := Lib.hid (by rw [List.map_drop]; exact Hr.out.drop')
        by_cases hcn : c - s = n
        · have hcn' := Lib.hid hcn
          obtain rfl : n = c - s := hcn.symm
          clear hcn
          go_enter Try.func77, Try.ntmps77
          go_wp2_with (go_at_call 87; refine Hll.out.mono ?_; rintro e1 w1 ⟨rfl, hb1⟩)
          go_quiet (fail)
          go_wp2
          go_ret3
          refine FirstPost.fine Hf.out ?_ ?_ (below_drewN hb1 _)
          · exact IsB.of (by rw [List.length_take, List.length_drop]; omega) (by rw [List.length_take]; omega) (by unfold maxLen; omega) (by rw [List.map_take]; exact ((Hr1.out.grow hb1).take).drewN _)
          · have e : l.drop (s + (c - s)) = [] := List.drop_eq_nil_of_le (by omega)
            rw [e]
            exact IsB.of (by simp; omega) (Nat.zero_le _) (Nat.zero_le _) Rd.nil
        · go_enter Try.func77, Try.ntmps77
          go_wp2_with (go_at_call 87; refine Hll.out.mono ?_; rintro e1 w1 ⟨rfl, hb1⟩)
          go_quiet (fail)
          go_wp2
          go_ret3
          refine FirstPost.fine Hf.out ?_ ?_ (below_drewN hb1 _)
          · exact IsB.of (by rw [List.length_take, List.length_drop]; omega) (by rw [List.length_take]; omega) (by unfold maxLen; omega) (by rw [List.map_take]; exact ((Hr1.out.grow hb1).take).drewN _)
          · refine IsB.of (by rw [List.length_drop]; omega) (by rw [List.length_drop]; omega) (by unfold maxLen; omega) ?_
            rw [← List.drop_drop, List.map_drop]
            exact ((Hr1.out.grow hb1).drop').drewN _
  · have hf : firstF l = ([], [], e) := by rw [Hfo.out, if_pos hee]
    have Hf := Lib.hid hf
    have hne : ((e : Int) != 0) = true := by rw [bne_iff_ne]; omega
    clear hf
    go_enter Try.func77, Try.ntmps77
    go_wp2_with (go_at_call 87; refine Hll.out.mono ?_; rintro e1 w1 ⟨rfl, hb1⟩)
    go_ret3
    exact FirstPost.err Hf.out hb1
end Go.Proofs.Ytiaabgmmmekpnaa
