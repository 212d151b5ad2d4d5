/-
  The journal's bytes: numbers of eight bytes, tallies.
  journal.word, journal.asWord, journal.whole.
  slices.Grow of nothing, slices.Concat.
  journal.tally's sector.
  journal.asTally.
-/
import Derived.Test.YtdmbmkjiffhbcaaGreatWordsB
import Derived.Test.YtdmbmkjiffhbcaaGreatDevTail
import Derived.Lib.AppendZeros
import Derived.Deep.RegionHeld3
import Derived.Lib.SlBytesConst
import Derived.Test.YtdmbmkjiffhbcaaGreatPlainKit
namespace Go.Proofs.YtdmbmkjiffhbcaaGreat
open Go.RowKit

/-- A number in eight bytes, the highest first. -/
def be8 (n : Nat) : List UInt8 := (List.range 8).map fun i => UInt8.ofNat (n / 2 ^ (8 * (7 - i)) % 256)
theorem be8_length (n : Nat) : (be8 n).length = 8 := by simp [be8]
/-- The number of bytes, the highest first. -/
def unbe (l : List UInt8) : Nat := l.foldl (fun a b => a * 256 + b.toNat) 0
theorem unbe_snoc (l : List UInt8) (b : UInt8) : unbe (l ++ [b]) = unbe l * 256 + b.toNat := by simp [unbe, List.foldl_append]
theorem unbe_from (l : List UInt8) : ∀ a : Nat, l.foldl (fun a b => a * 256 + b.toNat) a < (a + 1) * 256 ^ l.length := by
  induction l with
  | nil => intro a; simp
  | cons b l ih =>
    intro a
    have h1 := ih (a * 256 + b.toNat)
    have h2 := b.toNat_lt
    have h3 : (a * 256 + b.toNat + 1) * 256 ^ l.length ≤ ((a + 1) * 256) * 256 ^ l.length := Nat.mul_le_mul_right _ (by omega)
    rw [List.foldl_cons, List.length_cons, Nat.pow_succ, Nat.mul_comm (256 ^ l.length) 256, ← Nat.mul_assoc]
    omega
theorem unbe_lt (l : List UInt8) : unbe l < 256 ^ l.length := by
  have := unbe_from l 0
  rw [Nat.zero_add, Nat.one_mul] at this
  exact this
theorem be8_list (n : Nat) : be8 n = [UInt8.ofNat (n / 72057594037927936 % 256), UInt8.ofNat (n / 281474976710656 % 256), UInt8.ofNat (n / 1099511627776 % 256), UInt8.ofNat (n / 4294967296 % 256), UInt8.ofNat (n / 16777216 % 256), UInt8.ofNat (n / 65536 % 256), UInt8.ofNat (n / 256 % 256), UInt8.ofNat (n / 1 % 256)] := rfl
theorem unbe_be8 (n : Nat) (h : n < 18446744073709551616) : unbe (be8 n) = n := by
  rw [be8_list]
  simp only [unbe, List.foldl_cons, List.foldl_nil, UInt8.toNat_ofNat']
  simp only [Nat.reducePow, Nat.mod_mod, Nat.zero_mul, Nat.zero_add, Nat.div_one]
  omega
theorem be8_inj {n m : Nat} (hn : n < 18446744073709551616) (hm : m < 18446744073709551616) (h : be8 n = be8 m) : n = m := by
  rw [← unbe_be8 n hn, ← unbe_be8 m hm, h]

def markB : List UInt8 := [119, 97, 114, 100, 115, 104, 105, 112]
/-- The 64 bytes of a tally. -/
def tally64 (n s u : Nat) : List UInt8 := markB ++ be8 n ++ be8 s ++ be8 u ++ markB ++ be8 s ++ be8 u ++ be8 n
theorem tally64_length (n s u : Nat) : (tally64 n s u).length = 64 := by simp [tally64, be8_length, markB]
/-- A tally's sector. -/
def tallyB (n s u : Nat) : List UInt8 := tally64 n s u ++ List.replicate 192 0
theorem tallyB_length (n s u : Nat) : (tallyB n s u).length = 256 := by rw [tallyB, List.length_append, tally64_length, List.length_replicate]
/-- Bytes, and zeros behind them, in a whole sector. -/
def wholeB (l : List UInt8) : List UInt8 := l.take 256 ++ List.replicate (256 - l.length) 0
theorem wholeB_length (l : List UInt8) : (wholeB l).length = 256 := by rw [wholeB, List.length_append, List.length_take, List.length_replicate]; omega
theorem tallyB_whole (n s u : Nat) : wholeB (tally64 n s u) = tallyB n s u := by
  unfold wholeB tallyB
  rw [tally64_length, List.take_of_length_le (by rw [tally64_length]; decide)]

/-- The tally of a sector: its number (0: none), its side, how many bytes are in use. -/
def asTally (b : List UInt8) (size : Nat) : Nat × Nat × Nat :=
  if unbe ((b.drop 8).take 8) < 1 ∨ 4611686018427387904 < unbe ((b.drop 8).take 8) ∨ 1 < unbe ((b.drop 16).take 8) ∨ size < unbe ((b.drop 24).take 8) then (0, 0, 0)
  else if b.take 64 = tally64 (unbe ((b.drop 8).take 8)) (unbe ((b.drop 16).take 8)) (unbe ((b.drop 24).take 8)) then (unbe ((b.drop 8).take 8), unbe ((b.drop 16).take 8), unbe ((b.drop 24).take 8)) else (0, 0, 0)
end Go.Proofs.YtdmbmkjiffhbcaaGreat

namespace Go.Proofs.YtdmbmkjiffhbcaaGreat
open Go.RowKit
set_option maxRecDepth 100000

theorem run_bytes8 (u : World) : (Instr.makeSlice 47 (.int .i64 8) (.int .i64 8)).run Tryz.prog u = .ok (.slice (some ⟨u.heap.size, 0, none⟩) 8 8) (u.alloc (.cells (Array.replicate 8 (.int .u8 0)) 5)) := by
  have hr := run_make_row' (P := Tryz.prog) 47 5 (.int .u8 0) 1 Tryz.underlying47 info_byte rfl .i64 .i64 8 (by omega) (by omega) u
  rw [show (#[Value.int .u8 0] : Array Value) = Array.replicate 1 (.int .u8 0) from rfl, madeCells_rep _ 1 _ (by decide)] at hr
  exact hr

set_option maxHeartbeats 400000 in
theorem word_any (n : Nat) (w : World) :
    Calls Tryz.prog 80 #[.int .u64 (n : Int)] w fun e w' => e = .returned (.slice (some ⟨w.heap.size, 0, none⟩) 8 8) ∧ Blk w' w.heap.size 5 ((be8 n).map u8).toArray ∧ Below w.heap.size w w' := by
  have hmk := run_bytes8 w
  obtain ⟨Z, hZ⟩ : ∃ Z : Array Value, Z = Array.replicate 8 (.int .u8 0) := ⟨_, rfl⟩
  rw [← hZ] at hmk
  have hba : Below w.heap.size w (w.alloc (.cells Z 5)) := (Below.refl _ _).alloc (Nat.le_refl _) _
  have hblk0 : Blk (w.alloc (.cells Z 5)) w.heap.size 5 (((be8 n).take 0 ++ List.replicate 8 (0 : UInt8)).map u8).toArray := by
    have := Blk.new w 5 Z
    rw [hZ] at this ⊢
    exact this
  have Hba := Lib.hid hba
  have Hblk0 := Lib.hid hblk0
  clear hZ hba hblk0
  go_enter Tryz.func80, Tryz.ntmps80
  go_wp2_with fail
  go_loopw [8] (fun i wr => ∃ k : Nat, k ≤ 8 ∧ i = .int .i64 (k : Int) ∧ Blk wr w.heap.size 5 (((be8 n).take k ++ List.replicate (8 - k) (0 : UInt8)).map u8).toArray ∧ Below w.heap.size w wr) (fun i _ => 8 - (intOf i).toNat)
  case atStart => exact ⟨0, by omega, rfl, Hblk0.out, Hba.out⟩
  case round =>
    obtain ⟨k, hk, rfl, hblk, hb⟩ := hrel
    by_cases hlt : k < 8
    · have hl : k < (be8 n).length := by rw [be8_length]; exact hlt
      have hlen : ((be8 n).take k ++ List.replicate (8 - k) (0 : UInt8)).length = 8 := by rw [List.length_append, List.length_take, be8_length, List.length_replicate]; omega
      have hset := hblk.setBytes k ((be8 n)[k])
      have hcw := hblk.cell k
      have hfz := hblk.frozen k
      rw [Array.getElem?_eq_getElem (by simp; omega)] at hcw
      have heq : ((be8 n).take k ++ List.replicate (8 - k) (0 : UInt8)).set k ((be8 n)[k]) = (be8 n).take (k + 1) ++ List.replicate (8 - (k + 1)) (0 : UInt8) := by
        rw [List.set_append_right _ _ (by rw [List.length_take, be8_length]; omega), List.length_take, be8_length, Nat.min_eq_left (by omega), Nat.sub_self]
        obtain ⟨m, hm⟩ : ∃ m, 8 - k = m + 1 := ⟨7 - k, by omega⟩
        rw [hm, List.replicate_succ, List.set_cons_zero, show 8 - (k + 1) = m by omega, List.take_succ_eq_append_getElem hl, List.append_assoc]
        rfl
      rw [heq] at hset
      have hval : u8 ((be8 n)[k]) = .int .u8 ((n : Int) / 2 ^ (8 * (7 - k)) % 256) := by
        have : (be8 n)[k] = UInt8.ofNat (n / 2 ^ (8 * (7 - k)) % 256) := by simp [be8]
        rw [this, u8_ofNat]
        simp
      rw [hval] at hset
      have Hset := Lib.hid hset
      have Hb := Lib.hid hb
      clear hset heq hlen hblk hb hval
      go_wp2
      go_roundw
      case rel => exact ⟨k + 1, by omega, by go_num, Hset.out, Hb.out.setCell (Nat.le_refl _) _⟩
      case measure => simp [intOf]; omega
    · obtain rfl : k = 8 := by omega
      have hblk' : Blk wr w.heap.size 5 ((be8 n).map u8).toArray := by
        have := hblk
        rw [Nat.sub_self, List.replicate_zero, List.append_nil, List.take_of_length_le (by rw [be8_length]; exact Nat.le_refl _)] at this
        exact this
      go_wp2
      go_ret
      exact ⟨rfl, hblk', hb⟩

theorem u64_pack8 (h l : Nat) (h1 : h < 72057594037927936) (l1 : l < 256) : bits .or .u64 ((h : Int) * 256) (l : Int) = ((h * 256 + l : Nat) : Int) := by
  have e : h * 256 ||| l = h * 256 + l := by
    have := Nat.shiftLeft_add_eq_or_of_lt (i := 8) (b := l) (by omega) h
    rw [Nat.shiftLeft_eq, show (2 : Nat) ^ 8 = 256 from rfl] at this
    exact this.symm
  have := u64_or_nat (h * 256) l (by omega) (by omega)
  rw [e] at this
  simpa using this

set_option maxHeartbeats 400000 in
theorem asword_any (ok : Nat → Prop) (A : Option Addr) (l : List UInt8) (c : Nat) (w : World) (hl : 8 ≤ l.length) (hc : l.length ≤ c) (hm : c ≤ maxLen) (hr : Rd w ok A (l.map u8)) :
    Calls Tryz.prog 76 #[.slice A l.length c] w fun e w' => e = .returned (.int .u64 (unbe (l.take 8) : Int)) ∧ w = w' := by
  obtain ⟨b, off, rfl, _, _, hel⟩ := hr.byte (by omega)
  have Hel := Lib.hid hel
  unfold maxLen at hm
  clear hel hr
  go_enter Tryz.func76, Tryz.ntmps76
  go_wp2_with fail
  go_loop [3, 9] (fun a i => ∃ k : Nat, k ≤ 8 ∧ i = .int .i64 (k : Int) ∧ a = .int .u64 (unbe (l.take k) : Int)) (fun _ i => 8 - (intOf i).toNat)
  case atStart => exact ⟨0, by omega, rfl, rfl⟩
  case round =>
    obtain ⟨k, hk, rfl, rfl⟩ := hrel
    by_cases hlt : k < 8
    · have hcell := Hel.out k (by omega)
      have hlk : k < l.length := by omega
      have hlt2 := unbe_lt (l.take k)
      have hst : unbe (l.take (k + 1)) = unbe (l.take k) * 256 + l[k].toNat := by rw [List.take_succ_eq_append_getElem hlk, unbe_snoc]
      have hb8 := l[k].toNat_lt
      have hbound : unbe (l.take k) < 72057594037927936 := by
        refine Nat.lt_of_lt_of_le hlt2 ?_
        rw [List.length_take, Nat.min_eq_left (by omega), show 72057594037927936 = 256 ^ 7 from rfl]
        exact Nat.pow_le_pow_right (by decide) (by omega)
      have hor : bits .or .u64 (IntKind.u64.wrap ((unbe (l.take k) : Int) * 256)) (l[k].toNat : Int) = ((unbe (l.take (k + 1)) : Nat) : Int) := by
        rw [IntKind.wrap_u64, Int.emod_eq_of_lt (by omega) (by omega), hst]
        exact u64_pack8 _ _ (by omega) hb8
      have Hor := Lib.hid hor
      clear hor hst hlt2 hbound
      go_wp2
      go_round
      case rel => exact ⟨k + 1, by omega, by go_num, by rw [Hor.out]⟩
      case measure => simp [intOf]; omega
    · obtain rfl : k = 8 := by omega
      go_wp2
      go_ret
      exact ⟨rfl, rfl⟩

set_option maxHeartbeats 400000 in
theorem whole_any (ok : Nat → Prop) (v : Value) (l : List UInt8) (w : World) (hv : IsB w ok v l) (hl : l.length ≤ 256) :
    Calls Tryz.prog 81 #[v] w fun e w' => e = .returned (.slice (some ⟨w.heap.size, 0, none⟩) 256 256) ∧ Blk w' w.heap.size 5 ((wholeB l).map u8).toArray ∧ Below w.heap.size w w' := by
  have hmk := run_bytes256
  obtain ⟨Z, hZ⟩ : ∃ Z : Array Value, Z = Array.replicate 256 (.int .u8 0) := ⟨_, rfl⟩
  rw [← hZ] at hmk
  obtain ⟨Al, cl, rfl, hc, hm, hr⟩ := hv
  have hba : Below w.heap.size w (w.alloc (.cells Z 5)) := (Below.refl _ _).alloc (Nat.le_refl _) _
  have hblk0 : Blk (w.alloc (.cells Z 5)) w.heap.size 5 ((List.replicate 256 (0 : UInt8)).map u8).toArray := by
    have := Blk.new w 5 Z
    rw [hZ] at this ⊢
    rw [show ((List.replicate 256 (0 : UInt8)).map u8).toArray = Array.replicate 256 (.int .u8 0) from zeros_u8 0 256]
    exact this
  have hr1 := hr.grow hba
  have hsrc : 0 < (l.map u8).length → ∃ ad, Al = some ad ∧ ∀ j v, (l.map u8)[j]? = some v → (w.alloc (.cells Z 5)).cell? (ad.add j) = some v := fun h => by
    obtain ⟨ad, e, _, hc⟩ := hr1 (by intro e; rw [e] at h; simp at h)
    exact ⟨ad, e, hc⟩
  have hn1 : (l.map u8).length = Nat.min l.length 256 := by rw [List.length_map]; exact (Nat.min_eq_left hl).symm
  have hfit : 0 + (l.map u8).length ≤ ((List.replicate 256 (0 : UInt8)).map u8).length := by rw [List.length_map, List.length_map, List.length_replicate]; omega
  have hspl : splice ((List.replicate 256 (0 : UInt8)).map u8) 0 (l.map u8) = (wholeB l).map u8 := by
    unfold splice wholeB
    rw [List.take_zero, List.nil_append, List.map_append, List.take_of_length_le hl, List.length_map, Nat.zero_add, ← List.map_drop, List.drop_replicate]
  have Hblk0 := Lib.hid hblk0
  have Hsrc := Lib.hid hsrc
  have Hn1 := Lib.hid hn1
  have Hfit := Lib.hid hfit
  have Hspl := Lib.hid hspl
  have Hba := Lib.hid hba
  clear hZ hr hr1 hsrc hn1 hfit hspl hba hblk0
  go_enter Tryz.func81, Tryz.ntmps81
  go_wp2_with (with_reducible refine wpList_copy_fr rfl (.tmp 5) (.tmp 6) 47 47 rfl 5 Tryz.underlying47 size_u8 (some ⟨w.heap.size, 0, none⟩) Al 256 256 l.length cl rfl rfl w.heap.size 0 _ 5 Hblk0.out (l.map u8) Hn1.out (fun h => ⟨rfl, Hsrc.out h⟩) Hfit.out (u8_oneCell _) ?_; intro w3 hblk3 hfr3)
  go_ret
  refine ⟨rfl, ?_, Hba.out.trans (hfr3.below (fun k (hk : k = w.heap.size) => by omega) Hba.out.size)⟩
  rw [← Hspl.out]
  exact hblk3
end Go.Proofs.YtdmbmkjiffhbcaaGreat

namespace Go.Proofs.YtdmbmkjiffhbcaaGreat
open Go.RowKit
set_option maxRecDepth 100000

set_option maxHeartbeats 400000 in
theorem grow_any (n : Nat) (hn : n ≤ 1099511627776) (w : World) :
    Calls Tryz.prog 90 #[.slice none 0 0, .int .i64 (n : Int)] w fun e w' => ∃ v, e = .returned v ∧ Own1 w' w.heap.size 5 v [] ∧ Below w.heap.size w w' := by
  by_cases h0 : 0 < n
  · obtain ⟨i0, hi, hz0, hz1, hz2⟩ := info_parts info_byte
    have hrun := Lib.run_append_nil_zeros (P := Tryz.prog) w 47 3 47 5 i0 (.int .u8 0) .i64 .i64 Tryz.underlying47 Tryz.underlying3 hi hz0 n h0 (by omega) (by omega) (by rw [hz2]; omega)
    have hge := grownCap_ge w n 0 5
    have hle := grownCap_le_maxLen w n 0 5 (by unfold maxLen; omega)
    obtain ⟨G, hG⟩ : ∃ G, G = grownCap w n 0 5 := ⟨_, rfl⟩
    rw [← hG] at hrun hge hle
    obtain ⟨Z, hZ⟩ : ∃ Z, Z = Builtin.zeroCells (Value.int .u8 0).cells n ++ Builtin.zeroCells (Value.int .u8 0).cells (G - n) := ⟨_, rfl⟩
    have hZs : Z.size = G := by rw [hZ, Array.size_append, size_zeroCells, size_zeroCells]; simp [Value.cells]; omega
    rw [← hZ] at hrun
    have hown : Own1 (w.drew.alloc (.cells Z 5)) w.heap.size 5 (.slice (some ⟨w.heap.size, 0, none⟩) 0 G) [] := ⟨rfl, .inr ⟨w.heap.size, G, Z, rfl, Nat.le_refl _, Blk.new w.drew _ _, by simp, hle, by rw [Nat.mul_one]; exact hZs, by simp⟩⟩
    have hG63 : G ≤ 9223372036854775807 := hle
    clear hG hZ
    have hn1 : ¬ ((n : Int) < 0) := by omega
    have hn2 : 0 < (n : Int) := by omega
    go_enter Tryz.func90, Tryz.ntmps90
    go_wp2_with (at_builtin; refine Lib.wpList_append_run _ rfl _ _ _ _ rfl _ _ rfl rfl _ _ hrun ?_)
    go_ret
    exact ⟨_, rfl, hown, ((Below.refl _ _).drew).alloc (Nat.le_refl _) _⟩
  · obtain rfl : n = 0 := by omega
    go_enter Tryz.func90, Tryz.ntmps90
    go_wp2
    go_ret
    exact ⟨_, rfl, Own1.nil _ _ _, Below.refl _ _⟩

/-- How many bytes the first lists have. -/
def flen (L : List (List UInt8)) (k : Nat) : Nat := (L.take k).flatten.length
theorem flen_zero (L : List (List UInt8)) : flen L 0 = 0 := rfl
theorem flen_succ (L : List (List UInt8)) (k : Nat) (hk : k < L.length) : flen L (k + 1) = flen L k + L[k].length := by
  unfold flen
  rw [List.take_succ_eq_append_getElem hk, List.flatten_append, List.length_append]
  simp
theorem flen_le (L : List (List UInt8)) (k : Nat) : flen L k ≤ L.flatten.length := by
  have := congrArg List.length (congrArg List.flatten (List.take_append_drop k L))
  rw [List.flatten_append, List.length_append] at this
  unfold flen
  omega
theorem flen_all (L : List (List UInt8)) : flen L L.length = L.flatten.length := by unfold flen; rw [List.take_length]

set_option maxHeartbeats 400000 in
theorem concat_any (ok : Nat → Prop) (v : Value) (L : List (List UInt8)) (w : World) (hv : IsBB w ok v L) (hl : L.flatten.length ≤ 1099511627776) :
    Calls Tryz.prog 73 #[v] w fun e w' => ∃ x, e = .returned x ∧ Own1 w' w.heap.size 5 x (L.flatten.map u8) ∧ Below w.heap.size w w' := by
  obtain ⟨A, c, rfl, hc, hm, hel⟩ := hv.elem
  have Hel := Lib.hid hel
  unfold maxLen at hm
  clear hel hv
  go_enter Tryz.func73, Tryz.ntmps73
  go_wp2_with fail
  go_loop [3, 11] (fun a i => ∃ k : Nat, k ≤ L.length ∧ i = .int .i64 (k : Int) ∧ a = .int .i64 (flen L k : Int)) (fun _ i => L.length - (intOf i).toNat)
  case atStart => exact ⟨0, by omega, rfl, rfl⟩
  case round =>
    obtain ⟨k, hk, rfl, rfl⟩ := hrel
    by_cases hlt : k < L.length
    · obtain ⟨b, off, rfl, _, _, hcells⟩ := Hel.out (by intro e; rw [e] at hlt; simp at hlt)
      obtain ⟨Ai, ci, hcell, hci, hcm, _⟩ := hcells k hlt
      have h1 := flen_le L k
      have h2 := flen_le L (k + 1)
      have h3 := flen_succ L k hlt
      have hs : wrap64 ((flen L k : Int) + (L[k].length : Int)) = (flen L (k + 1) : Int) := by
        rw [h3, Int.natCast_add]
        exact IntWalk.wrap64_in _ (by omega)
      have hs0 : ¬ ((flen L (k + 1) : Int) < 0) := Int.not_lt.2 (Int.natCast_nonneg _)
      clear hcells h1 h2 h3
      go_wp2
      go_round
      case rel => exact ⟨k + 1, by omega, by go_num, by rw [hs]⟩
      case measure => simp [intOf]; omega
    · obtain rfl : k = L.length := by omega
      have hfl : flen L L.length ≤ 1099511627776 := by rw [flen_all]; exact hl
      go_wp2_with fail
      refine (grow_any (flen L L.length) hfl w).mono ?_
      rintro e w1 ⟨v1, rfl, hown1, hb1⟩
      have Hown1 := Lib.hid hown1
      have Hb1 := Lib.hid hb1
      clear hown1 hb1
      go_wp2_with fail
      go_loopw [6, 27] (fun x i wr => ∃ k : Nat, k ≤ L.length ∧ i = .int .i64 (k : Int) ∧ Own1 wr w.heap.size 5 x ((L.take k).flatten.map Go.Proofs.YtdmbmkjiffhbcaaGreat.u8) ∧ Below w.heap.size w wr) (fun _ i _ => L.length - (intOf i).toNat)
      case atStart => exact ⟨0, by omega, rfl, Hown1.out, Hb1.out⟩
      case round =>
        obtain ⟨k, hk, rfl, hown, hb⟩ := hrel
        by_cases hlt2 : k < L.length
        · obtain ⟨b, off, rfl, hob, hbl, hcells⟩ := Hel.out (by intro e; rw [e] at hlt2; simp at hlt2)
          obtain ⟨Ai, ci, hcell, hci, hcm, hri⟩ := hcells k hlt2
          have hcell2 := (hb.cell (p := ⟨b, off + k, none⟩) hbl).trans hcell
          have hri2 := hri.frame (w' := wr) (fun q _ hq => hb.block q hq)
          have h1 := flen_le L k
          have h2 := flen_le L (k + 1)
          have h3 := flen_succ L k hlt2
          have hxl : ((L.take k).flatten.map Go.Proofs.YtdmbmkjiffhbcaaGreat.u8).length = flen L k := by rw [List.length_map]; rfl
          have Hown := Lib.hid hown
          have Hb := Lib.hid hb
          have Hri2 := Lib.hid hri2
          obtain ⟨X, hX⟩ : ∃ X, X = (L.take k).flatten.map Go.Proofs.YtdmbmkjiffhbcaaGreat.u8 := ⟨_, rfl⟩
          rw [← hX] at hxl Hown
          have HX := Lib.hid hX
          have hbs := hb.size
          clear hcells hcell hri hri2 hown hb hX
          go_wp2_with (at_builtin; refine wpList_app1 _ elemB rfl (.tmp 31) (.tmp 32) rfl w.heap.size _ X rfl Hown.out ok Ai L[k].length ci (L[k].map Go.Proofs.YtdmbmkjiffhbcaaGreat.u8) (List.length_map _) rfl Hri2.out (u8_oneCell _) (by rw [hxl]; omega) (by rw [hxl]; omega) hbs ?_; intro v2 w2 hown2 hg2 _; have hb2 := Hb.out.trans (Hown.out.below_of hg2 hbs (Nat.le_refl _)); have Hown2 := Lib.hid hown2; have Hb2 := Lib.hid hb2; clear hown2 hg2 hb2)
          go_roundw
          case rel =>
            refine ⟨k + 1, by omega, by go_num, ?_, Hb2.out⟩
            have e : (L.take (k + 1)).flatten.map Go.Proofs.YtdmbmkjiffhbcaaGreat.u8 = X ++ L[k].map Go.Proofs.YtdmbmkjiffhbcaaGreat.u8 := by rw [List.take_succ_eq_append_getElem hlt2, List.flatten_append, List.map_append, HX.out]; simp
            rw [e]
            exact Hown2.out
          case measure => simp [intOf]; omega
        · obtain rfl : k = L.length := by omega
          rw [List.take_length] at hown
          have Hown := Lib.hid hown
          clear hown
          go_wp2
          go_ret
          exact ⟨_, rfl, Hown.out, hb⟩
end Go.Proofs.YtdmbmkjiffhbcaaGreat

namespace Go.Proofs.YtdmbmkjiffhbcaaGreat
open Go.RowKit
set_option maxRecDepth 100000

theorem mark_cells : (markB.map u8).toArray = #[.int .u8 119, .int .u8 97, .int .u8 114, .int .u8 100, .int .u8 115, .int .u8 104, .int .u8 105, .int .u8 112] := rfl
theorem isB_row {w : World} {g n : Nat} {l : List UInt8} {t : TypeId} {fz : Nat × Nat} (h : w.heap[g]? = some (.cells (l.map u8).toArray t fz)) (hl : l.length = n) (hn : n ≤ maxLen) : IsB w (fun _ => True) (.slice (some ⟨g, 0, none⟩) n n) l := by
  subst hl
  refine ⟨_, l.length, rfl, Nat.le_refl _, hn, ?_⟩
  have := rd_of_row h (fun _ => True) trivial
  simpa using this
theorem isBB_of {w : World} {ok : Nat → Prop} {A : Option Addr} {c : Nat} (ps : List (Value × List UInt8)) (hc : ps.length ≤ c) (hm : c ≤ maxLen) (hr : Rd w ok A (ps.map (·.1))) (h : ∀ p ∈ ps, IsB w ok p.1 p.2) : IsBB w ok (.slice A ps.length c) (ps.map (·.2)) :=
  ⟨A, c, ps.map (·.1), by rw [List.length_map], by rw [List.length_map, List.length_map], by rw [List.length_map]; exact hc, hm, hr, fun i h1 h2 => by
    rw [List.getElem_map, List.getElem_map]
    exact h _ (List.getElem_mem _)⟩
theorem isB_blk {w : World} {g n : Nat} {l : List UInt8} (h : Blk w g 5 (l.map u8).toArray) (hl : l.length = n) (hn : n ≤ maxLen) : IsB w (fun _ => True) (.slice (some ⟨g, 0, none⟩) n n) l := by
  subst hl
  refine ⟨_, l.length, rfl, Nat.le_refl _, hn, ?_⟩
  have := h.rd (fun _ => True) trivial
  simpa using this

set_option maxHeartbeats 2000000 in
theorem sector_any (n s u : Nat) (hs : s < 9223372036854775808) (hu : u < 9223372036854775808) (w : World) :
    Calls Tryz.prog 57 #[.agg #[.int .u64 (n : Int), .int .i64 (s : Int), .int .i64 (u : Int)]] w fun e w' => ∃ g, e = .returned (.slice (some ⟨g, 0, none⟩) 256 256) ∧ w.heap.size ≤ g ∧ Blk w' g 5 ((tallyB n s u).map u8).toArray ∧ Below w.heap.size w w' := by
  have hws : IntKind.u64.wrap (s : Int) = (s : Int) := by rw [IntKind.wrap_u64]; omega
  have hwu : IntKind.u64.wrap (u : Int) = (u : Int) := by rw [IntKind.wrap_u64]; omega
  go_enter Tryz.func57, Tryz.ntmps57
  go_wp2_with fail
  have hB0 : Blk (w.alloc (.cells #[.int .u64 (n : Int), .int .i64 (s : Int), .int .i64 (u : Int)] 90)) w.heap.size 90 #[.int .u64 (n : Int), .int .i64 (s : Int), .int .i64 (u : Int)] := Blk.new _ _ _
  obtain ⟨W, hW⟩ : ∃ W, W = w.alloc (.cells #[.int .u64 (n : Int), .int .i64 (s : Int), .int .i64 (u : Int)] 90) := ⟨_, rfl⟩
  have hbW : Below w.heap.size w W := by rw [hW]; exact (Below.refl _ _).alloc (Nat.le_refl _) _
  rw [← hW] at hB0 ⊢
  clear hW
  have x0 := hB0.cell 0
  have x1 := hB0.cell 1
  have x2 := hB0.cell 2
  simp at x0 x1 x2
  have x0d : W.drew.cell? ⟨w.heap.size, 0, none⟩ = _ := x0
  have x1d : W.drew.cell? ⟨w.heap.size, 1, none⟩ = _ := x1
  have x2d : W.drew.cell? ⟨w.heap.size, 2, none⟩ = _ := x2
  go_region_held3 (fun u' => Below W.heap.size W u' ∧ u'.cell? ⟨w.heap.size, 0, none⟩ = some (.int .u64 (n : Int)) ∧ u'.cell? ⟨w.heap.size, 1, none⟩ = some (.int .i64 (s : Int)) ∧ u'.cell? ⟨w.heap.size, 2, none⟩ = some (.int .i64 (u : Int)))
    (first | (with_reducible exact ⟨(Below.refl _ _).drew, x0d, x1d, x2d⟩) | (go_split_ands; with_reducible exact ⟨below_on (by assumption) hb3, cell_then hb3 (by assumption), cell_then hb3 (by assumption), cell_then hb3 (by assumption)⟩) | (go_split_ands; with_reducible exact ⟨below_on (by assumption) hb2, cell_then hb2 (by assumption), cell_then hb2 (by assumption), cell_then hb2 (by assumption)⟩) | (go_split_ands; with_reducible exact ⟨below_on (by assumption) hb1, cell_then hb1 (by assumption), cell_then hb1 (by assumption), cell_then hb1 (by assumption)⟩) | assumption)
    (first
      | (go_at_call 80; with_reducible refine (word_any n _).mono ?_; rintro e w1 ⟨rfl, hk1, hb1⟩)
      | (go_at_call 80; with_reducible refine (word_any s _).mono ?_; rintro e w2 ⟨rfl, hk2, hb2⟩)
      | (go_at_call 80; with_reducible refine (word_any u _).mono ?_; rintro e w3 ⟨rfl, hk3, hb3⟩))
  have hb1' : Below W.heap.size W w1 := below_drew_then hb1
  have hb2' := below_call hb1' hb2
  have hb3' := below_call hb2' hb3
  have hc1 := Lib.run_convert_bytes_const (P := Tryz.prog) w3 47 5 #[.int .u8 119, .int .u8 97, .int .u8 114, .int .u8 100, .int .u8 115, .int .u8 104, .int .u8 105, .int .u8 112] 8 8 Tryz.underlying47 Tryz.underlying5
  have hc2 := Lib.run_convert_bytes_const (P := Tryz.prog) (w3.alloc (.cells #[.int .u8 119, .int .u8 97, .int .u8 114, .int .u8 100, .int .u8 115, .int .u8 104, .int .u8 105, .int .u8 112] 5 (8, 9))) 47 5 #[.int .u8 119, .int .u8 97, .int .u8 114, .int .u8 100, .int .u8 115, .int .u8 104, .int .u8 105, .int .u8 112] 8 8 Tryz.underlying47 Tryz.underlying5
  rw [World.size_alloc] at hc2
  have hm1 : ((w3.alloc (.cells #[.int .u8 119, .int .u8 97, .int .u8 114, .int .u8 100, .int .u8 115, .int .u8 104, .int .u8 105, .int .u8 112] 5 (8, 9))).alloc (.cells #[.int .u8 119, .int .u8 97, .int .u8 114, .int .u8 100, .int .u8 115, .int .u8 104, .int .u8 105, .int .u8 112] 5 (8, 9))).heap[w3.heap.size]? = some (.cells (markB.map u8).toArray 5 (8, 9)) := row_alloc (row_new w3 _) (by simp) _
  have hm2 : ((w3.alloc (.cells #[.int .u8 119, .int .u8 97, .int .u8 114, .int .u8 100, .int .u8 115, .int .u8 104, .int .u8 105, .int .u8 112] 5 (8, 9))).alloc (.cells #[.int .u8 119, .int .u8 97, .int .u8 114, .int .u8 100, .int .u8 115, .int .u8 104, .int .u8 105, .int .u8 112] 5 (8, 9))).heap[w3.heap.size + 1]? = some (.cells (markB.map u8).toArray 5 (8, 9)) := by
    have := row_new (w3.alloc (.cells #[.int .u8 119, .int .u8 97, .int .u8 114, .int .u8 100, .int .u8 115, .int .u8 104, .int .u8 105, .int .u8 112] 5 (8, 9))) (.cells (markB.map u8).toArray 5 (8, 9))
    rw [World.size_alloc] at this
    exact this
  have hbM : Below w3.heap.size w3 ((w3.alloc (.cells #[.int .u8 119, .int .u8 97, .int .u8 114, .int .u8 100, .int .u8 115, .int .u8 104, .int .u8 105, .int .u8 112] 5 (8, 9))).alloc (.cells #[.int .u8 119, .int .u8 97, .int .u8 114, .int .u8 100, .int .u8 115, .int .u8 104, .int .u8 105, .int .u8 112] 5 (8, 9))) := ((Below.refl _ _).alloc (Nat.le_refl _) _).alloc (by simp) _
  obtain ⟨w4, hw4⟩ : ∃ w4, w4 = ((w3.alloc (.cells #[.int .u8 119, .int .u8 97, .int .u8 114, .int .u8 100, .int .u8 115, .int .u8 104, .int .u8 105, .int .u8 112] 5 (8, 9))).alloc (.cells #[.int .u8 119, .int .u8 97, .int .u8 114, .int .u8 100, .int .u8 115, .int .u8 104, .int .u8 105, .int .u8 112] 5 (8, 9))) := ⟨_, rfl⟩
  rw [← hw4] at hm1 hm2 hbM
  have Hw4 := Lib.hid hw4
  have hs4 : w4.heap.size = w3.heap.size + 2 := by rw [hw4]; simp
  have hk1' := ((hk1.grow hb2).grow hb3).grow hbM
  have hk2' := (hk2.grow hb3).grow hbM
  have hk3' := hk3.grow hbM
  have hb4 := below_call hb3' hbM
  obtain ⟨vs, hvs⟩ : ∃ vs : List Value, vs = [.slice (some ⟨w3.heap.size, 0, none⟩) 8 8, .slice (some ⟨W.heap.size, 0, none⟩) 8 8, .slice (some ⟨w1.heap.size, 0, none⟩) 8 8, .slice (some ⟨w2.heap.size, 0, none⟩) 8 8, .slice (some ⟨w3.heap.size + 1, 0, none⟩) 8 8, .slice (some ⟨w1.heap.size, 0, none⟩) 8 8, .slice (some ⟨w2.heap.size, 0, none⟩) 8 8, .slice (some ⟨W.heap.size, 0, none⟩) 8 8] := ⟨_, rfl⟩
  have hbN : Below w4.heap.size w4 (w4.alloc (.cells vs.toArray 47)) := (Below.refl _ _).alloc (Nat.le_refl _) _
  have h8 : (8 : Nat) ≤ maxLen := by unfold maxLen; omega
  have hrd : Rd (w4.alloc (.cells vs.toArray 47)) (fun _ => True) (some ⟨w4.heap.size, 0, none⟩) vs := (Blk.new w4 47 vs.toArray).rd _ trivial
  have hbb : IsBB (w4.alloc (.cells vs.toArray 47)) (fun _ => True) (.slice (some ⟨w4.heap.size, 0, none⟩) 8 8) [markB, be8 n, be8 s, be8 u, markB, be8 s, be8 u, be8 n] := by
    have := isBB_of (w := w4.alloc (.cells vs.toArray 47)) (ok := fun _ => True) (A := some ⟨w4.heap.size, 0, none⟩) (c := 8)
      [(.slice (some ⟨w3.heap.size, 0, none⟩) 8 8, markB), (.slice (some ⟨W.heap.size, 0, none⟩) 8 8, be8 n), (.slice (some ⟨w1.heap.size, 0, none⟩) 8 8, be8 s), (.slice (some ⟨w2.heap.size, 0, none⟩) 8 8, be8 u), (.slice (some ⟨w3.heap.size + 1, 0, none⟩) 8 8, markB), (.slice (some ⟨w1.heap.size, 0, none⟩) 8 8, be8 s), (.slice (some ⟨w2.heap.size, 0, none⟩) 8 8, be8 u), (.slice (some ⟨W.heap.size, 0, none⟩) 8 8, be8 n)]
      (by simp) h8 (by have h := hrd; rw [hvs] at h ⊢; exact h) (by
        intro p hp
        simp only [List.mem_cons, List.not_mem_nil, or_false] at hp
        rcases hp with rfl | rfl | rfl | rfl | rfl | rfl | rfl | rfl
        · exact isB_row ((hbN.block _ (by omega)).trans hm1) rfl h8
        · exact isB_blk (hk1'.grow hbN) (be8_length _) h8
        · exact isB_blk (hk2'.grow hbN) (be8_length _) h8
        · exact isB_blk (hk3'.grow hbN) (be8_length _) h8
        · exact isB_row ((hbN.block _ (by omega)).trans hm2) rfl h8
        · exact isB_blk (hk2'.grow hbN) (be8_length _) h8
        · exact isB_blk (hk3'.grow hbN) (be8_length _) h8
        · exact isB_blk (hk1'.grow hbN) (be8_length _) h8)
    exact this
  have hfl : [markB, be8 n, be8 s, be8 u, markB, be8 s, be8 u, be8 n].flatten = tally64 n s u := by simp [tally64]
  have Hbb := Lib.hid hbb
  have Hvs := Lib.hid hvs
  have Hfl := Lib.hid hfl
  have Hs4 := Lib.hid (show w3.heap.size + 1 + 1 = w4.heap.size by omega)
  have Hb5 := Lib.hid (hbW.trans ((below_call hb4 hbN).mono hbW.size))
  clear hbb hvs hfl hrd hbN hk1 hk2 hk3 hk1' hk2' hk3' hm1 hm2 hbM hb1 hb2 hb3 hb1' hb2' hb3' hb4 hw4 x0 x1 x2 x0d x1d x2d hB0 hs4
  go_wp2_with fail
  rw [Hs4.out, ← Hw4.out]
  refine (concat_any (fun _ => True) _ [markB, be8 n, be8 s, be8 u, markB, be8 s, be8 u, be8 n] _ (by have h := Hbb.out; rw [Hvs.out] at h; exact h) (by rw [Hfl.out, tally64_length]; decide)).mono ?_
  rintro e w5 ⟨x, rfl, hox, hb5⟩
  rw [Hfl.out] at hox
  have hB := hox.isB
  have hb05 := Hb5.out
  rw [Hvs.out] at hb05
  have hb06 := below_call hb05 hb5
  clear hc1 hc2 hox hb5 hb05
  go_wp2_with fail
  refine (whole_any _ x (tally64 n s u) w5 hB (by rw [tally64_length]; decide)).mono ?_
  rintro e w6 ⟨rfl, hblk, hb6⟩
  rw [tallyB_whole] at hblk
  have Hblk := Lib.hid hblk
  clear hblk
  go_wp2
  go_ret
  exact ⟨_, rfl, hb06.size, Hblk.out, below_call hb06 hb6⟩
end Go.Proofs.YtdmbmkjiffhbcaaGreat

namespace Go.Proofs.YtdmbmkjiffhbcaaGreat
open Go.RowKit
set_option maxRecDepth 100000

def vTally (t : Nat × Nat × Nat) : Value := .agg #[.int .u64 (t.1 : Int), .int .i64 (t.2.1 : Int), .int .i64 (t.2.2 : Int)]

set_option maxHeartbeats 2000000 in
theorem astally_any (ok : Nat → Prop) (v : Value) (l : List UInt8) (size : Nat) (w : World) (hv : IsB w ok v l) (hl : l.length = 256) (hsz : size ≤ 1099511627776) :
    Calls Tryz.prog 54 #[v, .int .i64 (size : Int)] w fun e w' => e = .returned (vTally (asTally l size)) ∧ Below w.heap.size w w' := by
  obtain ⟨A, c, rfl, hc, hm, hr⟩ := hv
  obtain ⟨b, off, rfl, hob, hbl, _⟩ := hr.byte (by omega)
  have hu8 := fun k => (hr.drop' (k := k))
  have hword : ∀ (k : Nat) (hk : k + 8 ≤ 256) (u : World), Rd u ok (some ⟨b, off, none⟩) (l.map u8) → Calls Tryz.prog 76 #[.slice (some ⟨b, off + k, none⟩) (256 - k) (c - k)] u fun e w' => e = .returned (.int .u64 (unbe ((l.drop k).take 8) : Int)) ∧ u = w' := fun k hk u hu => by
    have h := hu.drop' (k := k)
    rw [← List.map_drop] at h
    have := asword_any ok (some ⟨b, off + k, none⟩) (l.drop k) (c - k) u (by rw [List.length_drop]; omega) (by rw [List.length_drop]; omega) (by omega) h
    rwa [List.length_drop, hl] at this
  rw [hl]
  have hc1 : (256 : Int) ≤ (c : Int) := by omega
  have hwz : IntKind.u64.wrap (size : Int) = (size : Int) := by rw [IntKind.wrap_u64]; omega
  have hn8 : ¬ c = 8 := by omega
  have hn16 : ¬ c = 16 := by omega
  have hn24 : ¬ c = 24 := by omega
  have Hw8 := Lib.hid (show ∀ (u : World), Rd u ok (some ⟨b, off, none⟩) (l.map u8) → Calls Tryz.prog 76 #[.slice (some ⟨b, off + 8, none⟩) 248 (c - 8)] u fun e w' => e = .returned (.int .u64 (unbe ((l.drop 8).take 8) : Int)) ∧ u = w' from hword 8 (by decide))
  have Hw16 := Lib.hid (show ∀ (u : World), Rd u ok (some ⟨b, off, none⟩) (l.map u8) → Calls Tryz.prog 76 #[.slice (some ⟨b, off + 16, none⟩) 240 (c - 16)] u fun e w' => e = .returned (.int .u64 (unbe ((l.drop 16).take 8) : Int)) ∧ u = w' from hword 16 (by decide))
  have Hw24 := Lib.hid (show ∀ (u : World), Rd u ok (some ⟨b, off, none⟩) (l.map u8) → Calls Tryz.prog 76 #[.slice (some ⟨b, off + 24, none⟩) 232 (c - 24)] u fun e w' => e = .returned (.int .u64 (unbe ((l.drop 24).take 8) : Int)) ∧ u = w' from hword 24 (by decide))
  have hrd : Rd (w.alloc (.cells #[.int .u64 0, .int .i64 0, .int .i64 0] 90)) ok (some ⟨b, off, none⟩) (l.map u8) := hr.grow ((Below.refl _ _).alloc (Nat.le_refl _) _)
  have Hrd := Lib.hid hrd
  have Hhc := Lib.hid hc
  have Hhm := Lib.hid hm
  have Hl := Lib.hid hl
  clear hu8 hword hr hrd hc hm hl
  go_enter Tryz.func54, Tryz.ntmps54
  go_wp2_with fail
  have hB0 : Blk (w.alloc (.cells #[.int .u64 0, .int .i64 0, .int .i64 0] 90)) w.heap.size 90 #[.int .u64 0, .int .i64 0, .int .i64 0] := Blk.new _ _ _
  obtain ⟨W, hW⟩ : ∃ W, W = w.alloc (.cells #[.int .u64 0, .int .i64 0, .int .i64 0] 90) := ⟨_, rfl⟩
  have hbW : Below w.heap.size w W := by rw [hW]; exact (Below.refl _ _).alloc (Nat.le_refl _) _
  rw [← hW] at hB0 Hrd ⊢
  clear hW
  have hrdd : Rd W.drew ok (some ⟨b, off, none⟩) (l.map u8) := Hrd.out
  go_region_held3 (fun u => Rd u ok (some ⟨b, off, none⟩) (l.map u8))
    (first | (with_reducible exact hrdd) | (with_reducible assumption))
    (first
      | (go_at_call 76; with_reducible refine (Hw8.out _ (by assumption)).mono ?_; rintro e wq ⟨rfl, rfl⟩)
      | (go_at_call 76; with_reducible refine (Hw16.out _ (by assumption)).mono ?_; rintro e wq ⟨rfl, rfl⟩)
      | (go_at_call 76; with_reducible refine (Hw24.out _ (by assumption)).mono ?_; rintro e wq ⟨rfl, rfl⟩))
  obtain ⟨n, hn⟩ : ∃ n, n = unbe ((l.drop 8).take 8) := ⟨_, rfl⟩
  obtain ⟨s, hs⟩ : ∃ s, s = unbe ((l.drop 16).take 8) := ⟨_, rfl⟩
  obtain ⟨u, hu⟩ : ∃ u, u = unbe ((l.drop 24).take 8) := ⟨_, rfl⟩
  rw [← hn, ← hs, ← hu]
  have hnl : n < 18446744073709551616 := by
    rw [hn]
    refine Nat.lt_of_lt_of_le (unbe_lt _) ?_
    rw [List.length_take, List.length_drop, Hl.out]
    decide
  have has : asTally l size = if n < 1 ∨ 4611686018427387904 < n ∨ 1 < s ∨ size < u then (0, 0, 0) else if l.take 64 = tally64 n s u then (n, s, u) else (0, 0, 0) := by unfold asTally; rw [← hn, ← hs, ← hu]
  have Has := Lib.hid has
  have hbd : Below w.heap.size w W.drew := hbW.drew
  have hB0d : Blk W.drew w.heap.size 90 #[.int .u64 0, .int .i64 0, .int .i64 0] := hB0
  have x0 := hB0.cell 0
  have x1 := hB0.cell 1
  have x2 := hB0.cell 2
  have f0 := hB0.frozen 0
  have f1 := hB0.frozen 1
  have f2 := hB0.frozen 2
  simp only [List.getElem?_toArray, List.getElem?_cons_zero, List.getElem?_cons_succ] at x0 x1 x2
  have Hbd := Lib.hid hbd
  have HB0d := Lib.hid hB0d
  have HB0 := Lib.hid hB0
  have HbW := Lib.hid hbW
  clear hn hs hu has hbd hB0d hB0 hbW Hw8 Hw16 Hw24
  by_cases hbad : n < 1 ∨ 4611686018427387904 < n ∨ 1 < s ∨ size < u
  · have h0 : asTally l size = (0, 0, 0) := by rw [Has.out, if_pos hbad]
    have H0 := Lib.hid h0
    clear h0
    by_cases b1 : (n : Int) < 1
    · clear hbad
      go_wp2
      (refine bodyPost_ret (v := vTally (0, 0, 0)) (by simp [results, vTally, Tryz.results54, go_sem, x0, x1, x2]) rfl ?_; rw [H0.out]; exact ⟨rfl, ((Hbd.out.setCell (Nat.le_refl _) _).setCell (Nat.le_refl _) _).setCell (Nat.le_refl _) _⟩)
    · by_cases b2 : (4611686018427387904 : Int) < (n : Int)
      · clear hbad
        go_wp2
        (refine bodyPost_ret (v := vTally (0, 0, 0)) (by simp [results, vTally, Tryz.results54, go_sem, x0, x1, x2]) rfl ?_; rw [H0.out]; exact ⟨rfl, ((Hbd.out.setCell (Nat.le_refl _) _).setCell (Nat.le_refl _) _).setCell (Nat.le_refl _) _⟩)
      · by_cases b3 : (1 : Int) < (s : Int)
        · clear hbad
          go_wp2
          (refine bodyPost_ret (v := vTally (0, 0, 0)) (by simp [results, vTally, Tryz.results54, go_sem, x0, x1, x2]) rfl ?_; rw [H0.out]; exact ⟨rfl, ((Hbd.out.setCell (Nat.le_refl _) _).setCell (Nat.le_refl _) _).setCell (Nat.le_refl _) _⟩)
        · have b4 : (size : Int) < (u : Int) := by omega
          clear hbad
          go_wp2
          (refine bodyPost_ret (v := vTally (0, 0, 0)) (by simp [results, vTally, Tryz.results54, go_sem, x0, x1, x2]) rfl ?_; rw [H0.out]; exact ⟨rfl, ((Hbd.out.setCell (Nat.le_refl _) _).setCell (Nat.le_refl _) _).setCell (Nat.le_refl _) _⟩)
  · have hc64 : (64 : Int) ≤ (c : Int) := by omega
    have g1 : ¬ ((n : Int) < 1) := by omega
    have g2 : ¬ ((4611686018427387904 : Int) < (n : Int)) := by omega
    have g3 : ¬ ((1 : Int) < (s : Int)) := by omega
    have g4 : ¬ ((size : Int) < (u : Int)) := by omega
    have hws : wrap64 (s : Int) = (s : Int) := IntWalk.wrap64_in _ (by omega)
    have hwu : wrap64 (u : Int) = (u : Int) := IntWalk.wrap64_in _ (by omega)
    have hsb : s < 9223372036854775808 := by omega
    have hub : u < 9223372036854775808 := by omega
    rw [if_neg hbad] at Has
    have hb8 : Blk ((W.alloc (.cells #[.int .u64 (n : Int), .int .i64 (s : Int), .int .i64 (u : Int)] 90)).drew) W.heap.size 90 #[.int .u64 (n : Int), .int .i64 (s : Int), .int .i64 (u : Int)] := (Blk.new W _ _).drew
    have hb4 : Blk ((W.alloc (.cells #[.int .u64 (n : Int), .int .i64 (s : Int), .int .i64 (u : Int)] 90)).drew) w.heap.size 90 #[.int .u64 0, .int .i64 0, .int .i64 0] := (HB0.out.alloc _).drew
    have hb08 : Below w.heap.size w ((W.alloc (.cells #[.int .u64 (n : Int), .int .i64 (s : Int), .int .i64 (u : Int)] 90)).drew) := (HbW.out.alloc HbW.out.size _).drew
    have hr8 : Rd ((W.alloc (.cells #[.int .u64 (n : Int), .int .i64 (s : Int), .int .i64 (u : Int)] 90)).drew) ok (some ⟨b, off, none⟩) (l.map u8) := Hrd.out.grow (((Below.refl _ _).alloc (Nat.le_refl _) _).drew)
    obtain ⟨W8, hW8⟩ : ∃ W8, W8 = (W.alloc (.cells #[.int .u64 (n : Int), .int .i64 (s : Int), .int .i64 (u : Int)] 90)).drew := ⟨_, rfl⟩
    rw [← hW8] at hb8 hb4 hb08 hr8
    have HW8 := Lib.hid hW8
    have Hb8 := Lib.hid hb8
    have Hb4 := Lib.hid hb4
    have Hb08 := Lib.hid hb08
    have hE1 : ∀ z, Below W8.heap.size W8 z → IsB z ok (.slice (some ⟨b, off, none⟩) 64 c) (l.take 64) := fun z hz => by
      refine ⟨_, c, by rw [List.length_take, Hl.out]; rfl, by rw [List.length_take, Hl.out]; have := Hhc.out; rw [Hl.out] at this; omega, Hhm.out, ?_⟩
      rw [List.map_take]
      exact (hr8.grow hz).take
    have hE2 : ∀ (z : World) (g : Nat), Blk z g 5 ((tallyB n s u).map u8).toArray → IsB z (fun _ => True) (.slice (some ⟨g, 0, none⟩) 64 256) (tally64 n s u) := fun z g hz => by
      refine ⟨_, 256, by rw [tally64_length], by rw [tally64_length]; decide, by unfold maxLen; decide, ?_⟩
      have := (hz.rd (fun _ => True) trivial).take (k := 64)
      rw [List.toList_toArray, ← List.map_take] at this
      have e : (tallyB n s u).take 64 = tally64 n s u := by unfold tallyB; exact List.take_left' (tally64_length n s u)
      rwa [e] at this
    have HE1 := Lib.hid hE1
    have HE2 := Lib.hid hE2
    have y0 := hb8.cell 0
    have y1 := hb8.cell 1
    have y2 := hb8.cell 2
    simp only [List.getElem?_toArray, List.getElem?_cons_zero, List.getElem?_cons_succ] at y0 y1 y2
    have y0d : W8.drew.cell? ⟨W.heap.size, 0, none⟩ = _ := y0
    have y1d : W8.drew.cell? ⟨W.heap.size, 1, none⟩ = _ := y1
    have y2d : W8.drew.cell? ⟨W.heap.size, 2, none⟩ = _ := y2
    clear hbad hW8 hb8 hb4 hb08 hr8 hE1 hE2 hrdd HB0d x0 x1 x2 f0 f1 f2
    go_wp2_with fail
    rw [← HW8.out]
    by_cases heq : l.take 64 = tally64 n s u
    · have hbe : (l.take 64 == tally64 n s u) = true := by rw [heq]; exact beq_self_eq_true _
      have h0 : asTally l size = (n, s, u) := by rw [Has.out, if_pos heq]
      have H0 := Lib.hid h0
      clear heq h0
      go_region_held3 (fun z => Below W8.heap.size W8 z ∧ z.cell? ⟨W.heap.size, 0, none⟩ = some (.int .u64 (n : Int)) ∧ z.cell? ⟨W.heap.size, 1, none⟩ = some (.int .i64 (s : Int)) ∧ z.cell? ⟨W.heap.size, 2, none⟩ = some (.int .i64 (u : Int))) (first | (with_reducible exact ⟨(Below.refl _ _).drew, y0d, y1d, y2d⟩) | (with_reducible assumption) | (go_split_ands; with_reducible exact ⟨below_on (by assumption) hb5, cell_then hb5 (by assumption), cell_then hb5 (by assumption), cell_then hb5 (by assumption)⟩)) (first | (go_at_call 57; with_reducible refine (sector_any n s u hsb hub _).mono ?_; rintro e w5 ⟨g5, rfl, hg5, hblk5, hb5⟩) | (go_at_call 77; refine (equal_any ok (fun _ => True) _ _ (l.take 64) (tally64 n s u) _ (HE1.out _ (And.left (by assumption))) (HE2.out _ g5 hblk5)).mono ?_; rintro e wq ⟨rfl, rfl⟩; rw [hbe]))
      have hbb5 := below_drew_then hb5
      have hB8 := Hb8.out.grow hbb5
      have hB4 := Hb4.out.grow hbb5
      have k0 := hB8.cell 0
      have k1 := hB8.cell 1
      have k2 := hB8.cell 2
      have m0 := hB4.cell 0
      have m1 := hB4.cell 1
      have m2 := hB4.cell 2
      have q0 := hB4.frozen 0
      have q1 := hB4.frozen 1
      have q2 := hB4.frozen 2
      simp only [List.getElem?_toArray, List.getElem?_cons_zero, List.getElem?_cons_succ] at k0 k1 k2 m0 m1 m2
      have Hb05 := Lib.hid (below_call Hb08.out hbb5)
      clear hblk5 hb5 hbb5 hB8 hB4
      go_wp2
      refine bodyPost_ret (v := vTally (n, s, u)) (by simp [results, vTally, Tryz.results54, go_sem, m0, m1, m2]) rfl ?_
      rw [H0.out]
      exact ⟨rfl, ((Hb05.out.setCell (Nat.le_refl _) _).setCell (Nat.le_refl _) _).setCell (Nat.le_refl _) _⟩
    · have hbe : (l.take 64 == tally64 n s u) = false := by rw [beq_eq_false_iff_ne]; exact heq
      have h0 : asTally l size = (0, 0, 0) := by rw [Has.out, if_neg heq]
      have H0 := Lib.hid h0
      clear heq h0
      go_region_held3 (fun z => Below W8.heap.size W8 z ∧ z.cell? ⟨W.heap.size, 0, none⟩ = some (.int .u64 (n : Int)) ∧ z.cell? ⟨W.heap.size, 1, none⟩ = some (.int .i64 (s : Int)) ∧ z.cell? ⟨W.heap.size, 2, none⟩ = some (.int .i64 (u : Int))) (first | (with_reducible exact ⟨(Below.refl _ _).drew, y0d, y1d, y2d⟩) | (with_reducible assumption) | (go_split_ands; with_reducible exact ⟨below_on (by assumption) hb5, cell_then hb5 (by assumption), cell_then hb5 (by assumption), cell_then hb5 (by assumption)⟩)) (first | (go_at_call 57; with_reducible refine (sector_any n s u hsb hub _).mono ?_; rintro e w5 ⟨g5, rfl, hg5, hblk5, hb5⟩) | (go_at_call 77; refine (equal_any ok (fun _ => True) _ _ (l.take 64) (tally64 n s u) _ (HE1.out _ (And.left (by assumption))) (HE2.out _ g5 hblk5)).mono ?_; rintro e wq ⟨rfl, rfl⟩; rw [hbe]))
      have hbb5 := below_drew_then hb5
      have hB8 := Hb8.out.grow hbb5
      have hB4 := Hb4.out.grow hbb5
      have k0 := hB8.cell 0
      have k1 := hB8.cell 1
      have k2 := hB8.cell 2
      have m0 := hB4.cell 0
      have m1 := hB4.cell 1
      have m2 := hB4.cell 2
      have q0 := hB4.frozen 0
      have q1 := hB4.frozen 1
      have q2 := hB4.frozen 2
      simp only [List.getElem?_toArray, List.getElem?_cons_zero, List.getElem?_cons_succ] at k0 k1 k2 m0 m1 m2
      have Hb05 := Lib.hid (below_call Hb08.out hbb5)
      clear hblk5 hb5 hbb5 hB8 hB4
      go_wp2
      refine bodyPost_ret (v := vTally (0, 0, 0)) (by simp [results, vTally, Tryz.results54, go_sem, m0, m1, m2]) rfl ?_
      rw [H0.out]
      exact ⟨rfl, ((Hb05.out.setCell (Nat.le_refl _) _).setCell (Nat.le_refl _) _).setCell (Nat.le_refl _) _⟩
end Go.Proofs.YtdmbmkjiffhbcaaGreat
