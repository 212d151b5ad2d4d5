/-
  The checksum on lists of bytes: its halves, how it rolls along, and that it tells a changed byte and swapped neighbours.
  sum.Sum: the checksum of bytes.
  sum.Seal: bytes with their checksum behind them.
-/
import Derived.Test.YtdmbmkjiffhbcaaGreatWordsB
import Derived.Lib.Hide
import Derived.WalkKit
import Derived.WalkSpells
import Derived.Laws.BitsAllLaws
import Derived.Test.YtdmbmkjiffhbcaaGreatPlainKit
import Derived.Deep.RegionHeld
import Derived.Laws.MakeOwn
namespace Go.Proofs.YtdmbmkjiffhbcaaGreat

/-- The total of bytes. -/
def totS : List UInt8 → Nat
  | [] => 0
  | b :: l => b.toNat + totS l
/-- The total of bytes, each as often as there are bytes from it on. -/
def totH : List UInt8 → Nat
  | [] => 0
  | b :: l => (l.length + 1) * b.toNat + totH l
/-- The low half. -/
def lo (l : List UInt8) : Nat := (1 + totS l) % 65521
/-- The high half. -/
def hi (l : List UInt8) : Nat := (l.length + totH l) % 65521
/-- The checksum. -/
def adler (l : List UInt8) : Nat := hi l * 65536 + lo l
/-- Four bytes of a number, the most significant first. -/
def be4 (n : Nat) : List UInt8 := [UInt8.ofNat (n / 16777216 % 256), UInt8.ofNat (n / 65536 % 256), UInt8.ofNat (n / 256 % 256), UInt8.ofNat (n % 256)]
def sumB (l : List UInt8) : List UInt8 := be4 (adler l)

theorem lo_lt (l : List UInt8) : lo l < 65521 := Nat.mod_lt _ (by decide)
theorem hi_lt (l : List UInt8) : hi l < 65521 := Nat.mod_lt _ (by decide)
theorem adler_lt (l : List UInt8) : adler l < 4294967296 := by
  have := lo_lt l
  have := hi_lt l
  unfold adler
  omega
theorem lo_nil : lo [] = 1 := rfl
theorem hi_nil : hi [] = 0 := rfl
theorem adler_nil : adler [] = 1 := rfl
theorem sumB_length (l : List UInt8) : (sumB l).length = 4 := rfl

theorem totS_append (p q : List UInt8) : totS (p ++ q) = totS p + totS q := by
  induction p with
  | nil => simp [totS]
  | cons b p ih => simp only [List.cons_append, totS, ih]; omega
theorem totH_append (p q : List UInt8) : totH (p ++ q) = totH p + q.length * totS p + totH q := by
  induction p with
  | nil => simp [totH, totS]
  | cons b p ih =>
    simp only [List.cons_append, totH, totS, ih, List.length_append]
    rw [Nat.mul_add, show p.length + q.length + 1 = (p.length + 1) + q.length by omega, Nat.add_mul]
    omega
theorem totS_le (l : List UInt8) : totS l ≤ 255 * l.length := by
  induction l with
  | nil => simp [totS]
  | cons b l ih =>
    have := b.toNat_lt
    simp only [totS, List.length_cons]
    omega

theorem lo_snoc (l : List UInt8) (c : UInt8) : lo (l ++ [c]) = (lo l + c.toNat) % 65521 := by
  unfold lo
  rw [totS_append]
  simp only [totS]
  omega
theorem hi_snoc (l : List UInt8) (c : UInt8) : hi (l ++ [c]) = (hi l + lo (l ++ [c])) % 65521 := by
  unfold lo hi
  rw [totS_append, totH_append]
  simp only [totS, totH, List.length_append, List.length_cons, List.length_nil]
  omega
theorem lo_take (l : List UInt8) (k : Nat) (h : k < l.length) : lo (l.take (k + 1)) = (lo (l.take k) + l[k].toNat) % 65521 := by
  rw [List.take_succ_eq_append_getElem h, lo_snoc]
theorem hi_take (l : List UInt8) (k : Nat) (h : k < l.length) : hi (l.take (k + 1)) = (hi (l.take k) + lo (l.take (k + 1))) % 65521 := by
  rw [List.take_succ_eq_append_getElem h, hi_snoc]
theorem totS_take (l : List UInt8) (k : Nat) (h : k < l.length) : totS (l.take (k + 1)) = totS (l.take k) + l[k].toNat := by
  rw [List.take_succ_eq_append_getElem h, totS_append]
  simp [totS]

/-! ### Rolling -/
/-- What Roll answers, its halves in numbers without bounds. -/
def rollLo (s : Nat) (x y : Nat) : Int := ((s % 65536 : Nat) - (x : Int) + y) % 65521
def rollHi (s : Nat) (n : Int) (x y : Nat) : Int := ((s / 65536 : Nat) - (max n 0 % 65521) * (x : Int) + rollLo s x y - 1) % 65521
def roll (s : Nat) (n : Int) (x y : Nat) : Nat := (rollHi s n x y * 65536 + rollLo s x y).toNat

theorem mul_mod' (n x : Nat) : (n % 65521 * x) % 65521 = (n * x) % 65521 := by
  rw [Nat.mul_mod, Nat.mod_mod, ← Nat.mul_mod]
theorem rollLo_range (s x y : Nat) : 0 ≤ rollLo s x y ∧ rollLo s x y < 65521 := by unfold rollLo; omega
theorem rollHi_range (s : Nat) (n : Int) (x y : Nat) : 0 ≤ rollHi s n x y ∧ rollHi s n x y < 65521 := by
  unfold rollHi
  generalize max n 0 % 65521 * (x : Int) = p
  generalize rollLo s x y = q
  omega
theorem adler_lo (l : List UInt8) : adler l % 65536 = lo l := by
  have := lo_lt l
  unfold adler
  omega
theorem adler_hi (l : List UInt8) : adler l / 65536 = hi l := by
  have := lo_lt l
  unfold adler
  omega
theorem roll_adler (x : UInt8) (t : List UInt8) (y : UInt8) : roll (adler (x :: t)) ((t.length + 1 : Nat) : Int) x.toNat y.toNat = adler (t ++ [y]) := by
  have e1 : rollLo (adler (x :: t)) x.toNat y.toNat = (lo (t ++ [y]) : Int) := by
    unfold rollLo
    rw [adler_lo]
    unfold lo
    rw [totS_append]
    simp only [totS]
    omega
  have e2 : rollHi (adler (x :: t)) ((t.length + 1 : Nat) : Int) x.toNat y.toNat = (hi (t ++ [y]) : Int) := by
    unfold rollHi
    rw [adler_hi, e1]
    have hm : max ((t.length + 1 : Nat) : Int) 0 % 65521 * (x.toNat : Int) = (((t.length + 1) % 65521 * x.toNat : Nat) : Int) := by
      rw [show max ((t.length + 1 : Nat) : Int) 0 = ((t.length + 1 : Nat) : Int) from Int.max_eq_left (by omega)]
      rw [Int.natCast_mul, Int.natCast_emod]
      rfl
    rw [hm]
    have hq := mul_mod' (t.length + 1) x.toNat
    unfold lo hi
    rw [totS_append, totH_append]
    simp only [totS, totH, List.length_append, List.length_cons, List.length_nil]
    generalize (t.length + 1) % 65521 * x.toNat = q at *
    generalize (t.length + 1) * x.toNat = p at *
    omega
  unfold roll
  rw [e1, e2]
  unfold adler
  omega

/-! ### The four bytes -/
theorem be4_inj (a b : Nat) (ha : a < 4294967296) (hb : b < 4294967296) (h : be4 a = be4 b) : a = b := by
  unfold be4 at h
  simp only [List.cons.injEq, and_true] at h
  obtain ⟨h1, h2, h3, h4⟩ := h
  have g : ∀ x y : Nat, UInt8.ofNat (x % 256) = UInt8.ofNat (y % 256) → x % 256 = y % 256 := fun x y h => by
    have := congrArg UInt8.toNat h
    simpa using this
  have := g _ _ h1
  have := g _ _ h2
  have := g _ _ h3
  have := g _ _ h4
  omega
theorem sumB_inj (a b : List UInt8) (h : sumB a = sumB b) : lo a = lo b ∧ hi a = hi b := by
  have e := be4_inj _ _ (adler_lt a) (adler_lt b) h
  constructor
  · rw [← adler_lo, e, adler_lo]
  · rw [← adler_hi, e, adler_hi]

/-! ### A byte that is turned, neighbours that change places -/
theorem totS_set (l : List UInt8) (i : Nat) (h : i < l.length) (c : UInt8) : totS (l.set i c) + l[i].toNat = totS l + c.toNat := by
  induction l generalizing i with
  | nil => simp at h
  | cons b l ih =>
    cases i with
    | zero => simp only [List.set_cons_zero, totS, List.getElem_cons_zero]; omega
    | succ i =>
      have := ih i (by simpa using h)
      simp only [List.set_cons_succ, totS, List.getElem_cons_succ]
      omega
theorem lo_set (l : List UInt8) (i : Nat) (h : i < l.length) (c : UInt8) (hc : c ≠ l[i]) : lo (l.set i c) ≠ lo l := by
  have e := totS_set l i h c
  have h1 := c.toNat_lt
  have h2 := l[i].toNat_lt
  have h3 : c.toNat ≠ l[i].toNat := fun e => hc (UInt8.toNat_inj.1 e)
  unfold lo
  omega

/-- Whether bytes end with their own checksum. -/
def sealedB (x : List UInt8) : Bool := x.drop (x.length - 4) == sumB (x.take (x.length - 4))
theorem sealedB_seal (b : List UInt8) : sealedB (b ++ sumB b) = true := by
  have e : (b ++ sumB b).length - 4 = b.length := by rw [List.length_append, sumB_length]; omega
  unfold sealedB
  rw [e, List.drop_left' rfl, List.take_left' rfl]
  simp
theorem sealedB_set (b : List UInt8) (i : Nat) (h : i < b.length + 4) (c : UInt8) (hc : ∀ h, c ≠ (b ++ sumB b)[i]'h) : sealedB ((b ++ sumB b).set i c) = false := by
  have hl : (b ++ sumB b).length = b.length + 4 := by rw [List.length_append, sumB_length]
  have e : ((b ++ sumB b).set i c).length - 4 = b.length := by rw [List.length_set, hl]; omega
  unfold sealedB
  rw [e, beq_eq_false_iff_ne]
  have hc' := hc (by omega)
  by_cases hi : i < b.length
  · rw [List.getElem_append_left hi] at hc'
    rw [List.set_append_left _ _ hi, List.drop_left' (by simp), List.take_left' (by simp)]
    intro h'
    exact lo_set b i hi c hc' (sumB_inj _ _ h').1.symm
  · rw [List.getElem_append_right (by omega)] at hc'
    rw [List.set_append_right _ _ (by omega), List.drop_left' rfl, List.take_left' rfl]
    intro h'
    have := congrArg (fun l => l[i - b.length]?) h'
    simp only [List.getElem?_set_self (show i - b.length < (sumB b).length by rw [sumB_length]; omega)] at this
    rw [List.getElem?_eq_getElem (show i - b.length < (sumB b).length by rw [sumB_length]; omega)] at this
    exact hc' (by simpa using this)
theorem hi_swap (p r : List UInt8) (x y : UInt8) (h : x ≠ y) : hi (p ++ y :: x :: r) ≠ hi (p ++ x :: y :: r) := by
  have h1 := x.toNat_lt
  have h2 := y.toNat_lt
  have h3 : x.toNat ≠ y.toNat := fun e => h (UInt8.toNat_inj.1 e)
  unfold hi
  simp only [totH_append, totH, List.length_append, List.length_cons, Nat.add_mul, Nat.one_mul]
  omega
theorem swap_parts (l : List UInt8) (i : Nat) (h : i + 1 < l.length) :
    l = l.take i ++ l[i] :: l[i + 1] :: l.drop (i + 2) ∧ (l.set i l[i + 1]).set (i + 1) l[i] = l.take i ++ l[i + 1] :: l[i] :: l.drop (i + 2) := by
  have e : l = l.take i ++ l[i] :: l[i + 1] :: l.drop (i + 2) := by
    rw [show l[i] :: l[i + 1] :: l.drop (i + 2) = l.drop i from by rw [← List.drop_eq_getElem_cons h, ← List.drop_eq_getElem_cons (by omega)], List.take_append_drop]
  refine ⟨e, ?_⟩
  generalize l[i] = x at *
  generalize l[i + 1] = y at *
  have hl : (l.take i).length = i := by rw [List.length_take]; omega
  generalize l.take i = p at *
  generalize l.drop (i + 2) = r at *
  subst e
  subst hl
  rw [List.set_append_right _ _ (Nat.le_refl _), List.set_append_right _ _ (by omega)]
  simp
theorem sealedB_swap (b : List UInt8) (i : Nat) (h : i + 1 < b.length) (hs : i + 1 < (b ++ sumB b).length) :
    sealedB (((b ++ sumB b).set i (b ++ sumB b)[i + 1]).set (i + 1) (b ++ sumB b)[i]) = ((b ++ sumB b)[i] == (b ++ sumB b)[i + 1]) := by
  rw [List.getElem_append_left h, List.getElem_append_left (show i < b.length by omega), List.set_append_left _ _ (by omega), List.set_append_left _ _ (by simpa using h)]
  obtain ⟨e1, e2⟩ := swap_parts b i h
  have hl : ((b.set i b[i + 1]).set (i + 1) b[i]).length = b.length := by simp
  unfold sealedB
  rw [show (((b.set i b[i + 1]).set (i + 1) b[i]) ++ sumB b).length - 4 = b.length by rw [List.length_append, sumB_length, hl]; omega, List.drop_left' hl, List.take_left' hl]
  by_cases hxy : b[i] = b[i + 1]
  · rw [← hxy] at e2 ⊢
    rw [e2]
    rw [← hxy] at e1
    rw [← e1]
    simp
  · rw [show (b[i] == b[i + 1]) = false by simpa using hxy, beq_eq_false_iff_ne]
    intro h'
    have := (sumB_inj _ _ h').2
    rw [e2, congrArg hi e1] at this
    exact hi_swap _ _ _ _ hxy this.symm
end Go.Proofs.YtdmbmkjiffhbcaaGreat

namespace Go.Proofs.YtdmbmkjiffhbcaaGreat
open Go.RowKit

theorem u32_pack (h l : Int) (h0 : 0 ≤ h) (h1 : h < 65536) (l0 : 0 ≤ l) (l1 : l < 65536) : bits .or .u32 (h * 65536) l = h * 65536 + l := by
  obtain ⟨H, rfl⟩ := Int.eq_ofNat_of_zero_le h0
  obtain ⟨L, rfl⟩ := Int.eq_ofNat_of_zero_le l0
  have e : H * 65536 ||| L = H * 65536 + L := by
    have := Nat.shiftLeft_add_eq_or_of_lt (i := 16) (b := L) (by omega) H
    rw [Nat.shiftLeft_eq, show (2 : Nat) ^ 16 = 65536 from rfl] at this
    exact this.symm
  have := u32_or_nat (H * 65536) L (by omega) (by omega)
  rw [e] at this
  simpa using this

set_option maxHeartbeats 400000 in
theorem sum_any (ok : Nat → Prop) (v0 : Value) (l : List UInt8) (w : World) (hv : IsB w ok v0 l) :
    Calls Tryz.prog 93 #[v0] w fun e w' => e = .returned (.int .u32 (adler l : Int)) ∧ w = w' := by
  obtain ⟨A, c, rfl, hc, hm, hr⟩ := hv
  unfold maxLen at hm
  have Hr := Lib.hid hr
  have Hm : l.length ≤ 9223372036854775807 := by omega
  clear hr hc hm
  go_enter Tryz.func93, Tryz.ntmps93
  go_wp2
  go_loop [3, 4, 9] (fun a b i => ∃ k : Nat, k ≤ l.length ∧ i = .int .i64 (k : Int) ∧ a = .int .u32 (lo (l.take k) : Int) ∧ b = .int .u32 (hi (l.take k) : Int)) (fun _ _ i => l.length - (intOf i).toNat)
  case atStart => exact ⟨0, by omega, rfl, rfl, rfl⟩
  case round =>
    obtain ⟨k, hk, rfl, rfl, rfl⟩ := hrel
    have h1 := lo_lt (l.take k)
    have h2 := hi_lt (l.take k)
    by_cases hlt : k < l.length
    · obtain ⟨b, off, rfl, _, had, hel⟩ := Hr.out.byte (by omega)
      have hcell := hel k hlt
      have e1 := Lib.hid (lo_take l k hlt)
      have e2 := Lib.hid (hi_take l k hlt)
      have h3 := l[k].toNat_lt
      clear hel
      generalize lo (l.take k) = p at *
      generalize hi (l.take k) = q at *
      generalize l[k].toNat = x at *
      go_wp2
      go_round
      case rel => 
        refine ⟨k + 1, by omega, by go_num, ?_, ?_⟩
        · rw [e1.out]; go_num
        · rw [e2.out, e1.out]; go_num
      case measure => simp [intOf]; omega
    · obtain rfl : k = l.length := by omega
      simp only [List.take_length] at h1 h2 ⊢
      go_wp2
      go_ret
      refine ⟨?_, rfl⟩
      have := u32_pack (hi l) (lo l) (by omega) (by omega) (by omega) (by omega)
      simp [this, adler]
theorem sumbytes_any (ok : Nat → Prop) (v0 : Value) (l : List UInt8) (w : World) (hv : IsB w ok v0 l) :
    Calls Tryz.prog 84 #[v0] w fun e w' => ∃ v, e = .returned v ∧ Own1 w' w.heap.size 5 v ((sumB l).map u8) ∧ Below w.heap.size w w' := by
  go_enter Tryz.func84, Tryz.ntmps84
  have ha := adler_lt l
  go_wp2_with (go_at_call 93; refine (sum_any ok _ l _ hv).mono ?_; rintro e w1 ⟨rfl, rfl⟩)
  go_ret
  refine ⟨_, rfl, ⟨by simp [sumB_length], .inr ⟨w.heap.size, 4, _, rfl, Nat.le_refl _, Blk.new _ _ _, ?_⟩⟩, (Below.refl _ _).alloc (Nat.le_refl _) _⟩
  refine ⟨by simp [sumB_length], by unfold maxLen; decide, rfl, ?_⟩
  simp only [sumB, be4, List.map_cons, List.map_nil, u8_ofNat]
  simp
  omega
end Go.Proofs.YtdmbmkjiffhbcaaGreat

namespace Go.Proofs.YtdmbmkjiffhbcaaGreat
open Go.RowKit


set_option maxHeartbeats 400000 in
set_option maxRecDepth 100000 in
theorem seal_any (ok : Nat → Prop) (v0 : Value) (l : List UInt8) (w : World) (hv : IsB w ok v0 l) (hl : l.length ≤ 1099511627776) :
    Calls Tryz.prog 85 #[v0] w fun e w' => ∃ v, e = .returned v ∧ Own1 w' w.heap.size 5 v ((l ++ sumB l).map u8) ∧ Below w.heap.size w w' := by
  obtain ⟨i0, hi, hz0, hz1, hz2⟩ := info_parts info_byte
  obtain ⟨A, c, rfl, hc, hm, hr⟩ := hv
  have hmk : ∀ u : World, (Instr.makeSlice 47 (.int .i64 0) (.int .i64 ((l.length : Int) + 4))).run Tryz.prog u =
      .ok (.slice (some ⟨u.heap.size, 0, none⟩) 0 (l.length + 4)) (u.alloc (.cells (madeCells #[.int .u8 0] (l.length + 4)) 5)) := fun u => by
    have h := run_make (P := Tryz.prog) u 47 5 i0 (.int .u8 0) Tryz.underlying47 hi hz0 .i64 .i64 (0 : Int) ((l.length : Int) + 4) (by omega) (by omega) (by rw [hz2]; omega) (by omega)
    rw [show ((l.length : Int) + 4).toNat = l.length + 4 by omega] at h
    simpa [hz1, Value.cells] using h
  have hown : Own1 (w.alloc (.cells (madeCells #[.int .u8 0] (l.length + 4)) 5)) w.heap.size 5 (.slice (some ⟨w.heap.size, 0, none⟩) 0 (l.length + 4)) [] :=
    ⟨rfl, .inr ⟨w.heap.size, l.length + 4, _, rfl, Nat.le_refl _, Blk.new _ _ _, by simp, by unfold maxLen; omega, by simp [madeCells], by simp⟩⟩
  have Hr := Lib.hid hr
  have Hown := Lib.hid hown
  have Hc := Lib.hid hc
  have Hm := Lib.hid hm
  clear hr hown hc hm
  go_enter Tryz.func85, Tryz.ntmps85
  have hb0 : Below w.heap.size w (w.alloc (.cells (madeCells #[.int .u8 0] (l.length + 4)) 5)) := (Below.refl _ _).alloc (Nat.le_refl _) _
  go_wp2_with (first | (at_builtin; refine wpList_app1 _ elemB rfl (.tmp 8) (.tmp 9) rfl w.heap.size _ [] rfl Hown.out ok A l.length c (l.map u8) (List.length_map _) rfl (Hr.out.grow hb0) (u8_oneCell _) (by simp; omega) (by simp; omega) hb0.size ?_; intro v1 w1 hown1 hg1 _; have hb1 := hb0.trans (Hown.out.below_of hg1 hb0.size (Nat.le_refl _)); rw [List.nil_append] at hown1; clear hg1) | (at_builtin; refine wpList_app1 _ elemB rfl (.tmp 11) (.tmp 13) rfl w.heap.size v1 (l.map u8) rfl hown2 _ A2 4 c2 ((sumB l).map u8) (by simp [sumB_length]) rfl hr2 (u8_oneCell _) (by simp; omega) (by simp; omega) hb2.size ?_; intro v3 w3 hown3 hg3 _; have hb3 := hb2.trans (hown2.below_of hg3 hb2.size (Nat.le_refl _)); clear hg3) | (go_at_call 84; refine (sumbytes_any ok _ l _ ⟨A, c, rfl, Hc.out, Hm.out, Hr.out.grow hb1⟩).mono ?_; rintro e w2 ⟨x, rfl, hx, hbx⟩; have hb2 := hb1.trans (hbx.mono hb1.size); have hown2 := hown1.grow hbx; obtain ⟨A2, c2, rfl, _, _, hr2⟩ := hx.isB; rw [sumB_length]; clear hx hbx hown1))
  go_ret
  rw [List.map_append]
  exact ⟨_, rfl, hown3, hb3⟩
end Go.Proofs.YtdmbmkjiffhbcaaGreat
