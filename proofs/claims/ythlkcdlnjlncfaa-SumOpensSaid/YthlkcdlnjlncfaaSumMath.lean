/-
  The checksum on lists of bytes: its halves, how it rolls along, and that it tells a changed byte and swapped neighbours.
-/
namespace Go.Proofs.Ythlkcdlnjlncfaa

/-- The total of bytes. -/
def totS : List UInt8 → Nat
  | [] => 0
  | b :: l => b.toNat + totS l
/-- The total of bytes, each as often as there are bytes from it on. -/
def totH : List UInt8 → Nat
  | [] => 0
  | b :: l => (l.length + 1) * b.toNat + totH l
/-- The low half. -/
def lo (l : List UInt8) : Nat := (1 + totS l) % 65521
/-- The high half. -/
def hi (l : List UInt8) : Nat := (l.length + totH l) % 65521
/-- The checksum. -/
def adler (l : List UInt8) : Nat := hi l * 65536 + lo l
/-- Four bytes of a number, the most significant first. -/
def be4 (n : Nat) : List UInt8 := [UInt8.ofNat (n / 16777216 % 256), UInt8.ofNat (n / 65536 % 256), UInt8.ofNat (n / 256 % 256), UInt8.ofNat (n % 256)]
def sumB (l : List UInt8) : List UInt8 := be4 (adler l)

theorem lo_lt (l : List UInt8) : lo l < 65521 := Nat.mod_lt _ (by decide)
theorem hi_lt (l : List UInt8) : hi l < 65521 := Nat.mod_lt _ (by decide)
theorem adler_lt (l : List UInt8) : adler l < 4294967296 := by
  have := lo_lt l
  have := hi_lt l
  unfold adler
  omega
theorem lo_nil : lo [] = 1 := rfl
theorem hi_nil : hi [] = 0 := rfl
theorem adler_nil : adler [] = 1 := rfl
theorem sumB_length (l : List UInt8) : (sumB l).length = 4 := rfl

theorem totS_append (p q : List UInt8) : totS (p ++ q) = totS p + totS q := by
  induction p with
  | nil => simp [totS]
  | cons b p ih => simp only [List.cons_append, totS, ih]; omega
theorem totH_append (p q : List UInt8) : totH (p ++ q) = totH p + q.length * totS p + totH q := by
  induction p with
  | nil => simp [totH, totS]
  | cons b p ih =>
    simp only [List.cons_append, totH, totS, ih, List.length_append]
    rw [Nat.mul_add, show p.length + q.length + 1 = (p.length + 1) + q.length by omega, Nat.add_mul]
    omega
theorem totS_le (l : List UInt8) : totS l ≤ 255 * l.length := by
  induction l with
  | nil => simp [totS]
  | cons b l ih =>
    have := b.toNat_lt
    simp only [totS, List.length_cons]
    omega

theorem lo_snoc (l : List UInt8) (c : UInt8) : lo (l ++ [c]) = (lo l + c.toNat) % 65521 := by
  unfold lo
  rw [totS_append]
  simp only [totS]
  omega
theorem hi_snoc (l : List UInt8) (c : UInt8) : hi (l ++ [c]) = (hi l + lo (l ++ [c])) % 65521 := by
  unfold lo hi
  rw [totS_append, totH_append]
  simp only [totS, totH, List.length_append, List.length_cons, List.length_nil]
  omega
theorem lo_take (l : List UInt8) (k : Nat) (h : k < l.length) : lo (l.take (k + 1)) = (lo (l.take k) + l[k].toNat) % 65521 := by
  rw [List.take_succ_eq_append_getElem h, lo_snoc]
theorem hi_take (l : List UInt8) (k : Nat) (h : k < l.length) : hi (l.take (k + 1)) = (hi (l.take k) + lo (l.take (k + 1))) % 65521 := by
  rw [List.take_succ_eq_append_getElem h, hi_snoc]
theorem totS_take (l : List UInt8) (k : Nat) (h : k < l.length) : totS (l.take (k + 1)) = totS (l.take k) + l[k].toNat := by
  rw [List.take_succ_eq_append_getElem h, totS_append]
  simp [totS]

/-! ### Rolling -/
/-- What Roll answers, its halves in numbers without bounds. -/
def rollLo (s : Nat) (x y : Nat) : Int := ((s % 65536 : Nat) - (x : Int) + y) % 65521
def rollHi (s : Nat) (n : Int) (x y : Nat) : Int := ((s / 65536 : Nat) - (max n 0 % 65521) * (x : Int) + rollLo s x y - 1) % 65521
def roll (s : Nat) (n : Int) (x y : Nat) : Nat := (rollHi s n x y * 65536 + rollLo s x y).toNat

theorem mul_mod' (n x : Nat) : (n % 65521 * x) % 65521 = (n * x) % 65521 := by
  rw [Nat.mul_mod, Nat.mod_mod, ← Nat.mul_mod]
theorem rollLo_range (s x y : Nat) : 0 ≤ rollLo s x y ∧ rollLo s x y < 65521 := by unfold rollLo; omega
theorem rollHi_range (s : Nat) (n : Int) (x y : Nat) : 0 ≤ rollHi s n x y ∧ rollHi s n x y < 65521 := by
  unfold rollHi
  generalize max n 0 % 65521 * (x : Int) = p
  generalize rollLo s x y = q
  omega
theorem adler_lo (l : List UInt8) : adler l % 65536 = lo l := by
  have := lo_lt l
  unfold adler
  omega
theorem adler_hi (l : List UInt8) : adler l / 65536 = hi l := by
  have := lo_lt l
  unfold adler
  omega
theorem roll_adler (x : UInt8) (t : List UInt8) (y : UInt8) : roll (adler (x :: t)) ((t.length + 1 : Nat) : Int) x.toNat y.toNat = adler (t ++ [y]) := by
  have e1 : rollLo (adler (x :: t)) x.toNat y.toNat = (lo (t ++ [y]) : Int) := by
    unfold rollLo
    rw [adler_lo]
    unfold lo
    rw [totS_append]
    simp only [totS]
    omega
  have e2 : rollHi (adler (x :: t)) ((t.length + 1 : Nat) : Int) x.toNat y.toNat = (hi (t ++ [y]) : Int) := by
    unfold rollHi
    rw [adler_hi, e1]
    have hm : max ((t.length + 1 : Nat) : Int) 0 % 65521 * (x.toNat : Int) = (((t.length + 1) % 65521 * x.toNat : Nat) : Int) := by
      rw [show max ((t.length + 1 : Nat) : Int) 0 = ((t.length + 1 : Nat) : Int) from Int.max_eq_left (by omega)]
      rw [Int.natCast_mul, Int.natCast_emod]
      rfl
    rw [hm]
    have hq := mul_mod' (t.length + 1) x.toNat
    unfold lo hi
    rw [totS_append, totH_append]
    simp only [totS, totH, List.length_append, List.length_cons, List.length_nil]
    generalize (t.length + 1) % 65521 * x.toNat = q at *
    generalize (t.length + 1) * x.toNat = p at *
    omega
  unfold roll
  rw [e1, e2]
  unfold adler
  omega

/-! ### The four bytes -/
theorem be4_inj (a b : Nat) (ha : a < 4294967296) (hb : b < 4294967296) (h : be4 a = be4 b) : a = b := by
  unfold be4 at h
  simp only [List.cons.injEq, and_true] at h
  obtain ⟨h1, h2, h3, h4⟩ := h
  have g : ∀ x y : Nat, UInt8.ofNat (x % 256) = UInt8.ofNat (y % 256) → x % 256 = y % 256 := fun x y h => by
    have := congrArg UInt8.toNat h
    simpa using this
  have := g _ _ h1
  have := g _ _ h2
  have := g _ _ h3
  have := g _ _ h4
  omega
theorem sumB_inj (a b : List UInt8) (h : sumB a = sumB b) : lo a = lo b ∧ hi a = hi b := by
  have e := be4_inj _ _ (adler_lt a) (adler_lt b) h
  constructor
  · rw [← adler_lo, e, adler_lo]
  · rw [← adler_hi, e, adler_hi]

/-! ### A byte that is turned, neighbours that change places -/
theorem totS_set (l : List UInt8) (i : Nat) (h : i < l.length) (c : UInt8) : totS (l.set i c) + l[i].toNat = totS l + c.toNat := by
  induction l generalizing i with
  | nil => simp at h
  | cons b l ih =>
    cases i with
    | zero => simp only [List.set_cons_zero, totS, List.getElem_cons_zero]; omega
    | succ i =>
      have := ih i (by simpa using h)
      simp only [List.set_cons_succ, totS, List.getElem_cons_succ]
      omega
theorem lo_set (l : List UInt8) (i : Nat) (h : i < l.length) (c : UInt8) (hc : c ≠ l[i]) : lo (l.set i c) ≠ lo l := by
  have e := totS_set l i h c
  have h1 := c.toNat_lt
  have h2 := l[i].toNat_lt
  have h3 : c.toNat ≠ l[i].toNat := fun e => hc (UInt8.toNat_inj.1 e)
  unfold lo
  omega

/-- Whether bytes end with their own checksum. -/
def sealedB (x : List UInt8) : Bool := x.drop (x.length - 4) == sumB (x.take (x.length - 4))
theorem sealedB_seal (b : List UInt8) : sealedB (b ++ sumB b) = true := by
  have e : (b ++ sumB b).length - 4 = b.length := by rw [List.length_append, sumB_length]; omega
  unfold sealedB
  rw [e, List.drop_left' rfl, List.take_left' rfl]
  simp
theorem sealedB_set (b : List UInt8) (i : Nat) (h : i < b.length + 4) (c : UInt8) (hc : ∀ h, c ≠ (b ++ sumB b)[i]'h) : sealedB ((b ++ sumB b).set i c) = false := by
  have hl : (b ++ sumB b).length = b.length + 4 := by rw [List.length_append, sumB_length]
  have e : ((b ++ sumB b).set i c).length - 4 = b.length := by rw [List.length_set, hl]; omega
  unfold sealedB
  rw [e, beq_eq_false_iff_ne]
  have hc' := hc (by omega)
  by_cases hi : i < b.length
  · rw [List.getElem_append_left hi] at hc'
    rw [List.set_append_left _ _ hi, List.drop_left' (by simp), List.take_left' (by simp)]
    intro h'
    exact lo_set b i hi c hc' (sumB_inj _ _ h').1.symm
  · rw [List.getElem_append_right (by omega)] at hc'
    rw [List.set_append_right _ _ (by omega), List.drop_left' rfl, List.take_left' rfl]
    intro h'
    have := congrArg (fun l => l[i - b.length]?) h'
    simp only [List.getElem?_set_self (show i - b.length < (sumB b).length by rw [sumB_length]; omega)] at this
    rw [List.getElem?_eq_getElem (show i - b.length < (sumB b).length by rw [sumB_length]; omega)] at this
    exact hc' (by simpa using this)
theorem hi_swap (p r : List UInt8) (x y : UInt8) (h : x ≠ y) : hi (p ++ y :: x :: r) ≠ hi (p ++ x :: y :: r) := by
  have h1 := x.toNat_lt
  have h2 := y.toNat_lt
  have h3 : x.toNat ≠ y.toNat := fun e => h (UInt8.toNat_inj.1 e)
  unfold hi
  simp only [totH_append, totH, List.length_append, List.length_cons, Nat.add_mul, Nat.one_mul]
  omega
theorem swap_parts (l : List UInt8) (i : Nat) (h : i + 1 < l.length) :
    l = l.take i ++ l[i] :: l[i + 1] :: l.drop (i + 2) ∧ (l.set i l[i + 1]).set (i + 1) l[i] = l.take i ++ l[i + 1] :: l[i] :: l.drop (i + 2) := by
  have e : l = l.take i ++ l[i] :: l[i + 1] :: l.drop (i + 2) := by
    rw [show l[i] :: l[i + 1] :: l.drop (i + 2) = l.drop i from by rw [← List.drop_eq_getElem_cons h, ← List.drop_eq_getElem_cons (by omega)], List.take_append_drop]
  refine ⟨e, ?_⟩
  generalize l[i] = x at *
  generalize l[i + 1] = y at *
  have hl : (l.take i).length = i := by rw [List.length_take]; omega
  generalize l.take i = p at *
  generalize l.drop (i + 2) = r at *
  subst e
  subst hl
  rw [List.set_append_right _ _ (Nat.le_refl _), List.set_append_right _ _ (by omega)]
  simp
theorem sealedB_swap (b : List UInt8) (i : Nat) (h : i + 1 < b.length) (hs : i + 1 < (b ++ sumB b).length) :
    sealedB (((b ++ sumB b).set i (b ++ sumB b)[i + 1]).set (i + 1) (b ++ sumB b)[i]) = ((b ++ sumB b)[i] == (b ++ sumB b)[i + 1]) := by
  rw [List.getElem_append_left h, List.getElem_append_left (show i < b.length by omega), List.set_append_left _ _ (by omega), List.set_append_left _ _ (by simpa using h)]
  obtain ⟨e1, e2⟩ := swap_parts b i h
  have hl : ((b.set i b[i + 1]).set (i + 1) b[i]).length = b.length := by simp
  unfold sealedB
  rw [show (((b.set i b[i + 1]).set (i + 1) b[i]) ++ sumB b).length - 4 = b.length by rw [List.length_append, sumB_length, hl]; omega, List.drop_left' hl, List.take_left' hl]
  by_cases hxy : b[i] = b[i + 1]
  · rw [← hxy] at e2 ⊢
    rw [e2]
    rw [← hxy] at e1
    rw [← e1]
    simp
  · rw [show (b[i] == b[i + 1]) = false by simpa using hxy, beq_eq_false_iff_ne]
    intro h'
    have := (sumB_inj _ _ h').2
    rw [e2, congrArg hi e1] at this
    exact hi_swap _ _ _ _ hxy this.symm
end Go.Proofs.Ythlkcdlnjlncfaa
