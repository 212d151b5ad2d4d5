/-
  What is read is written so: lengths, fields, numbers, vectors against zero. Mathematics alone.
  Events: which are right, their bytes, and what is read of bytes. Mathematics alone.
  Events: their bytes, and what is read of bytes. Mathematics alone.
-/
import Derived.Test.YtkojoahamoffcaaSpMath
import Derived.Test.YtkojoahamoffcaaCodMath
namespace Go.Proofs.Ytkojoahamoffcaa
set_option maxRecDepth 100000

theorem u8_eq_ofNat (x : UInt8) {n : Nat} (h : x.toNat = n) : x = UInt8.ofNat n := by rw [← h]; exact (UInt8.ofNat_toNat).symm
theorem drop_take_cut (b : List UInt8) (i n : Nat) : b = b.take i ++ ((b.drop i).take n ++ b.drop (i + n)) := by
  rw [← List.drop_drop, List.take_append_drop, List.take_append_drop]
/-- A length that is read was written so. -/
theorem firstLen_canon (b : List UInt8) (h0 : b ≠ []) (h : (firstLen b).2.2 = 0) : b.take (firstLen b).2.1 = lenB (firstLen b).1 := by
  unfold firstLen at *
  match b, h0 with
  | x :: r, _ =>
    simp only [List.getD_cons_zero] at *
    have hx := x.toNat_lt
    by_cases h1 : x.toNat ≠ 255
    · rw [if_pos h1]
      simp only [List.take_succ_cons, List.take_zero]
      rw [lenB_small _ (by omega), UInt8.ofNat_toNat]
    · rw [if_neg h1] at h ⊢
      by_cases h2 : (x :: r).length < 3
      · rw [if_pos h2] at h; simp at h
      · rw [if_neg h2] at h ⊢
        match r, h2 with
        | y :: z :: t, _ =>
          simp only [List.getD_cons_succ, List.getD_cons_zero] at *
          have hy := y.toNat_lt
          have hz := z.toNat_lt
          by_cases h3 : y.toNat * 256 + z.toNat < 255
          · rw [if_pos h3] at h; simp at h
          · rw [if_neg h3]
            simp only [List.take_succ_cons, List.take_zero]
            rw [lenB_big _ h3]
            have e1 : (y.toNat * 256 + z.toNat) / 256 % 256 = y.toNat := by omega
            have e2 : (y.toNat * 256 + z.toNat) % 256 = z.toNat := by omega
            rw [e1, e2, UInt8.ofNat_toNat, UInt8.ofNat_toNat, u8_eq_ofNat x (n := 255) (by omega)]
            rfl
        | [], h2 => simp at h2
        | [_], h2 => simp at h2
/-- A field that is read was written so. -/
theorem firstF_canon (b : List UInt8) (h0 : b ≠ []) (h : (firstF b).2.2 = 0) : b = fieldB (firstF b).1 ++ (firstF b).2.1 ∧ (firstF b).1.length ≤ 65535 := by
  unfold firstF at *
  by_cases h1 : (firstLen b).2.2 ≠ 0
  · rw [if_pos h1] at h; exact absurd h h1
  · rw [if_neg h1] at h ⊢
    by_cases h2 : b.length < (firstLen b).2.1 + (firstLen b).1
    · rw [if_pos h2] at h; simp at h
    · rw [if_neg h2]
      have h3 : (firstLen b).2.2 = 0 := by omega
      have hs := firstLen_size b h0 h3
      have hc := firstLen_canon b h0 h3
      have hl : ((b.drop (firstLen b).2.1).take (firstLen b).1).length = (firstLen b).1 := by rw [List.length_take, List.length_drop]; omega
      refine ⟨?_, by show ((b.drop (firstLen b).2.1).take (firstLen b).1).length ≤ 65535; rw [hl]; exact hs.2.2⟩
      show b = (lenB ((b.drop (firstLen b).2.1).take (firstLen b).1).length ++ (b.drop (firstLen b).2.1).take (firstLen b).1) ++ b.drop ((firstLen b).2.1 + (firstLen b).1)
      rw [hl, ← hc, List.append_assoc]
      exact drop_take_cut b _ _
/-- Fields that are read were packed so. -/
theorem unpack_canon (most : Int) (n : Nat) : ∀ (b : List UInt8) (acc : List (List UInt8)), b.length ≤ n → (unpackV most acc (steps b)).2 = 0 →
    ∃ L, (unpackV most acc (steps b)).1 = acc ++ L ∧ b = packB L ∧ (∀ f ∈ L, f.length ≤ 65535) ∧ (L ≠ [] → ((acc.length + L.length : Nat) : Int) ≤ most) := by
  induction n with
  | zero =>
    intro b acc hb _
    have : b = [] := List.length_eq_zero_iff.1 (by omega)
    subst this
    rw [steps_nil]
    exact ⟨[], by rw [List.append_nil]; rfl, rfl, fun f hf => by simp at hf, fun h => absurd rfl h⟩
  | succ n ih =>
    intro b acc hb h
    by_cases h0 : b = []
    · subst h0
      rw [steps_nil]
      exact ⟨[], by rw [List.append_nil]; rfl, rfl, fun f hf => by simp at hf, fun h => absurd rfl h⟩
    · by_cases he : (firstF b).2.2 ≠ 0
      · rw [steps_err b h0 he, unpackV_cons, if_pos he] at h
        exact absurd h he
      · have he' : (firstF b).2.2 = 0 := by omega
        rw [steps_ok b h0 he', unpackV_cons, if_neg (by simp)] at h ⊢
        by_cases hm : most ≤ acc.length
        · rw [if_pos hm] at h; simp at h
        · rw [if_neg hm] at h ⊢
          have hr := firstF_rest b h0
          obtain ⟨hc, hl⟩ := firstF_canon b h0 he'
          obtain ⟨L, h1, h2, h3, h4⟩ := ih (firstF b).2.1 (acc ++ [(firstF b).1]) (by omega) h
          refine ⟨(firstF b).1 :: L, by rw [h1]; simp, ?_, ?_, ?_⟩
          · rw [packB_cons, ← h2]; exact hc
          · intro f hf
            rcases List.mem_cons.1 hf with rfl | hf
            · exact hl
            · exact h3 f hf
          · intro _
            by_cases hL : L = []
            · subst hL; simp; omega
            · have := h4 hL
              simp at this ⊢
              omega
/-- A number that is read was written so. -/
theorem asNumV_canon (f : List UInt8) (h : (asNumV f).2 = 0) : numB (asNumV f).1 = f ∧ (asNumV f).1 = asNum f ∧ f.length ≤ 8 := by
  unfold asNumV at *
  by_cases h8 : 8 < f.length
  · rw [if_pos h8] at h; simp at h
  · rw [if_neg h8] at h ⊢
    by_cases hz : f.head? = some 0
    · rw [if_pos hz] at h; simp at h
    · rw [if_neg hz]
      exact ⟨numB_asNum f (by omega) hz, rfl, by omega⟩

/-! ### Vectors against zero -/
theorem firstS_canon (l : List UInt8) (h : (firstS l).2.2 = 0) : (firstS l).1 ≠ 0 ∧ (firstS l).1 < 4294967296 ∧ l = entB (firstS l).1 ++ (firstS l).2.1 := by
  match l with
  | [] => cases h
  | c :: r =>
    unfold firstS at *
    simp only [] at *
    by_cases h1 : r.length < c.toNat
    · rw [if_pos h1] at h; simp at h
    · rw [if_neg h1] at h ⊢
      by_cases h2 : (asNumV (r.take c.toNat)).2 ≠ 0 ∨ (asNumV (r.take c.toNat)).1 = 0 ∨ 4294967295 < (asNumV (r.take c.toNat)).1
      · rw [if_pos h2] at h; simp at h
      · rw [if_neg h2]
        obtain ⟨h3, h4, h5⟩ := asNumV_canon (r.take c.toNat) (by omega)
        simp only []
        refine ⟨by omega, by omega, ?_⟩
        rw [entB_pos (by omega), h3]
        have hl : numLen (asNumV (r.take c.toNat)).1 = c.toNat := by
          rw [← numB_length, h3, List.length_take]; omega
        rw [hl, UInt8.ofNat_toNat, List.cons_append, List.take_append_drop]
/-- The differences of the first indices, whatever their signs. -/
def absB (D : Nat → Int) : Nat → List UInt8
  | 0 => []
  | k + 1 => absB D k ++ entB (D k).natAbs
theorem absB_congr {D E : Nat → Int} (k : Nat) (h : ∀ i, i < k → D i = E i) : absB D k = absB E k := by
  induction k with
  | zero => rfl
  | succ k ih => unfold absB; rw [ih fun i hi => h i (by omega), h k (by omega)]
theorem signN_cases (m s i : Nat) : signN m s i = 0 ∨ signN m s i = 1 ∨ signN m s i = -1 := by
  unfold signN
  split
  · exact .inr (.inl rfl)
  · split
    · exact .inr (.inr rfl)
    · exact .inl rfl
theorem stepsD_canon (m s : Nat) (l : List UInt8) (k : Nat) (h : (stepsD m s l k).2.2 = 0) :
    l = absB (stepsD m s l k).1 k ++ (stepsD m s l k).2.1 ∧ (∀ i, k ≤ i → (stepsD m s l k).1 i = 0) ∧ (∀ i, i < k → (signN m s i = 0 → (stepsD m s l k).1 i = 0) ∧ (signN m s i = 1 → 0 < (stepsD m s l k).1 i) ∧ (signN m s i = -1 → (stepsD m s l k).1 i < 0)) := by
  induction k with
  | zero => exact ⟨rfl, fun _ _ => rfl, fun i hi => by omega⟩
  | succ k ih =>
    by_cases hs : signN m s k = 0
    · rw [stepsD_skip hs] at h ⊢
      obtain ⟨h1, h2, h3⟩ := ih h
      refine ⟨?_, fun i hi => h2 i (by omega), fun i hi => ?_⟩
      · show l = (absB _ k ++ entB _) ++ _
        rw [h2 k (Nat.le_refl _), Int.natAbs_zero, entB_zero, List.append_nil]
        exact h1
      · by_cases e : i = k
        · subst e
          exact ⟨fun _ => h2 i (Nat.le_refl _), fun h => by omega, fun h => by omega⟩
        · exact h3 i (by omega)
    · have h0 : (stepsD m s l k).2.2 = 0 := by
        by_cases e : (stepsD m s l k).2.2 = 0
        · exact e
        · have := stepsD_err e 1
          rw [this] at h
          exact absurd h e
      rw [stepsD_go h0 hs] at h ⊢
      simp only [] at h ⊢
      obtain ⟨h1, h2, h3⟩ := ih h0
      obtain ⟨f1, f2, f3⟩ := firstS_canon _ h
      generalize stepsD m s l k = T at *
      obtain ⟨D, r, q⟩ := T
      simp only [] at *
      obtain ⟨n, hn⟩ : ∃ n : Nat, n = (firstS r).1 := ⟨_, rfl⟩
      rw [← hn] at f1 f2 f3 ⊢
      have hk : updD D k (signN m s k * (n : Int)) k = signN m s k * (n : Int) := if_pos rfl
      have hi' : ∀ i, i ≠ k → updD D k (signN m s k * (n : Int)) i = D i := fun i h => if_neg h
      have hab : (signN m s k * (n : Int)).natAbs = n := by
        rcases signN_cases m s k with e | e | e
        · exact absurd e hs
        · rw [e]; omega
        · rw [e]; omega
      refine ⟨?_, fun i hi => ?_, fun i hi => ?_⟩
      · show l = (absB _ k ++ entB _) ++ _
        rw [hk, hab, absB_congr (E := D) k fun i hi => hi' i (by omega), List.append_assoc, ← f3]
        exact h1
      · rw [hi' i (by omega)]; exact h2 i (by omega)
      · by_cases e : i = k
        · subst e
          rw [hk]
          exact ⟨fun h => absurd h hs, fun h => by rw [h]; omega, fun h => by rw [h]; omega⟩
        · rw [hi' i e]; exact h3 i (by omega)
theorem moreN_of_bits (A B : Nat → Nat) : ∀ (k m : Nat), m < 2 ^ k → (∀ i, i < k → (bitN m i = true ↔ B i < A i)) → moreN A B k = m := by
  intro k
  induction k with
  | zero => intro m hm _; simp at hm; subst hm; rfl
  | succ k ih =>
    intro m hm h
    have hp : 0 < 2 ^ k := Nat.pow_pos (by omega)
    have hsp : 2 ^ (k + 1) = 2 ^ k * 2 := Nat.pow_succ ..
    have hq : m / 2 ^ k < 2 := by rw [Nat.div_lt_iff_lt_mul hp]; omega
    have hmod : moreN A B k = m % 2 ^ k := by
      refine ih (m % 2 ^ k) (Nat.mod_lt _ hp) fun i hi => ?_
      rw [← h i (by omega)]
      unfold bitN
      have : m % 2 ^ k / 2 ^ i % 2 = m / 2 ^ i % 2 := by
        obtain ⟨d, rfl⟩ : ∃ d, k = i + (d + 1) := ⟨k - i - 1, by omega⟩
        have h2 : 2 ^ (i + (d + 1)) = 2 ^ i * (2 * 2 ^ d) := by rw [Nat.pow_add, Nat.pow_succ, Nat.mul_comm (2 ^ d) 2]
        rw [h2, Nat.mod_mul_right_div_self, Nat.mod_mul_right_mod]
      rw [this]
    show moreN A B k + (if B k < A k then 2 ^ k else 0) = m
    rw [hmod]
    have hk := h k (by omega)
    have hdm := Nat.div_add_mod m (2 ^ k)
    by_cases hb : B k < A k
    · rw [if_pos hb]
      have := hk.2 hb
      unfold bitN at this
      rw [decide_eq_true_iff] at this
      have h1 : m / 2 ^ k = 1 := by
        generalize m / 2 ^ k = d at this hq ⊢
        omega
      rw [h1] at hdm
      omega
    · rw [if_neg hb]
      have : ¬ bitN m k = true := fun h => hb (hk.1 h)
      unfold bitN at this
      rw [decide_eq_true_iff] at this
      have h1 : m / 2 ^ k = 0 := by
        generalize m / 2 ^ k = d at this hq ⊢
        omega
      rw [h1] at hdm
      omega
theorem bodyB_abs (V : Nat → Nat) (D : Nat → Int) (k : Nat) (h : ∀ i, i < k → D i = (V i : Int)) : bodyB V zeroV k = absB D k := by
  induction k with
  | zero => rfl
  | succ k ih =>
    unfold bodyB absB
    rw [ih fun i hi => h i (by omega), h k (by omega)]
    congr 2
    show (V k - 0) + (0 - V k) = _
    omega
/-- A vector against zero that is read was written so. -/
theorem grow_canon (f : List UInt8) (h : (growV f zeroV).2 = 0) : spanB (growV f zeroV).1 zeroV = f := by
  unfold growV at *
  by_cases h1 : (readD f).2 ≠ 0
  · rw [if_pos h1] at h; exact absurd h h1
  · rw [if_neg h1] at h ⊢
    by_cases h2 : farN (readD f).1 zeroV 8 = true
    · rw [if_pos h2] at h; simp at h
    · rw [if_neg h2]
      have h2' : farN (readD f).1 zeroV 8 = false := by simpa using h2
      rw [farN_false] at h2'
      match f with
      | [] => exact absurd (show (8 : Nat) ≠ 0 by decide) h1
      | [_] => exact absurd (show (8 : Nat) ≠ 0 by decide) h1
      | m :: s :: r =>
        unfold readD at h1 h2' ⊢
        simp only [] at h1 h2' ⊢
        have hcan := stepsD_canon m.toNat s.toNat r 8
        generalize stepsD m.toNat s.toNat r 8 = T at h1 h2' hcan ⊢
        obtain ⟨D, t, q⟩ := T
        simp only [] at h1 h2' hcan ⊢
        by_cases hb : bothN m.toNat s.toNat = true
        · rw [if_pos hb] at h1; simp at h1
        · rw [if_neg hb] at h1 h2' ⊢
          by_cases he : q ≠ 0
          · rw [if_pos he] at h1; exact absurd he h1
          · rw [if_neg he] at h1 h2' ⊢
            by_cases hr : t ≠ []
            · rw [if_pos hr] at h1; simp at h1
            · rw [if_neg hr] at h1 h2' ⊢
              simp only [] at h2' ⊢
              obtain ⟨c1, _, c3⟩ := hcan (by omega)
              have hr' : t = [] := by
                by_cases e : t = []
                · exact e
                · exact absurd e hr
              rw [hr', List.append_nil] at c1
              have hV : ∀ i, i < 8 → addV D zeroV i = (D i).toNat := fun i hi => by unfold addV zeroV; simp
              have h0 : ∀ i, i < 8 → 0 ≤ D i := fun i hi => by have := (h2' i hi).1; unfold zeroV at this; simpa using this
              have hm : moreN (addV D zeroV) zeroV 8 = m.toNat := by
                refine moreN_of_bits _ _ 8 _ m.toNat_lt fun i hi => ?_
                rw [hV i hi]
                have h0' := h0 i hi
                have hc := c3 i hi
                constructor
                · intro hbit
                  have : signN m.toNat s.toNat i = 1 := if_pos hbit
                  have := hc.2.1 this
                  show 0 < _
                  omega
                · intro hlt
                  have hlt' : 0 < (D i).toNat := hlt
                  by_cases hbit : bitN m.toNat i = true
                  · exact hbit
                  · exfalso
                    by_cases hbs : bitN s.toNat i = true
                    · have : signN m.toNat s.toNat i = -1 := by unfold signN; rw [if_neg hbit, if_pos hbs]
                      have := hc.2.2 this
                      omega
                    · have : signN m.toNat s.toNat i = 0 := by unfold signN; rw [if_neg hbit, if_neg hbs]
                      have := hc.1 this
                      omega
              have hs : moreN zeroV (addV D zeroV) 8 = s.toNat := by
                refine moreN_of_bits _ _ 8 _ s.toNat_lt fun i hi => ?_
                constructor
                · intro hbit
                  exfalso
                  have hnb : ¬ bitN m.toNat i = true := by
                    intro hbm
                    apply hb
                    unfold bothN
                    rw [List.any_eq_true]
                    exact ⟨i, by simpa using hi, by rw [hbm, hbit]; rfl⟩
                  have : signN m.toNat s.toNat i = -1 := by unfold signN; rw [if_neg hnb, if_pos hbit]
                  have := (c3 i hi).2.2 this
                  have := h0 i hi
                  omega
                · intro hlt
                  have : addV D zeroV i < 0 := hlt
                  omega
              unfold spanB
              rw [hm, hs, UInt8.ofNat_toNat, UInt8.ofNat_toNat, bodyB_abs _ D 8 (fun i hi => by rw [hV i hi]; have := h0 i hi; omega), ← c1]
end Go.Proofs.Ytkojoahamoffcaa

namespace Go.Proofs.Ytkojoahamoffcaa
set_option maxRecDepth 100000

/-- An event. -/
structure Ev where
  rep : Int
  seq : Nat
  dep : Nat → Nat
  kind : Int
  orep : Int
  oseq : Nat
  drep : Int
  dseq : Nat
  name : List UInt8
  gone : List (Int × Nat)
  base : List (Int × Nat)
  off : Int
  data : List UInt8
  ward : Int
def zeroE : Ev := ⟨0, 0, zeroV, 0, 0, 0, 0, 0, [], [], [], 0, [], 0⟩

/-! ### Names -/
def letterN (c : Nat) : Bool := (decide (97 ≤ c) && decide (c ≤ 122)) || (decide (65 ≤ c) && decide (c ≤ 90)) || (decide (48 ≤ c) && decide (c ≤ 57)) || decide (c = 46) || decide (c = 95) || decide (c = 45)
def nameB (s : List UInt8) : Bool := !s.isEmpty && decide (s.length ≤ 12) && !(s == [46]) && !(s == [46, 46]) && s.all fun c => letterN c.toNat

/-! ### Which events are right -/
def zeroI (r : Int) (s : Nat) : Bool := decide (r = 0) && decide (s = 0)
def atI (l : List (Int × Nat)) (i : Nat) : Int × Nat := l.getD i (0, 0)
def riseAt (V : Nat → Nat) (l : List (Int × Nat)) (i : Nat) : Bool := hasV V (atI l i).1 (atI l i).2 && (decide (i = 0) || lessV (atI l (i - 1)).1 (atI l (i - 1)).2 (atI l i).1 (atI l i).2)
def riseB (V : Nat → Nat) (l : List (Int × Nat)) : Bool := (List.range l.length).all fun i => riseAt V l i
theorem riseB_iff {V : Nat → Nat} {l : List (Int × Nat)} : riseB V l = true ↔ ∀ i, i < l.length → riseAt V l i = true := by unfold riseB; simp [List.all_eq_true]
theorem riseB_not {V : Nat → Nat} {l : List (Int × Nat)} {k : Nat} (hk : k < l.length) (h : riseAt V l k = false) : riseB V l = false := by
  cases e : riseB V l
  · rfl
  · rw [riseB_iff.1 e k hk] at h; cases h
def depB (V : Nat → Nat) : Bool := (List.range 8).all fun i => decide (V i ≤ 1048576)
theorem depB_iff {V : Nat → Nat} : depB V = true ↔ ∀ i, i < 8 → V i ≤ 1048576 := by unfold depB; simp [List.all_eq_true]
theorem depB_not {V : Nat → Nat} {k : Nat} (hk : k < 8) (h : 1048576 < V k) : depB V = false := by
  cases e : depB V
  · rfl
  · have := depB_iff.1 e k hk; omega
def headB (e : Ev) : Bool := repV e.rep && decide (getV e.dep e.rep + 1 = e.seq ∧ e.seq ≤ 1048576) && depB e.dep
def dirB (e : Ev) : Bool := zeroI e.drep e.dseq || hasV e.dep e.drep e.dseq
def placeB (e : Ev) : Bool := dirB e && nameB e.name
def offB (e : Ev) : Bool := decide (0 ≤ e.off) && decide (e.off ≤ 200)
def inFileB (off size : Int) : Bool := decide (0 ≤ off) && decide (off ≤ 200) && decide (size ≤ 200 - off)
def madeB (e : Ev) (obj dir gone base off data ward : Bool) : Bool :=
  (obj || zeroI e.orep e.oseq) && (dir || zeroI e.drep e.dseq && e.name.isEmpty) && (gone || e.gone.isEmpty) && (base || e.base.isEmpty) && (off || decide (e.off = 0)) && (data || e.data.isEmpty) && (ward || decide (e.ward = 0))
def listB (l : List (Int × Nat)) (least most : Nat) (V : Nat → Nat) : Bool := decide (least ≤ l.length) && decide (l.length ≤ most) && riseB V l
/-- The fields that its kind has. -/
def fieldsB (e : Ev) : Bool :=
  if e.kind = 1 ∨ e.kind = 2 then placeB e
  else if e.kind = 3 then hasV e.dep e.orep e.oseq && listB e.base 0 1 e.dep && !e.data.isEmpty && inFileB e.off e.data.length
  else if e.kind = 4 then hasV e.dep e.orep e.oseq && listB e.base 0 1 e.dep && inFileB e.off 0
  else if e.kind = 5 then hasV e.dep e.orep e.oseq && listB e.base 2 8 e.dep && inFileB 0 e.data.length
  else if e.kind = 6 then hasV e.dep e.orep e.oseq && listB e.gone 0 8 e.dep
  else if e.kind = 7 then hasV e.dep e.orep e.oseq && listB e.gone 0 8 e.dep && placeB e
  else if e.kind = 8 then decide (1 ≤ e.ward) && decide (e.ward ≤ 4)
  else decide (e.kind = 9)
/-- An event without the fields that its kind doesn't have. -/
def ownE (e : Ev) : Ev :=
  let o : Ev := { zeroE with rep := e.rep, seq := e.seq, dep := e.dep, kind := e.kind }
  if e.kind = 1 ∨ e.kind = 2 then { o with drep := e.drep, dseq := e.dseq, name := e.name }
  else if e.kind = 3 then { o with orep := e.orep, oseq := e.oseq, base := e.base, off := e.off, data := e.data }
  else if e.kind = 4 then { o with orep := e.orep, oseq := e.oseq, base := e.base, off := e.off }
  else if e.kind = 5 then { o with orep := e.orep, oseq := e.oseq, base := e.base, data := e.data }
  else if e.kind = 6 then { o with orep := e.orep, oseq := e.oseq, gone := e.gone }
  else if e.kind = 7 then { o with orep := e.orep, oseq := e.oseq, gone := e.gone, drep := e.drep, dseq := e.dseq, name := e.name }
  else if e.kind = 8 then { o with ward := e.ward }
  else o
def sameI (r : Int) (s : Nat) (r' : Int) (s' : Nat) : Bool := decide (r = r') && decide (s = s')
def sameL (l m : List (Int × Nat)) : Bool := l == m
def sameE (a b : Ev) : Bool :=
  sameI a.rep a.seq b.rep b.seq && eqV a.dep b.dep && decide (a.kind = b.kind) && sameI a.orep a.oseq b.orep b.oseq && sameI a.drep a.dseq b.drep b.dseq && (a.name == b.name) && sameL a.gone b.gone && sameL a.base b.base && decide (a.off = b.off) && (a.data == b.data) && decide (a.ward = b.ward)
def checkB (e : Ev) : Bool := headB e && fieldsB e && sameE e (ownE e)
theorem eqV_self (A : Nat → Nat) : eqV A A = true := eqV_iff.2 fun _ _ => rfl
theorem sameI_self (r : Int) (s : Nat) : sameI r s r s = true := by unfold sameI; simp
theorem sameI_zero (r : Int) (s : Nat) : sameI r s 0 0 = zeroI r s := rfl
theorem sameL_self (l : List (Int × Nat)) : sameL l l = true := by unfold sameL; simp
theorem sameL_nil (l : List (Int × Nat)) : sameL l [] = l.isEmpty := by cases l <;> rfl
theorem str_nil (l : List UInt8) : (l == []) = l.isEmpty := by cases l <;> rfl
/-- What the document tells of a kind. -/
def kindB (e : Ev) : Bool :=
  if e.kind = 1 ∨ e.kind = 2 then dirB e && nameB e.name && madeB e false true false false false false false
  else if e.kind = 3 then hasV e.dep e.orep e.oseq && riseB e.dep e.base && decide (e.base.length ≤ 1) && offB e && !e.data.isEmpty && decide ((e.data.length : Int) ≤ 200 - e.off) && madeB e true false false true true true false
  else if e.kind = 4 then hasV e.dep e.orep e.oseq && riseB e.dep e.base && decide (e.base.length ≤ 1) && offB e && madeB e true false false true true false false
  else if e.kind = 5 then hasV e.dep e.orep e.oseq && riseB e.dep e.base && decide (2 ≤ e.base.length) && decide (e.base.length ≤ 8) && decide (e.data.length ≤ 200) && madeB e true false false true false true false
  else if e.kind = 6 then hasV e.dep e.orep e.oseq && (decide (e.gone.length ≤ 8) && riseB e.dep e.gone) && madeB e true false true false false false false
  else if e.kind = 7 then hasV e.dep e.orep e.oseq && (decide (e.gone.length ≤ 8) && riseB e.dep e.gone) && dirB e && nameB e.name && madeB e true true true false false false false
  else if e.kind = 8 then decide (1 ≤ e.ward) && decide (e.ward ≤ 4) && madeB e false false false false false false true
  else if e.kind = 9 then madeB e false false false false false false false
  else false
theorem own_same (e : Ev) (obj dir gone base off data ward : Bool) (o : Ev) (h : o = ⟨e.rep, e.seq, e.dep, e.kind, if obj then e.orep else 0, if obj then e.oseq else 0, if dir then e.drep else 0, if dir then e.dseq else 0, if dir then e.name else [], if gone then e.gone else [], if base then e.base else [], if off then e.off else 0, if data then e.data else [], if ward then e.ward else 0⟩) :
    sameE e o = madeB e obj dir gone base off data ward := by
  subst h
  unfold sameE madeB
  simp only [sameI_self, eqV_self, decide_true, Bool.true_and]
  generalize hd : (sameI e.drep e.dseq (if dir = true then e.drep else 0) (if dir = true then e.dseq else 0)) = x1
  cases obj <;> cases dir <;> cases gone <;> cases base <;> cases off <;> cases data <;> cases ward <;>
    simp [sameI_self, sameI_zero, sameL_self, sameL_nil, ← hd, Bool.and_assoc]
theorem and_congr3 {a b c d : Bool} (h : a = b) (h' : c = d) : (a && c) = (b && d) := by rw [h, h']
theorem check_kind (e : Ev) : (fieldsB e && sameE e (ownE e)) = kindB e := by
  unfold kindB
  have hk := e.kind
  by_cases h1 : e.kind = 1 ∨ e.kind = 2
  · rw [if_pos h1, own_same e false true false false false false false (ownE e) (by unfold ownE; rw [if_pos h1]; rfl)]
    unfold fieldsB placeB
    rw [if_pos h1]
  · rw [if_neg h1]
    by_cases h3 : e.kind = 3
    · rw [if_pos h3, own_same e true false false true true true false (ownE e) (by unfold ownE; rw [if_neg h1, if_pos h3]; rfl)]
      unfold fieldsB listB inFileB offB
      rw [if_neg h1, if_pos h3]
      refine and_congr3 ?_ rfl
      rw [Bool.eq_iff_iff]
      simp only [Bool.and_eq_true, decide_eq_true_iff]
      grind
    · rw [if_neg h3]
      by_cases h4 : e.kind = 4
      · rw [if_pos h4, own_same e true false false true true false false (ownE e) (by unfold ownE; rw [if_neg h1, if_neg h3, if_pos h4]; rfl)]
        unfold fieldsB listB inFileB offB
        rw [if_neg h1, if_neg h3, if_pos h4]
        refine and_congr3 ?_ rfl
        rw [Bool.eq_iff_iff]
        simp only [Bool.and_eq_true, decide_eq_true_iff]
        grind
      · rw [if_neg h4]
        by_cases h5 : e.kind = 5
        · rw [if_pos h5, own_same e true false false true false true false (ownE e) (by unfold ownE; rw [if_neg h1, if_neg h3, if_neg h4, if_pos h5]; rfl)]
          unfold fieldsB listB inFileB
          rw [if_neg h1, if_neg h3, if_neg h4, if_pos h5]
          refine and_congr3 ?_ rfl
          rw [Bool.eq_iff_iff]
          simp only [Bool.and_eq_true, decide_eq_true_iff]
          grind
        · rw [if_neg h5]
          by_cases h6 : e.kind = 6
          · rw [if_pos h6, own_same e true false true false false false false (ownE e) (by unfold ownE; rw [if_neg h1, if_neg h3, if_neg h4, if_neg h5, if_pos h6]; rfl)]
            unfold fieldsB listB
            rw [if_neg h1, if_neg h3, if_neg h4, if_neg h5, if_pos h6]
            refine and_congr3 ?_ rfl
            rw [Bool.eq_iff_iff]
            simp
          · rw [if_neg h6]
            by_cases h7 : e.kind = 7
            · rw [if_pos h7, own_same e true true true false false false false (ownE e) (by unfold ownE; rw [if_neg h1, if_neg h3, if_neg h4, if_neg h5, if_neg h6, if_pos h7]; rfl)]
              unfold fieldsB listB placeB
              rw [if_neg h1, if_neg h3, if_neg h4, if_neg h5, if_neg h6, if_pos h7]
              refine and_congr3 ?_ rfl
              rw [Bool.eq_iff_iff]
              simp
              constructor <;> intro h <;> simp [h]
            · rw [if_neg h7]
              by_cases h8 : e.kind = 8
              · rw [if_pos h8, own_same e false false false false false false true (ownE e) (by unfold ownE; rw [if_neg h1, if_neg h3, if_neg h4, if_neg h5, if_neg h6, if_neg h7, if_pos h8]; rfl)]
                unfold fieldsB
                rw [if_neg h1, if_neg h3, if_neg h4, if_neg h5, if_neg h6, if_neg h7, if_pos h8]
              · rw [if_neg h8, own_same e false false false false false false false (ownE e) (by unfold ownE; rw [if_neg h1, if_neg h3, if_neg h4, if_neg h5, if_neg h6, if_neg h7, if_neg h8]; rfl)]
                unfold fieldsB
                rw [if_neg h1, if_neg h3, if_neg h4, if_neg h5, if_neg h6, if_neg h7, if_neg h8]
                by_cases h9 : e.kind = 9
                · rw [if_pos h9]; simp [h9]
                · rw [if_neg h9]; simp [h9]
theorem check_eq (e : Ev) : checkB e = (headB e && kindB e) := by
  rw [← check_kind]
  unfold checkB
  rw [Bool.and_assoc]
theorem sameE_iff {a b : Ev} : sameE a b = true ↔ a.rep = b.rep ∧ a.seq = b.seq ∧ (∀ i, i < 8 → a.dep i = b.dep i) ∧ a.kind = b.kind ∧ a.orep = b.orep ∧ a.oseq = b.oseq ∧ a.drep = b.drep ∧ a.dseq = b.dseq ∧ a.name = b.name ∧ a.gone = b.gone ∧ a.base = b.base ∧ a.off = b.off ∧ a.data = b.data ∧ a.ward = b.ward := by
  unfold sameE sameI sameL
  simp only [Bool.and_eq_true, decide_eq_true_iff, eqV_iff, beq_iff_eq]
  constructor
  · rintro ⟨⟨⟨⟨⟨⟨⟨⟨⟨⟨⟨h1, h2⟩, h3⟩, h4⟩, ⟨h5, h6⟩⟩, ⟨h7, h8⟩⟩, h9⟩, h10⟩, h11⟩, h12⟩, h13⟩, h14⟩
    exact ⟨h1, h2, h3, h4, h5, h6, h7, h8, h9, h10, h11, h12, h13, h14⟩
  · rintro ⟨h1, h2, h3, h4, h5, h6, h7, h8, h9, h10, h11, h12, h13, h14⟩
    exact ⟨⟨⟨⟨⟨⟨⟨⟨⟨⟨⟨h1, h2⟩, h3⟩, h4⟩, ⟨h5, h6⟩⟩, ⟨h7, h8⟩⟩, h9⟩, h10⟩, h11⟩, h12⟩, h13⟩, h14⟩
theorem sameE_self (a : Ev) : sameE a a = true := sameE_iff.2 ⟨rfl, rfl, fun _ _ => rfl, rfl, rfl, rfl, rfl, rfl, rfl, rfl, rfl, rfl, rfl, rfl⟩
theorem sameE_comm {a b : Ev} (h : sameE a b = true) : sameE b a = true := by
  obtain ⟨h1, h2, h3, h4, h5, h6, h7, h8, h9, h10, h11, h12, h13, h14⟩ := sameE_iff.1 h
  exact sameE_iff.2 ⟨h1.symm, h2.symm, fun i hi => (h3 i hi).symm, h4.symm, h5.symm, h6.symm, h7.symm, h8.symm, h9.symm, h10.symm, h11.symm, h12.symm, h13.symm, h14.symm⟩
theorem sameE_trans {a b c : Ev} (h : sameE a b = true) (h' : sameE b c = true) : sameE a c = true := by
  obtain ⟨h1, h2, h3, h4, h5, h6, h7, h8, h9, h10, h11, h12, h13, h14⟩ := sameE_iff.1 h
  obtain ⟨k1, k2, k3, k4, k5, k6, k7, k8, k9, k10, k11, k12, k13, k14⟩ := sameE_iff.1 h'
  exact sameE_iff.2 ⟨h1.trans k1, h2.trans k2, fun i hi => (h3 i hi).trans (k3 i hi), h4.trans k4, h5.trans k5, h6.trans k6, h7.trans k7, h8.trans k8, h9.trans k9, h10.trans k10, h11.trans k11, h12.trans k12, h13.trans k13, h14.trans k14⟩
theorem getV_congr {A B : Nat → Nat} (h : ∀ i, i < 8 → A i = B i) (r : Int) : getV A r = getV B r := by
  unfold getV
  by_cases hr : repV r = true
  · rw [if_pos hr, if_pos hr]
    have := repV_iff.1 hr
    exact h _ (by omega)
  · rw [if_neg hr, if_neg hr]
theorem hasV_congr {A B : Nat → Nat} (h : ∀ i, i < 8 → A i = B i) (r : Int) (s : Nat) : hasV A r s = hasV B r s := by unfold hasV; rw [getV_congr h]
theorem riseB_congr {A B : Nat → Nat} (h : ∀ i, i < 8 → A i = B i) (l : List (Int × Nat)) : riseB A l = riseB B l := by
  unfold riseB
  congr 1
  funext i
  unfold riseAt
  rw [hasV_congr h]
theorem depB_congr {A B : Nat → Nat} (h : ∀ i, i < 8 → A i = B i) : depB A = depB B := by
  rw [Bool.eq_iff_iff, depB_iff, depB_iff]
  exact ⟨fun k i hi => by rw [← h i hi]; exact k i hi, fun k i hi => by rw [h i hi]; exact k i hi⟩
theorem check_congr {a b : Ev} (h : sameE a b = true) (hb : checkB b = true) : checkB a = true := by
  obtain ⟨h1, h2, h3, h4, h5, h6, h7, h8, h9, h10, h11, h12, h13, h14⟩ := sameE_iff.1 h
  rw [check_eq] at hb ⊢
  unfold headB kindB madeB dirB offB at *
  rw [h1, h2, h4, h5, h6, h7, h8, h9, h10, h11, h12, h13, h14, getV_congr h3, hasV_congr h3, hasV_congr h3, riseB_congr h3, riseB_congr h3, depB_congr h3]
  exact hb
end Go.Proofs.Ytkojoahamoffcaa

namespace Go.Proofs.Ytkojoahamoffcaa
set_option maxRecDepth 100000

/-! ### Writing -/
def idB (r : Int) (s : Nat) : List UInt8 := if zeroI r s = true then [] else UInt8.ofNat (r % 256).toNat :: numB s
def idsF (l : List (Int × Nat)) : List (List UInt8) := l.map fun p => idB p.1 p.2
def idsB (l : List (Int × Nat)) : List UInt8 := packB (idsF l)
def evF (e : Ev) : List (List UInt8) := [numB e.rep.toNat, numB e.seq, spanB e.dep zeroV, numB e.kind.toNat, idB e.orep e.oseq, idB e.drep e.dseq, e.name, idsB e.gone, idsB e.base, numB e.off.toNat, e.data, numB e.ward.toNat]
def evB (e : Ev) : List UInt8 := packB (evF e)

/-! ### Reading -/
def rdNum (f : List UInt8) : Nat × Bool := if (asNumV f).2 = 0 ∧ (asNumV f).1 ≤ 1048576 then ((asNumV f).1, true) else (0, false)
def rdID (f : List UInt8) : (Int × Nat) × Bool :=
  match f with
  | [] => ((0, 0), true)
  | c :: r => if (rdNum r).2 = true ∧ ¬ (c.toNat = 0 ∧ (rdNum r).1 = 0) then (((c.toNat : Int), (rdNum r).1), true) else ((0, 0), false)
def idsOf (L : List (List UInt8)) : List (Int × Nat) := L.map fun f => (rdID f).1
def idsOk (L : List (List UInt8)) : Bool := L.all fun f => (rdID f).2
def rdIDs (f : List UInt8) (most : Int) : List (Int × Nat) × Nat :=
  if (unpackV most [] (steps f)).2 ≠ 0 then ([], (unpackV most [] (steps f)).2) else if idsOk (unpackV most [] (steps f)).1 = true then (idsOf (unpackV most [] (steps f)).1, 0) else ([], 7)
def fld (F : List (List UInt8)) (i : Nat) : List UInt8 := F.getD i []
def rdEv (F : List (List UInt8)) : Ev where
  rep := (rdNum (fld F 0)).1
  seq := (rdNum (fld F 1)).1
  dep := (growV (fld F 2) zeroV).1
  kind := (rdNum (fld F 3)).1
  orep := (rdID (fld F 4)).1.1
  oseq := (rdID (fld F 4)).1.2
  drep := (rdID (fld F 5)).1.1
  dseq := (rdID (fld F 5)).1.2
  name := fld F 6
  gone := (rdIDs (fld F 7) 8).1
  base := (rdIDs (fld F 8) 8).1
  off := (rdNum (fld F 9)).1
  data := fld F 10
  ward := (rdNum (fld F 11)).1
def rdOk (F : List (List UInt8)) : Bool :=
  (rdNum (fld F 0)).2 && (rdNum (fld F 1)).2 && decide ((growV (fld F 2) zeroV).2 = 0) && (rdNum (fld F 3)).2 && (rdID (fld F 4)).2 && (rdID (fld F 5)).2 && decide ((rdIDs (fld F 7) 8).2 = 0) && decide ((rdIDs (fld F 8) 8).2 = 0) && (rdNum (fld F 9)).2 && (rdNum (fld F 11)).2
def readE (s : List UInt8) : Ev × Nat :=
  if (unpackV 12 [] (steps s)).2 ≠ 0 then (zeroE, (unpackV 12 [] (steps s)).2)
  else if (unpackV 12 [] (steps s)).1.length < 12 then (zeroE, 8)
  else if (rdOk (unpackV 12 [] (steps s)).1 && checkB (rdEv (unpackV 12 [] (steps s)).1)) = true then (rdEv (unpackV 12 [] (steps s)).1, 0) else (zeroE, 7)

/-! ### What is read was written so -/
theorem rdNum_canon {f : List UInt8} (h : (rdNum f).2 = true) : numB (rdNum f).1 = f ∧ (rdNum f).1 ≤ 1048576 := by
  unfold rdNum at *
  split at h
  · rename_i h1
    rw [if_pos h1]
    exact ⟨(asNumV_canon f h1.1).1, h1.2⟩
  · cases h
theorem rdID_canon {f : List UInt8} (h : (rdID f).2 = true) : idB (rdID f).1.1 (rdID f).1.2 = f := by
  match f with
  | [] => rfl
  | c :: r =>
    unfold rdID at *
    simp only [] at *
    split at h
    · rename_i h1
      rw [if_pos h1]
      have hc := c.toNat_lt
      unfold idB zeroI
      rw [if_neg (by simp only [Bool.and_eq_true, decide_eq_true_iff]; omega), (rdNum_canon h1.1).1]
      show UInt8.ofNat ((c.toNat : Int) % 256).toNat :: r = c :: r
      rw [show ((c.toNat : Int) % 256).toNat = c.toNat by omega, UInt8.ofNat_toNat]
    · cases h
theorem idsF_of {L : List (List UInt8)} (h : idsOk L = true) : idsF (idsOf L) = L := by
  unfold idsOk at h
  rw [List.all_eq_true] at h
  unfold idsF idsOf
  rw [List.map_map]
  conv => rhs; rw [← List.map_id L]
  exact List.map_congr_left fun f hf => rdID_canon (h f hf)
theorem rdIDs_canon {f : List UInt8} {most : Int} (h : (rdIDs f most).2 = 0) : idsB (rdIDs f most).1 = f := by
  unfold rdIDs at *
  by_cases h1 : (unpackV most [] (steps f)).2 ≠ 0
  · rw [if_pos h1] at h; exact absurd h h1
  · rw [if_neg h1] at h ⊢
    by_cases h2 : idsOk (unpackV most [] (steps f)).1 = true
    · rw [if_pos h2]
      obtain ⟨L, e1, e2, _⟩ := unpack_canon most f.length f [] (Nat.le_refl _) (by omega)
      rw [List.nil_append] at e1
      rw [e1] at h2 ⊢
      show packB (idsF (idsOf L)) = f
      rw [idsF_of h2, ← e2]
    · rw [if_neg h2] at h; simp at h
theorem rdOk_iff {F : List (List UInt8)} : rdOk F = true ↔ (rdNum (fld F 0)).2 = true ∧ (rdNum (fld F 1)).2 = true ∧ (growV (fld F 2) zeroV).2 = 0 ∧ (rdNum (fld F 3)).2 = true ∧ (rdID (fld F 4)).2 = true ∧ (rdID (fld F 5)).2 = true ∧ (rdIDs (fld F 7) 8).2 = 0 ∧ (rdIDs (fld F 8) 8).2 = 0 ∧ (rdNum (fld F 9)).2 = true ∧ (rdNum (fld F 11)).2 = true := by
  unfold rdOk
  simp only [Bool.and_eq_true, decide_eq_true_iff]
  constructor
  · rintro ⟨⟨⟨⟨⟨⟨⟨⟨⟨h1, h2⟩, h3⟩, h4⟩, h5⟩, h6⟩, h7⟩, h8⟩, h9⟩, h10⟩
    exact ⟨h1, h2, h3, h4, h5, h6, h7, h8, h9, h10⟩
  · rintro ⟨h1, h2, h3, h4, h5, h6, h7, h8, h9, h10⟩
    exact ⟨⟨⟨⟨⟨⟨⟨⟨⟨h1, h2⟩, h3⟩, h4⟩, h5⟩, h6⟩, h7⟩, h8⟩, h9⟩, h10⟩
theorem list12 {F : List (List UInt8)} (h : F.length = 12) : F = [fld F 0, fld F 1, fld F 2, fld F 3, fld F 4, fld F 5, fld F 6, fld F 7, fld F 8, fld F 9, fld F 10, fld F 11] := by
  match F, h with
  | [_, _, _, _, _, _, _, _, _, _, _, _], _ => rfl
/-- What is read is right, and was written so. -/
theorem read_canon {s : List UInt8} (h : (readE s).2 = 0) : checkB (readE s).1 = true ∧ evB (readE s).1 = s := by
  unfold readE at *
  by_cases h1 : (unpackV 12 [] (steps s)).2 ≠ 0
  · rw [if_pos h1] at h; exact absurd h h1
  · rw [if_neg h1] at h ⊢
    by_cases h2 : (unpackV 12 [] (steps s)).1.length < 12
    · rw [if_pos h2] at h; simp at h
    · rw [if_neg h2] at h ⊢
      by_cases h3 : (rdOk (unpackV 12 [] (steps s)).1 && checkB (rdEv (unpackV 12 [] (steps s)).1)) = true
      · rw [if_pos h3]
        obtain ⟨L, e1, e2, _, e4⟩ := unpack_canon 12 s.length s [] (Nat.le_refl _) (by omega)
        rw [List.nil_append] at e1
        rw [e1] at h2 h3 ⊢
        rw [Bool.and_eq_true] at h3
        obtain ⟨k1, k2, k3, k4, k5, k6, k7, k8, k9, k10⟩ := rdOk_iff.1 h3.1
        refine ⟨h3.2, ?_⟩
        have hL : L.length = 12 := by
          have := e4 (by rintro rfl; simp at h2)
          simp at this
          omega
        show packB (evF (rdEv L)) = s
        have hF : evF (rdEv L) = L := by
          conv => rhs; rw [list12 hL]
          unfold evF rdEv
          simp only [Int.toNat_natCast]
          rw [(rdNum_canon k1).1, (rdNum_canon k2).1, grow_canon _ k3, (rdNum_canon k4).1, rdID_canon k5, rdID_canon k6, rdIDs_canon k7, rdIDs_canon k8, (rdNum_canon k9).1, (rdNum_canon k10).1]
        rw [hF, ← e2]
      · rw [if_neg h3] at h; simp at h
theorem read_bad {s : List UInt8} (h : (readE s).2 ≠ 0) : (readE s).1 = zeroE := by
  unfold readE at *
  split
  · rfl
  · rename_i h1
    rw [if_neg h1] at h
    split
    · rfl
    · rename_i h2
      rw [if_neg h2] at h
      split
      · rename_i h3
        rw [if_pos h3] at h
        exact absurd rfl h
      · rfl

/-! ### What was written is read -/
theorem evB_congr {a b : Ev} (h : sameE a b = true) : evB a = evB b := by
  obtain ⟨h1, h2, h3, h4, h5, h6, h7, h8, h9, h10, h11, h12, h13, h14⟩ := sameE_iff.1 h
  unfold evB evF
  rw [h1, h2, h4, h5, h6, h7, h8, h9, h10, h11, h12, h13, h14, spanB_congr (C := b.dep) (D := zeroV) h3 fun _ _ => rfl]
theorem rdNum_numB {n : Nat} (h : n ≤ 1048576) : rdNum (numB n) = (n, true) := by
  unfold rdNum
  rw [asNumV_numB (by omega), if_pos ⟨rfl, h⟩]
def okI (r : Int) (s : Nat) : Prop := 0 ≤ r ∧ r ≤ 255 ∧ s ≤ 1048576
theorem rdID_idB {r : Int} {s : Nat} (h : okI r s) : rdID (idB r s) = ((r, s), true) := by
  obtain ⟨h1, h2, h3⟩ := h
  unfold idB
  by_cases hz : zeroI r s = true
  · rw [if_pos hz]
    unfold zeroI at hz
    simp only [Bool.and_eq_true, decide_eq_true_iff] at hz
    obtain ⟨rfl, rfl⟩ := hz
    rfl
  · rw [if_neg hz]
    unfold zeroI at hz
    simp only [Bool.and_eq_true, decide_eq_true_iff] at hz
    have hc : (UInt8.ofNat (r % 256).toNat).toNat = r.toNat := by rw [UInt8.toNat_ofNat']; omega
    unfold rdID
    simp only []
    rw [rdNum_numB h3, hc, if_pos ⟨rfl, by simp only []; omega⟩, Int.toNat_of_nonneg h1]
theorem idB_len {r : Int} {s : Nat} (h : s ≤ 1048576) : (idB r s).length ≤ 5 := by
  unfold idB
  split
  · simp
  · rw [List.length_cons, numB_length]
    have := numLen32 (n := s) (by omega)
    omega
theorem idsF_len {l : List (Int × Nat)} (h : ∀ p ∈ l, okI p.1 p.2) : ∀ f ∈ idsF l, f.length ≤ 5 := by
  intro f hf
  unfold idsF at hf
  obtain ⟨p, hp, rfl⟩ := List.mem_map.1 hf
  exact idB_len (h p hp).2.2
theorem packB_len (L : List (List UInt8)) (n : Nat) (h : ∀ f ∈ L, f.length ≤ n) : (packB L).length ≤ (n + 3) * L.length := by
  induction L with
  | nil => simp [packB_nil]
  | cons f L ih =>
    rw [packB_cons, List.length_append, fieldB_length, List.length_cons]
    have h1 := ih fun g hg => h g (List.mem_cons_of_mem _ hg)
    have h2 := h f (List.mem_cons_self ..)
    have h3 := (lenB_le f.length).2
    rw [Nat.mul_add, Nat.mul_one]
    omega
theorem idsB_len {l : List (Int × Nat)} (h : ∀ p ∈ l, okI p.1 p.2) : (idsB l).length ≤ 8 * l.length := by
  have := packB_len (idsF l) 5 (idsF_len h)
  unfold idsB
  unfold idsF at this ⊢
  rwa [List.length_map] at this
theorem unpackV_all (most : Int) (L : List (List UInt8)) (h : ∀ f ∈ L, f.length ≤ 65535) (hm : (L.length : Int) ≤ most) : unpackV most [] (steps (packB L)) = (L, 0) := by
  have := steps_packB L [] h
  rw [List.append_nil, steps_nil, List.append_nil] at this
  rw [this, unpackV_ok _ _ _ (by simpa using hm), List.nil_append]
theorem rdIDs_idsB {l : List (Int × Nat)} (h : ∀ p ∈ l, okI p.1 p.2) {most : Int} (hm : (l.length : Int) ≤ most) : rdIDs (idsB l) most = (l, 0) := by
  have hu := unpackV_all most (idsF l) (fun f hf => by have := idsF_len h f hf; omega) (by unfold idsF; rwa [List.length_map])
  unfold rdIDs idsB
  rw [hu]
  have hok : idsOk (idsF l) = true := by
    unfold idsOk idsF
    rw [List.all_eq_true]
    intro f hf
    obtain ⟨p, hp, rfl⟩ := List.mem_map.1 hf
    rw [rdID_idB (h p hp)]
  have hof : idsOf (idsF l) = l := by
    unfold idsOf idsF
    rw [List.map_map]
    conv => rhs; rw [← List.map_id l]
    refine List.map_congr_left fun p hp => ?_
    show (rdID (idB p.1 p.2)).1 = p
    rw [rdID_idB (h p hp)]
  rw [if_neg (by simp), if_pos hok, hof]
/-- How far the parts of a right event may go. -/
structure Fine (e : Ev) : Prop where
  rep : 1 ≤ e.rep ∧ e.rep ≤ 8
  seq : 1 ≤ e.seq ∧ e.seq ≤ 1048576
  dep : ∀ i, i < 8 → e.dep i ≤ 1048576
  kind : 1 ≤ e.kind ∧ e.kind ≤ 9
  obj : okI e.orep e.oseq
  dir : okI e.drep e.dseq
  name : e.name.length ≤ 12
  gone : (∀ p ∈ e.gone, okI p.1 p.2) ∧ e.gone.length ≤ 8
  base : (∀ p ∈ e.base, okI p.1 p.2) ∧ e.base.length ≤ 8
  off : 0 ≤ e.off ∧ e.off ≤ 200
  data : e.data.length ≤ 200
  ward : 0 ≤ e.ward ∧ e.ward ≤ 4
theorem okI_has {V : Nat → Nat} (hV : ∀ i, i < 8 → V i ≤ 1048576) {r : Int} {s : Nat} (h : hasV V r s = true) : okI r s := by
  unfold hasV at h
  rw [decide_eq_true_iff] at h
  unfold getV at h
  by_cases hr : repV r = true
  · rw [if_pos hr] at h
    have h8 := repV_iff.1 hr
    have := hV (r - 1).toNat (by omega)
    exact ⟨by omega, by omega, by omega⟩
  · rw [if_neg hr] at h; omega
theorem okI_zero {r : Int} {s : Nat} (h : zeroI r s = true) : okI r s := by
  unfold zeroI at h
  simp only [Bool.and_eq_true, decide_eq_true_iff] at h
  obtain ⟨rfl, rfl⟩ := h
  exact ⟨by omega, by omega, by omega⟩
theorem okI_rise {V : Nat → Nat} (hV : ∀ i, i < 8 → V i ≤ 1048576) {l : List (Int × Nat)} (h : riseB V l = true) : ∀ p ∈ l, okI p.1 p.2 := by
  intro p hp
  obtain ⟨i, hi, rfl⟩ := List.getElem_of_mem hp
  have := riseB_iff.1 h i hi
  unfold riseAt at this
  rw [Bool.and_eq_true] at this
  have e : atI l i = l[i] := by unfold atI; rw [List.getD_eq_getElem?_getD, List.getElem?_eq_getElem hi]; rfl
  rw [e] at this
  exact okI_has hV this.1
theorem okI_nil {l : List (Int × Nat)} (h : l.isEmpty = true) : (∀ p ∈ l, okI p.1 p.2) ∧ l.length ≤ 8 := by
  have : l = [] := by simpa using h
  subst this
  exact ⟨fun p hp => by simp at hp, by simp⟩
theorem name_len {s : List UInt8} (h : nameB s = true) : s.length ≤ 12 := by
  unfold nameB at h
  simp only [Bool.and_eq_true, decide_eq_true_iff] at h
  exact h.1.1.1.2
theorem empty_len {s : List UInt8} (h : s.isEmpty = true) (n : Nat) : s.length ≤ n := by
  have : s = [] := by simpa using h
  subst this
  simp
theorem okI_dir {e : Ev} (hV : ∀ i, i < 8 → e.dep i ≤ 1048576) (h : dirB e = true) : okI e.drep e.dseq := by
  unfold dirB at h
  rw [Bool.or_eq_true] at h
  rcases h with h | h
  · exact okI_zero h
  · exact okI_has hV h
theorem fine_of {e : Ev} (h : checkB e = true) : Fine e := by
  rw [check_eq, Bool.and_eq_true] at h
  obtain ⟨hh, hk⟩ := h
  unfold headB at hh
  simp only [Bool.and_eq_true, decide_eq_true_iff] at hh
  obtain ⟨⟨hr, hs⟩, hd⟩ := hh
  rw [depB_iff] at hd
  rw [repV_iff] at hr
  have hs1 : 1 ≤ e.seq ∧ e.seq ≤ 1048576 := by omega
  unfold kindB madeB at hk
  by_cases h1 : e.kind = 1 ∨ e.kind = 2
  · rw [if_pos h1] at hk
    simp only [Bool.and_eq_true, Bool.false_or, Bool.true_or, decide_eq_true_iff, and_true] at hk
    obtain ⟨⟨k1, k2⟩, ⟨⟨⟨⟨k3, k4⟩, k5⟩, k6⟩, k7⟩, k8⟩ := hk
    exact ⟨hr, hs1, hd, by omega, okI_zero k3, okI_dir hd k1, name_len k2, okI_nil k4, okI_nil k5, by omega, empty_len k7 _, by omega⟩
  · rw [if_neg h1] at hk
    by_cases h3 : e.kind = 3
    · rw [if_pos h3] at hk
      unfold offB at hk
      simp only [Bool.and_eq_true, Bool.false_or, Bool.true_or, decide_eq_true_iff, and_true, true_and] at hk
      obtain ⟨⟨⟨⟨⟨⟨k1, k2⟩, k3⟩, k4⟩, k5⟩, k6⟩, ⟨k7, k8⟩, k9⟩ := hk
      exact ⟨hr, hs1, hd, by omega, okI_has hd k1, okI_zero k7.1, empty_len k7.2 _, okI_nil k8, ⟨okI_rise hd k2, by omega⟩, by omega, by omega, by omega⟩
    · rw [if_neg h3] at hk
      by_cases h4 : e.kind = 4
      · rw [if_pos h4] at hk
        unfold offB at hk
        simp only [Bool.and_eq_true, Bool.false_or, Bool.true_or, decide_eq_true_iff, and_true, true_and] at hk
        obtain ⟨⟨⟨⟨k1, k2⟩, k3⟩, k4⟩, ⟨⟨k7, k8⟩, k10⟩, k9⟩ := hk
        exact ⟨hr, hs1, hd, by omega, okI_has hd k1, okI_zero k7.1, empty_len k7.2 _, okI_nil k8, ⟨okI_rise hd k2, by omega⟩, by omega, empty_len k10 _, by omega⟩
      · rw [if_neg h4] at hk
        by_cases h5 : e.kind = 5
        · rw [if_pos h5] at hk
          simp only [Bool.and_eq_true, Bool.false_or, Bool.true_or, decide_eq_true_iff, and_true, true_and] at hk
          obtain ⟨⟨⟨⟨⟨k1, k2⟩, k3⟩, k4⟩, k5⟩, ⟨⟨k7, k8⟩, k10⟩, k9⟩ := hk
          exact ⟨hr, hs1, hd, by omega, okI_has hd k1, okI_zero k7.1, empty_len k7.2 _, okI_nil k8, ⟨okI_rise hd k2, by omega⟩, by omega, by omega, by omega⟩
        · rw [if_neg h5] at hk
          by_cases h6 : e.kind = 6
          · rw [if_pos h6] at hk
            simp only [Bool.and_eq_true, Bool.false_or, Bool.true_or, decide_eq_true_iff, and_true, true_and] at hk
            obtain ⟨⟨k1, k2, k3⟩, ⟨⟨⟨k7, k8⟩, k10⟩, k9⟩, k11⟩ := hk
            exact ⟨hr, hs1, hd, by omega, okI_has hd k1, okI_zero k7.1, empty_len k7.2 _, ⟨okI_rise hd k3, by omega⟩, okI_nil k8, by omega, empty_len k9 _, by omega⟩
          · rw [if_neg h6] at hk
            by_cases h7 : e.kind = 7
            · rw [if_pos h7] at hk
              simp only [Bool.and_eq_true, Bool.false_or, Bool.true_or, decide_eq_true_iff, and_true, true_and] at hk
              obtain ⟨⟨⟨⟨k1, k2, k3⟩, k4⟩, k5⟩, ⟨⟨k7, k8⟩, k10⟩, k9⟩ := hk
              exact ⟨hr, hs1, hd, by omega, okI_has hd k1, okI_dir hd k4, name_len k5, ⟨okI_rise hd k3, by omega⟩, okI_nil k7, by omega, empty_len k10 _, by omega⟩
            · rw [if_neg h7] at hk
              by_cases h8 : e.kind = 8
              · rw [if_pos h8] at hk
                simp only [Bool.and_eq_true, Bool.false_or, Bool.true_or, decide_eq_true_iff, and_true] at hk
                obtain ⟨⟨k1, k2⟩, ⟨⟨⟨⟨k3, k7⟩, k8⟩, k10⟩, k9⟩, k11⟩ := hk
                exact ⟨hr, hs1, hd, by omega, okI_zero k3, okI_zero k7.1, empty_len k7.2 _, okI_nil k8, okI_nil k10, by omega, empty_len k11 _, by omega⟩
              · rw [if_neg h8] at hk
                by_cases h9 : e.kind = 9
                · rw [if_pos h9] at hk
                  simp only [Bool.and_eq_true, Bool.false_or, decide_eq_true_iff] at hk
                  obtain ⟨⟨⟨⟨⟨⟨k3, k7⟩, k8⟩, k10⟩, k9⟩, k11⟩, k12⟩ := hk
                  exact ⟨hr, hs1, hd, by omega, okI_zero k3, okI_zero k7.1, empty_len k7.2 _, okI_nil k8, okI_nil k10, by omega, empty_len k11 _, by omega⟩
                · rw [if_neg h9] at hk; cases hk
theorem numB_len {n : Nat} (h : n ≤ 1048576) : (numB n).length ≤ 4 := by rw [numB_length]; exact numLen32 (by omega)
theorem evF_len {e : Ev} (h : Fine e) : ∀ f ∈ evF e, f.length ≤ 200 := by
  have h1 := numB_len (n := e.rep.toNat) (by have := h.rep; omega)
  have h2 := numB_len (n := e.seq) h.seq.2
  have h3 := spanB_le (A := e.dep) (B := zeroV) (fun i hi => by have := h.dep i hi; omega) okV_zero
  have h4 := numB_len (n := e.kind.toNat) (by have := h.kind; omega)
  have h5 := idB_len (r := e.orep) h.obj.2.2
  have h6 := idB_len (r := e.drep) h.dir.2.2
  have h7 := idsB_len h.gone.1
  have h8 := idsB_len h.base.1
  have h9 := numB_len (n := e.off.toNat) (by have := h.off; omega)
  have h10 := numB_len (n := e.ward.toNat) (by have := h.ward; omega)
  have h11 := h.gone.2
  have h12 := h.base.2
  have h13 := h.name
  have h14 := h.data
  intro f hf
  unfold evF at hf
  simp only [List.mem_cons, List.not_mem_nil, or_false] at hf
  rcases hf with rfl | rfl | rfl | rfl | rfl | rfl | rfl | rfl | rfl | rfl | rfl | rfl <;> omega
theorem evB_len {e : Ev} (h : Fine e) : (evB e).length ≤ 2436 := by
  have := packB_len (evF e) 200 (evF_len h)
  have h12 : (evF e).length = 12 := rfl
  rw [h12] at this
  exact this
/-- What was written is read. -/
theorem read_write {e : Ev} (h : checkB e = true) : (readE (evB e)).2 = 0 ∧ sameE (readE (evB e)).1 e = true := by
  have hf := fine_of h
  have hu := unpackV_all 12 (evF e) (fun f hf' => by have := evF_len hf f hf'; omega) (by show ((12 : Nat) : Int) ≤ 12; omega)
  have hg := grow_span (A := e.dep) (B := zeroV) (fun i hi => by have := hf.dep i hi; omega) okV_zero
  have n0 := rdNum_numB (n := e.rep.toNat) (by have := hf.rep; omega)
  have n1 := rdNum_numB (n := e.seq) hf.seq.2
  have n3 := rdNum_numB (n := e.kind.toNat) (by have := hf.kind; omega)
  have n9 := rdNum_numB (n := e.off.toNat) (by have := hf.off; omega)
  have n11 := rdNum_numB (n := e.ward.toNat) (by have := hf.ward; omega)
  have n4 := rdID_idB hf.obj
  have n5 := rdID_idB hf.dir
  have n7 := rdIDs_idsB hf.gone.1 (most := 8) (by have := hf.gone.2; omega)
  have n8 := rdIDs_idsB hf.base.1 (most := 8) (by have := hf.base.2; omega)
  have hok : rdOk (evF e) = true := by
    rw [rdOk_iff]
    show (rdNum (numB e.rep.toNat)).2 = true ∧ (rdNum (numB e.seq)).2 = true ∧ (growV (spanB e.dep zeroV) zeroV).2 = 0 ∧ (rdNum (numB e.kind.toNat)).2 = true ∧ (rdID (idB e.orep e.oseq)).2 = true ∧ (rdID (idB e.drep e.dseq)).2 = true ∧ (rdIDs (idsB e.gone) 8).2 = 0 ∧ (rdIDs (idsB e.base) 8).2 = 0 ∧ (rdNum (numB e.off.toNat)).2 = true ∧ (rdNum (numB e.ward.toNat)).2 = true
    rw [n0, n1, n3, n4, n5, n7, n8, n9, n11]
    exact ⟨rfl, rfl, hg.1, rfl, rfl, rfl, rfl, rfl, rfl, rfl⟩
  have hsame : sameE (rdEv (evF e)) e = true := by
    rw [sameE_iff]
    show (((rdNum (numB e.rep.toNat)).1 : Nat) : Int) = e.rep ∧ (rdNum (numB e.seq)).1 = e.seq ∧ (∀ i, i < 8 → (growV (spanB e.dep zeroV) zeroV).1 i = e.dep i) ∧ (((rdNum (numB e.kind.toNat)).1 : Nat) : Int) = e.kind ∧ (rdID (idB e.orep e.oseq)).1.1 = e.orep ∧ (rdID (idB e.orep e.oseq)).1.2 = e.oseq ∧ (rdID (idB e.drep e.dseq)).1.1 = e.drep ∧ (rdID (idB e.drep e.dseq)).1.2 = e.dseq ∧ e.name = e.name ∧ (rdIDs (idsB e.gone) 8).1 = e.gone ∧ (rdIDs (idsB e.base) 8).1 = e.base ∧ (((rdNum (numB e.off.toNat)).1 : Nat) : Int) = e.off ∧ e.data = e.data ∧ (((rdNum (numB e.ward.toNat)).1 : Nat) : Int) = e.ward
    rw [n0, n1, n3, n4, n5, n7, n8, n9, n11]
    have := hf.rep
    have := hf.kind
    have := hf.off
    have := hf.ward
    exact ⟨by simp only []; omega, rfl, hg.2, by simp only []; omega, rfl, rfl, rfl, rfl, rfl, rfl, rfl, by simp only []; omega, rfl, by simp only []; omega⟩
  have hch : checkB (rdEv (evF e)) = true := check_congr hsame h
  unfold readE evB
  rw [hu, if_neg (by simp), if_neg (by show ¬ (12 : Nat) < 12; omega), hok, hch]
  exact ⟨rfl, hsame⟩
/-- Unlike right events have unlike bytes. -/
theorem evB_inj {a b : Ev} (ha : checkB a = true) (hb : checkB b = true) : (evB a == evB b) = sameE a b := by
  rw [Bool.eq_iff_iff, beq_iff_eq]
  constructor
  · intro h
    have h1 := (read_write ha).2
    have h2 := (read_write hb).2
    rw [h] at h1
    exact sameE_trans (sameE_comm h1) h2
  · exact evB_congr
end Go.Proofs.Ytkojoahamoffcaa
