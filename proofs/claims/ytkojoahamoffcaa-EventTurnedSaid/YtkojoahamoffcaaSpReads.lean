/-
  span.firstSize: the first difference of bytes.
  Differences as values: eight numbers with signs in an array.
  span.read: the differences that bytes tell.
  span.Grow: the vector of bytes against a base.
-/
import Derived.Test.YtkojoahamoffcaaSpMath
import Derived.Test.YtkojoahamoffcaaVecBase
import Derived.Test.YtkojoahamoffcaaQuiet
import Derived.Deep.QuietTactic
import Derived.BigQuiet
import Derived.Lib.Hide
import Derived.WalkMore
namespace Go.Proofs.Ytkojoahamoffcaa
open Go.RowKit
set_option maxRecDepth 100000

theorem IsB.none_ {w : World} {ok : Nat → Prop} : IsB w ok (.slice none 0 0) [] := ⟨none, 0, rfl, Nat.le_refl _, Nat.zero_le _, Rd.nil⟩
theorem IsB.of {w : World} {ok : Nat → Prop} {A : Option Addr} {n c : Nat} {l : List UInt8} (hn : n = l.length) (hc : l.length ≤ c) (hm : c ≤ maxLen) (hr : Rd w ok A (l.map u8)) : IsB w ok (.slice A n c) l := ⟨A, c, by rw [hn], hc, hm, hr⟩
theorem IsB.nil_any {w : World} {ok : Nat → Prop} {A : Option Addr} {c : Nat} (h : c ≤ maxLen) : IsB w ok (.slice A 0 c) [] := ⟨A, c, rfl, Nat.zero_le _, h, Rd.nil⟩
/-- What firstSize answers. -/
def FSPost (ok : Nat → Prop) (l : List UInt8) (w : World) (e : Ending) (w' : World) : Prop :=
  (∃ y, e = .returned (.tuple #[.int .i64 ((firstS l).1 : Int), y, .int .i64 ((firstS l).2.2 : Int)]) ∧ IsB w' ok y (firstS l).2.1) ∧ ∃ n, w' = w.drewN n
theorem FSPost.err {ok : Nat → Prop} {l : List UInt8} {w : World} {k n : Nat} (h : firstS l = (0, [], k)) : FSPost ok l w (.returned (.tuple #[.int .i64 0, .slice none 0 0, .int .i64 (k : Int)])) (w.drewN n) := by
  refine ⟨⟨.slice none 0 0, ?_, ?_⟩, n, rfl⟩ <;> rw [h]
  · rfl
  · exact IsB.none_
theorem FSPost.fine {ok : Nat → Prop} {l r : List UInt8} {m n : Nat} {w : World} {y : Value} (h : firstS l = (m, r, 0)) (hy : IsB w ok y r) : FSPost ok l w (.returned (.tuple #[.int .i64 (m : Int), y, .int .i64 0])) (w.drewN n) := by
  refine ⟨⟨y, ?_, ?_⟩, n, rfl⟩ <;> rw [h]
  · rfl
  · exact hy.drewN _

set_option maxHeartbeats 400000 in
theorem firstsize_any (ok : Nat → Prop) (A : Option Addr) (c : Nat) (l : List UInt8) (w : World) (hlc : l.length ≤ c) (hcm : c ≤ maxLen) (hr : Rd w ok A (l.map u8)) :
    Calls Try.prog 70 #[.slice A l.length c] w (FSPost ok l w) := by
  have hcm' := hcm
  unfold maxLen at hcm
  rcases l with _ | ⟨x0, r⟩
  · have hf : firstS [] = (0, [], 8) := rfl
    have Hf := Lib.hid hf
    clear hf hr
    go_enter Try.func70, Try.ntmps70
    go_wp2
    go_ret3
    exact FSPost.err (n := 0) Hf.out
  · have hb0 := x0.toNat_lt
    have hr1 : ∀ b off, A = some ⟨b, off, none⟩ → Rd w ok (some ⟨b, off + 1, none⟩) (r.map u8) := fun b off e => by
      subst e
      have := hr.drop' (k := 1)
      simpa using this
    obtain ⟨b, off, rfl, _, _, hc⟩ := hr.byte (by simp)
    have hr1 := hr1 b off rfl
    have hc0 := hc 0 (by simp)
    rw [Nat.add_zero] at hc0
    simp only [List.getElem_cons_zero] at hc0
    have hl1 : (x0 :: r).length = r.length + 1 := rfl
    rw [hl1] at hlc ⊢
    clear hl1 hc hr
    have hfs : firstS (x0 :: r) = if r.length < x0.toNat then (0, [], 8) else if (asNumV (r.take x0.toNat)).2 ≠ 0 ∨ (asNumV (r.take x0.toNat)).1 = 0 ∨ 4294967295 < (asNumV (r.take x0.toNat)).1 then (0, [], 7) else ((asNumV (r.take x0.toNat)).1, r.drop x0.toNat, 0) := rfl
    by_cases hcut : r.length < x0.toNat
    · rw [if_pos hcut] at hfs
      have Hf := Lib.hid hfs
      clear hfs hr1
      go_enter Try.func70, Try.ntmps70
      go_wp2_with fail
      go_quiet (fail)
      all_goals go_wp2
      all_goals go_ret3
      all_goals exact FSPost.err Hf.out
    · rw [if_neg hcut] at hfs
      by_cases hc1 : c = 1
      · subst hc1
        have h0 : x0.toNat = 0 := by omega
        have hr0 : r = [] := List.eq_nil_of_length_eq_zero (by omega)
        subst hr0
        have hx : x0 = 0 := UInt8.toNat_inj.1 (by simpa using h0)
        subst hx
        have hf : firstS [0] = (0, [], 7) := by decide
        have Hf := Lib.hid hf
        have hasn := fun w' => asnum_any ok (some ⟨b, off, none⟩) 0 [] w' (by simp) Rd.nil
        have Hasn := Lib.hid hasn
        clear hfs hf hasn hr1 h0 hcut hb0
        simp only [UInt8.toNat_zero] at hc0
        have hc0' : w.cell? ⟨b, off, none⟩ = some (.int .u8 0) := hc0
        clear hc0
        simp only [List.length_nil]
        go_enter Try.func70, Try.ntmps70
        go_wp2_with fail
        go_quiet (fail)
        go_wp2_with (go_at_call 68; refine (Hasn.out _).mono ?_; rintro e w1 ⟨rfl, rfl⟩)
        go_ret3
        exact FSPost.err Hf.out
      · have hlt : (r.take x0.toNat).length = x0.toNat := by rw [List.length_take]; omega
        have hasn := fun w' (hr' : Rd w' ok (some ⟨b, off + 1, none⟩) (r.map u8)) => asnum_any ok (some ⟨b, off + 1, none⟩) (c - 1) (r.take x0.toNat) w' (by unfold maxLen; omega) (by rw [List.map_take]; exact hr'.take)
        rw [hlt] at hasn
        clear hlt
        have hm64 : (asNumV (r.take x0.toNat)).1 < 18446744073709551616 := by
          unfold asNumV
          split
          · omega
          · split
            · omega
            · have := asNum_lt64 (r.take x0.toNat) (by omega)
              simpa using this
        generalize asNumV (r.take x0.toNat) = R at hfs hasn hm64
        obtain ⟨m, q⟩ := R
        simp only [] at hfs hasn hm64
        have Hr1 := Lib.hid hr1
        have Hasn := Lib.hid hasn
        clear hr1 hasn
        by_cases hq : q ≠ 0
        · rw [if_pos (.inl hq)] at hfs
          have Hf := Lib.hid hfs
          have hq' : ((q : Int) != 0) = true := by rw [bne_iff_ne]; omega
          clear hfs hq
          go_enter Try.func70, Try.ntmps70
          go_wp2_with fail
          go_quiet (fail)
          go_wp2_with (go_at_call 68; refine (Hasn.out _ (Hr1.out.drewN _)).mono ?_; rintro e w1 ⟨rfl, rfl⟩)
          go_ret3
          exact FSPost.err Hf.out
        · obtain rfl : q = 0 := by omega
          by_cases hm0 : m = 0
          · subst hm0
            rw [if_pos (.inr (.inl rfl))] at hfs
            have Hf := Lib.hid hfs
            clear hfs hq
            go_enter Try.func70, Try.ntmps70
            go_wp2_with fail
            go_quiet (fail)
            go_wp2_with (go_at_call 68; refine (Hasn.out _ (Hr1.out.drewN _)).mono ?_; rintro e w1 ⟨rfl, rfl⟩)
            go_ret3
            exact FSPost.err Hf.out
          · have hm0' : ((m : Int) == 0) = false := by rw [beq_eq_false_iff_ne]; omega
            by_cases hbig : 4294967295 < m
            · rw [if_pos (.inr (.inr hbig))] at hfs
              have Hf := Lib.hid hfs
              have hbig' : decide ((4294967295 : Int) < (m : Int)) = true := by rw [decide_eq_true_iff]; omega
              clear hfs hq hbig hm0
              go_enter Try.func70, Try.ntmps70
              go_wp2_with fail
              go_quiet (fail)
              go_wp2_with (go_at_call 68; refine (Hasn.out _ (Hr1.out.drewN _)).mono ?_; rintro e w1 ⟨rfl, rfl⟩)
              go_ret3
              exact FSPost.err Hf.out
            · rw [if_neg (by simp only [not_or]; exact ⟨fun h => h rfl, hm0, hbig⟩)] at hfs
              have Hf := Lib.hid hfs
              have hbig' : decide ((4294967295 : Int) < (m : Int)) = false := by rw [decide_eq_false_iff_not]; omega
              have hw : IntKind.i64.wrap (m : Int) = (m : Int) := IntWalk.i64_in _ (by omega)
              have Hbig := Lib.hid hbig
              clear hfs hq hbig hm0
              by_cases hcn : c - 1 = x0.toNat
              · have hcn' := Lib.hid hcn
                have hy : r.drop x0.toNat = [] := List.drop_eq_nil_of_le (by omega)
                have Hy := Lib.hid hy
                have hasn2 := Hasn.out
                rw [hcn] at hasn2
                have Hasn2 := Lib.hid hasn2
                clear hy hasn2
                go_enter Try.func70, Try.ntmps70
                go_wp2_with fail
                go_quiet (fail)
                go_wp2_with (go_at_call 68; refine (Hasn2.out _ (Hr1.out.drewN _)).mono ?_; rintro e w1 ⟨rfl, rfl⟩)
                go_quiet (fail)
                go_wp2
                go_ret3
                rw [World.drewN_drewN]
                refine FSPost.fine Hf.out ?_
                rw [Hy.out]
                exact IsB.of (by simp; omega) (Nat.zero_le _) (by unfold maxLen; omega) Rd.nil
              · go_enter Try.func70, Try.ntmps70
                go_wp2_with fail
                go_quiet (fail)
                go_wp2_with (go_at_call 68; refine (Hasn.out _ (Hr1.out.drewN _)).mono ?_; rintro e w1 ⟨rfl, rfl⟩)
                go_quiet (fail)
                go_wp2
                go_ret3
                rw [World.drewN_drewN]
                refine FSPost.fine Hf.out (IsB.of ?_ ?_ ?_ ?_)
                · rw [List.length_drop]
                · rw [List.length_drop]; omega
                · unfold maxLen; omega
                · rw [List.map_drop]; exact Hr1.out.drop'
end Go.Proofs.Ytkojoahamoffcaa

namespace Go.Proofs.Ytkojoahamoffcaa
open Go.RowKit
set_option maxRecDepth 100000

def ai (D : Nat → Int) : Array Value := #[.int .i64 (D 0), .int .i64 (D 1), .int .i64 (D 2), .int .i64 (D 3), .int .i64 (D 4), .int .i64 (D 5), .int .i64 (D 6), .int .i64 (D 7)]
theorem ai_get (D : Nat → Int) {k : Nat} (h : k < 8) : (ai D)[k]? = some (.int .i64 (D k)) := by
  rcases lt8 h with rfl | rfl | rfl | rfl | rfl | rfl | rfl | rfl <;> rfl
theorem ai_set (D : Nat → Int) (k : Nat) (n : Int) (h : k < 8) : (ai D).setIfInBounds k (.int .i64 n) = ai (updD D k n) := by
  rcases lt8 h with rfl | rfl | rfl | rfl | rfl | rfl | rfl | rfl <;> rfl
theorem ai_one (D : Nat → Int) : (ai D).all (·.oneCell') = true := by simp [ai, Value.oneCell']
theorem zero_ai : ai zeroD = #[.int .i64 0, .int .i64 0, .int .i64 0, .int .i64 0, .int .i64 0, .int .i64 0, .int .i64 0, .int .i64 0] := rfl
theorem diff_info : (Try.prog.info? 108).map (·.size) = some 8 := by kernel_rfl
theorem diff_index (D : Nat → Int) (k : Nat) (h : k < 8) (w : World) : (Instr.index 108 (.agg (ai D)) (.int .i64 (k : Int))).run Try.prog w = .ok (.int .i64 (D k)) w := by
  rcases lt8 h with rfl | rfl | rfl | rfl | rfl | rfl | rfl | rfl <;> kernel_rfl
theorem arr_info : (Try.prog.info? 107).map (·.size) = some 8 := by kernel_rfl
theorem Rd.low {w : World} {ok : Nat → Prop} {A : Option Addr} {xs : List Value} (h : Rd w ok A xs) : Rd w (fun k => k < w.heap.size) A xs := fun hn => by
  obtain ⟨ad, e, _, hlt⟩ := h.lt hn
  obtain ⟨ad', e', _, hc⟩ := h hn
  subst e
  cases e'
  exact ⟨ad, rfl, hlt, hc⟩
theorem IsB.low {w : World} {ok : Nat → Prop} {v : Value} {l : List UInt8} (h : IsB w ok v l) : IsB w (fun k => k < w.heap.size) v l := by
  obtain ⟨A, c, e, h1, h2, h3⟩ := h
  exact ⟨A, c, e, h1, h2, h3.low⟩
theorem bits_and_of {m k : Nat} (hm : m < 256) (hk : k < 8) : bits .and .u8 (m : Int) ((2 ^ k : Nat) : Int) = if bitN m k = true then ((2 ^ k : Nat) : Int) else 0 := bits_and8 ⟨k, hk⟩ ⟨m, hm⟩
theorem bits_or_of {m k : Nat} (hm : m < 2 ^ k) (hk : k < 8) : bits .or .u8 (m : Int) ((2 ^ k : Nat) : Int) = ((m + 2 ^ k : Nat) : Int) := bits_or8 ⟨k, hk⟩ ⟨m, by have : 2 ^ k ≤ 2 ^ 7 := Nat.pow_le_pow_right (by omega) (by omega); omega⟩ hm
theorem and_eq8 : ∀ k : Fin 8, ∀ m : Fin 256, (((2 : Int) ^ k.val % 256) == bits .and .u8 (m.val : Int) ((2 : Int) ^ k.val % 256)) = bitN m.val k.val := by decide +kernel
theorem and_eq {m k : Nat} (hm : m < 256) (hk : k < 8) : (((2 : Int) ^ k % 256) == bits .and .u8 (m : Int) ((2 : Int) ^ k % 256)) = bitN m k := and_eq8 ⟨k, hk⟩ ⟨m, hm⟩
theorem u8_and_nat {m s : Nat} (hm : m < 256) (hs : s < 256) : bits .and .u8 (m : Int) (s : Int) = ((m &&& s : Nat) : Int) := by
  have hlt : m &&& s < 256 := Nat.lt_of_le_of_lt Nat.and_le_left hm
  show IntKind.u8.wrap ((BitVec.ofInt 8 (m : Int) &&& BitVec.ofInt 8 (s : Int)).toNat : Int) = _
  have e1 : (BitVec.ofInt 8 (m : Int)).toNat = m := by rw [BitVec.ofInt_natCast, BitVec.toNat_ofNat]; exact Nat.mod_eq_of_lt (by omega)
  have e2 : (BitVec.ofInt 8 (s : Int)).toNat = s := by rw [BitVec.ofInt_natCast, BitVec.toNat_ofNat]; exact Nat.mod_eq_of_lt (by omega)
  rw [BitVec.toNat_and, e1, e2, IntWalk.u8_in _ (by omega)]
theorem bitN_test (m i : Nat) : bitN m i = m.testBit i := by
  unfold bitN
  rw [Nat.testBit_eq_decide_div_mod_eq]
theorem and_zero {m s : Nat} (hm : m < 256) (hs : s < 256) : (bits .and .u8 (m : Int) (s : Int) != 0) = bothN m s := by
  rw [u8_and_nat hm hs]
  have hlt : m &&& s < 2 ^ 8 := Nat.lt_of_le_of_lt Nat.and_le_left hm
  cases h : bothN m s
  · unfold bothN at h
    rw [List.any_eq_false] at h
    have h0 : m &&& s = 0 := by
      apply Nat.eq_of_testBit_eq
      intro i
      rw [Nat.zero_testBit]
      rcases Nat.lt_or_ge i 8 with h8 | h8
      · have := h i (by simpa using h8)
        rw [bitN_test, bitN_test] at this
        rw [Nat.testBit_and]
        simpa using this
      · exact Nat.testBit_lt_two_pow (Nat.lt_of_lt_of_le hlt (Nat.pow_le_pow_right (by omega) h8))
    rw [h0]
    rfl
  · unfold bothN at h
    rw [List.any_eq_true] at h
    obtain ⟨i, _, hi⟩ := h
    rw [bitN_test, bitN_test, ← Nat.testBit_and] at hi
    rw [bne_iff_ne]
    intro h0
    have : m &&& s = 0 := by omega
    rw [this, Nat.zero_testBit] at hi
    cases hi
end Go.Proofs.Ytkojoahamoffcaa

namespace Go.Proofs.Ytkojoahamoffcaa
open Go.RowKit
set_option maxRecDepth 100000

/-- What read answers. -/
def RDPost (l : List UInt8) (w : World) (e : Ending) (w' : World) : Prop :=
  e = .returned (.tuple #[.agg (ai (readD l).1), .int .i64 ((readD l).2 : Int)]) ∧ Below w.heap.size w w'

theorem RDPost.of {l : List UInt8} {w w' : World} {D : Nat → Int} {e : Nat} (h : readD l = (D, e)) (hb : Below w.heap.size w w') : RDPost l w (.returned (.tuple #[.agg (ai D), .int .i64 (e : Int)])) w' := by
  refine ⟨?_, hb⟩
  rw [h]

set_option maxHeartbeats 400000 in
theorem spread_any (ok : Nat → Prop) (A : Option Addr) (c : Nat) (l : List UInt8) (w : World) (hlc : l.length ≤ c) (hcm : c ≤ maxLen) (hr : Rd w ok A (l.map u8)) :
    Calls Try.prog 69 #[.slice A l.length c] w (RDPost l w) := by
  have hcm' := hcm
  unfold maxLen at hcm
  obtain ⟨W, hW⟩ : ∃ W, W = w.alloc (.cells #[.int .i64 0, .int .i64 0, .int .i64 0, .int .i64 0, .int .i64 0, .int .i64 0, .int .i64 0, .int .i64 0] 108) := ⟨_, rfl⟩
  have hC : Blk W w.heap.size 108 (ai zeroD) := by rw [hW]; exact Blk.new w _ _
  have hbel : Below w.heap.size w W := by rw [hW]; exact (Below.refl _ _).alloc (Nat.le_refl _) _
  have HW := Lib.hid hW
  have HC := Lib.hid hC
  clear hW hC
  by_cases h2 : l.length < 2
  · have hv : readD l = (zeroD, 8) := by
      rcases l with _ | ⟨m, _ | ⟨s, r⟩⟩
      · rfl
      · rfl
      · simp at h2; omega
    have Hv := Lib.hid hv
    clear hv hr
    go_enter Try.func69, Try.ntmps69
    go_wp2_with fail
    go_step3
    rw [← HW.out]
    go_wp2_with (refine wpList_store_row rfl 108 (.tmp 2) (.tmp 17) rfl w.heap.size (ai zeroD) rfl rfl 108 _ HC.out diff_info rfl (ai_one _) ?_)
    rw [Exit.noGoto_ret]
    have hend := HC.out.setRow_ (ai zeroD)
    exact bodyPost_ret (v := .tuple #[.agg (ai zeroD), .int .i64 8]) (results_cell_tmp Try.results69 _ _ w.heap.size 108 (ai zeroD) (0, 0) _ _ rfl rfl hend Try.underlying108 rfl diff_info) rfl (RDPost.of Hv.out (below_setRow hbel (by omega) _))
  · rcases l with _ | ⟨m, _ | ⟨s, r⟩⟩
    · simp at h2
    · simp at h2
    · have hm := m.toNat_lt
      have hs := s.toNat_lt
      have hr0 := fun b off (e : A = some ⟨b, off, none⟩) => (show Rd w ok (some ⟨b, off + 2, none⟩) (r.map u8) from by
        subst e
        have := hr.drop' (k := 2)
        simpa using this)
      obtain ⟨b, off, rfl, _, hblt, hc⟩ := hr.byte (by simp)
      have hr0 := (hr0 b off rfl).low
      have hc0 := hc 0 (by simp)
      have hc1 := hc 1 (by simp)
      rw [Nat.add_zero] at hc0
      simp only [List.getElem_cons_zero, List.getElem_cons_succ] at hc0 hc1
      have hcb : ∀ o, W.cell? ⟨b, o, none⟩ = w.cell? ⟨b, o, none⟩ := fun o => hbel.cell (p := ⟨b, o, none⟩) hblt
      rw [← hcb] at hc0 hc1
      clear hcb
      have hl1 : (m :: s :: r).length = r.length + 2 := rfl
      rw [hl1] at hlc h2 ⊢
      clear hl1 hc hr h2
      have hfs : readD (m :: s :: r) = if bothN m.toNat s.toNat = true then (zeroD, 7) else if (stepsD m.toNat s.toNat r 8).2.2 ≠ 0 then (zeroD, (stepsD m.toNat s.toNat r 8).2.2) else if (stepsD m.toNat s.toNat r 8).2.1 ≠ [] then (zeroD, 4) else ((stepsD m.toNat s.toNat r 8).1, 0) := rfl
      have hR : ∀ z : World, Below w.heap.size w z → IsB z (fun k => k < w.heap.size) (.slice (if c = 2 then some ⟨b, off, none⟩ else some ⟨b, off + 2, none⟩) r.length (c - 2)) r := fun z hz => by
        refine IsB.frame (w := w) (IsB.of rfl (by omega) (by omega) ?_) (fun k hk _ => hz.block k hk)
        by_cases e : c = 2
        · have : r = [] := List.eq_nil_of_length_eq_zero (by omega)
          subst this
          exact Rd.nil
        · rw [if_neg e]; exact hr0
      have HR := Lib.hid hR
      clear hR hr0
      have hand := and_zero hm hs
      cases hb : bothN m.toNat s.toNat with
      | true =>
        rw [hb] at hand
        rw [if_pos hb] at hfs
        have Hv := Lib.hid hfs
        clear hfs hb
        go_enter Try.func69, Try.ntmps69
        go_wp2_with fail
        go_step3
        rw [← HW.out]
        go_wp2_with fail
        go_quiet (fail)
        all_goals go_wp2_with (refine wpList_store_row rfl 108 (.tmp 2) (.tmp 30) rfl w.heap.size (ai zeroD) rfl rfl 108 _ (by exact HC.out) diff_info rfl (ai_one _) ?_)
        all_goals try rw [Exit.noGoto_ret]
        all_goals have hend := HC.out.setRow_ (ai zeroD)
        all_goals exact bodyPost_ret (v := .tuple #[.agg (ai zeroD), .int .i64 7]) (results_cell_tmp Try.results69 _ _ w.heap.size 108 (ai zeroD) (0, 0) _ _ rfl rfl hend Try.underlying108 rfl diff_info) rfl (RDPost.of Hv.out (below_setRow (below_drewN hbel _) (by omega) _))
      | false =>
        rw [hb] at hand
        rw [if_neg (by rw [hb]; simp)] at hfs
        clear hb
        have HV := Lib.hid hfs
        have HS := Lib.hid (stepsD_ok m.toNat s.toNat r)
        have HE := Lib.hid (fun k h j => @stepsD_err m.toNat s.toNat r k h j)
        have HK := Lib.hid (fun k h => @stepsD_skip m.toNat s.toNat r k h)
        have HG := Lib.hid (fun k h0 h => @stepsD_go m.toNat s.toNat r k h0 h)
        have HB1 := Lib.hid (fun k hk => @bits_and_of m.toNat k hm hk)
        have HB2 := Lib.hid (fun k hk => @bits_and_of s.toNat k hs hk)
        clear hfs
        generalize hT : stepsD m.toNat s.toNat r = T at HV HS HE HK HG
        have HT := Lib.hid hT
        clear hT
        go_enter Try.func69, Try.ntmps69
        go_wp2_with fail
        go_step3
        rw [← HW.out]
        go_wp2_with fail
        go_quiet (fail)
        all_goals go_wp2_with fail
        all_goals go_step3
        all_goals go_wp2_with fail
        all_goals obtain ⟨Z, hZ⟩ : ∃ Z, Z = (W.drewN nq).alloc (.cells #[.int .i64 0, .int .i64 0, .int .i64 0, .int .i64 0, .int .i64 0, .int .i64 0, .int .i64 0, .int .i64 0] 108) := ⟨_, rfl⟩
        all_goals rw [← hZ]
        all_goals have hZ1 : Blk Z w.heap.size 108 (ai zeroD) := by rw [hZ]; exact Blk.alloc (w := W.drewN nq) HC.out _
        all_goals have hZ2 : Blk Z W.heap.size 108 (ai zeroD) := by rw [hZ]; exact Blk.new (W.drewN nq) _ _
        all_goals have hZ3 : Below w.heap.size w Z := by rw [hZ]; exact (below_drewN hbel _).alloc (by have := hbel.size; simpa using this) _
        all_goals have hZ0 := HR.out Z hZ3
        all_goals clear hZ
        all_goals have hT0 : T 0 = (zeroD, r, 0) := by rw [← HT.out]; rfl
        all_goals have HT0 := Lib.hid hT0
        all_goals clear hT0
        · rw [if_pos (by assumption), show c - 2 = 0 by omega] at hZ0
          have hws : w.heap.size < W.heap.size := HC.out.lt
          go_loopw [6, 31] (fun v i wr => ∃ k : Nat, k ≤ 8 ∧ i = .int .i64 (k : Int) ∧ (T k).2.2 = 0 ∧ IsB wr (fun j => j < w.heap.size) v (T k).2.1 ∧ Blk wr w.heap.size 108 (ai zeroD) ∧ Blk wr W.heap.size 108 (ai (T k).1) ∧ Below w.heap.size w wr) (fun _ i _ => 8 - (intOf i).toNat)
          case atStart => exact ⟨0, by omega, rfl, by rw [HT0.out], by rw [HT0.out]; exact hZ0, hZ1, by rw [HT0.out]; exact hZ2, hZ3⟩
          case round =>
            obtain ⟨k, hk, rfl, he, hv, hbC, hbD, hbw⟩ := hrel
            obtain ⟨A', c', rfl, hvl, hvm, hvr⟩ := hv
            clear hZ0 hZ1 hZ2 hZ3
            by_cases hlt : k < 8
            · have hb1 := and_eq hm hlt
              have hb2 := and_eq hs hlt
              cases hm1 : bitN m.toNat k with
              | true =>
                have hsg : signN m.toNat s.toNat k = 1 := by unfold signN; rw [if_pos hm1]
                rw [hm1] at hb1
                clear hm1
                have hfs := firstsize_any (fun j => j < w.heap.size) A' c' (T k).2.1 wr hvl hvm hvr
                have hgo := HG.out k he (by rw [hsg]; omega)
                rw [hsg] at hgo
                have hfl := firstS_le (T k).2.1
                unfold FSPost at hfs
                obtain ⟨R, hR⟩ : ∃ R, R = firstS (T k).2.1 := ⟨_, rfl⟩
                rw [← hR] at hfs hgo hfl
                have hRl := hfl.2.1
                have Hfs := Lib.hid hfs
                rw [show (1 : Int) * (R.1 : Int) = (R.1 : Int) by omega] at hgo
                have Hgo := Lib.hid hgo
                have HbC := Lib.hid hbC
                have HbD := Lib.hid hbD
                have HR2 := Lib.hid hR
                have He := Lib.hid he
                clear hfs hgo hR hfl he
                by_cases hq : R.2.2 = 0
                · have hq0 := Lib.hid hq
                  have hq' : ((R.2.2 : Int) != 0) = false := by rw [hq]; rfl
                  have hcell := hbD.cell k
                  rw [ai_get _ hlt] at hcell
                  have hfrz := hbD.frozen k
                  clear hbC hbD hq
                  go_wp2_with (go_at_call 70; refine Hfs.out.mono ?_; rintro e w1 ⟨⟨y, rfl, hy⟩, nd, rfl⟩)
                  go_roundw
                  case rel =>
                    have hset := HbD.out.set_ k (.int .i64 (R.1 : Int))
                    rw [ai_set _ k _ hlt] at hset
                    refine ⟨k + 1, by omega, by go_num, ?_, ?_, ?_, ?_, ?_⟩
                    · rw [Hgo.out]; exact hq0.out
                    · rw [Hgo.out]
                      obtain ⟨A2, c2, rfl, h1, h2, h3⟩ := hy
                      exact ⟨A2, c2, rfl, h1, h2, h3.frame (fun j hj _ => Below.heap_setCell _ _ _ j (by show j ≠ W.heap.size; omega))⟩
                    · exact Blk.far (w := wr.drewN nd) HbC.out (by show w.heap.size ≠ W.heap.size; omega) _
                    · rw [Hgo.out]; exact hset
                    · exact (below_drewN hbw nd).setCell (by show w.heap.size ≤ W.heap.size; omega) _
                  case measure => simp [intOf]; omega
                · have hq' : ((R.2.2 : Int) != 0) = true := by rw [bne_iff_ne]; omega
                  have hT8 : (T 8).2.2 = R.2.2 := by
                    have := HE.out (k + 1) (by rw [Hgo.out]; exact hq) (8 - (k + 1))
                    rw [show k + 1 + (8 - (k + 1)) = 8 by omega] at this
                    rw [this, Hgo.out]
                  have hfin := HV.out
                  rw [hT8, if_pos hq] at hfin
                  have Hfin := Lib.hid hfin
                  clear hbC hbD hq hT8 hfin
                  go_wp2_with (first | (go_at_call 70; refine Hfs.out.mono ?_; rintro e w1 ⟨⟨y, rfl, hy⟩, nd, rfl⟩) | (refine wpList_store_row rfl 108 (.tmp 2) (.tmp 55) rfl w.heap.size (ai zeroD) rfl rfl 108 _ (by exact HbC.out) diff_info rfl (ai_one _) ?_))
                  try rw [Exit.noGoto_ret]
                  have hend := HbC.out.setRow_ (ai zeroD)
                  exact bodyPost_ret (v := .tuple #[.agg (ai zeroD), .int .i64 (R.2.2 : Int)]) (results_cell_tmp Try.results69 _ _ w.heap.size 108 (ai zeroD) (0, 0) _ _ rfl rfl hend Try.underlying108 rfl diff_info) rfl (RDPost.of Hfin.out (below_setRow (below_drewN hbw _) (by omega) _))
              | false =>
                cases hs1 : bitN s.toNat k with
                | true =>
                  have hsg : signN m.toNat s.toNat k = -1 := by unfold signN; rw [hm1, hs1]; rfl
                  rw [hm1] at hb1
                  rw [hs1] at hb2
                  clear hm1 hs1
                  have hfs := firstsize_any (fun j => j < w.heap.size) A' c' (T k).2.1 wr hvl hvm hvr
                  have hgo := HG.out k he (by rw [hsg]; omega)
                  rw [hsg] at hgo
                  have hfl := firstS_le (T k).2.1
                  unfold FSPost at hfs
                  obtain ⟨R, hR⟩ : ∃ R, R = firstS (T k).2.1 := ⟨_, rfl⟩
                  rw [← hR] at hfs hgo hfl
                  have hRl := hfl.2.1
                  have Hfs := Lib.hid hfs
                  rw [show (-1 : Int) * (R.1 : Int) = -(R.1 : Int) by omega] at hgo
                  have Hgo := Lib.hid hgo
                  have HbC := Lib.hid hbC
                  have HbD := Lib.hid hbD
                  have HR2 := Lib.hid hR
                  have He := Lib.hid he
                  clear hfs hgo hR hfl he
                  by_cases hq : R.2.2 = 0
                  · have hq0 := Lib.hid hq
                    have hq' : ((R.2.2 : Int) != 0) = false := by rw [hq]; rfl
                    have hcell := hbD.cell k
                    rw [ai_get _ hlt] at hcell
                    have hfrz := hbD.frozen k
                    clear hbC hbD hq
                    go_wp2_with (go_at_call 70; refine Hfs.out.mono ?_; rintro e w1 ⟨⟨y, rfl, hy⟩, nd, rfl⟩)
                    go_roundw
                    case rel =>
                      have hset := HbD.out.set_ k (.int .i64 (-(R.1 : Int)))
                      rw [ai_set _ k _ hlt] at hset
                      refine ⟨k + 1, by omega, by go_num, ?_, ?_, ?_, ?_, ?_⟩
                      · rw [Hgo.out]; exact hq0.out
                      · rw [Hgo.out]
                        obtain ⟨A2, c2, rfl, h1, h2, h3⟩ := hy
                        exact ⟨A2, c2, rfl, h1, h2, h3.frame (fun j hj _ => Below.heap_setCell _ _ _ j (by show j ≠ W.heap.size; omega))⟩
                      · exact Blk.far (w := wr.drewN nd) HbC.out (by show w.heap.size ≠ W.heap.size; omega) _
                      · rw [Hgo.out]; exact hset
                      · exact (below_drewN hbw nd).setCell (by show w.heap.size ≤ W.heap.size; omega) _
                    case measure => simp [intOf]; omega
                  · have hq' : ((R.2.2 : Int) != 0) = true := by rw [bne_iff_ne]; omega
                    have hT8 : (T 8).2.2 = R.2.2 := by
                      have := HE.out (k + 1) (by rw [Hgo.out]; exact hq) (8 - (k + 1))
                      rw [show k + 1 + (8 - (k + 1)) = 8 by omega] at this
                      rw [this, Hgo.out]
                    have hfin := HV.out
                    rw [hT8, if_pos hq] at hfin
                    have Hfin := Lib.hid hfin
                    clear hbC hbD hq hT8 hfin
                    go_wp2_with (first | (go_at_call 70; refine Hfs.out.mono ?_; rintro e w1 ⟨⟨y, rfl, hy⟩, nd, rfl⟩) | (refine wpList_store_row rfl 108 (.tmp 2) (.tmp 55) rfl w.heap.size (ai zeroD) rfl rfl 108 _ (by exact HbC.out) diff_info rfl (ai_one _) ?_))
                    try rw [Exit.noGoto_ret]
                    have hend := HbC.out.setRow_ (ai zeroD)
                    exact bodyPost_ret (v := .tuple #[.agg (ai zeroD), .int .i64 (R.2.2 : Int)]) (results_cell_tmp Try.results69 _ _ w.heap.size 108 (ai zeroD) (0, 0) _ _ rfl rfl hend Try.underlying108 rfl diff_info) rfl (RDPost.of Hfin.out (below_setRow (below_drewN hbw _) (by omega) _))
                | false =>
                  have hsg : signN m.toNat s.toNat k = 0 := by unfold signN; rw [hm1, hs1]; rfl
                  have hsk := HK.out k hsg
                  rw [hm1] at hb1
                  rw [hs1] at hb2
                  clear hm1 hs1
                  have Hsk := Lib.hid hsk
                  clear hsk
                  go_wp2_with fail
                  go_roundw
                  case rel => exact ⟨k + 1, by omega, by go_num, by rw [Hsk.out]; exact he, by rw [Hsk.out]; exact ⟨A', c', rfl, hvl, hvm, hvr⟩, hbC, by rw [Hsk.out]; exact hbD, hbw⟩
                  case measure => simp [intOf]; omega
            · obtain rfl : k = 8 := by omega
              have hfin := HV.out
              rw [if_neg (by rw [he]; simp)] at hfin
              have HbC := Lib.hid hbC
              have HbD := Lib.hid hbD
              clear hbC hbD he
              by_cases hnil : (T 8).2.1 = []
              · rw [if_neg (by rw [hnil]; simp)] at hfin
                have Hfin := Lib.hid hfin
                have hl0 : (T 8).2.1.length = 0 := by rw [hnil]; rfl
                clear hfin hnil
                go_wp2_with (first | (refine wpList_load_row rfl 108 (.tmp 7) rfl W.heap.size rfl 108 (ai (T 8).1) (0, 0) _ (by exact HbD.out) Try.underlying108 rfl diff_info ?_) | (refine wpList_store_row rfl 108 (.tmp 2) (.tmp 68) rfl w.heap.size (ai (T 8).1) rfl rfl 108 (ai zeroD) (by exact HbC.out) diff_info rfl (ai_one _) ?_))
                try rw [Exit.noGoto_ret]
                have hend := HbC.out.setRow_ (ai (T 8).1)
                exact bodyPost_ret (v := .tuple #[.agg (ai (T 8).1), .int .i64 0]) (results_cell_tmp Try.results69 _ _ w.heap.size 108 (ai (T 8).1) (0, 0) _ _ rfl rfl hend Try.underlying108 rfl diff_info) rfl (RDPost.of Hfin.out (below_setRow hbw (by omega) _))
              · rw [if_pos hnil] at hfin
                have Hfin := Lib.hid hfin
                have hl0 : 0 < (T 8).2.1.length := List.length_pos_iff.2 hnil
                clear hfin hnil
                go_wp2_with (refine wpList_store_row rfl 108 (.tmp 2) (.tmp 67) rfl w.heap.size (ai zeroD) rfl rfl 108 _ (by exact HbC.out) diff_info rfl (ai_one _) ?_)
                try rw [Exit.noGoto_ret]
                have hend := HbC.out.setRow_ (ai zeroD)
                exact bodyPost_ret (v := .tuple #[.agg (ai zeroD), .int .i64 4]) (results_cell_tmp Try.results69 _ _ w.heap.size 108 (ai zeroD) (0, 0) _ _ rfl rfl hend Try.underlying108 rfl diff_info) rfl (RDPost.of Hfin.out (below_setRow hbw (by omega) _))
        · rw [if_neg (by assumption)] at hZ0
          have hws : w.heap.size < W.heap.size := HC.out.lt
          go_loopw [6, 31] (fun v i wr => ∃ k : Nat, k ≤ 8 ∧ i = .int .i64 (k : Int) ∧ (T k).2.2 = 0 ∧ IsB wr (fun j => j < w.heap.size) v (T k).2.1 ∧ Blk wr w.heap.size 108 (ai zeroD) ∧ Blk wr W.heap.size 108 (ai (T k).1) ∧ Below w.heap.size w wr) (fun _ i _ => 8 - (intOf i).toNat)
          case atStart => exact ⟨0, by omega, rfl, by rw [HT0.out], by rw [HT0.out]; exact hZ0, hZ1, by rw [HT0.out]; exact hZ2, hZ3⟩
          case round =>
            obtain ⟨k, hk, rfl, he, hv, hbC, hbD, hbw⟩ := hrel
            obtain ⟨A', c', rfl, hvl, hvm, hvr⟩ := hv
            clear hZ0 hZ1 hZ2 hZ3
            by_cases hlt : k < 8
            · have hb1 := and_eq hm hlt
              have hb2 := and_eq hs hlt
              cases hm1 : bitN m.toNat k with
              | true =>
                have hsg : signN m.toNat s.toNat k = 1 := by unfold signN; rw [if_pos hm1]
                rw [hm1] at hb1
                clear hm1
                have hfs := firstsize_any (fun j => j < w.heap.size) A' c' (T k).2.1 wr hvl hvm hvr
                have hgo := HG.out k he (by rw [hsg]; omega)
                rw [hsg] at hgo
                have hfl := firstS_le (T k).2.1
                unfold FSPost at hfs
                obtain ⟨R, hR⟩ : ∃ R, R = firstS (T k).2.1 := ⟨_, rfl⟩
                rw [← hR] at hfs hgo hfl
                have hRl := hfl.2.1
                have Hfs := Lib.hid hfs
                rw [show (1 : Int) * (R.1 : Int) = (R.1 : Int) by omega] at hgo
                have Hgo := Lib.hid hgo
                have HbC := Lib.hid hbC
                have HbD := Lib.hid hbD
                have HR2 := Lib.hid hR
                have He := Lib.hid he
                clear hfs hgo hR hfl he
                by_cases hq : R.2.2 = 0
                · have hq0 := Lib.hid hq
                  have hq' : ((R.2.2 : Int) != 0) = false := by rw [hq]; rfl
                  have hcell := hbD.cell k
                  rw [ai_get _ hlt] at hcell
                  have hfrz := hbD.frozen k
                  clear hbC hbD hq
                  go_wp2_with (go_at_call 70; refine Hfs.out.mono ?_; rintro e w1 ⟨⟨y, rfl, hy⟩, nd, rfl⟩)
                  go_roundw
                  case rel =>
                    have hset := HbD.out.set_ k (.int .i64 (R.1 : Int))
                    rw [ai_set _ k _ hlt] at hset
                    refine ⟨k + 1, by omega, by go_num, ?_, ?_, ?_, ?_, ?_⟩
                    · rw [Hgo.out]; exact hq0.out
                    · rw [Hgo.out]
                      obtain ⟨A2, c2, rfl, h1, h2, h3⟩ := hy
                      exact ⟨A2, c2, rfl, h1, h2, h3.frame (fun j hj _ => Below.heap_setCell _ _ _ j (by show j ≠ W.heap.size; omega))⟩
                    · exact Blk.far (w := wr.drewN nd) HbC.out (by show w.heap.size ≠ W.heap.size; omega) _
                    · rw [Hgo.out]; exact hset
                    · exact (below_drewN hbw nd).setCell (by show w.heap.size ≤ W.heap.size; omega) _
                  case measure => simp [intOf]; omega
                · have hq' : ((R.2.2 : Int) != 0) = true := by rw [bne_iff_ne]; omega
                  have hT8 : (T 8).2.2 = R.2.2 := by
                    have := HE.out (k + 1) (by rw [Hgo.out]; exact hq) (8 - (k + 1))
                    rw [show k + 1 + (8 - (k + 1)) = 8 by omega] at this
                    rw [this, Hgo.out]
                  have hfin := HV.out
                  rw [hT8, if_pos hq] at hfin
                  have Hfin := Lib.hid hfin
                  clear hbC hbD hq hT8 hfin
                  go_wp2_with (first | (go_at_call 70; refine Hfs.out.mono ?_; rintro e w1 ⟨⟨y, rfl, hy⟩, nd, rfl⟩) | (refine wpList_store_row rfl 108 (.tmp 2) (.tmp 55) rfl w.heap.size (ai zeroD) rfl rfl 108 _ (by exact HbC.out) diff_info rfl (ai_one _) ?_))
                  try rw [Exit.noGoto_ret]
                  have hend := HbC.out.setRow_ (ai zeroD)
                  exact bodyPost_ret (v := .tuple #[.agg (ai zeroD), .int .i64 (R.2.2 : Int)]) (results_cell_tmp Try.results69 _ _ w.heap.size 108 (ai zeroD) (0, 0) _ _ rfl rfl hend Try.underlying108 rfl diff_info) rfl (RDPost.of Hfin.out (below_setRow (below_drewN hbw _) (by omega) _))
              | false =>
                cases hs1 : bitN s.toNat k with
                | true =>
                  have hsg : signN m.toNat s.toNat k = -1 := by unfold signN; rw [hm1, hs1]; rfl
                  rw [hm1] at hb1
                  rw [hs1] at hb2
                  clear hm1 hs1
                  have hfs := firstsize_any (fun j => j < w.heap.size) A' c' (T k).2.1 wr hvl hvm hvr
                  have hgo := HG.out k he (by rw [hsg]; omega)
                  rw [hsg] at hgo
                  have hfl := firstS_le (T k).2.1
                  unfold FSPost at hfs
                  obtain ⟨R, hR⟩ : ∃ R, R = firstS (T k).2.1 := ⟨_, rfl⟩
                  rw [← hR] at hfs hgo hfl
                  have hRl := hfl.2.1
                  have Hfs := Lib.hid hfs
                  rw [show (-1 : Int) * (R.1 : Int) = -(R.1 : Int) by omega] at hgo
                  have Hgo := Lib.hid hgo
                  have HbC := Lib.hid hbC
                  have HbD := Lib.hid hbD
                  have HR2 := Lib.hid hR
                  have He := Lib.hid he
                  clear hfs hgo hR hfl he
                  by_cases hq : R.2.2 = 0
                  · have hq0 := Lib.hid hq
                    have hq' : ((R.2.2 : Int) != 0) = false := by rw [hq]; rfl
                    have hcell := hbD.cell k
                    rw [ai_get _ hlt] at hcell
                    have hfrz := hbD.frozen k
                    clear hbC hbD hq
                    go_wp2_with (go_at_call 70; refine Hfs.out.mono ?_; rintro e w1 ⟨⟨y, rfl, hy⟩, nd, rfl⟩)
                    go_roundw
                    case rel =>
                      have hset := HbD.out.set_ k (.int .i64 (-(R.1 : Int)))
                      rw [ai_set _ k _ hlt] at hset
                      refine ⟨k + 1, by omega, by go_num, ?_, ?_, ?_, ?_, ?_⟩
                      · rw [Hgo.out]; exact hq0.out
                      · rw [Hgo.out]
                        obtain ⟨A2, c2, rfl, h1, h2, h3⟩ := hy
                        exact ⟨A2, c2, rfl, h1, h2, h3.frame (fun j hj _ => Below.heap_setCell _ _ _ j (by show j ≠ W.heap.size; omega))⟩
                      · exact Blk.far (w := wr.drewN nd) HbC.out (by show w.heap.size ≠ W.heap.size; omega) _
                      · rw [Hgo.out]; exact hset
                      · exact (below_drewN hbw nd).setCell (by show w.heap.size ≤ W.heap.size; omega) _
                    case measure => simp [intOf]; omega
                  · have hq' : ((R.2.2 : Int) != 0) = true := by rw [bne_iff_ne]; omega
                    have hT8 : (T 8).2.2 = R.2.2 := by
                      have := HE.out (k + 1) (by rw [Hgo.out]; exact hq) (8 - (k + 1))
                      rw [show k + 1 + (8 - (k + 1)) = 8 by omega] at this
                      rw [this, Hgo.out]
                    have hfin := HV.out
                    rw [hT8, if_pos hq] at hfin
                    have Hfin := Lib.hid hfin
                    clear hbC hbD hq hT8 hfin
                    go_wp2_with (first | (go_at_call 70; refine Hfs.out.mono ?_; rintro e w1 ⟨⟨y, rfl, hy⟩, nd, rfl⟩) | (refine wpList_store_row rfl 108 (.tmp 2) (.tmp 55) rfl w.heap.size (ai zeroD) rfl rfl 108 _ (by exact HbC.out) diff_info rfl (ai_one _) ?_))
                    try rw [Exit.noGoto_ret]
                    have hend := HbC.out.setRow_ (ai zeroD)
                    exact bodyPost_ret (v := .tuple #[.agg (ai zeroD), .int .i64 (R.2.2 : Int)]) (results_cell_tmp Try.results69 _ _ w.heap.size 108 (ai zeroD) (0, 0) _ _ rfl rfl hend Try.underlying108 rfl diff_info) rfl (RDPost.of Hfin.out (below_setRow (below_drewN hbw _) (by omega) _))
                | false =>
                  have hsg : signN m.toNat s.toNat k = 0 := by unfold signN; rw [hm1, hs1]; rfl
                  have hsk := HK.out k hsg
                  rw [hm1] at hb1
                  rw [hs1] at hb2
                  clear hm1 hs1
                  have Hsk := Lib.hid hsk
                  clear hsk
                  go_wp2_with fail
                  go_roundw
                  case rel => exact ⟨k + 1, by omega, by go_num, by rw [Hsk.out]; exact he, by rw [Hsk.out]; exact ⟨A', c', rfl, hvl, hvm, hvr⟩, hbC, by rw [Hsk.out]; exact hbD, hbw⟩
                  case measure => simp [intOf]; omega
            · obtain rfl : k = 8 := by omega
              have hfin := HV.out
              rw [if_neg (by rw [he]; simp)] at hfin
              have HbC := Lib.hid hbC
              have HbD := Lib.hid hbD
              clear hbC hbD he
              by_cases hnil : (T 8).2.1 = []
              · rw [if_neg (by rw [hnil]; simp)] at hfin
                have Hfin := Lib.hid hfin
                have hl0 : (T 8).2.1.length = 0 := by rw [hnil]; rfl
                clear hfin hnil
                go_wp2_with (first | (refine wpList_load_row rfl 108 (.tmp 7) rfl W.heap.size rfl 108 (ai (T 8).1) (0, 0) _ (by exact HbD.out) Try.underlying108 rfl diff_info ?_) | (refine wpList_store_row rfl 108 (.tmp 2) (.tmp 68) rfl w.heap.size (ai (T 8).1) rfl rfl 108 (ai zeroD) (by exact HbC.out) diff_info rfl (ai_one _) ?_))
                try rw [Exit.noGoto_ret]
                have hend := HbC.out.setRow_ (ai (T 8).1)
                exact bodyPost_ret (v := .tuple #[.agg (ai (T 8).1), .int .i64 0]) (results_cell_tmp Try.results69 _ _ w.heap.size 108 (ai (T 8).1) (0, 0) _ _ rfl rfl hend Try.underlying108 rfl diff_info) rfl (RDPost.of Hfin.out (below_setRow hbw (by omega) _))
              · rw [if_pos hnil] at hfin
                have Hfin := Lib.hid hfin
                have hl0 : 0 < (T 8).2.1.length := List.length_pos_iff.2 hnil
                clear hfin hnil
                go_wp2_with (refine wpList_store_row rfl 108 (.tmp 2) (.tmp 67) rfl w.heap.size (ai zeroD) rfl rfl 108 _ (by exact HbC.out) diff_info rfl (ai_one _) ?_)
                try rw [Exit.noGoto_ret]
                have hend := HbC.out.setRow_ (ai zeroD)
                exact bodyPost_ret (v := .tuple #[.agg (ai zeroD), .int .i64 4]) (results_cell_tmp Try.results69 _ _ w.heap.size 108 (ai zeroD) (0, 0) _ _ rfl rfl hend Try.underlying108 rfl diff_info) rfl (RDPost.of Hfin.out (below_setRow hbw (by omega) _))
end Go.Proofs.Ytkojoahamoffcaa

namespace Go.Proofs.Ytkojoahamoffcaa
open Go.RowKit
set_option maxRecDepth 100000

theorem diff_elem : (Try.prog.info? 108).map (fun i => i.zero) = some (some (.agg (ai zeroD))) := by kernel_rfl
/-- The first numbers of a vector, the others 0. -/
def cutV (V : Nat → Nat) (k : Nat) : Nat → Nat := fun i => if i < k then V i else 0
theorem cutV_zero (V : Nat → Nat) : av (cutV V 0) = av zeroV := av_congr fun i _ => by unfold cutV zeroV; simp
theorem cutV_full (V : Nat → Nat) : av (cutV V 8) = av V := av_congr fun i hi => by unfold cutV; simp [hi]
theorem cutV_step (V : Nat → Nat) {k : Nat} (hk : k < 8) : (av (cutV V k)).setIfInBounds k (.int .u32 (V k : Int)) = av (cutV V (k + 1)) := by
  rw [av_set _ k _ hk]
  exact av_congr fun i _ => by
    unfold updV cutV
    by_cases e : i = k
    · subst e; simp
    · rw [if_neg e]
      by_cases h : i < k
      · rw [if_pos h, if_pos (by omega)]
      · rw [if_neg h, if_neg (by omega)]
theorem farN_step {D : Nat → Int} {B : Nat → Nat} {k : Nat} (h : farN D B k = false) (h0 : 0 ≤ (B k : Int) + D k) (h1 : (B k : Int) + D k ≤ 4294967295) : farN D B (k + 1) = false := by
  rw [farN_false] at h ⊢
  intro i hi
  by_cases e : i = k
  · subst e; exact ⟨h0, h1⟩
  · exact h i (by omega)
theorem farN_hit {D : Nat → Int} {B : Nat → Nat} {k : Nat} (hk : k < 8) (h : (B k : Int) + D k < 0 ∨ 4294967295 < (B k : Int) + D k) : farN D B 8 = true := by
  cases e : farN D B 8
  · rw [farN_false] at e
    have := e k hk
    omega
  · rfl

def GrowPost (l : List UInt8) (B : Nat → Nat) (w : World) (e : Ending) (w' : World) : Prop :=
  e = .returned (.tuple #[vv (growV l B).1, .int .i64 ((growV l B).2 : Int)]) ∧ Below w.heap.size w w'
theorem GrowPost.of {l : List UInt8} {B V : Nat → Nat} {w w' : World} {e : Nat} (h : growV l B = (V, e)) (hb : Below w.heap.size w w') : GrowPost l B w (.returned (.tuple #[.agg (av V), .int .i64 (e : Int)])) w' := by
  refine ⟨?_, hb⟩
  rw [h]; rfl

set_option maxHeartbeats 400000 in
theorem grow_any (ok : Nat → Prop) (A : Option Addr) (c : Nat) (l : List UInt8) (B : Nat → Nat) (hB : okV B) (w : World) (hlc : l.length ≤ c) (hcm : c ≤ maxLen) (hr : Rd w ok A (l.map u8)) :
    Calls Try.prog 64 #[.slice A l.length c, vv B] w (GrowPost l B w) := by
  obtain ⟨h1, h2, hbel⟩ := boxes2 B zeroV w
  have hrd := fun w1 (hb : Below ((w.alloc (.cells (av B) 26)).alloc (.cells (av zeroV) 26)).heap.size ((w.alloc (.cells (av B) 26)).alloc (.cells (av zeroV) 26)) w1) => spread_any ok A c l w1 hlc hcm ((hr.grow hbel).grow hb)
  have hrd0 := hrd _ (Below.refl _ _)
  have hdo := readD_ok l
  have hgv : growV l B = if (readD l).2 ≠ 0 then (zeroV, (readD l).2) else if farN (readD l).1 B 8 = true then (zeroV, 7) else (addV (readD l).1 B, 0) := rfl
  unfold RDPost at hrd0
  generalize readD l = R at hgv hrd0 hdo
  obtain ⟨D, q⟩ := R
  simp only [] at hgv hrd0 hdo
  obtain ⟨W, hW⟩ : ∃ W, W = ((w.alloc (.cells (av B) 26)).alloc (.cells (av zeroV) 26)) := ⟨_, rfl⟩
  rw [← hW] at h1 h2 hbel hrd0
  have HW := Lib.hid hW
  have H1 := Lib.hid h1
  have H2 := Lib.hid h2
  have Hrd := Lib.hid hrd0
  have Hdo := Lib.hid hdo
  clear hW h1 h2 hrd0 hrd hdo hr
  have hsz := H2.out.lt
  unfold vv
  by_cases hq : q = 0
  · subst hq
    rw [if_neg (by simp)] at hgv
    have Hgv := Lib.hid hgv
    clear hgv
    go_enter Try.func64, Try.ntmps64
    go_wp2_with fail
    rw [← zero_av]
    rw [← HW.out]
    refine Hrd.out.mono ?_
    rintro e w1 ⟨rfl, hb1⟩
    have hD : Blk (w1.alloc (.cells (ai zeroD) 108)) w1.heap.size 108 (ai zeroD) := Blk.new w1 _ _
    have HD := Lib.hid hD
    clear hD
    have h1s := hb1.size
    obtain ⟨Z, hZ⟩ : ∃ Z, Z = ((w1.alloc (.cells (ai zeroD) 108)).setRow w1.heap.size (ai D)) := ⟨_, rfl⟩
    have hZD : Blk Z w1.heap.size 108 (ai D) := by rw [hZ]; exact HD.out.setRow_ (ai D)
    have hZ1 : Blk Z w.heap.size 26 (av B) := by rw [hZ]; exact Blk.setRowFar ((H1.out.grow hb1).alloc _) (by omega) _
    have hZ2 : Blk Z (w.heap.size + 1) 26 (av zeroV) := by rw [hZ]; exact Blk.setRowFar ((H2.out.grow hb1).alloc _) (by omega) _
    have hZs : Z.heap.size = w1.heap.size + 1 := by rw [hZ, setRow_size]; simp
    have hbZ : Below w.heap.size w Z := by rw [hZ]; exact below_setRow ((below_call hbel hb1).alloc (by omega) _) (by omega) _
    have HZ := Lib.hid hZ
    have HZD := Lib.hid hZD
    have HZ1 := Lib.hid hZ1
    have HZ2 := Lib.hid hZ2
    have HZs := Lib.hid hZs
    clear hZ hZD hZ1 hZ2
    go_wp2_with (first | (refine wpList_store_row rfl 108 (.tmp 6) (.tmp 15) rfl w1.heap.size (ai D) rfl rfl 108 (ai zeroD) (by exact HD.out) diff_info rfl (ai_one _) ?_; rw [show (ai zeroD) = #[.int .i64 0, .int .i64 0, .int .i64 0, .int .i64 0, .int .i64 0, .int .i64 0, .int .i64 0, .int .i64 0] from rfl] at HZ; rw [← HZ.out]) | (refine wpList_load_row rfl 108 (.tmp 6) rfl w1.heap.size rfl 108 (ai D) (0, 0) _ (by exact HZD.out.alloc _) Try.underlying108 rfl diff_info ?_))
    have hV3 : Blk (Z.alloc (.cells (av zeroV) 26)) Z.heap.size 26 (av zeroV) := Blk.new Z _ _
    have hV1 : Blk (Z.alloc (.cells (av zeroV) 26)) w.heap.size 26 (av B) := HZ1.out.alloc _
    have hV2 : Blk (Z.alloc (.cells (av zeroV) 26)) (w.heap.size + 1) 26 (av zeroV) := HZ2.out.alloc _
    have hV4 : Below w.heap.size w (Z.alloc (.cells (av zeroV) 26)) := hbZ.alloc (by have := HZs.out; omega) _
    rw [← cutV_zero (addV D B)] at hV3
    rw [HZs.out] at hV3
    have hgs : w.heap.size + 1 < w1.heap.size + 1 := by omega
    have HBok := Lib.hid hB
    clear hbZ hbel hb1 hsz h1s hB
    go_loopw [22] (fun i wr => ∃ k : Nat, k ≤ 8 ∧ i = .int .i64 (k : Int) ∧ farN D B k = false ∧ Blk wr w.heap.size 26 (av B) ∧ Blk wr (w.heap.size + 1) 26 (av zeroV) ∧ Blk wr (w1.heap.size + 1) 26 (av (cutV (addV D B) k)) ∧ Below w.heap.size w wr) (fun i _ => 8 - (intOf i).toNat)
    case atStart => exact ⟨0, by omega, rfl, by rw [farN_false]; intro i hi; omega, hV1, hV2, hV3, hV4⟩
    case round =>
      obtain ⟨k, hk, rfl, hfar, hb1, hb2, hb3, hbw⟩ := hrel
      clear hV1 hV2 hV3 hV4
      have Hfar := Lib.hid hfar
      have Hb2 := Lib.hid hb2
      have Hb3 := Lib.hid hb3
      by_cases hlt : k < 8
      · have hi := fun w => diff_index D k hlt w
        have hc1 := hb1.cell k
        rw [av_get B hlt] at hc1
        have hBk := HBok.out k hlt
        have hDk := Hdo.out k
        have hw1 : IntKind.i64.wrap (B k : Int) = (B k : Int) := IntWalk.i64_in _ (by omega)
        have hw2 : IntKind.i64.wrap ((B k : Int) + D k) = (B k : Int) + D k := IntWalk.i64_in _ (by omega)
        by_cases hout : (B k : Int) + D k < 0 ∨ 4294967295 < (B k : Int) + D k
        · have hv := Hgv.out
          rw [if_pos (farN_hit hlt hout)] at hv
          have Hv := Lib.hid hv
          clear hv hfar hb2 hb3
          rcases (show ((B k : Int) + D k < 0) ∨ (0 ≤ (B k : Int) + D k) by omega) with h0 | h0
          · have hd0 : decide ((B k : Int) + D k < 0) = true := by rw [decide_eq_true_iff]; exact h0
            clear hout h0 hBk hDk
            go_wp2_with (refine wpList_store_row rfl 26 (.tmp 4) (.tmp 38) rfl (w.heap.size + 1) (av zeroV) rfl rfl 26 (av zeroV) (by exact Hb2.out) vec_info rfl (av_one _) ?_)
            have hend := Hb2.out.setRow_ (av zeroV)
            exact bodyPost_ret (v := .tuple #[.agg (av zeroV), .int .i64 7]) (results_cell_tmp Try.results64 _ _ (w.heap.size + 1) 26 (av zeroV) (0, 0) _ _ rfl rfl hend Try.underlying26 rfl vec_info) rfl (GrowPost.of Hv.out (below_setRow hbw (by omega) _))
          · have hd0 : decide ((B k : Int) + D k < 0) = false := by rw [decide_eq_false_iff_not]; omega
            have hd1 : decide (4294967295 < (B k : Int) + D k) = true := by rw [decide_eq_true_iff]; omega
            clear hout h0 hBk hDk
            go_wp2_with (refine wpList_store_row rfl 26 (.tmp 4) (.tmp 38) rfl (w.heap.size + 1) (av zeroV) rfl rfl 26 (av zeroV) (by exact Hb2.out) vec_info rfl (av_one _) ?_)
            have hend := Hb2.out.setRow_ (av zeroV)
            exact bodyPost_ret (v := .tuple #[.agg (av zeroV), .int .i64 7]) (results_cell_tmp Try.results64 _ _ (w.heap.size + 1) 26 (av zeroV) (0, 0) _ _ rfl rfl hend Try.underlying26 rfl vec_info) rfl (GrowPost.of Hv.out (below_setRow hbw (by omega) _))
        · have hin : 0 ≤ (B k : Int) + D k ∧ (B k : Int) + D k ≤ 4294967295 := by omega
          have hd0 : decide ((B k : Int) + D k < 0) = false := by rw [decide_eq_false_iff_not]; omega
          have hd1 : decide (4294967295 < (B k : Int) + D k) = false := by rw [decide_eq_false_iff_not]; omega
          have hw3 : IntKind.u32.wrap ((B k : Int) + D k) = (B k : Int) + D k := by rw [IntKind.wrap_u32]; omega
          have hcell := hb3.cell k
          rw [av_get _ hlt] at hcell
          have hfrz := hb3.frozen k
          have Hin := Lib.hid hin
          have Hb1 := Lib.hid hb1
          clear hfar hb2 hb3 hout hin hBk hDk
          go_wp2_with fail
          go_roundw
          case rel =>
            have hset := Hb3.out.set_ k (.int .u32 ((addV D B k : Nat) : Int))
            rw [cutV_step _ hlt] at hset
            rw [show ((addV D B k : Nat) : Int) = (B k : Int) + D k from by unfold addV; have := Hin.out; omega] at hset
            exact ⟨k + 1, by omega, by go_num, farN_step Hfar.out Hin.out.1 Hin.out.2, Hb1.out.far (by show w.heap.size ≠ w1.heap.size + 1; omega) _, Hb2.out.far (by show w.heap.size + 1 ≠ w1.heap.size + 1; omega) _, hset, hbw.setCell (by show w.heap.size ≤ w1.heap.size + 1; omega) _⟩
          case measure => simp [intOf]; omega
      · obtain rfl : k = 8 := by omega
        have hv := Hgv.out
        rw [if_neg (by rw [Hfar.out]; simp)] at hv
        have Hv := Lib.hid hv
        rw [cutV_full] at hb3
        have Hb8 := Lib.hid hb3
        clear hv hfar hb2 hb3 hb1
        go_wp2_with (first | (refine wpList_load_row rfl 26 (.tmp 8) rfl (w1.heap.size + 1) rfl 26 (av (addV D B)) (0, 0) _ (by exact Hb8.out) Try.underlying26 rfl vec_info ?_) | (refine wpList_store_row rfl 26 (.tmp 4) (.tmp 44) rfl (w.heap.size + 1) (av (addV D B)) rfl rfl 26 (av zeroV) (by exact Hb2.out) vec_info rfl (av_one _) ?_))
        have hend := Hb2.out.setRow_ (av (addV D B))
        exact bodyPost_ret (v := .tuple #[.agg (av (addV D B)), .int .i64 0]) (results_cell_tmp Try.results64 _ _ (w.heap.size + 1) 26 (av (addV D B)) (0, 0) _ _ rfl rfl hend Try.underlying26 rfl vec_info) rfl (GrowPost.of Hv.out (below_setRow hbw (by omega) _))
  · rw [if_pos hq] at hgv
    have Hgv := Lib.hid hgv
    have hq' : ((q : Int) != 0) = true := by rw [bne_iff_ne]; omega
    clear hgv hq
    go_enter Try.func64, Try.ntmps64
    go_wp2_with fail
    rw [← zero_av]
    rw [← HW.out]
    refine Hrd.out.mono ?_
    rintro e w1 ⟨rfl, hb1⟩
    have hD : Blk (w1.alloc (.cells (ai zeroD) 108)) w1.heap.size 108 (ai zeroD) := Blk.new w1 _ _
    have HD := Lib.hid hD
    clear hD
    have h1s := hb1.size
    obtain ⟨Z, hZ⟩ : ∃ Z, Z = ((w1.alloc (.cells (ai zeroD) 108)).setRow w1.heap.size (ai D)) := ⟨_, rfl⟩
    have hZ2 : Blk Z (w.heap.size + 1) 26 (av zeroV) := by rw [hZ]; exact Blk.setRowFar ((H2.out.grow hb1).alloc _) (by omega) _
    have hbZ : Below w.heap.size w Z := by rw [hZ]; exact below_setRow ((below_call hbel hb1).alloc (by omega) _) (by omega) _
    have HZ := Lib.hid hZ
    have HZ2 := Lib.hid hZ2
    clear hZ hZ2
    go_wp2_with (first | (refine wpList_store_row rfl 108 (.tmp 6) (.tmp 15) rfl w1.heap.size (ai D) rfl rfl 108 (ai zeroD) (by exact HD.out) diff_info rfl (ai_one _) ?_; rw [show (ai zeroD) = #[.int .i64 0, .int .i64 0, .int .i64 0, .int .i64 0, .int .i64 0, .int .i64 0, .int .i64 0, .int .i64 0] from rfl] at HZ; rw [← HZ.out]) | (refine wpList_store_row rfl 26 (.tmp 4) (.tmp 19) rfl (w.heap.size + 1) (av zeroV) rfl rfl 26 (av zeroV) (by exact HZ2.out) vec_info rfl (av_one _) ?_))
    have hend := HZ2.out.setRow_ (av zeroV)
    exact bodyPost_ret (v := .tuple #[.agg (av zeroV), .int .i64 (q : Int)]) (results_cell_tmp Try.results64 _ _ (w.heap.size + 1) 26 (av zeroV) (0, 0) _ _ rfl rfl hend Try.underlying26 rfl vec_info) rfl (GrowPost.of Hgv.out (below_setRow hbZ (by omega) _))
end Go.Proofs.Ytkojoahamoffcaa
