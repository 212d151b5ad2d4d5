/-
  span.firstSize: the first difference of bytes.
-/
import Derived.Test.YtpfhhkdmgkkidaaSpMath
import Derived.Test.YtpfhhkdmgkkidaaSpVec
import Derived.Test.YtpfhhkdmgkkidaaQuiet
import Derived.Deep.QuietTactic
import Derived.BigQuiet
import Derived.Lib.Hide
namespace Go.Proofs.Ytpfhhkdmgkkidaa
open Go.RowKit
set_option maxRecDepth 100000

theorem IsB.none_ {w : World} {ok : Nat → Prop} : IsB w ok (.slice none 0 0) [] := ⟨none, 0, rfl, Nat.le_refl _, Nat.zero_le _, Rd.nil⟩
theorem IsB.of {w : World} {ok : Nat → Prop} {A : Option Addr} {n c : Nat} {l : List UInt8} (hn : n = l.length) (hc : l.length ≤ c) (hm : c ≤ maxLen) (hr : Rd w ok A (l.map u8)) : IsB w ok (.slice A n c) l := ⟨A, c, by rw [hn], hc, hm, hr⟩
theorem IsB.nil_any {w : World} {ok : Nat → Prop} {A : Option Addr} {c : Nat} (h : c ≤ maxLen) : IsB w ok (.slice A 0 c) [] := ⟨A, c, rfl, Nat.zero_le _, h, Rd.nil⟩
/-- What firstSize answers. -/
def FSPost (ok : Nat → Prop) (l : List UInt8) (w : World) (e : Ending) (w' : World) : Prop :=
  (∃ y, e = .returned (.tuple #[.int .i64 ((firstS l).1 : Int), y, .int .i64 ((firstS l).2.2 : Int)]) ∧ IsB w' ok y (firstS l).2.1) ∧ ∃ n, w' = w.drewN n
theorem FSPost.err {ok : Nat → Prop} {l : List UInt8} {w : World} {k n : Nat} (h : firstS l = (0, [], k)) : FSPost ok l w (.returned (.tuple #[.int .i64 0, .slice none 0 0, .int .i64 (k : Int)])) (w.drewN n) := by
  refine ⟨⟨.slice none 0 0, ?_, ?_⟩, n, rfl⟩ <;> rw [h]
  · rfl
  · exact IsB.none_
theorem FSPost.fine {ok : Nat → Prop} {l r : List UInt8} {m n : Nat} {w : World} {y : Value} (h : firstS l = (m, r, 0)) (hy : IsB w ok y r) : FSPost ok l w (.returned (.tuple #[.int .i64 (m : Int), y, .int .i64 0])) (w.drewN n) := by
  refine ⟨⟨y, ?_, ?_⟩, n, rfl⟩ <;> rw [h]
  · rfl
  · exact hy.drewN _

set_option maxHeartbeats 400000 in
theorem firstsize_any (ok : Nat → Prop) (A : Option Addr) (c : Nat) (l : List UInt8) (w : World) (hlc : l.length ≤ c) (hcm : c ≤ maxLen) (hr : Rd w ok A (l.map u8)) :
    Calls Try.prog 24 #[.slice A l.length c] w (FSPost ok l w) := by
  have hcm' := hcm
  unfold maxLen at hcm
  rcases l with _ | ⟨x0, r⟩
  · have hf : firstS [] = (0, [], 8) := rfl
    have Hf := Lib.hid hf
    clear hf hr
    go_enter Try.func24, Try.ntmps24
    go_wp2
    go_ret3
    exact FSPost.err (n := 0) Hf.out
  · have hb0 := x0.toNat_lt
    have hr1 : ∀ b off, A = some ⟨b, off, none⟩ → Rd w ok (some ⟨b, off + 1, none⟩) (r.map u8) := fun b off e => by
      subst e
      have := hr.drop' (k := 1)
      simpa using this
    obtain ⟨b, off, rfl, _, _, hc⟩ := hr.byte (by simp)
    have hr1 := hr1 b off rfl
    have hc0 := hc 0 (by simp)
    rw [Nat.add_zero] at hc0
    simp only [List.getElem_cons_zero] at hc0
    have hl1 : (x0 :: r).length = r.length + 1 := rfl
    rw [hl1] at hlc ⊢
    clear hl1 hc hr
    have hfs : firstS (x0 :: r) = if r.length < x0.toNat then (0, [], 8) else if (asNumV (r.take x0.toNat)).2 ≠ 0 ∨ (asNumV (r.take x0.toNat)).1 = 0 ∨ 4294967295 < (asNumV (r.take x0.toNat)).1 then (0, [], 7) else ((asNumV (r.take x0.toNat)).1, r.drop x0.toNat, 0) := rfl
    by_cases hcut : r.length < x0.toNat
    · rw [if_pos hcut] at hfs
      have Hf := Lib.hid hfs
      clear hfs hr1
      go_enter Try.func24, Try.ntmps24
      go_wp2_with fail
      go_quiet (fail)
      all_goals go_wp2
      all_goals go_ret3
      all_goals exact FSPost.err Hf.out
    · rw [if_neg hcut] at hfs
      by_cases hc1 : c = 1
      · subst hc1
        have h0 : x0.toNat = 0 := by omega
        have hr0 : r = [] := List.eq_nil_of_length_eq_zero (by omega)
        subst hr0
        have hx : x0 = 0 := UInt8.toNat_inj.1 (by simpa using h0)
        subst hx
        have hf : firstS [0] = (0, [], 7) := by decide
        have Hf := Lib.hid hf
        have hasn := fun w' => asnum_any ok (some ⟨b, off, none⟩) 0 [] w' (by simp) Rd.nil
        have Hasn := Lib.hid hasn
        clear hfs hf hasn hr1 h0 hcut hb0
        simp only [UInt8.toNat_zero] at hc0
        have hc0' : w.cell? ⟨b, off, none⟩ = some (.int .u8 0) := hc0
        clear hc0
        simp only [List.length_nil]
        go_enter Try.func24, Try.ntmps24
        go_wp2_with fail
        go_quiet (fail)
        go_wp2_with (go_at_call 27; refine (Hasn.out _).mono ?_; rintro e w1 ⟨rfl, rfl⟩)
        go_ret3
        exact FSPost.err Hf.out
      · have hlt : (r.take x0.toNat).length = x0.toNat := by rw [List.length_take]; omega
        have hasn := fun w' (hr' : Rd w' ok (some ⟨b, off + 1, none⟩) (r.map u8)) => asnum_any ok (some ⟨b, off + 1, none⟩) (c - 1) (r.take x0.toNat) w' (by unfold maxLen; omega) (by rw [List.map_take]; exact hr'.take)
        rw [hlt] at hasn
        clear hlt
        have hm64 : (asNumV (r.take x0.toNat)).1 < 18446744073709551616 := by
          unfold asNumV
          split
          · omega
          · split
            · omega
            · have := asNum_lt64 (r.take x0.toNat) (by omega)
              simpa using this
        generalize asNumV (r.take x0.toNat) = R at hfs hasn hm64
        obtain ⟨m, q⟩ := R
        simp only [] at hfs hasn hm64
        have Hr1 := Lib.hid hr1
        have Hasn := Lib.hid hasn
        clear hr1 hasn
        by_cases hq : q ≠ 0
        · rw [if_pos (.inl hq)] at hfs
          have Hf := Lib.hid hfs
          have hq' : ((q : Int) != 0) = true := by rw [bne_iff_ne]; omega
          clear hfs hq
          go_enter Try.func24, Try.ntmps24
          go_wp2_with fail
          go_quiet (fail)
          go_wp2_with (go_at_call 27; refine (Hasn.out _ (Hr1.out.drewN _)).mono ?_; rintro e w1 ⟨rfl, rfl⟩)
          go_ret3
          exact FSPost.err Hf.out
        · obtain rfl : q = 0 := by omega
          by_cases hm0 : m = 0
          · subst hm0
            rw [if_pos (.inr (.inl rfl))] at hfs
            have Hf := Lib.hid hfs
            clear hfs hq
            go_enter Try.func24, Try.ntmps24
            go_wp2_with fail
            go_quiet (fail)
            go_wp2_with (go_at_call 27; refine (Hasn.out _ (Hr1.out.drewN _)).mono ?_; rintro e w1 ⟨rfl, rfl⟩)
            go_ret3
            exact FSPost.err Hf.out
          · have hm0' : ((m : Int) == 0) = false := by rw [beq_eq_false_iff_ne]; omega
            by_cases hbig : 4294967295 < m
            · rw [if_pos (.inr (.inr hbig))] at hfs
              have Hf := Lib.hid hfs
              have hbig' : decide ((4294967295 : Int) < (m : Int)) = true := by rw [decide_eq_true_iff]; omega
              clear hfs hq hbig hm0
              go_enter Try.func24, Try.ntmps24
              go_wp2_with fail
              go_quiet (fail)
              go_wp2_with (go_at_call 27; refine (Hasn.out _ (Hr1.out.drewN _)).mono ?_; rintro e w1 ⟨rfl, rfl⟩)
              go_ret3
              exact FSPost.err Hf.out
            · rw [if_neg (by simp only [not_or]; exact ⟨fun h => h rfl, hm0, hbig⟩)] at hfs
              have Hf := Lib.hid hfs
              have hbig' : decide ((4294967295 : Int) < (m : Int)) = false := by rw [decide_eq_false_iff_not]; omega
              have hw : IntKind.i64.wrap (m : Int) = (m : Int) := IntWalk.i64_in _ (by omega)
              have Hbig := Lib.hid hbig
              clear hfs hq hbig hm0
              by_cases hcn : c - 1 = x0.toNat
              · have hcn' := Lib.hid hcn
                have hy : r.drop x0.toNat = [] := List.drop_eq_nil_of_le (by omega)
                have Hy := Lib.hid hy
                have hasn2 := Hasn.out
                rw [hcn] at hasn2
                have Hasn2 := Lib.hid hasn2
                clear hy hasn2
                go_enter Try.func24, Try.ntmps24
                go_wp2_with fail
                go_quiet (fail)
                go_wp2_with (go_at_call 27; refine (Hasn2.out _ (Hr1.out.drewN _)).mono ?_; rintro e w1 ⟨rfl, rfl⟩)
                go_quiet (fail)
                go_wp2
                go_ret3
                rw [World.drewN_drewN]
                refine FSPost.fine Hf.out ?_
                rw [Hy.out]
                exact IsB.of (by simp; omega) (Nat.zero_le _) (by unfold maxLen; omega) Rd.nil
              · go_enter Try.func24, Try.ntmps24
                go_wp2_with fail
                go_quiet (fail)
                go_wp2_with (go_at_call 27; refine (Hasn.out _ (Hr1.out.drewN _)).mono ?_; rintro e w1 ⟨rfl, rfl⟩)
                go_quiet (fail)
                go_wp2
                go_ret3
                rw [World.drewN_drewN]
                refine FSPost.fine Hf.out (IsB.of ?_ ?_ ?_ ?_)
                · rw [List.length_drop]
                · rw [List.length_drop]; omega
                · unfold maxLen; omega
                · rw [List.map_drop]; exact Hr1.out.drop'
end Go.Proofs.Ytpfhhkdmgkkidaa
