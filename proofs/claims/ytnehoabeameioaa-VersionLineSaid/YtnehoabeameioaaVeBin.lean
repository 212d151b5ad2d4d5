/-
  slices.BinarySearchFunc at versions; version.find.
-/
import Derived.Test.YtnehoabeameioaaVeFind
namespace Go.Proofs.Ytnehoabeameioaa
open Go.RowKit
set_option maxRecDepth 100000

theorem info_list {n : Nat} {A : Array Value} {t : TypeId} (h : (Try.prog.info? t).map (·.size) = some n) (hA : A.size = n) : (Try.prog.info? t).map (·.size) = some A.toList.length := by rw [h, Array.length_toList, hA]

set_option maxHeartbeats 2000000 in
theorem bin_any (ok : Nat → Prop) (v : Value) (L : List Ver) (r : Int) (s : Nat) (w : World) (hL : IsL kVer w ok v L) (hl : L.length ≤ 1000) (hs : SortedV L) :
    Calls Try.prog 50 #[v, .agg (idC r s), .func (.func 51) #[] #[]] w fun e w' => e = .returned (.tuple #[.int .i64 (posV L r s : Int), .bool (thereV L r s)]) ∧ Below w.heap.size w w' := by
  obtain ⟨A, c, rfl, hc1, hc2, hL⟩ := ver_at hL
  have hm : maxLen ≤ 9223372036854775807 := by decide
  obtain ⟨I, hI⟩ : ∃ I, I = idC r s := ⟨_, rfl⟩
  have hi : (Try.prog.info? 35).map (·.size) = some I.toList.length := by rw [hI]; exact id_info
  have Hi := Lib.hid hi
  have hcmp := fun (x : Ver) (z : World) => cmp_any x r s z
  rw [← hI] at hcmp ⊢
  have Hcmp := Lib.hid hcmp
  have eg : ∀ args w, (callFunc 51 args).run Try.prog w = .ok (.enter 51 args) w := enters_of Try.func51 (by kernel_rfl) rfl
  have Hel := Lib.hid hL
  have Hs := Lib.hid hs
  obtain ⟨n, hn⟩ : ∃ n, n = L.length := ⟨_, rfl⟩
  rw [← hn] at hc1 hl ⊢
  have Hn := Lib.hid hn
  have hbox : Blk (w.alloc (.cells I 35)) w.heap.size 35 I := Blk.new _ _ _
  have hbel : Below w.heap.size w (w.alloc (.cells I 35)) := (Below.refl _ _).alloc (Nat.le_refl _) _
  have Hbox := Lib.hid hbox
  have Hbel := Lib.hid hbel
  obtain ⟨P, hP⟩ : ∃ P : Nat, P = posV L r s := ⟨_, rfl⟩
  obtain ⟨T, hT⟩ : ∃ T, T = thereV L r s := ⟨_, rfl⟩
  rw [← hP, ← hT]
  have HP := Lib.hid hP
  have HT := Lib.hid hT
  have hPe : ∀ lo : Nat, lo ≤ n → (∀ t (h : t < L.length), t < lo → lessV L[t].rep L[t].seq r s = true) → (∀ t (h : t < L.length), lo ≤ t → lessV L[t].rep L[t].seq r s = false) → P = lo ∧ T = if h : lo < L.length then decide (cmpV L[lo] r s = 0) else false := fun lo h0 h1 h2 => by
    refine ⟨?_, ?_⟩
    · rw [hP]; exact takeWhile_pos _ L lo (by omega) h1 (fun h => h2 lo h (Nat.le_refl _))
    · rw [hT]; exact there_at hs (by omega) h1 h2
  have HPe := Lib.hid hPe
  have hmono : ∀ k (hk : k < L.length), (lessV L[k].rep L[k].seq r s = true → ∀ t (h : t < L.length), t < k + 1 → lessV L[t].rep L[t].seq r s = true) ∧ (lessV L[k].rep L[k].seq r s = false → ∀ t (h : t < L.length), k ≤ t → lessV L[t].rep L[t].seq r s = false) := fun k hk => by
    refine ⟨fun h t ht hlt => ?_, fun h t ht hle => ?_⟩
    · by_cases e : t = k
      · subst e; exact h
      · exact lessV_trans (hs t k ht hk (by omega)) h
    · by_cases e : t = k
      · subst e; exact h
      · rw [Bool.eq_false_iff]
        intro h'
        rw [lessV_trans (hs k t hk ht (by omega)) h'] at h
        cases h
  have Hmono := Lib.hid hmono
  clear hI hi hcmp hL hs hn hbox hbel hP hT hPe hmono
  go_enter Try.func50, Try.ntmps50
  go_wp2_with fail
  go_loopw [9, 10] (fun i j wr => ∃ lo hi : Nat, i = .int .i64 (lo : Int) ∧ j = .int .i64 (hi : Int) ∧ lo ≤ hi ∧ hi ≤ n ∧ Hid ((∀ t (h : t < L.length), t < lo → lessV L[t].rep L[t].seq r s = true) ∧ (∀ t (h : t < L.length), hi ≤ t → lessV L[t].rep L[t].seq r s = false)) ∧ Hid (Below (w.alloc (.cells I 35)).heap.size (w.alloc (.cells I 35)) wr)) (fun i j _ => (intOf j).toNat - (intOf i).toNat)
  case atStart => exact ⟨0, n, rfl, rfl, Nat.zero_le _, Nat.le_refl _, Lib.hid ⟨fun t _ ht => absurd ht (Nat.not_lt_zero _), fun t h ht => absurd h (by rw [← Hn.out]; omega)⟩, Lib.hid (Below.refl _ _)⟩
  case round =>
    obtain ⟨lo, hi, rfl, rfl, hlh, hin, Hall, Hbw⟩ := hrel
    by_cases hlt : lo < hi
    · obtain ⟨k, hk⟩ : ∃ k : Nat, k = (lo + hi) / 2 := ⟨_, rfl⟩
      have hkI : ((lo : Int) + (hi : Int)) / 2 = (k : Int) := by omega
      have hkl : k < L.length := by rw [← Hn.out]; omega
      obtain ⟨b, off, rfl, _, hb, hel⟩ := Hel.out (by intro e; subst e; simp at hkl)
      have hbwr : Below w.heap.size w wr := below_call Hbel.out Hbw.out
      have R := Lib.hid (range_exts (range_ext (hel k hkl).1 hbwr))
      have R2 := Lib.hid (range_exts ((Hbox.out.grow Hbw.out).range 0 I.toList fun j u hu => by rw [Nat.zero_add, ← Array.getElem?_toList]; exact hu))
      have hc := Hcmp.out L[k]
      have Hmk := Lib.hid (Hmono.out k hkl)
      have hlk : k < n := by omega
      obtain ⟨x, hxe⟩ : ∃ x, x = L[k] := ⟨_, rfl⟩
      rw [← hxe] at R hc Hmk
      have Hc := Lib.hid hc
      obtain ⟨C, hC⟩ : ∃ C, C = verC x := ⟨_, rfl⟩
      have hinfL : (Try.prog.info? 39).map (·.size) = some C.toList.length := by rw [hC]; exact ver_info
      have HinfL := Lib.hid hinfL
      rw [← hC] at R Hc
      have hlo : lo ≤ k := by omega
      have hkh : k < hi := by omega
      by_cases hlx : lessV x.rep x.seq r s = true
      · have hcx : cmpV x r s = -1 := by unfold cmpV; rw [if_pos hlx]
        rw [hcx] at Hc
        have Hlx := Lib.hid hlx
        clear hxe hc hC hinfL hcx hlx hel Hel hk
        go_wp2_with fail
        refine wp_region_grow (by kernel_rfl) (by kernel_rfl) ?_
        repeat (first | (go_big_quiet_want; refine quiet_mid 39 (.tmp 27) rfl b (off + k * 11) rfl _ _ R.out Try.underlying39 rfl HinfL.out ?_; go_simp; go_big_quiet_on) | (go_big_quiet_want; refine quiet_mid 35 (.tmp 4) rfl w.heap.size 0 rfl _ _ R2.out Try.underlying35 rfl Hi.out ?_; go_simp; go_big_quiet_on) | go_big_quiet_step ((go_at_fn 51; exact calls_grow (Hc.out _))) | quiet_step ((go_at_fn 51; exact calls_grow (Hc.out _))))
        refine wpQuiet_nil ?_
        rintro w6 ⟨⟨_, hb6⟩, rfl⟩
        go_wp2_with fail
        go_roundw
        case rel => exact ⟨k + 1, hi, by go_num, rfl, by omega, hin, Lib.hid ⟨Hmk.out.1 Hlx.out, Hall.out.2⟩, Lib.hid (Hbw.out.trans (hb6.mono Hbw.out.size))⟩
        case measure => simp [intOf]; omega
      · have hlx' : lessV x.rep x.seq r s = false := by simpa using hlx
        have hcx : (cmpV x r s < 0) = False := by unfold cmpV; rw [if_neg hlx]; split <;> simp
        obtain ⟨q, hq⟩ : ∃ q, q = cmpV x r s := ⟨_, rfl⟩
        rw [← hq] at hcx Hc
        have hcx' : decide (q < 0) = false := by simp [hcx]
        have Hlx := Lib.hid hlx'
        clear hxe hc hC hinfL hcx hlx hlx' hq hel Hel hk
        go_wp2_with fail
        refine wp_region_grow (by kernel_rfl) (by kernel_rfl) ?_
        repeat (first | (go_big_quiet_want; refine quiet_mid 39 (.tmp 27) rfl b (off + k * 11) rfl _ _ R.out Try.underlying39 rfl HinfL.out ?_; go_simp; go_big_quiet_on) | (go_big_quiet_want; refine quiet_mid 35 (.tmp 4) rfl w.heap.size 0 rfl _ _ R2.out Try.underlying35 rfl Hi.out ?_; go_simp; go_big_quiet_on) | go_big_quiet_step ((go_at_fn 51; exact calls_grow (Hc.out _))) | quiet_step ((go_at_fn 51; exact calls_grow (Hc.out _))))
        refine wpQuiet_nil ?_
        rintro w6 ⟨⟨_, hb6⟩, rfl⟩
        go_wp2_with fail
        go_roundw
        case rel => exact ⟨lo, k, rfl, rfl, by omega, by omega, Lib.hid ⟨Hall.out.1, Hmk.out.2 Hlx.out⟩, Lib.hid (Hbw.out.trans (hb6.mono Hbw.out.size))⟩
        case measure => simp [intOf]; omega
    · obtain rfl : lo = hi := by omega
      obtain ⟨hPl, hTl⟩ := HPe.out lo hin Hall.out.1 Hall.out.2
      have HPl := Lib.hid hPl
      by_cases hln : lo < n
      · have hkl : lo < L.length := by rw [← Hn.out]; exact hln
        rw [dif_pos hkl] at hTl
        obtain ⟨b, off, rfl, _, hb, hel⟩ := Hel.out (by intro e; subst e; simp at hkl)
        have hbwr : Below w.heap.size w wr := below_call Hbel.out Hbw.out
        have R := Lib.hid (range_exts (range_ext (hel lo hkl).1 hbwr))
        have R2 := Lib.hid (range_exts ((Hbox.out.grow Hbw.out).range 0 I.toList fun j u hu => by rw [Nat.zero_add, ← Array.getElem?_toList]; exact hu))
        have hc := Hcmp.out L[lo]
        obtain ⟨x, hxe⟩ : ∃ x, x = L[lo] := ⟨_, rfl⟩
        rw [← hxe] at R hc hTl
        obtain ⟨q, hq⟩ : ∃ q, q = cmpV x r s := ⟨_, rfl⟩
        rw [← hq] at hc hTl
        have hqT : (q == 0) = T := by rw [hTl]; rfl
        have HqT := Lib.hid hqT
        have Hc := Lib.hid hc
        obtain ⟨C, hC⟩ : ∃ C, C = verC x := ⟨_, rfl⟩
        have hinfL : (Try.prog.info? 39).map (·.size) = some C.toList.length := by rw [hC]; exact ver_info
        have HinfL := Lib.hid hinfL
        rw [← hC] at R Hc
        have hd : decide ((lo : Int) < (n : Int)) = true := decide_eq_true (by omega)
        clear hxe hc hC hinfL hq hel Hel hPl hTl hqT hbwr
        go_wp2_with fail
        refine wp_region_grow (by kernel_rfl) (by kernel_rfl) ?_
        repeat (first | (go_big_quiet_want; refine quiet_mid 39 (.tmp 43) rfl b (off + lo * 11) rfl _ _ R.out Try.underlying39 rfl HinfL.out ?_; go_simp; go_big_quiet_on) | (go_big_quiet_want; refine quiet_mid 35 (.tmp 4) rfl w.heap.size 0 rfl _ _ R2.out Try.underlying35 rfl Hi.out ?_; go_simp; go_big_quiet_on) | go_big_quiet_step ((go_at_fn 51; exact calls_grow (Hc.out _))) | quiet_step ((go_at_fn 51; exact calls_grow (Hc.out _))))
        refine wpQuiet_nil ?_
        rintro w6 ⟨⟨_, hb6⟩, rfl⟩
        go_wp2_with fail
        go_ret2
        refine ⟨?_, below_call Hbel.out (Hbw.out.trans (hb6.mono Hbw.out.size))⟩
        rw [HPl.out, ← HqT.out]
        first | rfl | simp [hd]
      · have hkl : ¬ lo < L.length := by rw [← Hn.out]; exact hln
        rw [dif_neg hkl] at hTl
        have HTl := Lib.hid hTl
        have hd : decide ((lo : Int) < (n : Int)) = false := decide_eq_false (by omega)
        clear hPl hTl
        go_wp2_with fail
        refine wp_region_grow (by kernel_rfl) (by kernel_rfl) ?_
        repeat (first | go_big_quiet_step (fail) | quiet_step (fail))
        refine wpQuiet_nil ?_
        rintro w6 ⟨⟨_, hb6⟩, rfl⟩
        go_wp2_with fail
        go_ret2
        refine ⟨?_, below_call Hbel.out (Hbw.out.trans (hb6.mono Hbw.out.size))⟩
        rw [HPl.out, HTl.out]
        first | rfl | simp [hd]

theorem find_any (ok : Nat → Prop) (v : Value) (L : List Ver) (r : Int) (s : Nat) (w : World) (hL : IsL kVer w ok v L) (hl : L.length ≤ 1000) (hs : SortedV L) :
    Calls Try.prog 32 #[v, .agg (idC r s)] w fun e w' => e = .returned (.tuple #[.int .i64 (posV L r s : Int), .bool (thereV L r s)]) ∧ Below w.heap.size w w' := by
  have hbel : Below w.heap.size w (w.alloc (.cells (idC r s) 35)) := (Below.refl _ _).alloc (Nat.le_refl _) _
  have Hc := Lib.hid (bin_any ok v L r s _ (hL.grow hbel) hl hs)
  have Hbel := Lib.hid hbel
  clear hL hs hbel
  unfold idC at Hc Hbel ⊢
  go_enter Try.func32, Try.ntmps32
  go_wp2_with (go_at_call 50; go_must (refine Hc.out.mono ?_; rintro e1 w1 ⟨rfl, hb1⟩))
  go_ret2
  exact ⟨rfl, below_call Hbel.out hb1⟩
end Go.Proofs.Ytnehoabeameioaa
