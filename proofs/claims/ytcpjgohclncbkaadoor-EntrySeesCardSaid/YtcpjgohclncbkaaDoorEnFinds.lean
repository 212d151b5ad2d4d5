/-
  version.find, over slices.BinarySearchFunc.
  slices.BinarySearchFunc at versions; version.find.
-/
import Derived.Test.YtcpjgohclncbkaaDoorVeFind
import Derived.Test.YtcpjgohclncbkaaDoorVeOne
import Derived.Test.YtcpjgohclncbkaaDoorEnOne
import Derived.Test.YtcpjgohclncbkaaDoorRegions
import Derived.Shelf.Abstract
import Derived.Deep.QuietTactic
namespace Go.Proofs.YtcpjgohclncbkaaDoor
open Go.RowKit
set_option maxRecDepth 100000

/-- Rising, each once. -/
def SortedE (L : List Ent) : Prop := ∀ i j (hi : i < L.length) (hj : j < L.length), i < j → lessV L[i].rep L[i].seq L[j].rep L[j].seq = true
def posE (L : List Ent) (r : Int) (s : Nat) : Nat := (L.takeWhile fun x => lessV x.rep x.seq r s).length
def thereE (L : List Ent) (r : Int) (s : Nat) : Bool := L.any fun x => sameI x.rep x.seq r s
def cmpE (x : Ent) (r : Int) (s : Nat) : Int := if lessV x.rep x.seq r s = true then -1 else if lessV r s x.rep x.seq = true then 1 else 0
theorem posE_le (L : List Ent) (r : Int) (s : Nat) : posE L r s ≤ L.length := by
  unfold posE
  exact (List.takeWhile_sublist _).length_le
/-- Where it would be, there it is, or it is nowhere. -/
theorem ethere_at {L : List Ent} (hs : SortedE L) {r : Int} {s : Nat} {i : Nat} (hi : i ≤ L.length) (h1 : ∀ t (h : t < L.length), t < i → lessV L[t].rep L[t].seq r s = true) (h2 : ∀ t (h : t < L.length), i ≤ t → lessV L[t].rep L[t].seq r s = false) :
    thereE L r s = if h : i < L.length then decide (cmpE L[i] r s = 0) else false := by
  unfold thereE
  split
  · rename_i h
    have hni := h2 i h (Nat.le_refl _)
    by_cases hc : lessV r s L[i].rep L[i].seq = true
    · have : cmpE L[i] r s ≠ 0 := by unfold cmpE; rw [hni, hc]; simp
      rw [decide_eq_false this, List.any_eq_false]
      intro x hx
      obtain ⟨t, ht, rfl⟩ := List.getElem_of_mem hx
      rw [Bool.not_eq_true, lessV_same]
      rcases Nat.lt_trichotomy t i with h' | h' | h'
      · rw [h1 t ht h']; rfl
      · subst h'; rw [hc]; simp
      · rw [lessV_trans hc (hs i t h ht h')]; simp
    · have hc' : lessV r s L[i].rep L[i].seq = false := by simpa using hc
      have : cmpE L[i] r s = 0 := by unfold cmpE; rw [hni, hc']; simp
      rw [decide_eq_true this, List.any_eq_true]
      exact ⟨L[i], List.getElem_mem h, by rw [lessV_same, hni, hc']; rfl⟩
  · rename_i h
    rw [List.any_eq_false]
    intro x hx
    obtain ⟨t, ht, rfl⟩ := List.getElem_of_mem hx
    rw [Bool.not_eq_true, lessV_same, h1 t ht (by omega)]
    rfl

set_option maxHeartbeats 1000000 in
theorem ecmp_any (x : Ent) (r : Int) (s : Nat) (w : World) :
    Calls Tryd.prog 60 #[.agg (entC x), .agg (idC r s)] w fun e w' => e = .returned (.int .i64 (cmpE x r s)) ∧ Below w.heap.size w w' := by
  obtain ⟨W, hW⟩ : ∃ W, W = ((w.alloc (.cells (entC x) 29)).alloc (.cells (idC r s) 25)) := ⟨_, rfl⟩
  have hA : Blk W w.heap.size 29 (entC x) := by rw [hW]; exact (Blk.new w _ _).alloc _
  have hB : Blk W (w.heap.size + 1) 25 (idC r s) := by
    have := Blk.new (w.alloc (.cells (entC x) 29)) 25 (idC r s)
    rw [World.size_alloc] at this
    rw [hW]; exact this
  have hbel : Below w.heap.size w W := by rw [hW]; exact ((Below.refl _ _).alloc (Nat.le_refl _) _).alloc (by simp) _
  have HW := Lib.hid hW
  have R := Lib.hid hA.ent.id
  have R2 := Lib.hid (hB.range 0 (idC r s).toList fun j u hu => by rw [Nat.zero_add, ← Array.getElem?_toList]; exact hu)
  have hl1 := fun z => less_any x.rep x.seq r s z
  have hl2 := fun z => less_any r s x.rep x.seq z
  obtain ⟨n, hn⟩ : ∃ n, n = cmpE x r s := ⟨_, rfl⟩
  rw [← hn]
  unfold cmpE at hn
  obtain ⟨b1, hb1⟩ : ∃ b, b = lessV x.rep x.seq r s := ⟨_, rfl⟩
  obtain ⟨b2, hb2⟩ : ∃ b, b = lessV r s x.rep x.seq := ⟨_, rfl⟩
  rw [← hb1] at hl1 hn
  rw [← hb2] at hl2 hn
  rw [idv_idC, idv_idC] at hl1 hl2
  obtain ⟨C, hC⟩ : ∃ C, C = entC x := ⟨_, rfl⟩
  rw [← hC] at HW ⊢
  obtain ⟨I1, hI1⟩ : ∃ I, I = idC x.rep x.seq := ⟨_, rfl⟩
  obtain ⟨I2, hI2⟩ : ∃ I, I = idC r s := ⟨_, rfl⟩
  have hi1 : (Tryd.prog.info? 25).map (·.size) = some I1.toList.length := by rw [hI1]; exact id_info
  have hi2 : (Tryd.prog.info? 25).map (·.size) = some I2.toList.length := by rw [hI2]; exact id_info
  rw [← hI1] at R hl1 hl2
  rw [← hI2] at R2 HW hl1 hl2 ⊢
  have Hi1 := Lib.hid hi1
  have Hi2 := Lib.hid hi2
  have Hl1 := Lib.hid hl1
  have Hl2 := Lib.hid hl2
  have Hbel := Lib.hid hbel
  clear hA hB hbel hW hC hI1 hI2 hi1 hi2 hl1 hl2 hb1 hb2
  go_enter Tryd.func60, Tryd.ntmps60
  go_upto_region 1 with fail
  rw [← HW.out]
  cases b1 with
  | true =>
    have Hn := Lib.hid (show n = -1 from hn.trans (by simp))
    clear hn
    go_wp2_with (first | (refine wpList_load_mid (op := ⟨some 7, _, _, _, _, _⟩) rfl 25 (.tmp 6) rfl w.heap.size 0 rfl _ _ R.out Tryd.underlying25 rfl Hi1.out ?_) | (refine wpList_load_mid (op := ⟨some 8, _, _, _, _, _⟩) rfl 25 (.tmp 3) rfl (w.heap.size + 1) 0 rfl _ _ R2.out Tryd.underlying25 rfl Hi2.out ?_) | (go_at_call 44; go_must (refine (Hl1.out _).mono ?_; rintro e1 w1 ⟨rfl, hb1⟩)))
    go_ret
    exact ⟨by rw [Hn.out]; rfl, below_call Hbel.out hb1⟩
  | false =>
    go_upto_region 3 with (first | (refine wpList_load_mid (op := ⟨some 7, _, _, _, _, _⟩) rfl 25 (.tmp 6) rfl w.heap.size 0 rfl _ _ R.out Tryd.underlying25 rfl Hi1.out ?_) | (refine wpList_load_mid (op := ⟨some 8, _, _, _, _, _⟩) rfl 25 (.tmp 3) rfl (w.heap.size + 1) 0 rfl _ _ R2.out Tryd.underlying25 rfl Hi2.out ?_) | (go_at_call 44; go_must (refine (Hl1.out _).mono ?_; rintro e1 w1 ⟨rfl, hb1⟩)))
    have R3 := Lib.hid (range_ext R.out hb1)
    have R4 := Lib.hid (range_ext R2.out hb1)
    have Hbel1 := Lib.hid (below_call Hbel.out hb1)
    clear hb1
    cases b2 with
    | true =>
      have Hn := Lib.hid (show n = 1 from hn.trans (by simp))
      clear hn
      go_wp2_with (first | (refine wpList_load_mid (op := ⟨some 11, _, _, _, _, _⟩) rfl 25 (.tmp 3) rfl (w.heap.size + 1) 0 rfl _ _ R4.out Tryd.underlying25 rfl Hi2.out ?_) | (refine wpList_load_mid (op := ⟨some 13, _, _, _, _, _⟩) rfl 25 (.tmp 12) rfl w.heap.size 0 rfl _ _ R3.out Tryd.underlying25 rfl Hi1.out ?_) | (go_at_call 44; go_must (refine (Hl2.out _).mono ?_; rintro e1 w2 ⟨rfl, hb2⟩)))
      go_ret
      exact ⟨by rw [Hn.out]; rfl, below_call Hbel1.out hb2⟩
    | false =>
      have Hn := Lib.hid (show n = 0 from hn.trans (by simp))
      clear hn
      go_wp2_with (first | (refine wpList_load_mid (op := ⟨some 11, _, _, _, _, _⟩) rfl 25 (.tmp 3) rfl (w.heap.size + 1) 0 rfl _ _ R4.out Tryd.underlying25 rfl Hi2.out ?_) | (refine wpList_load_mid (op := ⟨some 13, _, _, _, _, _⟩) rfl 25 (.tmp 12) rfl w.heap.size 0 rfl _ _ R3.out Tryd.underlying25 rfl Hi1.out ?_) | (go_at_call 44; go_must (refine (Hl2.out _).mono ?_; rintro e1 w2 ⟨rfl, hb2⟩)))
      go_ret
      exact ⟨by rw [Hn.out]; rfl, below_call Hbel1.out hb2⟩
end Go.Proofs.YtcpjgohclncbkaaDoor

namespace Go.Proofs.YtcpjgohclncbkaaDoor
open Go.RowKit
set_option maxRecDepth 100000

set_option maxHeartbeats 2000000 in
theorem ebin_any (ok : Nat → Prop) (v : Value) (L : List Ent) (r : Int) (s : Nat) (w : World) (hL : IsL kEnt w ok v L) (hl : L.length ≤ 1000) (hs : SortedE L) :
    Calls Tryd.prog 59 #[v, .agg (idC r s), .func (.func 60) #[] #[]] w fun e w' => e = .returned (.tuple #[.int .i64 (posE L r s : Int), .bool (thereE L r s)]) ∧ Below w.heap.size w w' := by
  obtain ⟨A, c, rfl, hc1, hc2, hL⟩ := ent_at hL
  have hm : maxLen ≤ 9223372036854775807 := by decide
  obtain ⟨I, hI⟩ : ∃ I, I = idC r s := ⟨_, rfl⟩
  have hi : (Tryd.prog.info? 25).map (·.size) = some I.toList.length := by rw [hI]; exact id_info
  have Hi := Lib.hid hi
  have hcmp := fun (x : Ent) (z : World) => ecmp_any x r s z
  rw [← hI] at hcmp ⊢
  have Hcmp := Lib.hid hcmp
  have eg : ∀ args w, (callFunc 60 args).run Tryd.prog w = .ok (.enter 60 args) w := enters_of Tryd.func60 (by kernel_rfl) rfl
  have Hel := Lib.hid hL
  have Hs := Lib.hid hs
  obtain ⟨n, hn⟩ : ∃ n, n = L.length := ⟨_, rfl⟩
  rw [← hn] at hc1 hl ⊢
  have Hn := Lib.hid hn
  have hbox : Blk (w.alloc (.cells I 25)) w.heap.size 25 I := Blk.new _ _ _
  have hbel : Below w.heap.size w (w.alloc (.cells I 25)) := (Below.refl _ _).alloc (Nat.le_refl _) _
  have Hbox := Lib.hid hbox
  have Hbel := Lib.hid hbel
  obtain ⟨P, hP⟩ : ∃ P : Nat, P = posE L r s := ⟨_, rfl⟩
  obtain ⟨T, hT⟩ : ∃ T, T = thereE L r s := ⟨_, rfl⟩
  rw [← hP, ← hT]
  have HP := Lib.hid hP
  have HT := Lib.hid hT
  have hPe : ∀ lo : Nat, lo ≤ n → (∀ t (h : t < L.length), t < lo → lessV L[t].rep L[t].seq r s = true) → (∀ t (h : t < L.length), lo ≤ t → lessV L[t].rep L[t].seq r s = false) → P = lo ∧ T = if h : lo < L.length then decide (cmpE L[lo] r s = 0) else false := fun lo h0 h1 h2 => by
    refine ⟨?_, ?_⟩
    · rw [hP]; exact takeWhile_pos _ L lo (by omega) h1 (fun h => h2 lo h (Nat.le_refl _))
    · rw [hT]; exact ethere_at hs (by omega) h1 h2
  have HPe := Lib.hid hPe
  have hmono : ∀ k (hk : k < L.length), (lessV L[k].rep L[k].seq r s = true → ∀ t (h : t < L.length), t < k + 1 → lessV L[t].rep L[t].seq r s = true) ∧ (lessV L[k].rep L[k].seq r s = false → ∀ t (h : t < L.length), k ≤ t → lessV L[t].rep L[t].seq r s = false) := fun k hk => by
    refine ⟨fun h t ht hlt => ?_, fun h t ht hle => ?_⟩
    · by_cases e : t = k
      · subst e; exact h
      · exact lessV_trans (hs t k ht hk (by omega)) h
    · by_cases e : t = k
      · subst e; exact h
      · rw [Bool.eq_false_iff]
        intro h'
        rw [lessV_trans (hs k t hk ht (by omega)) h'] at h
        cases h
  have Hmono := Lib.hid hmono
  clear hI hi hcmp hL hs hn hbox hbel hP hT hPe hmono
  go_enter Tryd.func59, Tryd.ntmps59
  go_wp2_with fail
  go_loopw [9, 10] (fun i j wr => ∃ lo hi : Nat, i = .int .i64 (lo : Int) ∧ j = .int .i64 (hi : Int) ∧ lo ≤ hi ∧ hi ≤ n ∧ Hid ((∀ t (h : t < L.length), t < lo → lessV L[t].rep L[t].seq r s = true) ∧ (∀ t (h : t < L.length), hi ≤ t → lessV L[t].rep L[t].seq r s = false)) ∧ Hid (Below (w.alloc (.cells I 25)).heap.size (w.alloc (.cells I 25)) wr)) (fun i j _ => (intOf j).toNat - (intOf i).toNat)
  case atStart => exact ⟨0, n, rfl, rfl, Nat.zero_le _, Nat.le_refl _, Lib.hid ⟨fun t _ ht => absurd ht (Nat.not_lt_zero _), fun t h ht => absurd h (by rw [← Hn.out]; omega)⟩, Lib.hid (Below.refl _ _)⟩
  case round =>
    obtain ⟨lo, hi, rfl, rfl, hlh, hin, Hall, Hbw⟩ := hrel
    by_cases hlt : lo < hi
    · obtain ⟨k, hk⟩ : ∃ k : Nat, k = (lo + hi) / 2 := ⟨_, rfl⟩
      have hkI : ((lo : Int) + (hi : Int)) / 2 = (k : Int) := by omega
      have hkl : k < L.length := by rw [← Hn.out]; omega
      obtain ⟨b, off, rfl, _, hb, hel⟩ := Hel.out (by intro e; subst e; simp at hkl)
      have hbwr : Below w.heap.size w wr := below_call Hbel.out Hbw.out
      have R := Lib.hid (range_exts (range_ext (hel k hkl).1 hbwr))
      have R2 := Lib.hid (range_exts ((Hbox.out.grow Hbw.out).range 0 I.toList fun j u hu => by rw [Nat.zero_add, ← Array.getElem?_toList]; exact hu))
      have hc := Hcmp.out L[k]
      have Hmk := Lib.hid (Hmono.out k hkl)
      have hlk : k < n := by omega
      obtain ⟨x, hxe⟩ : ∃ x, x = L[k] := ⟨_, rfl⟩
      rw [← hxe] at R hc Hmk
      have Hc := Lib.hid hc
      obtain ⟨C, hC⟩ : ∃ C, C = entC x := ⟨_, rfl⟩
      have hinfL : (Tryd.prog.info? 29).map (·.size) = some C.toList.length := by rw [hC]; exact ent_info
      have HinfL := Lib.hid hinfL
      rw [← hC] at R Hc
      have hlo : lo ≤ k := by omega
      have hkh : k < hi := by omega
      by_cases hlx : lessV x.rep x.seq r s = true
      · have hcx : cmpE x r s = -1 := by unfold cmpE; rw [if_pos hlx]
        rw [hcx] at Hc
        have Hlx := Lib.hid hlx
        clear hxe hc hC hinfL hcx hlx hel Hel hk
        go_wp2_with fail
        refine wp_region_grow (by kernel_rfl) (by kernel_rfl) ?_
        repeat (first | (go_big_quiet_want; refine quiet_mid 29 (.tmp 27) rfl b (off + k * 15) rfl _ _ R.out Tryd.underlying29 rfl HinfL.out ?_; go_simp; go_big_quiet_on) | (go_big_quiet_want; refine quiet_mid 25 (.tmp 4) rfl w.heap.size 0 rfl _ _ R2.out Tryd.underlying25 rfl Hi.out ?_; go_simp; go_big_quiet_on) | go_big_quiet_step ((go_at_fn 60; exact calls_grow (Hc.out _))) | quiet_step ((go_at_fn 60; exact calls_grow (Hc.out _))))
        refine wpQuiet_nil ?_
        rintro w6 ⟨⟨_, hb6⟩, rfl⟩
        go_wp2_with fail
        go_roundw
        case rel => exact ⟨k + 1, hi, by go_num, rfl, by omega, hin, Lib.hid ⟨Hmk.out.1 Hlx.out, Hall.out.2⟩, Lib.hid (Hbw.out.trans (hb6.mono Hbw.out.size))⟩
        case measure => simp [intOf]; omega
      · have hlx' : lessV x.rep x.seq r s = false := by simpa using hlx
        have hcx : (cmpE x r s < 0) = False := by unfold cmpE; rw [if_neg hlx]; split <;> simp
        obtain ⟨q, hq⟩ : ∃ q, q = cmpE x r s := ⟨_, rfl⟩
        rw [← hq] at hcx Hc
        have hcx' : decide (q < 0) = false := by simp [hcx]
        have Hlx := Lib.hid hlx'
        clear hxe hc hC hinfL hcx hlx hlx' hq hel Hel hk
        go_wp2_with fail
        refine wp_region_grow (by kernel_rfl) (by kernel_rfl) ?_
        repeat (first | (go_big_quiet_want; refine quiet_mid 29 (.tmp 27) rfl b (off + k * 15) rfl _ _ R.out Tryd.underlying29 rfl HinfL.out ?_; go_simp; go_big_quiet_on) | (go_big_quiet_want; refine quiet_mid 25 (.tmp 4) rfl w.heap.size 0 rfl _ _ R2.out Tryd.underlying25 rfl Hi.out ?_; go_simp; go_big_quiet_on) | go_big_quiet_step ((go_at_fn 60; exact calls_grow (Hc.out _))) | quiet_step ((go_at_fn 60; exact calls_grow (Hc.out _))))
        refine wpQuiet_nil ?_
        rintro w6 ⟨⟨_, hb6⟩, rfl⟩
        go_wp2_with fail
        go_roundw
        case rel => exact ⟨lo, k, rfl, rfl, by omega, by omega, Lib.hid ⟨Hall.out.1, Hmk.out.2 Hlx.out⟩, Lib.hid (Hbw.out.trans (hb6.mono Hbw.out.size))⟩
        case measure => simp [intOf]; omega
    · obtain rfl : lo = hi := by omega
      obtain ⟨hPl, hTl⟩ := HPe.out lo hin Hall.out.1 Hall.out.2
      have HPl := Lib.hid hPl
      by_cases hln : lo < n
      · have hkl : lo < L.length := by rw [← Hn.out]; exact hln
        rw [dif_pos hkl] at hTl
        obtain ⟨b, off, rfl, _, hb, hel⟩ := Hel.out (by intro e; subst e; simp at hkl)
        have hbwr : Below w.heap.size w wr := below_call Hbel.out Hbw.out
        have R := Lib.hid (range_exts (range_ext (hel lo hkl).1 hbwr))
        have R2 := Lib.hid (range_exts ((Hbox.out.grow Hbw.out).range 0 I.toList fun j u hu => by rw [Nat.zero_add, ← Array.getElem?_toList]; exact hu))
        have hc := Hcmp.out L[lo]
        obtain ⟨x, hxe⟩ : ∃ x, x = L[lo] := ⟨_, rfl⟩
        rw [← hxe] at R hc hTl
        obtain ⟨q, hq⟩ : ∃ q, q = cmpE x r s := ⟨_, rfl⟩
        rw [← hq] at hc hTl
        have hqT : (q == 0) = T := by rw [hTl]; rfl
        have HqT := Lib.hid hqT
        have Hc := Lib.hid hc
        obtain ⟨C, hC⟩ : ∃ C, C = entC x := ⟨_, rfl⟩
        have hinfL : (Tryd.prog.info? 29).map (·.size) = some C.toList.length := by rw [hC]; exact ent_info
        have HinfL := Lib.hid hinfL
        rw [← hC] at R Hc
        have hd : decide ((lo : Int) < (n : Int)) = true := decide_eq_true (by omega)
        clear hxe hc hC hinfL hq hel Hel hPl hTl hqT hbwr
        go_wp2_with fail
        refine wp_region_grow (by kernel_rfl) (by kernel_rfl) ?_
        repeat (first | (go_big_quiet_want; refine quiet_mid 29 (.tmp 43) rfl b (off + lo * 15) rfl _ _ R.out Tryd.underlying29 rfl HinfL.out ?_; go_simp; go_big_quiet_on) | (go_big_quiet_want; refine quiet_mid 25 (.tmp 4) rfl w.heap.size 0 rfl _ _ R2.out Tryd.underlying25 rfl Hi.out ?_; go_simp; go_big_quiet_on) | go_big_quiet_step ((go_at_fn 60; exact calls_grow (Hc.out _))) | quiet_step ((go_at_fn 60; exact calls_grow (Hc.out _))))
        refine wpQuiet_nil ?_
        rintro w6 ⟨⟨_, hb6⟩, rfl⟩
        go_wp2_with fail
        go_ret2
        refine ⟨?_, below_call Hbel.out (Hbw.out.trans (hb6.mono Hbw.out.size))⟩
        rw [HPl.out, ← HqT.out]
        first | rfl | simp [hd]
      · have hkl : ¬ lo < L.length := by rw [← Hn.out]; exact hln
        rw [dif_neg hkl] at hTl
        have HTl := Lib.hid hTl
        have hd : decide ((lo : Int) < (n : Int)) = false := decide_eq_false (by omega)
        clear hPl hTl
        go_wp2_with fail
        refine wp_region_grow (by kernel_rfl) (by kernel_rfl) ?_
        repeat (first | go_big_quiet_step (fail) | quiet_step (fail))
        refine wpQuiet_nil ?_
        rintro w6 ⟨⟨_, hb6⟩, rfl⟩
        go_wp2_with fail
        go_ret2
        refine ⟨?_, below_call Hbel.out (Hbw.out.trans (hb6.mono Hbw.out.size))⟩
        rw [HPl.out, HTl.out]
        first | rfl | simp [hd]

theorem efind_any (ok : Nat → Prop) (v : Value) (L : List Ent) (r : Int) (s : Nat) (w : World) (hL : IsL kEnt w ok v L) (hl : L.length ≤ 1000) (hs : SortedE L) :
    Calls Tryd.prog 37 #[v, .agg (idC r s)] w fun e w' => e = .returned (.tuple #[.int .i64 (posE L r s : Int), .bool (thereE L r s)]) ∧ Below w.heap.size w w' := by
  have hbel : Below w.heap.size w (w.alloc (.cells (idC r s) 25)) := (Below.refl _ _).alloc (Nat.le_refl _) _
  have Hc := Lib.hid (ebin_any ok v L r s _ (hL.grow hbel) hl hs)
  have Hbel := Lib.hid hbel
  clear hL hs hbel
  unfold idC at Hc Hbel ⊢
  go_enter Tryd.func37, Tryd.ntmps37
  go_wp2_with (go_at_call 59; go_must (refine Hc.out.mono ?_; rintro e1 w1 ⟨rfl, hb1⟩))
  go_ret2
  exact ⟨rfl, below_call Hbel.out hb1⟩
end Go.Proofs.YtcpjgohclncbkaaDoor
