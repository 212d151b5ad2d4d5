/-
  The document's number, Part, and what it splits.
-/
import Derived.Test.YtgebodibamgipaaGreatDoorPaMath
import Derived.Test.YtgebodibamgipaaGreatDoorEvName3
namespace Go.Proofs.YtgebodibamgipaaGreatDoor
open Go.RowKit
set_option maxRecDepth 100000

theorem ba_extract (b : List UInt8) (i j : Nat) : (⟨b.toArray⟩ : ByteArray).extract i j = ⟨((b.take j).drop i).toArray⟩ := by
  apply ByteArray.ext
  rw [ByteArray.data_extract]
  apply Array.ext'
  rw [Array.toList_extract]
  simp [List.drop_take]
theorem drop_get {α} (s : List α) (q : Nat) (h : q < s.length) : s.drop q = s[q] :: s.drop (q + 1) := List.drop_eq_getElem_cons h

/-! ### number -/
def numR (p : Nat) : Option Nat → Int
  | none => -1
  | some k => ((p + k : Nat) : Int)
theorem scan_over {h : Bool} {n k : Nat} {c : UInt8} {r : List UInt8} (hc : 48 ≤ c.toNat ∧ c.toNat ≤ 57) (ho : 4294967295 < 10 * n + (c.toNat - 48) ∨ (0 < k ∧ h = true)) : scanN h n k (c :: r) = none := by
  rw [scanN, if_pos (digitC_iff.2 hc), if_pos ho]
theorem scan_next {h : Bool} {n k : Nat} {c : UInt8} {r : List UInt8} (hc : 48 ≤ c.toNat ∧ c.toNat ≤ 57) (ho : ¬ (4294967295 < 10 * n + (c.toNat - 48) ∨ (0 < k ∧ h = true))) : scanN h n k (c :: r) = scanN h (10 * n + (c.toNat - 48)) (k + 1) r := by
  rw [scanN, if_pos (digitC_iff.2 hc), if_neg ho]
theorem scan_stop {h : Bool} {n k : Nat} {c : UInt8} {r : List UInt8} (hc : ¬ (48 ≤ c.toNat ∧ c.toNat ≤ 57)) : scanN h n k (c :: r) = if k = 0 then none else some k := by
  rw [scanN, if_neg (fun h => hc (digitC_iff.1 h))]
theorem numR_stop {p q : Nat} (h : p ≤ q) : numR p (if q - p = 0 then none else some (q - p)) = if q = p then -1 else (q : Int) := by
  by_cases e : q = p
  · subst e; rw [if_pos (by omega), if_pos rfl]; rfl
  · rw [if_neg (by omega), if_neg e]
    show ((p + (q - p) : Nat) : Int) = _
    omega
theorem head_drop (s : List UInt8) (p : Nat) (h : p < s.length) : ((s.drop p).head? == some 48) = decide (s[p].toNat = 48) := by
  rw [drop_get s p h]
  show (some s[p] == some 48) = _
  rw [Bool.eq_iff_iff]
  simp only [beq_iff_eq, Option.some.injEq, decide_eq_true_eq]
  exact ⟨fun e => by rw [e]; rfl, fun e => by rw [byte_of s[p] e]; rfl⟩

set_option maxHeartbeats 4000000 in
theorem refnumber_any (s : List UInt8) (p : Nat) (hs : s.length ≤ 400) (hp : p ≤ s.length) (w : World) :
    Calls Tryz.prog 59 #[.string ⟨s.toArray⟩, .int .i64 (p : Int)] w fun e w' => e = .returned (.int .i64 (numR p (numE (s.drop p)))) ∧ w = w' := by
  by_cases hpl : p = s.length
  · have hR : numE (s.drop p) = none := by rw [hpl, List.drop_length]; rfl
    rw [hR]
    have hlen : ((⟨s.toArray⟩ : ByteArray).size : Nat) = s.length := by simp [ByteArray.size]
    have hlt : ¬ p < s.length := by omega
    have Hl := Lib.hid hpl
    clear hpl hR
    unfold numR
    go_enter Tryz.func59, Tryz.ntmps59
    go_wp2_with fail
    go_loop [5, 6] (fun n e => n = .int .i64 0 ∧ e = .int .i64 (p : Int)) (fun _ _ => 0)
    case atStart => exact ⟨rfl, rfl⟩
    case round =>
      obtain ⟨rfl, rfl⟩ := hrel
      go_wp2_with fail
      go_ret
      exact ⟨rfl, rfl⟩
  · have hpl : p < s.length := by omega
    obtain ⟨h, hh⟩ : ∃ h, h = ((s.drop p).head? == some 48) := ⟨_, rfl⟩
    obtain ⟨R, hR⟩ : ∃ R, R = numE (s.drop p) := ⟨_, rfl⟩
    have hR2 : scanN h 0 (p - p) (s.drop p) = R := by rw [hR, hh, Nat.sub_self]; rfl
    rw [← hR]
    rw [head_drop s p hpl] at hh
    obtain ⟨c0, hc0⟩ : ∃ c0, c0 = s[p].toNat := ⟨_, rfl⟩
    have hidx0 := byte_index s p hpl c0 hc0
    rw [← hc0] at hh
    have Hh := Lib.hid hh
    have HR2 := Lib.hid hR2
    clear hR hc0 hh hR2
    go_enter Tryz.func59, Tryz.ntmps59
    go_wp2_with fail
    go_loop [5, 6] (fun x y => ∃ n q : Nat, p ≤ q ∧ q ≤ s.length ∧ n ≤ 4294967295 ∧ x = .int .i64 (n : Int) ∧ y = .int .i64 (q : Int) ∧ scanN h n (q - p) (s.drop q) = R) (fun _ y => s.length - (intOf y).toNat)
    case atStart => exact ⟨0, p, by omega, by omega, by omega, rfl, rfl, HR2.out⟩
    case round =>
      obtain ⟨n, q, hq1, hq2, hn, rfl, rfl, hst⟩ := hrel
      clear HR2
      by_cases hlt : q < s.length
      · rw [drop_get s q hlt] at hst
        obtain ⟨c, hc⟩ : ∃ c, c = s[q].toNat := ⟨_, rfl⟩
        have hidx := byte_index s q hlt c hc
        have hc8 : c < 256 := by rw [hc]; exact s[q].toNat_lt
        by_cases hdig : 48 ≤ c ∧ c ≤ 57
        · obtain ⟨h48, h57⟩ := hdig
          have w1 : IntKind.u8.wrap ((c : Int) - 48) = (c : Int) - 48 := by rw [IntKind.wrap_u8]; omega
          by_cases hfit : 10 * n + (c - 48) ≤ 4294967295
          · by_cases hpq : q = p
            · subst hpq
              rw [scan_next (by omega) (by rw [← hc]; rintro (h | h) <;> omega)] at hst
              rw [← hc] at hst
              have hx : ((10 * n + (c - 48) : Nat) : Int) = 10 * (n : Int) + ((c : Int) - 48) := by omega
              have Hx := Lib.hid hx
              have Hst := Lib.hid hst
              clear hst hx hc
              go_wp2_with fail
              go_round
              case rel => exact ⟨10 * n + (c - 48), q + 1, by omega, by omega, hfit, by rw [Hx.out], by go_num, by have := Hst.out; have e : q - q + 1 = q + 1 - q := (by omega); rw [← e]; exact this⟩
              case measure => simp [intOf]; omega
            · have hpq2 : p < q := by omega
              by_cases h0 : c0 = 48
              · rw [scan_over (by omega) (.inr ⟨by omega, by rw [Hh.out, h0]; rfl⟩)] at hst
                subst h0
                subst hst
                clear hc
                go_wp2_with fail
                go_ret
                exact ⟨rfl, rfl⟩
              · have hz : h = false := by rw [Hh.out]; simpa using h0
                have hno : ¬ (4294967295 < 10 * n + (s[q].toNat - 48) ∨ (0 < q - p ∧ h = true)) := by
                  rw [← hc, hz]
                  rintro (h | h)
                  · omega
                  · exact absurd h.2 (by simp)
                rw [scan_next (by omega) hno] at hst
                rw [← hc] at hst
                have hx : ((10 * n + (c - 48) : Nat) : Int) = 10 * (n : Int) + ((c : Int) - 48) := by omega
                have hne : ((c0 : Int) == 48) = false := by rw [beq_eq_false_iff_ne]; omega
                have hne2 : ¬ (c0 : Int) = 48 := by omega
                have Hx := Lib.hid hx
                have Hst := Lib.hid hst
                clear hst hx hc hz h0
                go_wp2_with fail
                go_round
                case rel => exact ⟨10 * n + (c - 48), q + 1, by omega, by omega, hfit, by rw [Hx.out], by go_num, by have := Hst.out; have e : q - p + 1 = q + 1 - p := (by omega); rw [← e]; exact this⟩
                case measure => simp [intOf]; omega
          · rw [scan_over (by omega) (.inl (by omega))] at hst
            subst hst
            clear hc
            go_wp2_with fail
            go_ret
            exact ⟨rfl, rfl⟩
        · rw [scan_stop (by rw [← hc]; exact hdig)] at hst
          have hres := numR_stop hq1
          rw [hst] at hres
          clear hst hc
          have hor : c < 48 ∨ 57 < c := by omega
          clear hdig
          by_cases hpq : q = p
          · subst hpq
            rw [if_pos rfl] at hres
            have Hres := Lib.hid hres
            clear hres
            rcases hor with hlo | hhi
            · have n48 : ¬ 48 ≤ c := by omega
              go_wp2_with fail
              go_ret
              exact ⟨by rw [Hres.out]; rfl, rfl⟩
            · have h48 : 48 ≤ c := by omega
              have n57 : ¬ c ≤ 57 := by omega
              go_wp2_with fail
              go_ret
              exact ⟨by rw [Hres.out]; rfl, rfl⟩
          · rw [if_neg hpq] at hres
            have Hres := Lib.hid hres
            clear hres
            have hne : ((q : Int) == (p : Int)) = false := by rw [beq_eq_false_iff_ne]; omega
            have hne2 : ¬ (q : Int) = (p : Int) := by omega
            rcases hor with hlo | hhi
            · have n48 : ¬ 48 ≤ c := by omega
              go_wp2_with fail
              go_ret
              exact ⟨by rw [Hres.out]; rfl, rfl⟩
            · have h48 : 48 ≤ c := by omega
              have n57 : ¬ c ≤ 57 := by omega
              go_wp2_with fail
              go_ret
              exact ⟨by rw [Hres.out]; rfl, rfl⟩
      · obtain rfl : q = s.length := by omega
        rw [List.drop_length] at hst
        have hst2 : (if s.length - p = 0 then none else some (s.length - p)) = R := hst
        have hres := numR_stop hq1
        rw [hst2, if_neg (by omega)] at hres
        have Hres := Lib.hid hres
        have hne : ((s.length : Int) == (p : Int)) = false := by rw [beq_eq_false_iff_ne]; omega
        have hne2 : ¬ (s.length : Int) = (p : Int) := by omega
        clear hst hst2 hres
        go_wp2_with fail
        go_ret
        exact ⟨by rw [Hres.out]; rfl, rfl⟩

/-! ### Part -/
theorem part_at {s : List UInt8} {i : Nat} (hi : i < s.length) (h : s[i].toNat = 126) (hno : ∀ k (hk : k < s.length), k < i → s[k].toNat ≠ 126) : partB s = (nameB (s.take i) && numsE (s.drop (i + 1))) := by
  have e : s = s.take i ++ 126 :: s.drop (i + 1) := by
    have h1 := drop_get s i hi
    have h2 : s[i] = 126 := by rw [byte_of s[i] h]; rfl
    rw [h2] at h1
    rw [← h1, List.take_append_drop]
  have hp : ∀ b, b ∈ s.take i → b ≠ 126 := fun b hb e => by
    obtain ⟨k, hk, rfl⟩ := List.getElem_of_mem hb
    rw [List.length_take] at hk
    rw [List.getElem_take] at e
    exact hno k (by omega) (by omega) (by rw [e]; rfl)
  rw [numsE_eq]
  conv => lhs; rw [e]
  rw [part_tagged hp]
theorem part_none {s : List UInt8} (hno : ∀ k (hk : k < s.length), s[k].toNat ≠ 126) (h1 : (s == lostT) = false) (h2 : nameB s = false) : partB s = false := by
  rw [part_plain (fun b hb e => by
    obtain ⟨k, hk, rfl⟩ := List.getElem_of_mem hb
    exact hno k hk (by rw [e]; rfl)), h1, h2]
  rfl
theorem nums_none {r : List UInt8} (h : numE r = none) : numsE r = false := by unfold numsE; rw [h]
theorem nums_end {r : List UInt8} {k : Nat} (h : numE r = some k) (hk : r.length ≤ k) : numsE r = false := by unfold numsE; rw [h]; simp [List.getElem?_eq_none hk]
theorem nums_else {r : List UInt8} {k : Nat} (h : numE r = some k) (hk : k < r.length) (hc : r[k].toNat ≠ 46) : numsE r = false := by
  unfold numsE
  rw [h]
  show (r[k]? == some 46 && _) = false
  have : (r[k]? == some 46) = false := by
    rw [List.getElem?_eq_getElem hk, beq_eq_false_iff_ne]
    intro e
    rw [Option.some.inj e] at hc
    exact hc rfl
  rw [this, Bool.false_and]
theorem nums_point {r : List UInt8} {k : Nat} (h : numE r = some k) (hk : k < r.length) (hc : r[k].toNat = 46) : numsE r = (numE (r.drop (k + 1)) == some (r.drop (k + 1)).length) := by
  unfold numsE
  rw [h]
  show (r[k]? == some 46 && _) = _
  have : (r[k]? == some 46) = true := by
    rw [List.getElem?_eq_getElem hk, byte_of r[k] hc]
    rfl
  rw [this, Bool.true_and]
theorem numR_len {p : Nat} {s : List UInt8} (h : p ≤ s.length) (R : Option Nat) : (numR p R == (s.length : Int)) = (R == some (s.drop p).length) := by
  rw [Bool.eq_iff_iff, beq_iff_eq, beq_iff_eq, List.length_drop]
  cases R with
  | none =>
    show (-1 : Int) = _ ↔ _
    exact ⟨fun h => (by omega), fun h => (by cases h)⟩
  | some k =>
    show ((p + k : Nat) : Int) = _ ↔ _
    rw [Option.some.injEq]
    omega

theorem refpart_head (s : List UInt8) (w : World) (hs : s = lostT ∨ ((s == lostT) = false ∧ nameB s = true)) :
    Calls Tryz.prog 40 #[.string ⟨s.toArray⟩] w fun e w' => e = .returned (.bool true) ∧ Below w.heap.size w w' := by
  rcases hs with rfl | ⟨h0, h1⟩
  · unfold lostT
    go_enter Tryz.func40, Tryz.ntmps40
    go_wp2
    go_ret
    exact ⟨rfl, Below.refl _ _⟩
  · have hn := refname_any s w
    rw [h1] at hn
    unfold str at hn
    unfold lostT at h0
    have Hn := Lib.hid hn
    clear hn h1
    go_enter Tryz.func40, Tryz.ntmps40
    go_wp2_with fail
    refine Hn.out.mono ?_
    rintro e w1 ⟨rfl, hb1⟩
    go_wp2_with fail
    go_ret
    exact ⟨rfl, hb1⟩
set_option maxHeartbeats 4000000 in
theorem refpart_any (s : List UInt8) (hs : s.length ≤ 400) (w : World) :
    Calls Tryz.prog 40 #[.string ⟨s.toArray⟩] w fun e w' => e = .returned (.bool (partB s)) ∧ Below w.heap.size w w' := by
  by_cases h0 : s = lostT
  · have hB : partB s = true := by subst h0; unfold partB; simp
    rw [hB]
    exact refpart_head s w (.inl h0)
  · have hlost : (s == lostT) = false := beq_eq_false_iff_ne.2 h0
    cases hnm : nameB s with
    | true =>
      have hB : partB s = true := by
        rw [part_plain (fun b hb e => by subst e; rw [name_tilde hb] at hnm; cases hnm), hnm, Bool.or_true]
      rw [hB]
      exact refpart_head s w (.inr ⟨hlost, hnm⟩)
    | false =>
      have hn := refname_any s w
      rw [hnm] at hn
      unfold str at hn
      have hnone := fun h => part_none (s := s) h hlost hnm
      have hat := fun i (hi : i < s.length) => part_at (s := s) hi
      obtain ⟨B, hB⟩ : ∃ B, B = partB s := ⟨_, rfl⟩
      rw [← hB] at hnone hat ⊢
      unfold lostT at hlost
      have Hn := Lib.hid hn
      have Hnone := Lib.hid hnone
      have Hat := Lib.hid hat
      clear hn hnone hat hnm hB h0
      go_enter Tryz.func40, Tryz.ntmps40
      go_wp2_with fail
      refine Hn.out.mono ?_
      rintro e w1 ⟨rfl, hb1⟩
      clear Hn
      go_wp2_with fail
      go_loop [3] (fun x => ∃ i : Nat, i ≤ s.length ∧ x = .int .i64 (i : Int) ∧ ∀ k (hk : k < s.length), k < i → s[k].toNat ≠ 126) (fun x => s.length - (intOf x).toNat)
      case atStart => exact ⟨0, by omega, rfl, fun k hk h => by omega⟩
      case round =>
        obtain ⟨i, hi, rfl, hno⟩ := hrel
        by_cases hlt : i < s.length
        · obtain ⟨c, hc⟩ : ∃ c, c = s[i].toNat := ⟨_, rfl⟩
          have hidx := byte_index s i hlt c hc
          by_cases h126 : c = 126
          · have hP := Hat.out i hlt (by omega) hno
            have ht : (s.take i).length ≤ 400 := by rw [List.length_take]; omega
            have hx : (⟨s.toArray⟩ : ByteArray).extract 0 i = ⟨(s.take i).toArray⟩ := by rw [ba_extract, List.drop_zero]
            have hnum := fun z => refnumber_any s (i + 1) hs (by omega) z
            have hcast : ((i + 1 : Nat) : Int) = (i : Int) + 1 := by omega
            rw [hcast] at hnum
            clear hcast
            have hname := fun z => refname_any (s.take i) z
            obtain ⟨P, hPP⟩ : ∃ P, P = s.take i := ⟨_, rfl⟩
            obtain ⟨r, hr⟩ : ∃ r, r = s.drop (i + 1) := ⟨_, rfl⟩
            have hrl : r.length = s.length - (i + 1) := by rw [hr, List.length_drop]
            have hrk : ∀ k (hk : k < r.length) (hk2 : i + 1 + k < s.length), r[k] = s[i + 1 + k] := fun k hk hk2 => by subst hr; rw [List.getElem_drop]
            have hrd : ∀ k, r.drop k = s.drop (i + 1 + k) := fun k => by rw [hr, List.drop_drop]
            rw [← hPP] at hP ht hx hname
            rw [← hr] at hP hnum
            unfold str at hname
            have Hname := Lib.hid hname
            have Hnum := Lib.hid hnum
            have Hrd := Lib.hid hrd
            have HP := Lib.hid hP
            subst h126
            clear hname hnum hPP hr hno hP hc hrd
            cases hE : numE r with
            | none =>
              have hB : B = false := by rw [HP.out, nums_none hE, Bool.and_false]
              subst hB
              have hn2 := fun z => Hnum.out z
              rw [hE] at hn2
              have Hnum2 := Lib.hid hn2
              clear Hnum hE HP hn2
              go_wp2_with fail
              refine (Hnum2.out _).mono ?_
              rintro e w2 ⟨rfl, rfl⟩
              unfold numR
              go_wp2_with fail
              refine (Hname.out _).mono ?_
              rintro e w3 ⟨rfl, hb3⟩
              have hb := below_call hb1 hb3
              generalize nameB P = NB
              cases NB
              all_goals go_wp2_with fail
              all_goals go_ret
              all_goals exact ⟨rfl, hb⟩
            | some k =>
              have hn2 := fun z => Hnum.out z
              rw [hE] at hn2
              have hk1 : numR (i + 1) (some k) = (i : Int) + 1 + (k : Int) := by show ((i + 1 + k : Nat) : Int) = _; omega
              rw [hk1] at hn2
              have Hnum2 := Lib.hid hn2
              clear Hnum hn2 hk1
              by_cases hkl : k < r.length
              · obtain ⟨d, hd⟩ : ∃ d, d = s[i + 1 + k].toNat := ⟨_, rfl⟩
                have hdr : r[k].toNat = d := by rw [hd, hrk k hkl (by omega)]
                have hidx2 := byte_index s (i + 1 + k) (by omega) d hd
                have hcast2 : ((i + 1 + k : Nat) : Int) = (i : Int) + 1 + (k : Int) := by omega
                rw [hcast2] at hidx2
                clear hd hcast2
                by_cases h46 : d = 46
                · have hB : B = (nameB P && numsE r) := HP.out
                  rw [nums_point hE hkl (by omega), Hrd.out] at hB
                  have hnum3 := fun z => refnumber_any s (i + 1 + k + 1) hs (by omega) z
                  have hlen := numR_len (p := i + 1 + k + 1) (s := s) (by omega) (numE (s.drop (i + 1 + k + 1)))
                  have e1 : i + 1 + (k + 1) = i + 1 + k + 1 := by omega
                  rw [e1, ← hlen] at hB
                  have hcast3 : ((i + 1 + k + 1 : Nat) : Int) = (i : Int) + 1 + (k : Int) + 1 := by omega
                  rw [hcast3] at hnum3
                  generalize numR (i + 1 + k + 1) (numE (s.drop (i + 1 + k + 1))) = X at hB hnum3
                  have HB := Lib.hid hB
                  have Hnum3 := Lib.hid hnum3
                  subst h46
                  clear hB hnum3 hlen e1 hcast3 hdr hE HP
                  go_wp2_with fail
                  refine (Hnum2.out _).mono ?_
                  rintro e w2 ⟨rfl, rfl⟩
                  go_wp2_with fail
                  refine (Hname.out _).mono ?_
                  rintro e w3 ⟨rfl, hb3⟩
                  have hb := below_call hb1 hb3
                  generalize nameB P = NB at HB
                  cases NB
                  · have hB : B = false := HB.out
                    subst hB
                    go_wp2_with fail
                    go_ret
                    exact ⟨rfl, hb⟩
                  · go_wp2_with fail
                    refine (Hnum3.out _).mono ?_
                    rintro e w4 ⟨rfl, rfl⟩
                    go_wp2_with fail
                    go_ret
                    exact ⟨by rw [HB.out]; rfl, hb⟩
                · have hB : B = false := by rw [HP.out, nums_else hE hkl (by omega), Bool.and_false]
                  subst hB
                  have hne : ((d : Int) != 46) = true := by rw [bne_iff_ne]; omega
                  clear hdr hE HP h46
                  go_wp2_with fail
                  refine (Hnum2.out _).mono ?_
                  rintro e w2 ⟨rfl, rfl⟩
                  go_wp2_with fail
                  refine (Hname.out _).mono ?_
                  rintro e w3 ⟨rfl, hb3⟩
                  have hb := below_call hb1 hb3
                  generalize nameB P = NB
                  cases NB
                  all_goals go_wp2_with fail
                  all_goals go_ret
                  all_goals exact ⟨rfl, hb⟩
              · have hB : B = false := by rw [HP.out, nums_end hE (by omega), Bool.and_false]
                subst hB
                clear hE HP
                go_wp2_with fail
                refine (Hnum2.out _).mono ?_
                rintro e w2 ⟨rfl, rfl⟩
                go_wp2_with fail
                refine (Hname.out _).mono ?_
                rintro e w3 ⟨rfl, hb3⟩
                have hb := below_call hb1 hb3
                generalize nameB P = NB
                cases NB
                all_goals go_wp2_with fail
                all_goals go_ret
                all_goals exact ⟨rfl, hb⟩
          · have hne : ((c : Int) != 126) = true := by rw [bne_iff_ne]; omega
            have hno2 : ∀ k (hk : k < s.length), k < i + 1 → s[k].toNat ≠ 126 := fun k hk h => by
              by_cases e : k = i
              · subst e; rw [← hc]; exact h126
              · exact hno k hk (by omega)
            have Hno2 := Lib.hid hno2
            clear hno hno2 hc
            go_wp2_with fail
            go_round
            case rel => exact ⟨i + 1, by omega, by go_num, Hno2.out⟩
            case measure => simp [intOf]; omega
        · have hB := Hnone.out fun k hk => hno k hk (by omega)
          subst hB
          clear hno
          go_wp2_with fail
          go_ret
          exact ⟨rfl, hb1⟩
end Go.Proofs.YtgebodibamgipaaGreatDoor
