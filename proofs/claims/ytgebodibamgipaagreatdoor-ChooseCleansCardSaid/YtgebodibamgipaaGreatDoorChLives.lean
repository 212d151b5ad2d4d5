/-
  The laws of choices: lives, short, same.
-/
import Derived.Test.YtgebodibamgipaaGreatDoorChClean
namespace Go.Proofs.YtgebodibamgipaaGreatDoor
open Go.RowKit
set_option maxRecDepth 100000

def shortC (L : List (List UInt8)) : Bool := decide (L.length ≤ 20) && L.all fun s => decide (s.length ≤ 200)
theorem short14_any (ok : Nat → Prop) (A : Option Addr) (c : Nat) (L : List (List UInt8)) (w : World) (hL : Rd w ok A (L.map str)) :
    Calls Tryz.prog 5 #[.slice A L.length c] w fun e w' => e = .returned (.bool (shortC L)) ∧ w = w' := by
  obtain ⟨B, hB⟩ : ∃ B, B = shortC L := ⟨_, rfl⟩
  rw [← hB]
  by_cases hn : 20 < L.length
  · have hb : B = false := by rw [hB]; unfold shortC; rw [decide_eq_false (by omega)]; rfl
    subst hb
    have hgt : (20 : Int) < (L.length : Int) := by omega
    clear hB
    go_enter Tryz.func5, Tryz.ntmps5
    go_wp2
    go_ret
    exact ⟨rfl, rfl⟩
  · have hle : ¬ (20 : Int) < (L.length : Int) := by omega
    have hno : ∀ k (hk : k < L.length), 200 < L[k].length → B = false := fun k hk h => by
      rw [hB]
      unfold shortC
      have : (L.all fun s => decide (s.length ≤ 200)) = false := by
        rw [List.all_eq_false]
        exact ⟨L[k], List.getElem_mem hk, by simp; omega⟩
      rw [this, Bool.and_false]
    have hyes : (∀ k (hk : k < L.length), L[k].length ≤ 200) → B = true := fun h => by
      rw [hB]
      unfold shortC
      rw [decide_eq_true (by omega), Bool.true_and, List.all_eq_true]
      intro s hs
      obtain ⟨k, hk, rfl⟩ := List.getElem_of_mem hs
      simpa using h k hk
    have Hno := Lib.hid hno
    have Hyes := Lib.hid hyes
    have HL := Lib.hid hL
    clear hB hno hyes hL hn
    go_enter Tryz.func5, Tryz.ntmps5
    go_wp2_with fail
    go_loop [10] (fun i => ∃ k : Nat, k ≤ L.length ∧ i = .int .i64 (k : Int) ∧ ∀ j (hj : j < L.length), j < k → L[j].length ≤ 200) (fun i => L.length - (intOf i).toNat)
    case atStart => exact ⟨0, by omega, rfl, fun j hj h => by omega⟩
    case round =>
      obtain ⟨k, hk, rfl, hall⟩ := hrel
      have Hall := Lib.hid hall
      clear hall
      by_cases hlt : k < L.length
      · obtain ⟨b, off, rfl, hc⟩ := cells_at (Below.refl _ _) HL.out (by intro e; subst e; simp at hlt)
        have hck := hc k hlt
        have hnk := Hno.out k hlt
        have hnx : L[k].length ≤ 200 → ∀ j (hj : j < L.length), j < k + 1 → L[j].length ≤ 200 := fun h j hj h2 => by
          by_cases e : j = k
          · subst e; exact h
          · exact Hall.out j hj (by omega)
        generalize L[k] = X at hck hnk hnx
        clear hc
        by_cases hX : 200 < X.length
        · have hb := hnk hX
          subst hb
          have hgt : (200 : Int) < (X.length : Int) := by omega
          clear hnx hnk
          go_wp2_with fail
          go_ret
          exact ⟨rfl, rfl⟩
        · have hngt : ¬ (200 : Int) < (X.length : Int) := by omega
          have Hnx := Lib.hid (hnx (by omega))
          clear hnx hnk hX
          go_wp2_with fail
          go_round
          case rel => exact ⟨k + 1, by omega, by go_num, Hnx.out⟩
          case measure => simp [intOf]; omega
      · have hb := Hyes.out fun j hj => Hall.out j hj (by omega)
        subst hb
        go_wp2_with fail
        go_ret
        exact ⟨rfl, rfl⟩
def SamePost14 (X Y : List (List UInt8)) (w : World) (e : Ending) (w' : World) : Prop := e = .returned (.bool (X == Y)) ∧ Below w.heap.size w w'

theorem same14_any (ok ok' : Nat → Prop) (A B : Option Addr) (c d : Nat) (X Y : List (List UInt8)) (w : World) (hX : Rd w ok A (X.map str)) (hY : Rd w ok' B (Y.map str)) (hx : X.length ≤ 1099511627776) :
    Calls Tryz.prog 8 #[.slice A X.length c, .slice B Y.length d] w (SamePost14 X Y w) := by
  by_cases hlen : X.length = Y.length
  · go_enter Tryz.func8, Tryz.ntmps8
    go_wp2
    go_loopw [13] (fun i wr => ∃ k : Nat, k ≤ X.length ∧ i = .int .i64 (k : Int) ∧ X.take k = Y.take k ∧ Below w.heap.size w wr) (fun i _ => X.length - (intOf i).toNat)
    case atStart => exact ⟨0, by omega, rfl, by simp, Below.refl _ _⟩
    case round =>
      obtain ⟨k, hk, rfl, htk, hbel⟩ := hrel
      by_cases hlt : k < X.length
      · obtain ⟨b, off, rfl, _, had, hel⟩ := hX.at' (by intro e; have := congrArg List.length e; simp at this; subst this; simp at hlt)
        obtain ⟨b', off', rfl, _, had', hel'⟩ := hY.at' (by intro e; have := congrArg List.length e; simp at this; subst this; simp at hlen; subst hlen; simp at hlt)
        have hlt' : k < Y.length := by omega
        have hc1 := (hbel.cell (p := ⟨b, off + k, none⟩) had).trans (hel k (by simpa using hlt))
        have hc2 := (hbel.cell (p := ⟨b', off' + k, none⟩) had').trans (hel' k (by simpa using hlt'))
        rw [List.getElem_map] at hc1 hc2
        clear hel hel'
        have hidx : (k : Int) < (X.length : Int) := by omega
        have hidx' : (k : Int) < (Y.length : Int) := by omega
        go_wp2_with fail
        go_quiet (fail)
        go_wp2
        · rename_i hb
          have hne : X ≠ Y := fun e => by simp [e] at hb
          go_ret
          exact ⟨by rw [beq_eq_false_iff_ne.2 hne]; rfl, below_drewN hbel _⟩
        · rename_i hb
          have heq : X[k] = Y[k] := by simpa using hb
          go_roundw
          case rel =>
            refine ⟨k + 1, by omega, by go_num, ?_, below_drewN hbel _⟩
            rw [List.take_succ_eq_append_getElem hlt, List.take_succ_eq_append_getElem hlt', htk, heq]
          case measure => simp [intOf]; omega
      · obtain rfl : k = X.length := by omega
        have hXY : X = Y := by
          rw [List.take_length, hlen, List.take_length] at htk
          exact htk
        go_wp2
        go_ret
        exact ⟨by rw [beq_iff_eq.2 hXY]; rfl, hbel⟩
  · have hne : X ≠ Y := fun e => hlen (by rw [e])
    go_enter Tryz.func8, Tryz.ntmps8
    go_wp2
    go_ret
    exact ⟨by rw [beq_eq_false_iff_ne.2 hne]; rfl, Below.refl _ _⟩
theorem short_len {s p : List UInt8} (h : shortC [s, p] = true) : s.length ≤ 200 ∧ p.length ≤ 200 := by
  unfold shortC at h
  simp at h
  omega
theorem short_few {L : List Txt} (h : shortC L = true) : L.length ≤ 20 := by
  unfold shortC at h
  simp at h
  omega
theorem rd_new14 (w : World) (T : TypeId) (L : List (List UInt8)) : Rd (w.alloc (.cells (L.map str).toArray T)) (fun _ => True) (some ⟨w.heap.size, 0, none⟩) (L.map str) := by
  have := (Blk.new w T (L.map str).toArray).rd (fun _ => True) trivial
  simpa using this
/-! ### lives -/
def lvC : List Txt := [[47, 98], [47, 97, 47, 99], [47, 97]]
def lvT : List Txt := [[47, 97], [47, 98]]
theorem lvpart {x : UInt8} (h : nameB [x] = true) (h2 : x ≠ 126) : partB [x] = true := by
  rw [part_plain (by intro b hb; rw [List.mem_singleton.1 hb]; exact h2), h, Bool.or_true]
theorem lvs1 (x : UInt8) (h : nameB [x] = true) (h2 : x ≠ 126) : splitV [47, x] = some [[x]] := path_split (L := [[x]]) (by simp) (by unfold pathT; rw [Lib.join_one]; simp) fun p hp => by rw [List.mem_singleton.1 hp]; exact lvpart h h2
theorem lvs2 (x y : UInt8) (h : nameB [x] = true) (h2 : x ≠ 126) (h3 : nameB [y] = true) (h4 : y ≠ 126) : splitV [47, x, 47, y] = some [[x], [y]] := path_split (L := [[x], [y]]) (by simp) (by simp [pathT, Lib.join_cons, Lib.joinTail]) fun p hp => by
  rcases List.mem_cons.1 hp with rfl | hp
  · exact lvpart h h2
  · rw [List.mem_singleton.1 hp]; exact lvpart h3 h4
theorem lva : splitV [47, 97] = some [[97]] := lvs1 97 (by decide) (by decide)
theorem lvb : splitV [47, 98] = some [[98]] := lvs1 98 (by decide) (by decide)
theorem lvac : splitV [47, 97, 47, 99] = some [[97], [99]] := lvs2 97 99 (by decide) (by decide) (by decide) (by decide)
theorem lvax : splitV [47, 97, 47, 120] = some [[97], [120]] := lvs2 97 120 (by decide) (by decide) (by decide) (by decide)
theorem lv_tops : Tops lvC lvT where
  rise := by decide
  sub := by decide
  apart := fun s t hs ht hw => by
    unfold lvT at hs ht
    simp only [List.mem_cons, List.not_mem_nil, or_false] at hs ht
    rcases hs with rfl | rfl <;> rcases ht with rfl | rfl
    · rfl
    · rw [within_some lva lvb] at hw; revert hw; decide
    · rw [within_some lvb lva] at hw; revert hw; decide
    · rfl
  all := fun s hs => by
    unfold lvC at hs
    simp only [List.mem_cons, List.not_mem_nil, or_false] at hs
    rcases hs with rfl | rfl | rfl
    · exact ⟨_, by unfold lvT; simp, within_self (pathB_iff.2 ⟨_, lvb⟩)⟩
    · exact ⟨[47, 97], by unfold lvT; simp, by rw [within_some lvac lva]; rfl⟩
    · exact ⟨[47, 97], by unfold lvT; simp, within_self (pathB_iff.2 ⟨_, lva⟩)⟩
theorem lv_paths : ∀ s, s ∈ lvC → pathB s = true := fun s hs => by
  unfold lvC at hs
  simp only [List.mem_cons, List.not_mem_nil, or_false] at hs
  rcases hs with rfl | rfl | rfl
  · exact pathB_iff.2 ⟨_, lvb⟩
  · exact pathB_iff.2 ⟨_, lvac⟩
  · exact pathB_iff.2 ⟨_, lva⟩
theorem lv_clean : cleanV lvC = (lvT, 0) := by
  have h : cleanT lvC = lvT := ((cleanT_tops lv_paths).unique lv_tops.rise lv_tops.mem).symm
  unfold cleanV
  rw [if_pos (List.all_eq_true.2 lv_paths), h, if_neg (by decide)]
theorem lv_has : chHas lvT [47, 97, 47, 120] = true := by
  unfold chHas
  rw [show (lvT.any fun t => withinV [47, 97, 47, 120] t) = true from List.any_eq_true.2 ⟨[47, 97], by unfold lvT; simp, by rw [within_some lvax lva]; rfl⟩, Bool.or_true]
set_option maxHeartbeats 2000000 in
theorem lives14_any (w : World) (he : Env w) : Calls Tryz.prog 4 #[] w fun e w' => e = .returned (.bool true) ∧ Below w.heap.size w w' := by
  have hbel : Below w.heap.size w (w.alloc (.cells #[.string ⟨#[47, 98]⟩, .string ⟨#[47, 97, 47, 99]⟩, .string ⟨#[47, 97]⟩] 9)) := (Below.refl _ _).alloc (Nat.le_refl _) _
  have h1 : Calls Tryz.prog 6 #[.slice (some ⟨w.heap.size, 0, none⟩) 3 3] (w.alloc (.cells #[.string ⟨#[47, 98]⟩, .string ⟨#[47, 97, 47, 99]⟩, .string ⟨#[47, 97]⟩] 9)) fun e w' => (∃ v, e = .returned (.tuple #[v, .int .i64 0]) ∧ TextsAt w' v lvT) ∧ Below (w.alloc (.cells #[.string ⟨#[47, 98]⟩, .string ⟨#[47, 97, 47, 99]⟩, .string ⟨#[47, 97]⟩] 9)).heap.size (w.alloc (.cells #[.string ⟨#[47, 98]⟩, .string ⟨#[47, 97, 47, 99]⟩, .string ⟨#[47, 97]⟩] 9)) w' := by
    have h := clean_any (fun _ => True) (some ⟨w.heap.size, 0, none⟩) 3 lvC _ (he.grow hbel) (rd_new14 w 9 lvC) (by decide)
    rw [lv_clean] at h
    exact h
  have hn : ∀ z, Env z → Calls Tryz.prog 12 #[.slice none 0 0, .string ⟨#[47]⟩] z fun e w' => e = .returned (.bool true) ∧ Below z.heap.size z w' := fun z hz => leads_any (fun _ => True) none 0 [] [47] z hz Rd.nil (by decide)
  have H1 := Lib.hid h1
  have Hn := Lib.hid hn
  have He := Lib.hid he
  have Hbel := Lib.hid hbel
  clear h1 hn he hbel
  go_enter Tryz.func4, Tryz.ntmps4
  go_wp2_with fail
  refine H1.out.mono ?_
  rintro e w1 ⟨⟨v, rfl, A, c, hv, hc1, hc2, hrd⟩, hb1⟩
  have hb01 := below_call Hbel.out hb1
  obtain ⟨b, off, hA, hc⟩ := cells_at (Below.refl _ w1) hrd (by unfold lvT; simp)
  have c0 : w1.cell? ⟨b, off, none⟩ = some (.string ⟨#[47, 97]⟩) := hc 0 (by decide)
  have c1 : w1.cell? ⟨b, off + 1, none⟩ = some (.string ⟨#[47, 98]⟩) := hc 1 (by decide)
  have hh : Calls Tryz.prog 11 #[.slice A 2 c, .string ⟨#[47, 97, 47, 120]⟩] w1 fun e w' => e = .returned (.bool true) ∧ Below w1.heap.size w1 w' := by
    have h := has_any (fun _ => True) A c lvT [47, 97, 47, 120] w1 (he := He.out.grow hb01) hrd (by decide)
    rw [lv_has] at h
    exact h
  have hv2 : v = .slice A 2 c := hv
  subst hA
  subst hv2
  have Hh := Lib.hid hh
  clear hh hv hc hrd
  go_wp2_with fail
  refine Hh.out.mono ?_
  rintro e w2 ⟨rfl, hb2⟩
  have hb02 := below_call hb01 hb2
  go_wp2_with fail
  refine (Hn.out _ (He.out.grow hb02)).mono ?_
  rintro e w3 ⟨rfl, hb3⟩
  go_wp2_with fail
  go_ret
  exact ⟨rfl, below_call hb02 hb3⟩
end Go.Proofs.YtgebodibamgipaaGreatDoor
