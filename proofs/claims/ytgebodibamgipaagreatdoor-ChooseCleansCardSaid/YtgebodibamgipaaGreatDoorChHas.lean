/-
  choose: isPath, Has, Leads; the document's Path.
-/
import Derived.Test.YtgebodibamgipaaGreatDoorChMath
import Derived.Test.YtgebodibamgipaaGreatDoorPaSplit
import Derived.Test.YtgebodibamgipaaGreatDoorPaRefRest
namespace Go.Proofs.YtgebodibamgipaaGreatDoor
open Go.RowKit
set_option maxRecDepth 100000

theorem split_code {s : Txt} {w w' : World} {e : Ending} (h : SplitPost s w e w') : ∃ (V : Value) (C : Int), Hid ((C == 0) = pathB s) ∧ e = .returned (.tuple #[V, .int .i64 C]) ∧ Below w.heap.size w w' := by
  obtain ⟨hb, ⟨X, A, c, hX, _, _, rfl, _⟩ | ⟨hX, rfl⟩⟩ := h
  · exact ⟨_, 0, Lib.hid (by unfold pathB; rw [hX]; rfl), rfl, hb⟩
  · exact ⟨_, 20, Lib.hid (by unfold pathB; rw [hX]; rfl), rfl, hb⟩
theorem ispath_any (s : Txt) (w : World) (he : Env w) : Calls Tryz.prog 13 #[.string ⟨s.toArray⟩] w fun e w' => e = .returned (.bool (pathB s)) ∧ Below w.heap.size w w' := by
  have H := Lib.hid (psplit_any s w he)
  clear he
  go_enter Tryz.func13, Tryz.ntmps13
  go_wp2_with fail
  refine H.out.mono ?_
  rintro e w1 h
  obtain ⟨V, C, hC, rfl, hb⟩ := split_code h
  clear h
  go_wp2_with fail
  go_ret
  exact ⟨by rw [← hC.out]; rfl, hb⟩
theorem refpath_any (s : Txt) (w : World) : Calls Tryz.prog 18 #[.string ⟨s.toArray⟩] w fun e w' => e = .returned (.bool (pathB s)) ∧ Below w.heap.size w w' := by
  have H := Lib.hid (refsplit_any s w)
  go_enter Tryz.func18, Tryz.ntmps18
  go_wp2_with fail
  refine H.out.mono ?_
  rintro e w1 h
  obtain ⟨V, C, hC, rfl, hb⟩ := split_code h
  clear h
  go_wp2_with fail
  go_ret
  exact ⟨by rw [← hC.out]; rfl, hb⟩

/-! ### Predicates over texts -/
/-- What a function says of any text, in whatever world that has come of this one. -/
def PredT (g : Nat) (lb : Array Value) (p : Txt → Bool) (w : World) : Prop :=
  ∀ (W : World) (x : Txt), Below w.heap.size w W → Calls Tryz.prog g (#[.string ⟨x.toArray⟩] ++ lb) W fun e w' => e = .returned (.bool (p x)) ∧ Below W.heap.size W w'
theorem has1_pred (s : Txt) (b : Nat) (w : World) (he : Env w) (hc : w.cell? ⟨b, 0, none⟩ = some (.string ⟨s.toArray⟩)) : PredT 22 #[.pointer (some ⟨b, 0, none⟩)] (fun t => withinV s t) w := fun W x hW => by
  have h1 := (hW.cell (p := ⟨b, 0, none⟩) (World.block_lt_of_cell? w _ hc)).trans hc
  have H := Lib.hid (pwithin_any s x W (he.grow hW))
  clear hc
  go_enter Tryz.func22, Tryz.ntmps22
  go_wp2_with fail
  refine H.out.mono ?_
  rintro e w1 ⟨rfl, hb⟩
  go_wp2_with fail
  go_ret
  exact ⟨rfl, hb⟩
theorem leads1_pred (s : Txt) (b : Nat) (w : World) (he : Env w) (hc : w.cell? ⟨b, 0, none⟩ = some (.string ⟨s.toArray⟩)) : PredT 23 #[.pointer (some ⟨b, 0, none⟩)] (fun t => withinV t s) w := fun W x hW => by
  have h1 := (hW.cell (p := ⟨b, 0, none⟩) (World.block_lt_of_cell? w _ hc)).trans hc
  have H := Lib.hid (pwithin_any x s W (he.grow hW))
  clear hc
  go_enter Tryz.func23, Tryz.ntmps23
  go_wp2_with fail
  refine H.out.mono ?_
  rintro e w1 ⟨rfl, hb⟩
  go_wp2_with fail
  go_ret
  exact ⟨rfl, hb⟩
theorem any_take {p : Txt → Bool} {L : List Txt} {k : Nat} (h : k < L.length) (hb : (L.take k).any p = false) (hk : p L[k] = false) : (L.take (k + 1)).any p = false := by
  rw [List.take_succ_eq_append_getElem h, List.any_append, hb]
  simp [hk]
theorem any_at {p : Txt → Bool} {L : List Txt} {k : Nat} (h : k < L.length) (hk : p L[k] = true) : L.any p = true := List.any_eq_true.2 ⟨L[k], List.getElem_mem h, hk⟩

set_option maxHeartbeats 1000000 in
theorem indexT_any (g : Nat) (lb : Array Value) (p : Txt → Bool) (eg : ∀ args w, (callFunc g args).run Tryz.prog w = .ok (.enter g args) w) (ok : Nat → Prop) (A : Option Addr) (c : Nat) (L : List Txt) (w : World) (hL : Rd w ok A (L.map str)) (hl : L.length ≤ 100000) (hp : PredT g lb p w) :
    Calls Tryz.prog 33 #[.slice A L.length c, .func (.func g) #[] lb] w fun e w' => (∃ i : Int, e = .returned (.int .i64 i) ∧ decide (0 ≤ i) = L.any p) ∧ Below w.heap.size w w' := by
  have HL := Lib.hid hL
  have Hp := Lib.hid hp
  obtain ⟨n, hn⟩ : ∃ n, n = L.length := ⟨_, rfl⟩
  rw [← hn] at hl ⊢
  have Hn := Lib.hid hn
  clear hL hp hn
  go_enter Tryz.func33, Tryz.ntmps33
  go_wp2_with fail
  go_loopw [8] (fun i wr => ∃ (k : Nat), k ≤ n ∧ i = .int .i64 (k : Int) ∧ (L.take k).any p = false ∧ Below w.heap.size w wr) (fun i _ => n - (intOf i).toNat)
  case atStart => exact ⟨0, by omega, rfl, by rw [List.take_zero]; rfl, Below.refl _ _⟩
  case round =>
    obtain ⟨k, hk, rfl, hno, hbw⟩ := hrel
    have Hno := Lib.hid hno
    have Hbw := Lib.hid hbw
    clear hno hbw
    by_cases hlt : k < n
    · have hkl : k < L.length := by rw [← Hn.out]; exact hlt
      obtain ⟨b, off, rfl, hc⟩ := cells_at Hbw.out HL.out (by intro e; subst e; simp at hkl)
      have c1 := hc k hkl
      obtain ⟨x, hx⟩ : ∃ x, x = L[k] := ⟨_, rfl⟩
      rw [← hx] at c1
      have Hx := Lib.hid hx
      have Hpx := Lib.hid (Hp.out wr x Hbw.out)
      obtain ⟨q, hq⟩ : ∃ q, q = p x := ⟨_, rfl⟩
      rw [← hq] at Hpx
      have Hq := Lib.hid hq
      clear hc hx hq
      cases q with
      | false =>
        go_wp2_with (go_at_fn g; go_must (refine Hpx.out.mono ?_; rintro e1 w1 ⟨rfl, hb1⟩; have HB1 := Lib.hid hb1; clear hb1))
        go_roundw
        case rel => exact ⟨k + 1, by omega, by go_num, any_take hkl Hno.out (by rw [← Hx.out]; exact Hq.out.symm), below_call Hbw.out HB1.out⟩
        case measure => simp [intOf]; omega
      | true =>
        go_wp2_with (go_at_fn g; go_must (refine Hpx.out.mono ?_; rintro e1 w1 ⟨rfl, hb1⟩; have HB1 := Lib.hid hb1; clear hb1))
        go_ret
        exact ⟨⟨_, rfl, by rw [any_at hkl (by rw [← Hx.out]; exact Hq.out.symm)]; simp⟩, below_call Hbw.out HB1.out⟩
    · obtain rfl : k = n := by omega
      have hall := Hno.out
      rw [List.take_of_length_le (by rw [Hn.out]; exact Nat.le_refl _)] at hall
      have Hall := Lib.hid hall
      clear hall
      go_wp2_with fail
      go_ret
      exact ⟨⟨_, rfl, by rw [Hall.out]; rfl⟩, Hbw.out⟩
theorem containsT_any (g : Nat) (lb : Array Value) (p : Txt → Bool) (eg : ∀ args w, (callFunc g args).run Tryz.prog w = .ok (.enter g args) w) (ok : Nat → Prop) (A : Option Addr) (c : Nat) (L : List Txt) (w : World) (hL : Rd w ok A (L.map str)) (hl : L.length ≤ 100000) (hp : PredT g lb p w) :
    Calls Tryz.prog 21 #[.slice A L.length c, .func (.func g) #[] lb] w fun e w' => e = .returned (.bool (L.any p)) ∧ Below w.heap.size w w' := by
  have H := Lib.hid (indexT_any g lb p eg ok A c L w hL hl hp)
  clear hL hp
  go_enter Tryz.func21, Tryz.ntmps21
  go_wp2_with fail
  refine H.out.mono ?_
  rintro e w1 ⟨⟨i, rfl, hi⟩, hb⟩
  have Hi := Lib.hid hi
  clear hi
  go_wp2_with fail
  go_ret
  exact ⟨by rw [← Hi.out]; rfl, hb⟩
theorem len_zero (L : List Txt) : (((L.length : Nat) : Int) == 0) = L.isEmpty := by
  cases L with
  | nil => rfl
  | cons a r => simp; omega
theorem has_any (ok : Nat → Prop) (A : Option Addr) (c : Nat) (L : List Txt) (s : Txt) (w : World) (he : Env w) (hL : Rd w ok A (L.map str)) (hl : L.length ≤ 100000) :
    Calls Tryz.prog 11 #[.slice A L.length c, .string ⟨s.toArray⟩] w fun e w' => e = .returned (.bool (chHas L s)) ∧ Below w.heap.size w w' := by
  have hbel : Below w.heap.size w (w.alloc (.cells #[.string ⟨s.toArray⟩] 9)) := (Below.refl _ _).alloc (Nat.le_refl _) _
  have H := Lib.hid (containsT_any 22 #[.pointer (some ⟨w.heap.size, 0, none⟩)] (fun t => withinV s t) (enters_of Tryz.func22 (by kernel_rfl) rfl) ok A c L _ (hL.grow hbel) hl (has1_pred s w.heap.size _ (he.grow hbel) ((Blk.new w 9 #[.string ⟨s.toArray⟩]).cell 0)))
  have hz := len_zero L
  have hE : chHas L s = (L.isEmpty || L.any fun t => withinV s t) := rfl
  obtain ⟨n, hn⟩ : ∃ n, n = L.length := ⟨_, rfl⟩
  obtain ⟨Q, hQ⟩ : ∃ Q, Q = L.any fun t => withinV s t := ⟨_, rfl⟩
  obtain ⟨B, hB⟩ : ∃ B, B = L.isEmpty := ⟨_, rfl⟩
  rw [← hQ, ← hn] at H
  rw [← hn, ← hB] at hz
  rw [← hQ, ← hB] at hE
  rw [← hn, hE]
  have Hbel := Lib.hid hbel
  have Hz := Lib.hid hz
  clear hE hQ hB hn hL hl he hbel hz
  cases B with
  | true =>
    have hz := Hz.out
    go_enter Tryz.func11, Tryz.ntmps11
    go_wp2_with fail
    go_ret
    exact ⟨rfl, Hbel.out⟩
  | false =>
    have hz := Hz.out
    go_enter Tryz.func11, Tryz.ntmps11
    go_wp2_with fail
    refine H.out.mono ?_
    rintro e w1 ⟨rfl, hb⟩
    go_wp2_with fail
    go_ret
    exact ⟨by simp, below_call Hbel.out hb⟩
theorem leads_any (ok : Nat → Prop) (A : Option Addr) (c : Nat) (L : List Txt) (s : Txt) (w : World) (he : Env w) (hL : Rd w ok A (L.map str)) (hl : L.length ≤ 100000) :
    Calls Tryz.prog 12 #[.slice A L.length c, .string ⟨s.toArray⟩] w fun e w' => e = .returned (.bool (chLeads L s)) ∧ Below w.heap.size w w' := by
  have hbel : Below w.heap.size w (w.alloc (.cells #[.string ⟨s.toArray⟩] 9)) := (Below.refl _ _).alloc (Nat.le_refl _) _
  have hcl := (Blk.new w 9 #[.string ⟨s.toArray⟩]).cell 0
  have H1 := Lib.hid (has_any ok A c L s _ (he.grow hbel) (hL.grow hbel) hl)
  have H := Lib.hid fun z (hz : Below (w.alloc (.cells #[.string ⟨s.toArray⟩] 9)).heap.size (w.alloc (.cells #[.string ⟨s.toArray⟩] 9)) z) => containsT_any 23 #[.pointer (some ⟨w.heap.size, 0, none⟩)] (fun t => withinV t s) (enters_of Tryz.func23 (by kernel_rfl) rfl) ok A c L z ((hL.grow hbel).grow hz) hl (leads1_pred s w.heap.size _ ((he.grow hbel).grow hz) ((hz.cell (p := ⟨w.heap.size, 0, none⟩) (by simp)).trans hcl))
  have hE : chLeads L s = (chHas L s || L.any fun t => withinV t s) := rfl
  obtain ⟨n, hn⟩ : ∃ n, n = L.length := ⟨_, rfl⟩
  obtain ⟨Q, hQ⟩ : ∃ Q, Q = L.any fun t => withinV t s := ⟨_, rfl⟩
  obtain ⟨B, hB⟩ : ∃ B, B = chHas L s := ⟨_, rfl⟩
  rw [← hQ, ← hn] at H
  rw [← hn, ← hB] at H1
  rw [← hQ, ← hB] at hE
  rw [← hn, hE]
  have Hbel := Lib.hid hbel
  clear hE hQ hB hn hL hl he hbel hcl
  cases B with
  | true =>
    go_enter Tryz.func12, Tryz.ntmps12
    go_wp2_with fail
    refine H1.out.mono ?_
    rintro e w1 ⟨rfl, hb⟩
    go_wp2_with fail
    go_ret
    exact ⟨rfl, below_call Hbel.out hb⟩
  | false =>
    go_enter Tryz.func12, Tryz.ntmps12
    go_wp2_with fail
    refine H1.out.mono ?_
    rintro e w1 ⟨rfl, hb⟩
    go_wp2_with fail
    refine (H.out _ hb).mono ?_
    rintro e w2 ⟨rfl, hb2⟩
    go_wp2_with fail
    go_ret
    exact ⟨by simp, below_call (below_call Hbel.out hb) hb2⟩
end Go.Proofs.YtgebodibamgipaaGreatDoor
