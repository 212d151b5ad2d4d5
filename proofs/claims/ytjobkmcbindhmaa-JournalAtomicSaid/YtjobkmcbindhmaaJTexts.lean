/-
  The laws' texts and same.
-/
import Derived.Test.YtjobkmcbindhmaaBytes
import Derived.Deep.QuietTactic
import Derived.BigQuiet
import Derived.Lib.Hide
import Derived.Test.YtjobkmcbindhmaaJRead
namespace Go.Proofs.Ytjobkmcbindhmaa
open Go.RowKit
set_option maxRecDepth 100000

theorem elemS : ElemT Try.prog 30 9 16 := ElemT.mk_ (z := .string ByteArray.empty) Try.underlying30 (by kernel_rfl) rfl

/-- What texts answers. -/
def TextsPost (L : List (List UInt8)) (w : World) (e : Ending) (w' : World) : Prop :=
  (∃ v, e = .returned v ∧ Own1 w' w.heap.size 9 v (L.map str)) ∧ Below w.heap.size w w'

theorem texts_any (ok : Nat → Prop) (v0 : Value) (L : List (List UInt8)) (w : World) (hL : IsBB w ok v0 L) (hn : L.length ≤ 1099511627776) :
    Calls Try.prog 20 #[v0] w (TextsPost L w) := by
  obtain ⟨A, c, rfl, hc, hm, hel⟩ := hL.elem
  unfold maxLen at hm
  have Hel := Lib.hid hel
  clear hel hm
  go_enter Try.func20, Try.ntmps20
  go_wp2
  go_loopw [3, 8] (fun v i wr => ∃ k : Nat, k ≤ L.length ∧ i = .int .i64 (k : Int) ∧ Own1 wr w.heap.size 9 v ((L.take k).map str) ∧ Below w.heap.size w wr) (fun _ i _ => L.length - (intOf i).toNat)
  case atStart => exact ⟨0, by omega, rfl, Own1.nil _ _ _, Below.refl _ _⟩
  case round =>
    obtain ⟨k, hk, rfl, hown, hbel⟩ := hrel
    by_cases hlt : k < L.length
    · obtain ⟨b, off, rfl, _, had, hel⟩ := Hel.out (by intro e; subst e; simp at hlt)
      obtain ⟨Ai, ci, hcell, hci, hcm, hrd⟩ := hel k hlt
      have hcell' : wr.cell? ⟨b, off + k, none⟩ = some (.slice Ai L[k].length ci) := (hbel.cell (p := ⟨b, off + k, none⟩) had).trans hcell
      clear hel
      have hrd' := hrd.grow hbel
      clear hcell hrd
      go_wp2_with (first | (with_reducible refine wpList_bytes_str 5 Try.underlying48 Try.underlying5 Try.underlying9 ok Ai ci L[k] rfl hrd' ?_) | (at_builtin; refine wpList_app1_one _ elemS rfl (.tmp 12) (.tmp 15) rfl w.heap.size _ _ rfl hown (str L[k]) _ rfl rfl (by simp; omega) (by simp; omega) hbel.size ?_; intro v2 w2 hown2 hg2 hat2))
      go_roundw
      case rel =>
        refine ⟨k + 1, by omega, by go_num, ?_, hbel.trans (hown.below_of hg2 hbel.size (Nat.le_refl _))⟩
        rw [List.take_succ_eq_append_getElem hlt, List.map_append]
        exact hown2
      case measure => simp [intOf]; omega
    · obtain rfl : k = L.length := by omega
      rw [List.take_length] at hown
      go_wp2
      go_ret
      exact ⟨⟨_, rfl, hown⟩, hbel⟩

/-- The same, opened: texts that lie in fresh memory. -/
theorem texts_at (ok : Nat → Prop) (v0 : Value) (L : List (List UInt8)) (w : World) (hL : IsBB w ok v0 L) (hn : L.length ≤ 1099511627776) :
    Calls Try.prog 20 #[v0] w fun e w' => ∃ A c, e = .returned (.slice A L.length c) ∧ Own1 w' w.heap.size 9 (.slice A L.length c) (L.map str) ∧ Rd w' (fun _ => True) A (L.map str) ∧ Below w.heap.size w w' :=
  (texts_any ok v0 L w hL hn).mono fun e w' ⟨⟨v, he, ho⟩, hb⟩ => by
    obtain ⟨A, c, hv, _, _, hr⟩ := ho.form
    rw [List.length_map] at hv
    subst hv
    exact ⟨A, c, he, ho, hr.weaken fun _ _ => trivial, hb⟩

def SamePost (X Y : List (List UInt8)) (w : World) (e : Ending) (w' : World) : Prop := e = .returned (.bool (X == Y)) ∧ Below w.heap.size w w'
set_option maxHeartbeats 400000 in
theorem samej_any (ok ok' : Nat → Prop) (v : Value) (B : Option Addr) (d : Nat) (X Y : List (List UInt8)) (w : World) (hX : IsBB w ok v X) (hY : Rd w ok' B (Y.map str)) (hx : X.length ≤ 1099511627776) :
    Calls Try.prog 23 #[v, .slice B Y.length d] w (SamePost X Y w) := by
  obtain ⟨A, c, rfl, hc, hm, hel⟩ := hX.elem
  have Hel := Lib.hid hel
  clear hel hm hX
  by_cases hlen : X.length = Y.length
  · have hlen' : (X.length : Int) = (Y.length : Int) := by omega
    go_enter Try.func23, Try.ntmps23
    go_wp2_with fail
    go_loopw [14] (fun i wr => ∃ k : Nat, k ≤ Y.length ∧ i = .int .i64 (k : Int) ∧ X.take k = Y.take k ∧ Below w.heap.size w wr) (fun i _ => Y.length - (intOf i).toNat)
    case atStart => exact ⟨0, by omega, rfl, by simp, Below.refl _ _⟩
    case round =>
      obtain ⟨k, hk, rfl, htk, hbel⟩ := hrel
      by_cases hlt : k < Y.length
      · have hlt' : k < X.length := by omega
        obtain ⟨b, off, rfl, _, had, hcells⟩ := Hel.out (by intro e; rw [e] at hlt'; simp at hlt')
        obtain ⟨Ai, ci, hcell, hci, hcm, hri⟩ := hcells k hlt'
        obtain ⟨b', off', rfl, _, had', hel'⟩ := hY.at' (by intro e; have := congrArg List.length e; simp at this; subst this; simp at hlt)
        have hc1 := (hbel.cell (p := ⟨b, off + k, none⟩) had).trans hcell
        have hc2 := (hbel.cell (p := ⟨b', off' + k, none⟩) had').trans (hel' k (by simpa using hlt))
        rw [List.getElem_map] at hc2
        have hcv := conv_is (show IsB wr ok (.slice Ai X[k].length ci) X[k] from ⟨Ai, ci, rfl, hci, hcm, hri.frame fun q _ hq => hbel.block q hq⟩)
        clear hel' hcells hcell hri
        have hidx : (k : Int) < (X.length : Int) := by omega
        have hidx' : (k : Int) < (Y.length : Int) := by omega
        have Htk := Lib.hid htk
        clear htk
        go_wp2
        · rename_i hb
          have hne : X ≠ Y := fun e => by simp [e] at hb
          go_ret
          exact ⟨by rw [beq_eq_false_iff_ne.2 hne]; rfl, hbel⟩
        · rename_i hb
          have heq : X[k] = Y[k] := by simpa using hb
          go_roundw
          case rel => exact ⟨k + 1, by omega, by go_num, by rw [List.take_succ_eq_append_getElem hlt, List.take_succ_eq_append_getElem hlt', Htk.out, heq], hbel⟩
          case measure => simp [intOf]; omega
      · obtain rfl : k = Y.length := by omega
        have hXY : X = Y := by
          rw [← hlen, List.take_length, hlen, List.take_length] at htk
          exact htk
        have HXY := Lib.hid hXY
        clear hXY htk
        go_wp2
        go_ret
        exact ⟨by rw [beq_iff_eq.2 HXY.out]; rfl, hbel⟩
  · have hne : X ≠ Y := fun e => hlen (by rw [e])
    have hlen' : ¬ (X.length : Int) = (Y.length : Int) := by omega
    have Hne := Lib.hid hne
    clear hne
    go_enter Try.func23, Try.ntmps23
    go_wp2
    go_ret
    exact ⟨by rw [beq_eq_false_iff_ne.2 Hne.out]; rfl, Below.refl _ _⟩
end Go.Proofs.Ytjobkmcbindhmaa
