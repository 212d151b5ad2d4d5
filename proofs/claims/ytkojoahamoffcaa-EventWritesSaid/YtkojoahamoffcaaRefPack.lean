/-
  The reference's Pack: fields as they lie, as a text.
-/
import Derived.Test.YtkojoahamoffcaaRef01
namespace Go.Proofs.Ytkojoahamoffcaa
open Go.RowKit
set_option maxRecDepth 100000

theorem refpack_any (ok : Nat → Prop) (A : Option Addr) (c : Nat) (L : List (List UInt8)) (w : World) (hr : Rd w ok A (L.map str)) (hn : L.length ≤ 1099511627776) (hsum : (packB L).length ≤ 1099511627776) (hall : ∀ f ∈ L, f.length ≤ 65535) :
    Calls Try.prog 34 #[.slice A L.length c] w fun e w' => e = .returned (.tuple #[str (packB L), .int .i64 0]) ∧ Below w.heap.size w w' := by
  have Hr := Lib.hid hr
  have Hsum := Lib.hid hsum
  have Hall := Lib.hid hall
  clear hr hsum hall
  go_enter Try.func34, Try.ntmps34
  go_wp2
  go_loopw [4, 5] (fun v i wr => ∃ k : Nat, k ≤ L.length ∧ i = .int .i64 (k : Int) ∧ v = str (packB (L.take k)) ∧ Below w.heap.size w wr) (fun _ i _ => L.length - (intOf i).toNat)
  case atStart => exact ⟨0, by omega, rfl, rfl, Below.refl _ _⟩
  case round =>
    obtain ⟨k, hk, rfl, rfl, hbel⟩ := hrel
    by_cases hlt : k < L.length
    · obtain ⟨b, off, rfl, _, had, hel⟩ := Hr.out.at' (by intro e; have := congrArg List.length e; simp at this; subst this; simp at hlt)
      have hcell := (hbel.cell (p := ⟨b, off + k, none⟩) had).trans (hel k (by simpa using hlt))
      rw [List.getElem_map] at hcell
      clear hel
      have hlen := Hall.out _ (List.getElem_mem hlt)
      have hadd : ∀ u : World, (Op.stringOp .add ⟨(packB (L.take k)).toArray⟩ ⟨(fieldB L[k]).toArray⟩).run Try.prog u = .ok (str (packB (L.take (k + 1)))) u := fun u => by
        rw [run_str_add u _ _ (by have := packB_take_le L (k + 1); have := Hsum.out; rw [packB_take_succ L k hlt, List.length_append] at *; omega), packB_take_succ L k hlt]
      go_wp2_with (go_at_call 56; refine (reffield_any L[k] _ hlen).mono ?_; rintro e w1 ⟨rfl, hb1⟩)
      go_roundw
      case rel => exact ⟨k + 1, by omega, by go_num, rfl, hbel.trans (hb1.mono hbel.size)⟩
      case measure => simp [intOf]; omega
    · obtain rfl : k = L.length := by omega
      rw [List.take_length]
      go_wp2
      go_ret2
      exact ⟨rfl, hbel⟩
end Go.Proofs.Ytkojoahamoffcaa
