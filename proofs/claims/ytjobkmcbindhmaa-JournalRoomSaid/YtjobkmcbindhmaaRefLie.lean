/-
  wardshipref04.Lie.
-/
import Derived.Test.YtjobkmcbindhmaaRefField
import Derived.Test.YtjobkmcbindhmaaRefSum
import Derived.Test.YtjobkmcbindhmaaJRead
namespace Go.Proofs.Ytjobkmcbindhmaa
open Go.RowKit
set_option maxRecDepth 100000

set_option maxHeartbeats 400000 in
theorem reflie_any (ok : Nat → Prop) (A : Option Addr) (c : Nat) (L : List (List UInt8)) (w : World) (hr : Rd w ok A (L.map str)) (hn : L.length ≤ 1099511627776) (hsum : (recsB L).length ≤ 1099511627776) (hall : ∀ f ∈ L, f.length ≤ 65531) :
    Calls Try.prog 25 #[.slice A L.length c] w fun e w' => e = .returned (str (recsB L)) ∧ Below w.heap.size w w' := by
  have Hr := Lib.hid hr
  have Hsum := Lib.hid hsum
  have Hall := Lib.hid hall
  clear hr hsum hall
  go_enter Try.func25, Try.ntmps25
  go_wp2_with fail
  go_loopw [3, 4] (fun v i wr => ∃ k : Nat, k ≤ L.length ∧ i = .int .i64 (k : Int) ∧ v = str (recsB (L.take k)) ∧ Below w.heap.size w wr) (fun _ i _ => L.length - (intOf i).toNat)
  case atStart => exact ⟨0, by omega, rfl, rfl, Below.refl _ _⟩
  case round =>
    obtain ⟨k, hk, rfl, rfl, hbel⟩ := hrel
    by_cases hlt : k < L.length
    · obtain ⟨b, off, rfl, _, had, hel⟩ := Hr.out.at' (by intro e; have := congrArg List.length e; simp at this; subst this; simp at hlt)
      have hcell := (hbel.cell (p := ⟨b, off + k, none⟩) had).trans (hel k (by simpa using hlt))
      rw [List.getElem_map] at hcell
      clear hel
      have hlen := Hall.out _ (List.getElem_mem hlt)
      have hadd : ∀ u : World, (Op.stringOp .add ⟨(recsB (L.take k)).toArray⟩ ⟨(recB L[k]).toArray⟩).run Try.prog u = .ok (str (recsB (L.take (k + 1)))) u := fun u => by
        rw [run_str_add u _ _ (by have := recsB_take_le L (k + 1); have := Hsum.out; rw [recsB_take_succ L k hlt, List.length_append] at *; omega), recsB_take_succ L k hlt]
      go_wp2_with (first | (go_at_call 51; refine (refseal_any L[k] _ (by omega)).mono ?_; rintro e w1 ⟨rfl, hb1⟩) | (go_at_call 50; refine (reffield_any (L[k] ++ sumB L[k]) _ (by rw [List.length_append, sumB_length]; omega)).mono ?_; rintro e w2 ⟨rfl, hb2⟩; rw [show fieldB (L[k] ++ sumB L[k]) = recB L[k] from rfl]))
      go_roundw
      case rel => exact ⟨k + 1, by omega, by go_num, rfl, below_call (below_call hbel hb1) hb2⟩
      case measure => simp [intOf]; omega
    · obtain rfl : k = L.length := by omega
      rw [List.take_length]
      go_wp2
      go_ret
      exact ⟨rfl, hbel⟩
end Go.Proofs.Ytjobkmcbindhmaa
