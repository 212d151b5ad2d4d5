/-
  codec.Pack and appendLength: fields as they lie.
-/
import Derived.Test.YtkojoahamoffcaaBytes
import Derived.Test.YtkojoahamoffcaaCodMath
import Derived.Lib.Hide
namespace Go.Proofs.Ytkojoahamoffcaa
open Go.RowKit

set_option maxHeartbeats 400000 in
set_option maxRecDepth 100000 in
theorem applen_any (base : Nat) (v : Value) (l : List UInt8) (n : Nat) (w : World) (hown : Own1 w base 5 v (l.map u8)) (hn : n ≤ 65535) (hl : l.length ≤ 1099511627776) (hb : base ≤ w.heap.size) :
    Calls Try.prog 48 #[v, .int .i64 (n : Int)] w fun e w' => ∃ v', e = .returned v' ∧ Own1 w' base 5 v' ((l ++ lenB n).map u8) ∧ w.grownBy w' v.ownBlock := by
  by_cases h : n < 255
  · have hl2 : lenB n = [UInt8.ofNat (n % 256)] := by rw [lenB, if_pos h, Nat.mod_eq_of_lt (by omega)]
    rw [hl2]
    clear hl2
    have Hl := Lib.hid hl
    clear hl
    go_enter Try.func48, Try.ntmps48
    go_wp2_with (at_builtin; refine wpList_app1_one _ elemB rfl (.tmp 7) (.tmp 10) rfl base v (l.map u8) rfl hown (.int .u8 (n : Int)) _ rfl rfl (by have := Hl.out; simp; omega) (by have := Hl.out; simp; omega) hb ?_; intro v1 w1 hown1 hg1 hat1)
    go_ret
    refine ⟨_, rfl, ?_, hg1⟩
    rw [List.map_append, List.map_singleton, u8_ofNat, Int.emod_eq_of_lt (by omega) (by omega)]
    exact hown1
  · have hl2 : lenB n = [255, UInt8.ofNat (n / 256 % 256), UInt8.ofNat (n % 256)] := by rw [lenB, if_neg h]
    rw [hl2]
    clear hl2
    have Hl := Lib.hid hl
    clear hl
    go_enter Try.func48, Try.ntmps48
    go_wp2_with (at_builtin; refine wpList_app1_new _ elemB rfl (.tmp 12) (.tmp 18) rfl base v (l.map u8) rfl hown [.int .u8 255, .int .u8 ((n : Int) / 256), .int .u8 ((n : Int) % 256)] 3 rfl _ rfl (fun y hy => by simp at hy; rcases hy with rfl | rfl | rfl <;> rfl) (by have := Hl.out; simp; omega) (by have := Hl.out; simp; omega) hb ?_; intro v1 w1 hown1 hg1 hat1)
    go_ret
    refine ⟨_, rfl, ?_, hg1⟩
    rw [List.map_append, List.map_cons, List.map_cons, List.map_singleton, u8_ofNat, u8_ofNat, show ((n / 256 : Nat) : Int) % 256 = (n : Int) / 256 from by omega]
    exact hown1

/-- What Pack answers. -/
def PackPost (L : List (List UInt8)) (w : World) (e : Ending) (w' : World) : Prop :=
  (if ∀ f ∈ L, f.length ≤ 65535 then ∃ v, e = .returned (.tuple #[v, .int .i64 0]) ∧ Own1 w' w.heap.size 5 v ((packB L).map u8)
    else e = .returned (.tuple #[.slice none 0 0, .int .i64 4])) ∧ Below w.heap.size w w'
theorem PackPost.no {L : List (List UInt8)} {w w' : World} {f : List UInt8} (hf : f ∈ L) (hl : 65535 < f.length) (hb : Below w.heap.size w w') : PackPost L w (.returned (.tuple #[.slice none 0 0, .int .i64 4])) w' := by
  refine ⟨?_, hb⟩
  rw [if_neg]
  intro h
  have := h f hf
  omega
theorem PackPost.yes {L : List (List UInt8)} {w w' : World} {v : Value} (hf : ∀ f ∈ L, f.length ≤ 65535) (ho : Own1 w' w.heap.size 5 v ((packB L).map u8)) (hb : Below w.heap.size w w') : PackPost L w (.returned (.tuple #[v, .int .i64 0])) w' := by
  refine ⟨?_, hb⟩
  rw [if_pos hf]
  exact ⟨v, rfl, ho⟩

set_option maxRecDepth 100000 in
theorem pack_any (ok : Nat → Prop) (v0 : Value) (L : List (List UInt8)) (w : World) (hL : IsBB w ok v0 L) (hsum : (packB L).length ≤ 1099511627776) :
    Calls Try.prog 27 #[v0] w (PackPost L w) := by
  obtain ⟨A, c, rfl, hc, hm, hel⟩ := hL.elem
  unfold maxLen at hm
  have Hsum := Lib.hid hsum
  have Hel := Lib.hid hel
  have Hm : L.length ≤ 9223372036854775807 := by omega
  clear hsum hel hm
  go_enter Try.func27, Try.ntmps27
  go_wp2
  go_loopw [4, 9] (fun v i wr => ∃ k : Nat, k ≤ L.length ∧ i = .int .i64 (k : Int) ∧ Own1 wr w.heap.size 5 v ((packB (L.take k)).map u8) ∧ (∀ f ∈ L.take k, f.length ≤ 65535) ∧ Below w.heap.size w wr) (fun _ i _ => L.length - (intOf i).toNat)
  case atStart => exact ⟨0, by omega, rfl, Own1.nil _ _ _, by simp, Below.refl _ _⟩
  case round =>
    obtain ⟨k, hk, rfl, hown, hall, hbel⟩ := hrel
    by_cases hlt : k < L.length
    · obtain ⟨b, off, rfl, _, had, hel⟩ := Hel.out (by intro e; subst e; simp at hlt)
      obtain ⟨Ai, ci, hcell, hci, hcm, hrd⟩ := hel k hlt
      have hcell' : wr.cell? ⟨b, off + k, none⟩ = some (.slice Ai L[k].length ci) := (hbel.cell (p := ⟨b, off + k, none⟩) had).trans hcell
      clear hel
      have hcm' : L[k].length ≤ 9223372036854775807 := by unfold maxLen at hcm; omega
      clear hcell hcm
      by_cases hlong : 65535 < L[k].length
      · go_wp2
        go_ret2
        exact PackPost.no (List.getElem_mem hlt) hlong hbel
      · have Hall := Lib.hid hall
        clear hall
        go_wp2_with (first | (go_at_call 48; refine (applen_any w.heap.size _ (packB (L.take k)) _ _ hown (by omega) (by have := packB_take_le L k; have := Hsum.out; omega) hbel.size).mono ?_; rintro e w1 ⟨v1, rfl, hown1, hg1⟩; have hb1 := hbel.trans (hown.below_of hg1 hbel.size (Nat.le_refl _))) | (at_builtin; refine wpList_app1 _ elemB rfl (.tmp 20) (.tmp 21) rfl w.heap.size v1 _ rfl hown1 ok Ai L[k].length ci (L[k].map u8) (List.length_map _) rfl (hrd.grow hb1) (u8_oneCell _) ?_ ?_ hb1.size ?_; rotate_right; intro v2 w2 hown2 hg2 hat2))
        case refine_1 => have := packB_take_le L k; have := Hsum.out; have := (lenB_le L[k].length).2; simp; omega
        case refine_2 => have := packB_take_le L k; have := Hsum.out; have := (lenB_le L[k].length).2; simp; omega
        go_roundw
        case rel =>
          refine ⟨k + 1, by omega, by go_num, ?_, ?_, hb1.trans (hown1.below_of hg2 hb1.size (Nat.le_refl _))⟩
          · rw [packB_take_succ L k hlt, fieldB, ← List.append_assoc, List.map_append]
            exact hown2
          · intro f hf
            rw [List.take_succ_eq_append_getElem hlt] at hf
            rcases List.mem_append.1 hf with hf | hf
            · exact Hall.out f hf
            · simp at hf
              subst hf
              omega
        case measure => simp [intOf]; omega
    · obtain rfl : k = L.length := by omega
      rw [List.take_length] at hown hall
      go_wp2
      go_ret2
      exact PackPost.yes hall hown hbel
end Go.Proofs.Ytkojoahamoffcaa
