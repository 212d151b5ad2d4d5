/-
  The walk of CodecCuts.
-/
import Derived.Test.YtkhhihkcgpfmfaaLives01
import Derived.Test.YtkhhihkcgpfmfaaFew
import Derived.Test.YtkhhihkcgpfmfaaTexts
import Derived.Test.YtkhhihkcgpfmfaaCutMath
import Derived.Deep.RegionHeld
import Derived.WalkSpells
namespace Go.Proofs.Ytkhhihkcgpfmfaa
open Go.RowKit
set_option maxRecDepth 100000

theorem OwnBB.isBB {w : World} {base : Nat} {x : Value} {L : List (List UInt8)} (h : OwnBB w base x L) : IsBB w (fun _ => True) x L := by
  obtain ⟨vs, ho, hl, he, _⟩ := h
  obtain ⟨A, c, hx, hc, hm, hr⟩ := ho.form
  rw [hl] at hx hc
  exact ⟨A, c, vs, hx, hl, hc, hm, hr.weaken fun _ _ => trivial, fun i hi hi' => (he i hi' hi).isB.weaken fun _ _ => trivial⟩
theorem IsBB.take {w : World} {ok : Nat → Prop} {A : Option Addr} {n c : Nat} {L : List (List UInt8)} (h : IsBB w ok (.slice A n c) L) (k : Nat) (hk : k ≤ L.length) : IsBB w ok (.slice A k c) (L.take k) := by
  obtain ⟨A', c', vs, hx, hl, hc, hm, hr, he⟩ := h
  cases hx
  refine ⟨A, c, vs.take k, by rw [List.length_take, Nat.min_eq_left hk], by simp [hl], by rw [List.length_take]; omega, hm, hr.take, fun i hi hi' => ?_⟩
  rw [List.getElem_take, List.getElem_take]
  exact he i (by rw [List.length_take] at hi; omega) (by rw [List.length_take] at hi'; omega)
theorem packB_length_le (L : List (List UInt8)) : (packB L).length ≤ (L.map List.length).sum + 3 * L.length := by
  induction L with
  | nil => simp [packB_nil]
  | cons f L ih =>
    have := (lenB_le f.length).2
    rw [packB_cons, List.length_append, fieldB_length]
    simp only [List.map_cons, List.sum_cons, List.length_cons]
    omega

theorem below_call {w u w' : World} (hS : Below w.heap.size w u) (hb : Below u.heap.size u w') : Below w.heap.size w w' := hS.trans (hb.mono hS.size)
theorem below_drew_then {w w' : World} (h : Below w.drew.heap.size w.drew w') : Below w.heap.size w w' := (Below.refl _ _).drew.trans h
theorem below_then_drew {B : Nat} {w w' : World} (h : Below B w w') : Below B w w'.drew := h.drew

set_option maxHeartbeats 1000000 in
theorem codeccuts_walk (L : List (List UInt8)) (v : Value) (i : Int) (ok : Nat → Prop) (w : World) (hv : IsBB w ok v L) :
    Calls Try.prog 8 #[v, .int .i64 i] w fun e w' => e = .returned (.bool true) ∧ Below w.heap.size w w' := by
  by_cases hfew : fewV L = true
  · obtain ⟨hsum, hshort⟩ := fewV_le L hfew
    have hpl := packB_length_le L
    have hn : L.length ≤ 3000 := by omega
    have hpk : (packB L).length ≤ 12000 := by omega
    have hall : ∀ f ∈ L, f.length ≤ 65535 := fun f hf => by have := hshort f hf; omega
    obtain ⟨m, hm, hml⟩ : ∃ m : Nat, wrap64 ((IntKind.u64.wrap i).tmod ((packB L).length + 1 : Int)) = (m : Int) ∧ m ≤ (packB L).length := by
      have h0 : 0 ≤ IntKind.u64.wrap i := by simp only [IntKind.wrap_u64]; exact Int.emod_nonneg _ (by decide)
      have h1 : 0 ≤ IntKind.u64.wrap i % ((packB L).length + 1 : Int) := Int.emod_nonneg _ (by omega)
      have h2 : IntKind.u64.wrap i % ((packB L).length + 1 : Int) < ((packB L).length + 1 : Int) := Int.emod_lt_of_pos _ (by omega)
      rw [Int.tmod_eq_emod_of_nonneg h0]
      obtain ⟨m, hm⟩ := Int.eq_ofNat_of_zero_le h1
      exact ⟨m, by rw [hm]; unfold wrap64; omega, by omega⟩
    obtain ⟨A, c, vs, rfl, hvl, hc, hcm, hr, he⟩ := hv
    have Hv := Lib.hid (show IsBB w ok (.slice A L.length c) L from ⟨A, c, vs, rfl, hvl, hc, hcm, hr, he⟩)
    have Hf := Lib.hid hfew
    have Hall := Lib.hid hall
    have Hsum := Lib.hid hsum
    have Hshort := Lib.hid hshort
    have Hpl := Lib.hid hpl
    clear hr he hfew hall hsum hshort hpl hvl
    unfold maxLen at hcm
    go_enter Try.func8, Try.ntmps8
    go_wp2_with fail
    refine (lives_any _).mono ?_
    rintro e w1 ⟨rfl, hb1⟩
    go_wp2_with fail
    refine (few_any ok _ L _ (Hv.out.grow hb1)).mono ?_
    rintro e w2 ⟨rfl, hb2⟩
    rw [Hf.out]
    have hb12 := hb1.trans (hb2.mono hb1.size)
    go_wp2_with fail
    refine (pack_ok ok _ L _ (Hv.out.grow hb12) (by omega) Hall.out).mono ?_
    rintro e w3 ⟨x, rfl, hx, hb3⟩
    have hb13 := hb12.trans (hb3.mono hb12.size)
    obtain ⟨Ax, cx, rfl, hxc, hxm, hxr⟩ := hx.isB
    clear hx
    go_wp2_with fail
    have hcutB : IsB w3 (fun k => (Value.slice Ax (packB L).length cx).ownBlock = some k) (.slice Ax m cx) ((packB L).take m) := by
      refine ⟨Ax, cx, ?_, ?_, hxm, ?_⟩
      · rw [List.length_take, Nat.min_eq_left hml]
      · rw [List.length_take]; omega
      · rw [List.map_take]; exact hxr.take
    have hun := unpack_any _ _ _ (L.length : Int) w3 hcutB (by rw [List.length_take]; omega)
    rcases unpack_cut L m Hall.out with hval | ⟨k, hk, hval⟩
    · rw [hval] at hun
      clear hcutB hval hxr
      refine hun.mono ?_
      clear hun
      rintro e w4 ⟨y, rfl, hy, hb4⟩
      obtain ⟨Ay, cy, rfl, _, _, _⟩ := hy.isBB.elem
      clear hy
      go_wp2_with fail
      go_ret
      exact ⟨rfl, hb13.trans (hb4.mono hb13.size)⟩
    · rw [hval] at hun
      clear hcutB hval hxr
      refine hun.mono ?_
      clear hun
      rintro e w4 ⟨y, rfl, hy, hb4⟩
      have hb14 := hb13.trans (hb4.mono hb13.size)
      have hyB := hy.isBB
      clear hy
      obtain ⟨Ay, cy, rfl, _, _, _⟩ := hyB.elem
      have hlk : (L.take k).length = k := by rw [List.length_take]; omega
      rw [hlk] at hyB ⊢
      have hM : ∀ u, Below w4.heap.size w4 u → IsBB u (fun _ => True) (.slice Ay k cy) (L.take k) := fun u hu => hyB.grow hu
      have hN : ∀ u, Below w4.heap.size w4 u → IsBB u ok (.slice A k c) (L.take k) := fun u hu => ((Hv.out.grow hb14).grow hu).take k hk
      have hlk3 : (L.take k).length ≤ 1099511627776 := by omega
      have hd : decide ((k : Int) ≤ (L.length : Int)) = true := decide_eq_true (by omega)
      clear hyB
      go_wp2_with fail
      go_region_held (fun u => Below w4.heap.size w4 u) (first | assumption | exact below_then_drew (Below.refl _ _) | exact below_call (by assumption) hb7 | exact below_call (by assumption) hb6 | exact below_call (by assumption) hb5) (first | (go_at_call 17; (first | ((with_reducible refine (texts_at _ (.slice Ay k cy) (L.take k) _ (hM _ (by assumption)) hlk3).mono ?_); rintro e w5 ⟨A5, c5, rfl, ho5, hr5, hb5⟩; rw [hlk]) | ((with_reducible refine (texts_at _ (.slice A k c) (L.take k) _ (hN _ (by assumption)) hlk3).mono ?_); rintro e w6 ⟨A6, c6, rfl, ho6, hr6, hb6⟩; rw [hlk]))) | (go_at_call 19; (have hsm := same_any _ _ A5 A6 c5 c6 (L.take k) (L.take k) _ (hr5.grow hb6) hr6 hlk3); rw [hlk] at hsm; refine hsm.mono ?_; rintro e w7 ⟨rfl, hb7⟩))
      all_goals go_wp2
      all_goals go_ret
      all_goals exact ⟨by simp, below_call hb14 (by assumption)⟩
  · have hf : fewV L = false := by simpa using hfew
    clear hfew
    have Hv := Lib.hid hv
    have Hf := Lib.hid hf
    clear hv hf
    go_enter Try.func8, Try.ntmps8
    go_wp2_with fail
    refine (lives_any _).mono ?_
    rintro e w1 ⟨rfl, hb1⟩
    go_wp2_with fail
    refine (few_any ok _ L _ (Hv.out.grow hb1)).mono ?_
    rintro e w2 ⟨rfl, hb2⟩
    rw [Hf.out]
    have hb12 := hb1.trans (hb2.mono hb1.size)
    go_wp2_with fail
    refine (lives_any _).mono ?_
    rintro e w3 ⟨rfl, hb3⟩
    go_wp2_with fail
    go_ret
    exact ⟨rfl, hb12.trans (hb3.mono hb12.size)⟩
end Go.Proofs.Ytkhhihkcgpfmfaa
