/-
  wardshiplaw01.lives, few, texts, same: what the statements of layer 1 lean on.
-/
import Derived.Test.YtkhhihkcgpfmfaaPack
import Derived.Test.YtkhhihkcgpfmfaaUnpack
import Derived.Lib.SlBytesConst
namespace Go.Proofs.Ytkhhihkcgpfmfaa
open Go.RowKit
set_option maxRecDepth 100000

theorem pack_ok (ok : Nat → Prop) (v0 : Value) (L : List (List UInt8)) (w : World) (hL : IsBB w ok v0 L) (hsum : (packB L).length ≤ 1099511627776) (hall : ∀ f ∈ L, f.length ≤ 65535) :
    Calls Try.prog 15 #[v0] w fun e w' => ∃ v, e = .returned (.tuple #[v, .int .i64 0]) ∧ Own1 w' w.heap.size 5 v ((packB L).map u8) ∧ Below w.heap.size w w' :=
  (pack_any ok v0 L w hL hsum).mono fun e w' ⟨h, hb⟩ => by
    rw [if_pos hall] at h
    obtain ⟨v, h1, h2⟩ := h
    exact ⟨v, h1, h2, hb⟩

/-- Fields that were packed, unpacked. -/
theorem unpack_packed (L : List (List UInt8)) (hall : ∀ f ∈ L, f.length ≤ 65535) : unpackV (L.length : Int) [] (steps (packB L)) = (L, 0) := by
  have h := steps_packB L [] hall
  rw [List.append_nil, steps_nil, List.append_nil] at h
  rw [h, unpackV_ok _ _ _ (by simp)]
  simp

theorem unpack_ok (ok : Nat → Prop) (v : Value) (L : List (List UInt8)) (n : Int) (hn : n = L.length) (w : World) (hv : IsB w ok v (packB L)) (hl : (packB L).length ≤ 1099511627776) (hall : ∀ f ∈ L, f.length ≤ 65535) :
    Calls Try.prog 18 #[v, .int .i64 n] w fun e w' => ∃ x, e = .returned (.tuple #[x, .int .i64 0]) ∧ OwnBB w' w.heap.size x L ∧ Below w.heap.size w w' := by
  have h := unpack_any ok v (packB L) n w hv hl
  rw [hn, unpack_packed L hall] at h
  rw [hn]
  exact h

/-- The first of fresh fields. -/
theorem OwnBB.first {w : World} {base : Nat} {x : Value} {a : List UInt8} {L : List (List UInt8)} (h : OwnBB w base x (a :: L)) :
    ∃ g cap A c, x = .slice (some ⟨g, 0, none⟩) (L.length + 1) cap ∧ w.cell? ⟨g, 0, none⟩ = some (.slice A a.length c) ∧ Rd w (fun _ => True) A (a.map u8) := by
  obtain ⟨vs, ho, hl, he, _⟩ := h
  cases vs with
  | nil => simp at hl
  | cons y r =>
    obtain ⟨g, cap, cur, rfl, _, hb, _, _, hcur⟩ := ho.cons_form
    have h0 := he 0 (by simp) (by simp)
    simp only [List.getElem_cons_zero] at h0
    obtain ⟨A, c, rfl, _, _, hr⟩ := h0.isB
    simp only [List.length_cons, Nat.add_right_cancel_iff] at hl
    refine ⟨g, cap, A, c, by rw [hl], ?_, hr.weaken fun _ _ => trivial⟩
    rw [hb.cell]
    have := congrArg (fun l => l[0]?) hcur
    simpa using this

theorem lives_any (w : World) : Calls Try.prog 9 #[] w fun e w' => e = .returned (.bool true) ∧ Below w.heap.size w w' := by
  have hL : IsBB ((w.alloc (.cells #[.int .u8 97] 5 (1, 2))).alloc (.cells #[.slice (some ⟨w.heap.size, 0, none⟩) 1 1, .slice none 0 0] 23)) (fun _ => True) (.slice (some ⟨w.heap.size + 1, 0, none⟩) 2 2) [[97], []] := by
    refine ⟨_, 2, [.slice (some ⟨w.heap.size, 0, none⟩) 1 1, .slice none 0 0], rfl, rfl, Nat.le_refl _, by unfold maxLen; decide, ?_, ?_⟩
    · have := (Blk.new (w.alloc (.cells #[.int .u8 97] 5 (1, 2))) 23 #[.slice (some ⟨w.heap.size, 0, none⟩) 1 1, .slice none 0 0]).rd (fun _ => True) trivial
      rwa [World.size_alloc] at this
    · intro i hi hi'
      match i, hi with
      | 0, _ => exact ⟨_, 1, rfl, Nat.le_refl _, by unfold maxLen; decide, rd_of_row (cs := #[.int .u8 97]) (row_alloc (row_new w _) (by simp) _) (fun _ => True) trivial⟩
      | 1, _ => exact ⟨_, 0, rfl, Nat.le_refl _, by unfold maxLen; decide, Rd.nil⟩
  have hall : ∀ f ∈ [[(97 : UInt8)], []], f.length ≤ 65535 := by intro f hf; simp at hf; rcases hf with rfl | rfl <;> simp
  have hpk : packB [[97], []] = [1, 97, 0] := by decide
  have HL := Lib.hid hL
  have Hall := Lib.hid hall
  have Hpk := Lib.hid hpk
  clear hL hall hpk
  have kc := fun (w : World) (C : Array Value) (n c : Nat) => Lib.run_convert_bytes_const (P := Try.prog) w 23 5 C n c Try.underlying23 Try.underlying5
  go_enter Try.func9, Try.ntmps9
  go_wp2_with (first | (go_at_call 15; refine (pack_ok _ _ _ _ HL.out (by decide) Hall.out).mono ?_; rintro e w1 ⟨v1, rfl, hv1, hb1⟩; rw [Hpk.out] at hv1) | (go_at_call 18; refine (unpack_ok _ _ [[97], []] 2 rfl _ (by rw [Hpk.out]; exact hv1.isB) (by decide) Hall.out).mono ?_; rintro e w2 ⟨x, rfl, hx, hb2⟩; obtain ⟨A1, c1, rfl, _, _, hr1⟩ := (hv1.grow hb2).isB; have hcv1 := run_bytes_str (P := Try.prog) (c := c1) 23 9 5 Try.underlying23 Try.underlying5 Try.underlying9 hr1; obtain ⟨g, cap, A2, c2, rfl, hc2, hr2⟩ := hx.first; have hcv2 := run_bytes_str (P := Try.prog) (c := c2) 23 9 5 Try.underlying23 Try.underlying5 Try.underlying9 hr2; simp only [List.length_cons, List.length_nil, Nat.zero_add, Nat.reduceAdd] at hcv1 hcv2 hc2; clear hr1 hr2 hv1))
  go_ret
  exact ⟨rfl, ((((Below.refl w.heap.size w).alloc (Nat.le_refl _) _).alloc (by simp) _).trans (hb1.mono (by simp; omega))).trans (hb2.mono (Nat.le_trans (by simp; omega) hb1.size))⟩
end Go.Proofs.Ytkhhihkcgpfmfaa
