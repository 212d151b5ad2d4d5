/-
  What the laws of layer 4 share.
-/
import Derived.Test.YtiaabgmmmekpnaaJCrash2
import Derived.Test.YtiaabgmmmekpnaaJPutAdd
import Derived.Test.YtiaabgmmmekpnaaJOpen
namespace Go.Proofs.Ytiaabgmmmekpnaa
open Go.RowKit
set_option maxRecDepth 100000

theorem OwnBB.isBB' {w : World} {base : Nat} {x : Value} {L : List (List UInt8)} (h : OwnBB w base x L) : IsBB w (fun k => base ≤ k) x L := by
  obtain ⟨vs, h1, h2, h3, _⟩ := h
  obtain ⟨A, c, hv, hc, hm, hr⟩ := h1.form
  exact ⟨A, c, vs, by rw [hv, h2], h2, by omega, hm, hr.weaken fun k hk => (h1.lt k hk).1, fun i hi hi' => ((h3 i hi' hi).isB).weaken fun k hk => ((h3 i hi' hi).lt k hk).1⟩
theorem JPost.below {base : Nat} {G : Nat → Prop} {j g : Nat} {w w' : World} {R : (JM × Dev) × Int} {e : Ending} (h : JPost base G j g w R e w') {D : Dev} (hd : DevAt w base G g D) (hj : base ≤ j) : Below base w w' := by
  obtain ⟨_, G', _, _, _, hf⟩ := h
  exact hf.below (fun k hk => hk.elim (fun h => (hd.low k h).1) (fun e => by omega)) hd.size

theorem add_inv {D : Dev} {J : JM} {L : List (List UInt8)} (h : JInv D J L) (hn : J.number + 1 ≤ 4611686018427387904) (M : List (List UInt8)) (hM : fewLong M) :
    (sideN D * 256 - J.used < (recsB M).length ∧ addJ J D M = ((J, D), 5)) ∨
    ((recsB M).length ≤ sideN D * 256 - J.used ∧ (addJ J D M).2 = 0 ∧ JInv (addJ J D M).1.2 (addJ J D M).1.1 (L ++ M) ∧ (addJ J D M).1.1.used = J.used + (recsB M).length ∧ (addJ J D M).1.1.number ≤ J.number + 1 ∧ (D.left = -1 → (addJ J D M).1.2.left = -1)) ∨
    ((recsB M).length ≤ sideN D * 256 - J.used ∧ D.left ≠ -1 ∧ (addJ J D M).2 = 6 ∧ (addJ J D M).1.1.broken = true ∧ (addJ J D M).1.2.off = true ∧
      ∃ n' s' u' B', Cont (addJ J D M).1.2 n' s' u' B' ∧ (B' = recsB L ∨ B' = recsB (L ++ M))) := by
  unfold addJ
  rw [if_neg (by rw [h.brk]; decide), if_neg (not_not_intro hM)]
  by_cases h0 : M = []
  · subst h0
    rw [if_pos rfl]
    right; left
    refine ⟨Nat.zero_le _, rfl, ?_, rfl, by dsimp only; omega, fun h => h⟩
    rw [List.append_nil]
    exact h
  · rw [if_neg h0]
    rcases put_inv h hn J.side J.used J.count L M hM (.inl ⟨rfl, rfl, rfl, rfl⟩) with ⟨a, b⟩ | ⟨a, b, c, d, e⟩ | ⟨a, b, c, d, e, f⟩
    · exact .inl ⟨a, b⟩
    · exact .inr (.inl ⟨a, b, c, by rw [d], by rw [d]; exact Nat.le_refl _, e⟩)
    · exact .inr (.inr ⟨a, b, c, d, e, f⟩)
theorem rep_inv {D : Dev} {J : JM} {L : List (List UInt8)} (h : JInv D J L) (hn : J.number + 1 ≤ 4611686018427387904) (M : List (List UInt8)) (hM : fewLong M) :
    (sideN D * 256 < (recsB M).length ∧ repJ J D M = ((J, D), 5)) ∨
    ((recsB M).length ≤ sideN D * 256 ∧ (repJ J D M).2 = 0 ∧ JInv (repJ J D M).1.2 (repJ J D M).1.1 M ∧ (repJ J D M).1.1.used = (recsB M).length ∧ (repJ J D M).1.1.number ≤ J.number + 1 ∧ (D.left = -1 → (repJ J D M).1.2.left = -1)) ∨
    ((recsB M).length ≤ sideN D * 256 ∧ D.left ≠ -1 ∧ (repJ J D M).2 = 6 ∧ (repJ J D M).1.1.broken = true ∧ (repJ J D M).1.2.off = true ∧
      ∃ n' s' u' B', Cont (repJ J D M).1.2 n' s' u' B' ∧ (B' = recsB L ∨ B' = recsB M)) := by
  unfold repJ
  rw [if_neg (by rw [h.brk]; decide), if_neg (not_not_intro hM)]
  rcases put_inv h hn (1 - J.side) 0 0 [] M hM (.inr ⟨rfl, rfl, rfl, rfl⟩) with ⟨a, b⟩ | ⟨a, b, c, d, e⟩ | ⟨a, b, c, d, e, f⟩
  · exact .inl ⟨a, b⟩
  · exact .inr (.inl ⟨a, b, c, by rw [d]; dsimp only; omega, by rw [d]; exact Nat.le_refl _, e⟩)
  · exact .inr (.inr ⟨a, b, c, d, e, f⟩)

theorem putJ_few {D : Dev} {m : Nat} (h : D.Few m) (hl : D.sure.length ≤ 4096) (J : JM) (n s u cnt : Nat) (L : List (List UInt8)) : (putJ J D n s u cnt L).1.2.Few (m + 2100) := by
  have hsn := sideN_le D hl
  have hst := storeD_few h s u (recsB L) (n + 1) s (u + (recsB L).length)
  unfold putJ
  split
  · exact h.mono (by omega)
  · split
    · exact h.mono (by omega)
    · have hm : m + secs (u - u / 256 * 256 + (recsB L).length) + 3 ≤ m + 2100 := by unfold secs; omega
      split
      · exact hst.mono hm
      · exact hst.mono hm
theorem addJ_few {D : Dev} {m : Nat} (h : D.Few m) (hl : D.sure.length ≤ 4096) (J : JM) (L : List (List UInt8)) : (addJ J D L).1.2.Few (m + 2100) := by
  unfold addJ
  split
  · exact h.mono (by omega)
  · split
    · exact h.mono (by omega)
    · split
      · exact h.mono (by omega)
      · exact putJ_few h hl _ _ _ _ _ _
theorem repJ_few {D : Dev} {m : Nat} (h : D.Few m) (hl : D.sure.length ≤ 4096) (J : JM) (L : List (List UInt8)) : (repJ J D L).1.2.Few (m + 2100) := by
  unfold repJ
  split
  · exact h.mono (by omega)
  · split
    · exact h.mono (by omega)
    · exact putJ_few h hl _ _ _ _ _ _
theorem openM_few {D : Dev} {m : Nat} (h : D.Few m) : (openM D).1.1.Few (m + 2) := by
  have ht := tellD_few h 1 0 0
  unfold openM
  split
  · exact h.mono (by omega)
  · split
    · exact h.mono (by omega)
    · split
      · split
        · exact ht
        · exact ht
      · split
        · exact h.mono (by omega)
        · exact h.mono (by omega)
end Go.Proofs.Ytiaabgmmmekpnaa
