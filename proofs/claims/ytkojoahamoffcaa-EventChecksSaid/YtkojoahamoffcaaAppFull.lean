/-
  append onto a slice whose capacity is its length.
-/
import Derived.Test.YtkojoahamoffcaaFieldsAll
import Derived.Deep.Upon
namespace Go.Proofs.Ytkojoahamoffcaa
open Go.RowKit
set_option maxRecDepth 100000

theorem run_app_full_ {P : Program} (w : World) {t ty e : TypeId} {bytes : Nat} (het : ElemT P t e bytes) {ok ok2 : Nat → Prop} {A B : Option Addr} {c m k : Nat} {olds news : List Value} (hm : olds.length = m) (hk : news.length = k)
    (ho : Rd w ok A olds) (hn : Rd w ok2 B news) (h1 : ∀ u ∈ news, u.oneCell' = true) (h63 : m + k ≤ 140737488355328) (hbytes : (m + k) * bytes ≤ 140737488355328) :
    ∃ A' c' w', (Builtin.append_ #[t, t] ty #[.slice A m m, .slice B k c]).run P w = .ok (.slice A' (m + k) c') w' ∧ m + k ≤ c' ∧ c' ≤ maxLen ∧ Below w.heap.size w w' ∧ Rd w' (fun q => ok q ∨ w.heap.size ≤ q) A' (olds ++ news) := by
  obtain ⟨ht, i, z, hi, hz, hz1, hz2, hz3⟩ := het
  have hmx : m + k ≤ maxLen := by unfold maxLen; omega
  by_cases h0 : news = []
  · subst h0
    have hk0 : k = 0 := by simpa using hk.symm
    subst hk0
    have hs : Src P i.size t (.slice B 0 c) 0 [] w := by
      cases B with
      | none => exact Src.ofNil w ht c
      | some ad => exact Src.ofSlice w ht ad 0 c [] (by simp) (by simp) (by simp)
    refine ⟨A, m, w, run_append_nothing w t t ty e i ht hi A m m (Nat.le_refl _) _ hs, Nat.le_refl _, by omega, Below.refl _ _, ?_⟩
    rw [List.append_nil]
    exact ho.weaken fun _ h => .inl h
  · obtain ⟨ad, rfl, _, hc⟩ := hn h0
    have hk0 : 0 < k := by
      rw [← hk]
      exact List.length_pos_iff.2 h0
    have hs : Src P i.size t (.slice (some ad) k c) k news w := Src.ofSlice w ht ad k c news (by rw [hz1, Nat.mul_one]; exact hk) hc h1
    have hold : (Builtin.firstCells i.size m (.slice A m m)).run P w.drew = .ok olds.toArray w.drew := by
      by_cases h2 : olds = []
      · subst h2
        have hm0 : m = 0 := by simpa using hm.symm
        subst hm0
        cases A with
        | none => exact run_firstCells_none w.drew i.size 0 0 0
        | some a => exact run_firstCells_some w.drew i.size 0 a 0 0 [] (by simp) (by simp)
      · obtain ⟨a, rfl, _, hc2⟩ := ho h2
        exact run_firstCells_some w.drew i.size m a m m olds (by rw [hz1, Nat.mul_one]; exact hm) (by simpa using hc2)
    have hrun := run_append_grow_src (P := P) w t t ty e i z ht hi hz A m m olds hold _ k news hs (by omega) (by omega) (growslice_fits (by omega) (by rw [hz2]; exact hbytes))
    refine ⟨_, _, _, hrun, grownCap_ge w (m + k) m e, grownCap_le_maxLen w (m + k) m e hmx, ((Below.refl w.heap.size w).drew).alloc (Nat.le_refl _) _, ?_⟩
    have hr := (rd_of_row (row_new w.drew (.cells ((olds ++ news).toArray ++ Builtin.zeroCells z.cells (grownCap w (m + k) m e - (m + k))) e)) (fun q => ok q ∨ w.heap.size ≤ q) (.inr (Nat.le_refl _))).take (k := (olds ++ news).length)
    rw [show ((olds ++ news).toArray ++ Builtin.zeroCells z.cells (grownCap w (m + k) m e - (m + k))).toList = (olds ++ news) ++ (Builtin.zeroCells z.cells (grownCap w (m + k) m e - (m + k))).toList by simp, List.take_left' rfl] at hr
    exact hr
end Go.Proofs.Ytkojoahamoffcaa
