/-
  Records that result in what is kept.
-/
import Derived.Test.YtdmbmkjiffhbcaaGreatKKeep
namespace Go.Proofs.YtdmbmkjiffhbcaaGreat
open Go.RowKit
set_option maxRecDepth 100000

/-- Records that result in what is kept. -/
def Kept (Ls : List (List UInt8)) (G : Nat → Option (List UInt8)) : Prop := ∃ LL : List (List PutM), Ls = LL.map (fun L => (precM L []).1) ∧ (∀ L ∈ LL, (∀ p ∈ L, p.key < 18446744073709551616) ∧ (precM L []).2 = 0) ∧ ∀ k, k < 18446744073709551616 → (LL.foldl putsG noneG) k = G k
theorem Kept.nil : Kept [] noneG := ⟨[], rfl, (fun L h => by cases h), fun k _ => rfl⟩
theorem putG_agree {G G' : Nat → Option (List UInt8)} (h : ∀ k, k < 18446744073709551616 → G k = G' k) (p : PutM) : ∀ k, k < 18446744073709551616 → putG G p k = putG G' p k := fun k hk => by unfold putG; rw [h k hk]
theorem putsG_agree (L : List PutM) : ∀ {G G' : Nat → Option (List UInt8)}, (∀ k, k < 18446744073709551616 → G k = G' k) → ∀ k, k < 18446744073709551616 → putsG G L k = putsG G' L k := by
  induction L with
  | nil => intro G G' h; exact h
  | cons p L ih => intro G G' h; exact ih (putG_agree h p)
theorem Kept.add {Ls : List (List UInt8)} {G : Nat → Option (List UInt8)} (h : Kept Ls G) (L : List PutM) (hk : ∀ p ∈ L, p.key < 18446744073709551616) (hr : (precM L []).2 = 0) : Kept (Ls ++ [(precM L []).1]) (putsG G L) := by
  obtain ⟨LL, rfl, h2, h3⟩ := h
  refine ⟨LL ++ [L], by simp, fun M hM => ?_, fun k hk' => ?_⟩
  · rcases List.mem_append.1 hM with hM | hM
    · exact h2 M hM
    · rw [List.mem_singleton.1 hM]; exact ⟨hk, hr⟩
  · rw [List.foldl_append]
    exact putsG_agree L h3 k hk'
theorem Kept.pairs {G : Nat → Option (List UInt8)} (ys : List Nat) (hk : KeysOf G ys) (hok : ∀ y ∈ ys, (pairM G y).2 = 0) : Kept (recsOfG G ys) G := by
  refine ⟨ys.map fun y => [⟨y, (G y).getD [], false⟩], ?_, fun L hL => ?_, fun k hk' => ?_⟩
  · unfold recsOfG pairM
    rw [List.map_map]
    rfl
  · obtain ⟨y, hy, rfl⟩ := List.mem_map.1 hL
    exact ⟨fun p hp => by simp at hp; subst hp; exact ((hk.1 y).1 hy).1, hok y hy⟩
  · have h1 := (readM_pairs G ys hk hok).2 k hk'
    have h2 := readM_recs (ys.map fun y => [⟨y, (G y).getD [], false⟩]) noneG (fun L hL => by
      obtain ⟨y, hy, rfl⟩ := List.mem_map.1 hL
      exact ⟨fun p hp => by simp at hp; subst hp; exact ((hk.1 y).1 hy).1, hok y hy⟩)
    have e : recsOfG G ys = (ys.map fun y => [(⟨y, (G y).getD [], false⟩ : PutM)]).map fun L => (precM L []).1 := by
      unfold recsOfG pairM
      rw [List.map_map]
      rfl
    rw [← e] at h2
    rw [← h1]
    show _ = (readM (recsOfG G ys) noneG).1 k
    rw [h2]
theorem Kept.read {Ls : List (List UInt8)} {G : Nat → Option (List UInt8)} (h : Kept Ls G) : ∃ G', readM Ls (fun _ => none) = (G', 0) ∧ ∀ k, k < 18446744073709551616 → G' k = G k := by
  obtain ⟨LL, rfl, h2, h3⟩ := h
  exact ⟨_, readM_recs LL noneG h2, h3⟩
end Go.Proofs.YtdmbmkjiffhbcaaGreat
