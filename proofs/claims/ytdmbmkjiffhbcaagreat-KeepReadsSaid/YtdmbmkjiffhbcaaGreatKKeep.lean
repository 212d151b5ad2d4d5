/-
  A Keep while other blocks are turned; Commit of a few short changes, or of none.
-/
import Derived.Test.YtdmbmkjiffhbcaaGreatKLives
import Derived.Test.YtdmbmkjiffhbcaaGreatKCuts
namespace Go.Proofs.YtdmbmkjiffhbcaaGreat
open Go.RowKit
set_option maxRecDepth 100000

theorem recsB_one (r : List UInt8) : r.length + 4 ≤ (recsB [r]).length ∧ (recsB [r]).length ≤ r.length + 7 := by
  have h : recsB [r] = recB r := by unfold recsB; simp
  rw [h]
  refine ⟨?_, (recB_length r).2⟩
  unfold recB
  rw [fieldB_length, List.length_append, sumB_length]
  omega
theorem recsB_mem (L : List (List UInt8)) (r : List UInt8) (h : r ∈ L) : r.length + 4 ≤ (recsB L).length := by
  induction L with
  | nil => simp at h
  | cons a L ih =>
    have e : recsB (a :: L) = recsB [a] ++ recsB L := recsB_append [a] L
    rw [e, List.length_append]
    rcases List.mem_cons.1 h with rfl | h
    · have := (recsB_one r).1
      omega
    · have := ih h
      omega
theorem KeepOk.keep {w w' : World} {base : Nat} {Fp : Nat → Prop} {kb g : Nat} {D : Dev} {J : JM} {Ls : List (List UInt8)} {n : Nat} {G : Nat → Option (List UInt8)} (h : KeepOk w base Fp kb g D J Ls n G) (hs : w.heap.size ≤ w'.heap.size) (hk : ∀ k, Fp k → w'.heap[k]? = w.heap[k]?) : KeepOk w' base Fp kb g D J Ls n G := by
  obtain ⟨Gd, j, gm, P, hd, hi, hj, hkb, hm, h1, h2, h3, h4, h5, h6, hP, hF, hl⟩ := h
  exact ⟨Gd, j, gm, P, hd.keep (fun k h => hk k (hF k (.inl h))) hs, hi, hj.keep (hk j (hF j (.inr (.inl rfl)))), hkb.keep (hk kb (hF kb (.inr (.inr (.inl rfl))))), hm.keep (hk gm (hF gm (.inr (.inr (.inr (.inl rfl)))))) fun k h _ => ⟨h, hk k (hF k (.inr (.inr (.inr (.inr h)))))⟩,
    h1, h2, h3, h4, h5, h6, fun k h => ⟨Nat.lt_of_lt_of_le (hP k h).1 hs, (hP k h).2⟩, hF, fun k h => ⟨(hl k h).1, Nat.lt_of_lt_of_le (hl k h).2 hs⟩⟩
theorem KeepOk.base_le {w : World} {base : Nat} {Fp : Nat → Prop} {kb g : Nat} {D : Dev} {J : JM} {Ls : List (List UInt8)} {n : Nat} {G : Nat → Option (List UInt8)} (h : KeepOk w base Fp kb g D J Ls n G) : base ≤ w.heap.size := by
  obtain ⟨Gd, j, gm, P, hd, _⟩ := h
  exact hd.size
/-- Commit of changes whose record fits, or of none, where no cut is planned. -/
theorem kcommit_short (base : Nat) (Fp ok : Nat → Prop) (kb g : Nat) (D : Dev) (J : JM) (Ls : List (List UInt8)) (n m0 : Nat) (G : Nat → Option (List UInt8)) (v : Value) (L : List PutM) (w : World) (h : KeepOk w base Fp kb g D J Ls n G) (hfew : D.Few m0) (hm0 : m0 ≤ 800000) (hlen : D.sure.length ≤ 4096) (hleft : D.left = -1) (hnum : J.number + 1 ≤ 4611686018427387904)
    (hL : IsL kPut w ok v L) (hok : ∀ k, ok k → k < w.heap.size ∧ ¬ Fp k) (hlg : L.any long60 = false) (hrec : (precM L []).2 = 0) (hroom : (recsB [(precM L []).1]).length ≤ sideN D * 256 - J.used) (hnl : n + L.length ≤ 1099511627776) (hGl : ∀ k l, G k = some l → l.length ≤ 65535) :
    Calls Tryz.prog 11 #[.pointer (some ⟨kb, 0, none⟩), v] w fun e w' => e = .returned (.int .i64 0) ∧ ∃ Fp' D' J' Ls', KeepOk w' base Fp' kb g D' J' Ls' (n + L.length) (putsG G L) ∧ Fr Fp Fp' w w' ∧
      D'.sure.length = D.sure.length ∧ D'.Few (m0 + 2100) ∧ D'.left = -1 ∧ J'.used ≤ J.used + (recsB [(precM L []).1]).length ∧ J'.number ≤ J.number + 1 ∧ Ls'.flatten.length ≤ Ls.flatten.length + (precM L []).1.length ∧
      ((L = [] ∧ D' = D ∧ J' = J ∧ Ls' = Ls) ∨ (L ≠ [] ∧ Ls' = Ls ++ [(precM L []).1])) := by
  by_cases hnil : L = []
  · subst hnil
    refine (kcommit_few_ok base Fp ok kb g D J Ls n G v [] w h (hfew.mono (by omega)) hnum hL hok (.inr rfl) hnl hGl).mono ?_
    rintro e w' ⟨rfl, h1, h2⟩
    exact ⟨rfl, Fp, D, J, Ls, h1, Fr.of_below h2 Fp, rfl, hfew.mono (by omega), hleft, by omega, by omega, by omega, .inl ⟨rfl, rfl, rfl, rfl⟩⟩
  · refine (kcommit_ok base Fp ok kb g D J Ls n G v L w h (hfew.mono (by omega)) hleft hnum hL hok hnil hlg hrec hroom hnl hGl).mono ?_
    rintro e w' ⟨rfl, Fp', D', J', h1, h2, h3, h4, h5, h6, h7⟩
    refine ⟨rfl, Fp', D', J', _, h1, h2, by rw [h3, addJ_length], by rw [h3]; exact addJ_few hfew hlen _ _, h5, by omega, h7, ?_, .inr ⟨hnil, rfl⟩⟩
    rw [List.flatten_append, List.length_append]
    simp
end Go.Proofs.YtdmbmkjiffhbcaaGreat
