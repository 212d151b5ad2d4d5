/-
  Commit that ends by a replace that has room; one short change at a time, for ever.
-/
import Derived.Test.YtdmbmkjiffhbcaaGreatKKept
namespace Go.Proofs.YtdmbmkjiffhbcaaGreat
open Go.RowKit
set_option maxRecDepth 100000

/-- Commit where the record has no room, and what is left of all records has. -/
theorem kcommit_rep_ok (base : Nat) (Fp ok : Nat → Prop) (kb g : Nat) (D : Dev) (J : JM) (Ls : List (List UInt8)) (n : Nat) (G : Nat → Option (List UInt8)) (v : Value) (L : List PutM) (w : World) (h : KeepOk w base Fp kb g D J Ls n G) (hfew : D.Few 900000) (hleft : D.left = -1) (hnum : J.number + 1 ≤ 4611686018427387904)
    (hL : IsL kPut w ok v L) (hok : ∀ k, ok k → k < w.heap.size ∧ ¬ Fp k) (hnil : L ≠ []) (hlg : L.any long60 = false) (hrec : (precM L []).2 = 0) (hroom : sideN D * 256 - J.used < (recsB [(precM L []).1]).length) (hnl : n + L.length ≤ 1099511627776) (hGl : ∀ k l, G k = some l → l.length ≤ 65535)
    (hpair : ∀ y, y < 18446744073709551616 → (putsG G L y).isSome = true → (pairM (putsG G L) y).2 = 0) (hbig : ∀ ys, KeysOf (putsG G L) ys → (recsB (recsOfG (putsG G L) ys)).length ≤ sideN D * 256) :
    Calls Tryz.prog 11 #[.pointer (some ⟨kb, 0, none⟩), v] w fun e w' => e = .returned (.int .i64 0) ∧ ∃ Fp' D' J' ys, KeysOf (putsG G L) ys ∧ KeepOk w' base Fp' kb g D' J' (recsOfG (putsG G L) ys) (n + L.length) (putsG G L) ∧ Fr Fp Fp' w w' ∧
      D' = (repJ J D (recsOfG (putsG G L) ys)).1.2 ∧ D'.left = -1 ∧ J'.used = (recsB (recsOfG (putsG G L) ys)).length ∧ J'.number ≤ J.number + 1 := by
  obtain ⟨Gd, j, gm, P, hd, hi, hj, hkb, hm, h1, h2, h3, h4, h5, h6, hP, hF, hl⟩ := h
  have hlong : fewLong [(precM L []).1] := fun r hr => by
    simp only [List.mem_cons, List.not_mem_nil, or_false] at hr
    rw [hr]
    exact (precM_ok L [] hrec).2.2 hnil
  have ha : addJ J D [(precM L []).1] = ((J, D), 5) := by
    rcases add_inv hi hnum [(precM L []).1] hlong with h | h | h
    · exact h.2
    · omega
    · omega
  refine (kcommit_any base Gd ok P kb j g gm n J D v L G w hi.fit hfew hd hj h1 hkb h2 h4 ⟨h3, h5, h6⟩ hm hL (fun k hk => ⟨(hok k hk).1, fun h => (hok k hk).2 (hF k (.inl h)), fun h => (hok k hk).2 (hF k (.inr (.inl h))), fun h => (hok k hk).2 (hF k (.inr (.inr (.inr (.inl h)))))⟩)
    hP hnl hGl (add_full hi hnum _)).mono ?_
  rintro e w' (⟨er, rfl, hb, h | h | h | h⟩ | ⟨_, _, _, _, ⟨_, w4, G4, hs4, hf4, hr⟩ | h | h⟩)
  · rw [hi.brk] at h; cases h.1
  · rw [hlg] at h; cases h.2.1
  · exact absurd h.2.1 hnil
  · rw [hrec] at h; cases h.2.2.2.1
  · rcases hr with ⟨⟨y, hy1, hy2, hy3⟩, _⟩ | ⟨ys, hk, hy, rfl, G', hd', hj', hnj', hnk', hfin⟩
    · rw [hpair y hy1 hy2] at hy3; cases hy3
    · have hfl : fewLong (recsOfG (putsG G L) ys) := fun r hr => by
        obtain ⟨y, hyy, rfl⟩ := List.mem_map.1 hr
        exact (precM_ok _ [] (hy y hyy)).2.2 (by simp)
      have hcs : (repJ J D (recsOfG (putsG G L) ys)).2 = 0 ∧ JInv (repJ J D (recsOfG (putsG G L) ys)).1.2 (repJ J D (recsOfG (putsG G L) ys)).1.1 (recsOfG (putsG G L) ys) ∧ (repJ J D (recsOfG (putsG G L) ys)).1.1.used = (recsB (recsOfG (putsG G L) ys)).length ∧
          (repJ J D (recsOfG (putsG G L) ys)).1.1.number ≤ J.number + 1 ∧ (D.left = -1 → (repJ J D (recsOfG (putsG G L) ys)).1.2.left = -1) := by
        have := hbig ys hk
        rcases rep_inv hi hnum _ hfl with h | h | h
        · omega
        · exact h.2
        · exact absurd hleft h.2.1
      obtain ⟨c2, c3, c4, c5, c6⟩ := hcs
      rcases hfin with ⟨h0, _⟩ | ⟨_, hf5, g2, hg2s, hng2, hkb', hm'⟩
      · exact absurd c2 h0
      · rw [c2]
        have hjl : j < w.heap.size := (hl j (hF j (.inr (.inl rfl)))).2
        have hkl : kb < w.heap.size := (hl kb (hF kb (.inr (.inr (.inl rfl))))).2
        have hf04 : Fr (fun k => Gd k ∨ k = j ∨ k = kb) (fun k => G4 k ∨ k = j ∨ k = kb) w w4 := ⟨hf4.os, hf4.tape, hf4.output, hf4.size, fun k hk hF => by
          obtain ⟨a, b⟩ := hf4.block k hk (fun h => hF (h.elim .inl fun h => .inr (.inl h)))
          exact ⟨fun h => h.elim (fun h => a (.inl h)) fun h => h.elim (fun h => a (.inr h)) fun h => hF (.inr (.inr h)), b⟩⟩
        have hfr := hf04.trans hf5
        have hfs := hfr.size
        have hg2l : g2 < w'.heap.size := by obtain ⟨F, h, _⟩ := hm'; exact h.lt
        refine ⟨rfl, fun k => (G' k ∨ Fp k ∨ w.heap.size ≤ k) ∧ k < w'.heap.size, _, _, ys, hk, ⟨G', j, g2, fun k => (¬ G' k ∧ k ≠ j ∧ k ≠ kb ∧ k ≠ g2 ∧ (P k ∨ w.heap.size ≤ k)) ∧ k < w'.heap.size, hd', c3, hj', hkb', ?_, hnj', hnk', hng2, h4, by omega, by omega, ?_, ?_, ?_⟩, ?_, rfl, c6 hleft, c4, c5⟩
        · exact hm'.keep rfl fun k hk hkl => ⟨⟨⟨hk.1, hk.2.1, hk.2.2.1, hk.2.2.2.1, hk.2.2.2.2.imp id (fun h => by omega)⟩, hkl⟩, rfl⟩
        · exact fun k hk => ⟨hk.2, hk.1.1, hk.1.2.1, hk.1.2.2.1, hk.1.2.2.2.1⟩
        · rintro k (h | rfl | rfl | rfl | h)
          · exact ⟨.inl h, (hd'.low k h).2⟩
          · exact ⟨.inr (.inl (hF _ (.inr (.inl rfl)))), by omega⟩
          · exact ⟨.inr (.inl (hF _ (.inr (.inr (.inl rfl))))), by omega⟩
          · exact ⟨.inr (.inr (by omega)), hg2l⟩
          · refine ⟨?_, h.2⟩
            rcases h.1.2.2.2.2 with h | h
            · exact .inr (.inl (hF k (.inr (.inr (.inr (.inr h))))))
            · exact .inr (.inr h)
        · rintro k ⟨h | h | h, hk⟩
          · exact ⟨(hd'.low k h).1, hk⟩
          · exact ⟨(hl k h).1, hk⟩
          · exact ⟨by have := hd.size; omega, hk⟩
        · refine ⟨hfr.os, hfr.tape, hfr.output, hfr.size, fun k hk hnF => ?_⟩
          obtain ⟨c1, c2⟩ := hfr.block k hk (by
            rintro (h | h | h)
            · exact hnF (hF k (.inl h))
            · exact hnF (hF k (.inr (.inl h)))
            · exact hnF (hF k (.inr (.inr (.inl h)))))
          refine ⟨?_, c2⟩
          rintro ⟨h | h | h, _⟩
          · exact c1 (.inl h)
          · exact hnF h
          · omega
  · rw [ha] at h; exact absurd rfl h.1
  · rw [ha] at h; cases h.1
theorem flatten_recsB (L : List (List UInt8)) : L.flatten.length ≤ (recsB L).length := by
  induction L with
  | nil => exact Nat.zero_le _
  | cons a L ih =>
    have e : recsB (a :: L) = recsB [a] ++ recsB L := recsB_append [a] L
    have := (recsB_one a).1
    rw [e, List.flatten_cons, List.length_append, List.length_append]
    omega
theorem recsB_most_ (F : List (List UInt8)) (m : Nat) (h : ∀ r ∈ F, r.length ≤ m) : (recsB F).length ≤ F.length * (m + 7) := by
  induction F with
  | nil => exact Nat.zero_le _
  | cons a L ih =>
    have e : recsB (a :: L) = recsB [a] ++ recsB L := recsB_append [a] L
    have h1 := (recsB_one a).2
    have h2 := h a (by simp)
    have h3 := ih fun r hr => h r (by simp [hr])
    rw [e, List.length_append, List.length_cons, Nat.add_mul]
    omega
/-- What stands between Commits of one short change each, in a device of sixty sectors. -/
def KInvF (w : World) (base : Nat) (Fp : Nat → Prop) (kb g m : Nat) (G : Nat → Option (List UInt8)) : Prop :=
  ∃ D J Ls n, KeepOk w base Fp kb g D J Ls n G ∧ D.Few (10 + m * 2100) ∧ D.sure.length = 60 ∧ D.left = -1 ∧ J.number ≤ 1 + m ∧ n ≤ m ∧ Kept Ls G
theorem KInvF.low {w : World} {base : Nat} {Fp : Nat → Prop} {kb g m : Nat} {G : Nat → Option (List UInt8)} (h : KInvF w base Fp kb g m G) : ∀ k, Fp k → base ≤ k ∧ k < w.heap.size := by
  obtain ⟨D, J, Ls, n, hk, _⟩ := h
  exact hk.low
theorem KInvF.grow {w w' : World} {base : Nat} {Fp : Nat → Prop} {kb g m : Nat} {G : Nat → Option (List UInt8)} (h : KInvF w base Fp kb g m G) (hb : Below w.heap.size w w') : KInvF w' base Fp kb g m G := by
  obtain ⟨D, J, Ls, n, hk, h2⟩ := h
  exact ⟨D, J, Ls, n, hk.grow hb, h2⟩
theorem KInvF.keep {w w' : World} {base : Nat} {Fp : Nat → Prop} {kb g m : Nat} {G : Nat → Option (List UInt8)} (h : KInvF w base Fp kb g m G) (hs : w.heap.size ≤ w'.heap.size) (hk : ∀ k, Fp k → w'.heap[k]? = w.heap[k]?) : KInvF w' base Fp kb g m G := by
  obtain ⟨D, J, Ls, n, h1, h2⟩ := h
  exact ⟨D, J, Ls, n, h1.keep hs hk, h2⟩
theorem one_short (p : PutM) (hk : p.key < 18446744073709551616) (m : Nat) (hm : m ≤ 1000) (hl : p.val.length ≤ m) : (precM [p] []).2 = 0 ∧ (precM [p] []).1.length ≤ m + 20 := by
  have h := short_rec [p] m hm (by simp) (fun q hq => by simp at hq; subst hq; exact hk) (fun q hq => by simp at hq; subst hq; exact hl) [] (by simp only [List.length_nil, List.length_cons]; omega)
  refine ⟨h.1, ?_⟩
  have := h.2
  simp only [List.length_nil, List.length_cons] at this
  omega
theorem kcommit_step (base : Nat) (Fp ok : Nat → Prop) (kb g m : Nat) (G : Nat → Option (List UInt8)) (v : Value) (p : PutM) (w : World) (h : KInvF w base Fp kb g m G) (hm : m ≤ 300) (hL : IsL kPut w ok v [p]) (hok : ∀ k, ok k → k < w.heap.size ∧ ¬ Fp k) (hp : p.key < 18446744073709551616) (hpl : p.val.length ≤ 300)
    (hGl : ∀ k l, G k = some l → l.length ≤ 300) (hfew : ∀ ys, KeysOf (putG G p) ys → ys.length ≤ 16) :
    Calls Tryz.prog 11 #[.pointer (some ⟨kb, 0, none⟩), v] w fun e w' => e = .returned (.int .i64 0) ∧ ∃ Fp', KInvF w' base Fp' kb g (m + 1) (putG G p) ∧ Fr Fp Fp' w w' := by
  obtain ⟨D, J, Ls, n, hk, hD, hlen, hleft, hnum, hn, hkept⟩ := h
  have hsn : sideN D = 29 := by unfold sideN; rw [hlen]
  have hr := one_short p hp 300 (by decide) hpl
  have hlg := short_few [p] 300 (by decide) (fun q hq => by simp at hq; subst hq; exact hpl)
  have hGl' : ∀ k l, putG G p k = some l → l.length ≤ 300 := putsG_most 300 [p] G hGl (fun q hq => by simp at hq; subst hq; exact hpl)
  have hG65 : ∀ k l, G k = some l → l.length ≤ 65535 := fun k l h => by have := hGl k l h; omega
  have hne : [p] ≠ [] := by simp
  by_cases hroom : (recsB [(precM [p] []).1]).length ≤ sideN D * 256 - J.used
  · refine (kcommit_ok base Fp ok kb g D J Ls n G v [p] w hk (hD.mono (by omega)) hleft (by omega) hL hok hne hlg hr.1 hroom (by simp only [List.length_cons, List.length_nil]; omega) hG65).mono ?_
    rintro e w' ⟨rfl, Fp', D', J', h1, h2, h3, h4, h5, h6, h7⟩
    refine ⟨rfl, Fp', ⟨D', J', _, _, h1, ?_, by rw [h3, addJ_length, hlen], h5, by omega, by simp only [List.length_cons, List.length_nil]; omega, hkept.add [p] (fun q hq => by simp at hq; subst hq; exact hp) hr.1⟩, h2⟩
    rw [h3]
    exact (addJ_few hD (by omega) _ _).mono (by omega)
  · have hpair : ∀ y, y < 18446744073709551616 → (pairM (putG G p) y).2 = 0 ∧ (pairM (putG G p) y).1.length ≤ 320 := fun y hy => by
      refine one_short ⟨y, (putG G p y).getD [], false⟩ hy 300 (by decide) ?_
      dsimp only
      cases hq : putG G p y with
      | none => exact Nat.zero_le _
      | some l => exact hGl' y l hq
    have hpair0 : ∀ y, y < 18446744073709551616 → (putG G p y).isSome = true → (pairM (putG G p) y).2 = 0 := fun y hy _ => (hpair y hy).1
    refine (kcommit_rep_ok base Fp ok kb g D J Ls n G v [p] w hk (hD.mono (by omega)) hleft (by omega) hL hok hne hlg hr.1 (by omega) (by simp only [List.length_cons, List.length_nil]; omega) hG65 hpair0 (fun ys hys => ?_)).mono ?_
    · have h1 := recsB_most_ (recsOfG (putG G p) ys) 320 (fun r hr => by
        obtain ⟨y, hy, rfl⟩ := List.mem_map.1 hr
        exact (hpair y ((hys.1 y).1 hy).1).2)
      have h2 : (recsOfG (putG G p) ys).length = ys.length := by unfold recsOfG; rw [List.length_map]
      have h3 := hfew ys hys
      rw [h2] at h1
      have h4 : ys.length * (320 + 7) ≤ 16 * (320 + 7) := Nat.mul_le_mul_right _ h3
      rw [hsn]
      show (recsB (recsOfG (putG G p) ys)).length ≤ _
      omega
    · rintro e w' ⟨rfl, Fp', D', J', ys, hys, h1, h2, h3, h4, h5, h6⟩
      refine ⟨rfl, Fp', ⟨D', J', _, _, h1, ?_, by rw [h3, repJ_length, hlen], h4, by omega, by simp only [List.length_cons, List.length_nil]; omega, Kept.pairs ys hys (fun y hy => (hpair y ((hys.1 y).1 hy).1).1)⟩, h2⟩
      rw [h3]
      exact (repJ_few hD (by omega) _ _).mono (by omega)
end Go.Proofs.YtdmbmkjiffhbcaaGreat
