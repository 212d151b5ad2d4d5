/-
  Commit where a cut is planned: what the device holds behind it.
-/
import Derived.Test.YtdmbmkjiffhbcaaGreatKLike
namespace Go.Proofs.YtdmbmkjiffhbcaaGreat
open Go.RowKit
set_option maxRecDepth 100000

theorem Cont.onK {D : Dev} {n s u : Nat} {B : List UInt8} (h : Cont D n s u B) (c : Choice) : Cont { D.cut c with off := false } n s u B := by
  have hs : ({ D.cut c with off := false } : Dev).sure = D.sure ∧ ({ D.cut c with off := false } : Dev).loose = [] := by
    unfold Dev.cut
    split
    · exact ⟨rfl, h.loose⟩
    · dsimp only
      rw [h.loose]
      exact ⟨rfl, rfl⟩
  exact h.same (on_wf (cut_wf h.wf c)) hs.2 (by rw [hs.1]; exact SameUse.refl _ _ _)
theorem JInv.planK {D : Dev} {J : JM} {L : List (List UInt8)} (h : JInv D J L) (a : Int) (c : Choice) : JInv (D.plan a c) J L :=
  ⟨h.cont.same (plan_wf h.cont.wf a c) h.cont.loose (SameUse.refl _ _ _), h.off, h.used, h.count, h.brk, h.long⟩
theorem fewLong_appendK {F T : List (List UInt8)} (h : fewLong F) (h' : fewLong T) : fewLong (F ++ T) := fun r hr => (List.mem_append.1 hr).elim (h r) (h' r)
/-- How a Commit ends where a cut may come: what the device holds. -/
def CutPost (base : Nat) (Fp : Nat → Prop) (g m0 : Nat) (Ls : List (List UInt8)) (L : List PutM) (w : World) (e : Ending) (w' : World) : Prop :=
  ∃ (er : Int) (X : List (List UInt8)) (n s u : Nat) (D' : Dev) (Gd' Fp' : Nat → Prop), e = .returned (.int .i64 er) ∧ DevAt w' base Gd' g D' ∧ Fr Fp Fp' w w' ∧ (∀ k, Gd' k → Fp' k) ∧ (∀ k, Fp' k → base ≤ k) ∧ Cont D' n s u (recsB X) ∧ fewLong X ∧ D'.Few (m0 + 2100) ∧
    ((er = 0 ∧ X = if L = [] then Ls else Ls ++ [(precM L []).1]) ∨ (er = 6 ∧ L ≠ [] ∧ (X = Ls ∨ X = Ls ++ [(precM L []).1])))
theorem kcommit_cut (base : Nat) (Fp ok : Nat → Prop) (kb g : Nat) (D : Dev) (J : JM) (Ls : List (List UInt8)) (n m0 : Nat) (G : Nat → Option (List UInt8)) (v : Value) (L : List PutM) (w : World) (h : KeepOk w base Fp kb g D J Ls n G) (hfew : D.Few m0) (hm0 : m0 ≤ 800000) (hlen : D.sure.length ≤ 4096) (hnum : J.number + 1 ≤ 4611686018427387904)
    (hL : IsL kPut w ok v L) (hok : ∀ k, ok k → k < w.heap.size ∧ ¬ Fp k) (hlg : L.any long60 = false) (hrec : (precM L []).2 = 0) (hroom : (recsB [(precM L []).1]).length ≤ sideN D * 256 - J.used) (hnl : n + L.length ≤ 1099511627776) (hGl : ∀ k l, G k = some l → l.length ≤ 65535) :
    Calls Tryz.prog 11 #[.pointer (some ⟨kb, 0, none⟩), v] w (CutPost base Fp g m0 Ls L w) := by
  by_cases hnil : L = []
  · subst hnil
    refine (kcommit_few_ok base Fp ok kb g D J Ls n G v [] w h (hfew.mono (by omega)) hnum hL hok (.inr rfl) hnl hGl).mono ?_
    rintro e w' ⟨rfl, h1, h2⟩
    have hlow := h1.low
    obtain ⟨hi, Gd, hd, hgf⟩ := h1.inv
    exact ⟨0, Ls, _, _, _, D, Gd, Fp, rfl, hd, Fr.of_below h2 Fp, hgf, fun k hk => (hlow k hk).1, hi.cont, hi.long, hfew.mono (by omega), .inl ⟨rfl, by rw [if_pos rfl]⟩⟩
  · obtain ⟨Gd, j, gm, P, hd, hi, hj, hkb, hm, h1, h2, h3, h4, h5, h6, hP, hF, hl⟩ := h
    have hlong : fewLong [(precM L []).1] := fun r hr => by
      simp only [List.mem_cons, List.not_mem_nil, or_false] at hr
      rw [hr]
      exact (precM_ok L [] hrec).2.2 hnil
    have hbs : base ≤ w.heap.size := hd.size
    have hfew' := addJ_few hfew hlen J [(precM L []).1]
    have hcs := add_inv hi hnum [(precM L []).1] hlong
    have hn5 : (addJ J D [(precM L []).1]).2 ≠ 5 := by
      rcases hcs with h | h | h
      · omega
      · rw [h.2.1]; decide
      · rw [h.2.2.1]; decide
    refine (kcommit_any base Gd ok P kb j g gm n J D v L G w hi.fit (hfew.mono (by omega)) hd hj h1 hkb h2 h4 ⟨h3, h5, h6⟩ hm hL (fun k hk => ⟨(hok k hk).1, fun h => (hok k hk).2 (hF k (.inl h)), fun h => (hok k hk).2 (hF k (.inr (.inl h))), fun h => (hok k hk).2 (hF k (.inr (.inr (.inr (.inl h)))))⟩)
      hP hnl hGl (fun h => absurd h hn5)).mono ?_
    rintro e w' (⟨er, rfl, hb, h | h | h | h⟩ | ⟨_, _, _, _, ⟨h, _⟩ | ⟨_, hne0, rfl, G', hd', hj', hnj', hfr⟩ | ⟨he0, rfl, G', hd', hj', hnj', hng, hfr, hm'⟩⟩)
    · rw [hi.brk] at h; cases h.1
    · rw [hlg] at h; cases h.2.1
    · exact absurd h.2.1 hnil
    · rw [hrec] at h; cases h.2.2.2.1
    · exact absurd h hn5
    · rcases hcs with h | h | ⟨_, _, h6', _, _, n', s', u', B', hc, hB⟩
      · omega
      · exact absurd h.2.1 hne0
      · have key : ∃ X, Cont (addJ J D [(precM L []).1]).1.2 n' s' u' (recsB X) ∧ fewLong X ∧ (X = Ls ∨ X = Ls ++ [(precM L []).1]) := by
          rcases hB with rfl | rfl
          · exact ⟨Ls, hc, hi.long, .inl rfl⟩
          · exact ⟨_, hc, fewLong_appendK hi.long hlong, .inr rfl⟩
        obtain ⟨X, hX1, hX2, hX3⟩ := key
        refine ⟨6, X, n', s', u', _, G', fun k => G' k ∨ Fp k ∨ w.heap.size ≤ k, by rw [h6'], hd', ⟨hfr.os, hfr.tape, hfr.output, hfr.size, fun k hk hnF => ?_⟩, fun k hk => .inl hk, ?_, hX1, hX2, hfew', .inr ⟨rfl, hnil, hX3⟩⟩
        · obtain ⟨c1, c2⟩ := hfr.block k hk (by
            rintro (h | h)
            · exact hnF (hF k (.inl h))
            · exact hnF (hF k (.inr (.inl h))))
          refine ⟨?_, c2⟩
          rintro (h | h | h)
          · exact c1 (.inl h)
          · exact hnF h
          · omega
        · rintro k (h | h | h)
          · exact (hd'.low k h).1
          · exact (hl k h).1
          · omega
    · rcases hcs with h | h | h
      · omega
      · refine ⟨0, Ls ++ [(precM L []).1], _, _, _, _, G', fun k => G' k ∨ Fp k ∨ w.heap.size ≤ k, rfl, hd', ⟨hfr.os, hfr.tape, hfr.output, hfr.size, fun k hk hnF => ?_⟩, fun k hk => .inl hk, ?_, h.2.2.1.cont, h.2.2.1.long, hfew', .inl ⟨rfl, by rw [if_neg hnil]⟩⟩
        · obtain ⟨c1, c2⟩ := hfr.block k hk (by
            rintro (h | h | h)
            · exact hnF (hF k (.inl h))
            · exact hnF (hF k (.inr (.inl h)))
            · exact hnF (hF k (.inr (.inr (.inr (.inl h))))))
          refine ⟨?_, c2⟩
          rintro (h | h | h)
          · exact c1 (.inl h)
          · exact hnF h
          · omega
        · rintro k (h | h | h)
          · exact (hd'.low k h).1
          · exact (hl k h).1
          · omega
      · rw [h.2.2.1] at he0; cases he0
/-- A cut is planned at a Keep's device. -/
theorem kplan_ok (base : Nat) (Fp ok : Nat → Prop) (kb g : Nat) (D : Dev) (J : JM) (Ls : List (List UInt8)) (n : Nat) (G : Nat → Option (List UInt8)) (a : Int) (vk : Value) (c : Choice) (w : World) (h : KeepOk w base Fp kb g D J Ls n G) (hv : IsL (kInt .i64) w ok vk c.kept) (hok : ∀ k, ok k → k < base) (hl : c.kept.length ≤ 1099511627776) (ha : -9223372036854775808 ≤ a ∧ a ≤ 9223372036854775807) :
    Calls Tryz.prog 13 #[.pointer (some ⟨g, 0, none⟩), .int .i64 a, .agg #[vk, .int .i64 c.torn, .int .i64 c.half]] w fun e w' => e = .returned (.tuple #[]) ∧ ∃ Fp', KeepOk w' base Fp' kb g (D.plan a c) J Ls n G ∧ Fr Fp Fp' w w' := by
  obtain ⟨Gd, j, gm, P, hd, hi, hj, hkb, hm, h1, h2, h3, h4, h5, h6, hP, hF, hlw⟩ := h
  have hg : base ≤ g := hd.base_le.1
  refine (plan_any base Gd g D ok a vk c w hd hv (fun k hk e => by have := hok k hk; omega) hl hd.size ha).mono ?_
  rintro e w' ⟨rfl, G', hd', hf⟩
  have hkeep : ∀ k, k < w.heap.size → ¬ Gd k → w'.heap[k]? = w.heap[k]? ∧ ¬ G' k := fun k hk h1 => ⟨(hf.block k hk h1).2, (hf.block k hk h1).1⟩
  have hgl : gm < w.heap.size := (hlw gm (hF gm (.inr (.inr (.inr (.inl rfl)))))).2
  have hkl : kb < w.heap.size := (hlw kb (hF kb (.inr (.inr (.inl rfl))))).2
  have hjl : j < w.heap.size := (hlw j (hF j (.inr (.inl rfl)))).2
  have hs := hf.size
  refine ⟨rfl, fun k => (G' k ∨ Fp k) ∧ k < w'.heap.size, ⟨G', j, gm, P, hd', hi.planK a c, hj.keep (hkeep j hjl h1).1, hkb.keep (hkeep kb hkl h2).1, hm.keep (hkeep gm hgl h3).1 fun k hk _ => ⟨hk, (hkeep k (hP k hk).1 (hP k hk).2.1).1⟩, (hkeep j hjl h1).2, (hkeep kb hkl h2).2, (hkeep gm hgl h3).2, h4, h5, h6,
    fun k hk => ⟨by have := (hP k hk).1; omega, (hkeep k (hP k hk).1 (hP k hk).2.1).2, (hP k hk).2.2⟩, ?_, fun k hk => ⟨hk.1.elim (fun h => (hd'.low k h).1) (fun h => (hlw k h).1), hk.2⟩⟩, ⟨hf.os, hf.tape, hf.output, hf.size, fun k hk hnF => ?_⟩⟩
  · rintro k (h | rfl | rfl | rfl | h)
    · exact ⟨.inl h, (hd'.low k h).2⟩
    · exact ⟨.inr (hF _ (.inr (.inl rfl))), by omega⟩
    · exact ⟨.inr (hF _ (.inr (.inr (.inl rfl)))), by omega⟩
    · exact ⟨.inr (hF _ (.inr (.inr (.inr (.inl rfl))))), by omega⟩
    · exact ⟨.inr (hF k (.inr (.inr (.inr (.inr h))))), by have := (hP k h).1; omega⟩
  · obtain ⟨c1, c2⟩ := hkeep k hk (fun h => hnF (hF k (.inl h)))
    exact ⟨fun h => h.1.elim c2 hnF, c1⟩
end Go.Proofs.YtdmbmkjiffhbcaaGreat
