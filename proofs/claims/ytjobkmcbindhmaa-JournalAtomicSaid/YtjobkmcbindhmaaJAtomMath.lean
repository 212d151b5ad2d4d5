/-
  What is found behind a call in which the power was cut; arguments that tell of a cut.
-/
import Derived.Test.YtjobkmcbindhmaaJLives
import Derived.Test.YtjobkmcbindhmaaJFits
import Derived.Test.YtjobkmcbindhmaaJTexts
namespace Go.Proofs.Ytjobkmcbindhmaa
open Go.RowKit Go.WideShapes
set_option maxRecDepth 100000

theorem Cont.on {D : Dev} {n s u : Nat} {B : List UInt8} (h : Cont D n s u B) (c : Choice) : Cont { D.cut c with off := false } n s u B := by
  have hs : ({ D.cut c with off := false } : Dev).sure = D.sure ∧ ({ D.cut c with off := false } : Dev).loose = [] := by
    unfold Dev.cut
    split
    · exact ⟨rfl, h.loose⟩
    · dsimp only
      rw [h.loose]
      exact ⟨rfl, rfl⟩
  exact h.same (on_wf (cut_wf h.wf c)) hs.2 (by rw [hs.1]; exact SameUse.refl _ _ _)
theorem JInv.plan {D : Dev} {J : JM} {L : List (List UInt8)} (h : JInv D J L) (a : Int) (c : Choice) : JInv (D.plan a c) J L :=
  ⟨h.cont.same (plan_wf h.cont.wf a c) h.cont.loose (SameUse.refl _ _ _), h.off, h.used, h.count, h.brk, h.long⟩
/-- What a call leaves: refused, done, or cut. -/
theorem atomic_cases {D : Dev} {J : JM} {F T : List (List UInt8)} (h : JInv D J F) (hn : J.number + 1 ≤ 4611686018427387904) (hT : fewLong T) (rep : Bool) :
    ∃ X n s u, Cont (if rep then repJ J D T else addJ J D T).1.2 n s u (recsB X) ∧ fewLong X ∧
      (((if rep then repJ J D T else addJ J D T).2 = 5 ∧ X = F) ∨ ((if rep then repJ J D T else addJ J D T).2 = 0 ∧ X = if rep then T else F ++ T) ∨
       ((if rep then repJ J D T else addJ J D T).2 = 6 ∧ (X = F ∨ X = if rep then T else F ++ T))) := by
  cases rep with
  | true =>
    simp only [if_true]
    rcases rep_inv h hn T hT with ⟨_, b⟩ | ⟨_, b, c, _⟩ | ⟨_, _, b, _, _, n, s, u, B, hc, hB⟩
    · rw [b]
      exact ⟨F, _, _, _, h.cont, h.long, .inl ⟨rfl, rfl⟩⟩
    · exact ⟨T, _, _, _, c.cont, c.long, .inr (.inl ⟨b, rfl⟩)⟩
    · rcases hB with rfl | rfl
      · exact ⟨F, _, _, _, hc, h.long, .inr (.inr ⟨b, .inl rfl⟩)⟩
      · exact ⟨T, _, _, _, hc, hT, .inr (.inr ⟨b, .inr rfl⟩)⟩
  | false =>
    simp only [Bool.false_eq_true, if_false]
    rcases add_inv h hn T hT with ⟨_, b⟩ | ⟨_, b, c, _⟩ | ⟨_, _, b, _, _, n, s, u, B, hc, hB⟩
    · rw [b]
      exact ⟨F, _, _, _, h.cont, h.long, .inl ⟨rfl, rfl⟩⟩
    · exact ⟨F ++ T, _, _, _, c.cont, c.long, .inr (.inl ⟨b, rfl⟩)⟩
    · rcases hB with rfl | rfl
      · exact ⟨F, _, _, _, hc, h.long, .inr (.inr ⟨b, .inl rfl⟩)⟩
      · exact ⟨F ++ T, _, _, _, hc, fewLong_append h.long hT, .inr (.inr ⟨b, .inr rfl⟩)⟩

theorem recsB_most (F : List (List UInt8)) (m : Nat) (h : ∀ r ∈ F, r.length ≤ m) : (recsB F).length ≤ F.length * (m + 7) := by
  induction F with
  | nil => exact Nat.zero_le _
  | cons a L ih =>
    have e : (recsB (a :: L)).length = (recB a).length + (recsB L).length := by
      show (recB a ++ recsB L).length = _
      rw [List.length_append]
    have h1 := (recB_length a).2
    have h2 := h a (by simp)
    have h3 := ih fun r hr => h r (by simp [hr])
    rw [e, List.length_cons, Nat.add_mul]
    omega
/-- Whether all are replaced, and a cut. -/
structure CutM where
  rep : Bool
  after : Int
  choice : Choice
def kCutM : Kind CutM := (kPair kBool (kPair (kInt .i64) kChoice)).of fun o => (o.rep, o.after, o.choice)
theorem opens_cutm : Opens Try.prog 53 kCutM := by
  refine Opens.of (K := kPair kBool (kPair (kInt .i64) kChoice)) (Opens.struct Try.underlying53 (by kernel_rfl) ?_) (fun o : CutM => (o.rep, o.after, o.choice)) (fun x => ⟨x.1, x.2.1, x.2.2⟩) (fun _ => rfl)
  exact OpenFs.cons rfl (by kernel_rfl) (Opens.bool Try.underlying4) (OpenFs.cons rfl (by kernel_rfl) (Opens.int Try.underlying3) (OpenFs.one rfl (by kernel_rfl) opens_choice))
/-- A cut's value. -/
def IsCut (w : World) (ok : Nat → Prop) (v : Value) (c : CutM) : Prop :=
  ∃ Ak nk, v = .agg #[.bool c.rep, .int .i64 c.after, .slice Ak c.choice.kept.length nk, .int .i64 c.choice.torn, .int .i64 c.choice.half] ∧ IsL (kInt .i64) w ok (.slice Ak c.choice.kept.length nk) c.choice.kept ∧
    (-9223372036854775808 ≤ c.after ∧ c.after ≤ 9223372036854775807) ∧ (Lit.int .i64 c.choice.torn).wf = true ∧ (Lit.int .i64 c.choice.half).wf = true
section
variable {H : Type} {enc : TypeId × Value → H} {w : World} {r : Reach} {b0 base : Nat} {sp : Nat → Bool} {held : Bool} {v : Value} {d : DataW H} {ps : List MemPlace}
theorem open_cutj (hval : Value.okWide Try.prog w r b0 53 v) (hd : DataW.Trod enc Try.prog w base sp held 53 v d ps) : ∃ c, IsCut w (fun _ => True) v c := by
  obtain ⟨fuel, hf⟩ := hd
  obtain ⟨cs, rfl, hsz⟩ := okWide_struct Try.underlying53 hval
  obtain ⟨c, hc⟩ := opens_cutm hf
  obtain ⟨a, b, hcs, ha, p, q, hb, ⟨hp, hpw⟩, e1, e2, hq, hk, f1, f2, he2, ⟨hf1, hw1⟩, hf2, hw2⟩ := hc
  obtain ⟨A, n, ds, hk1, hrest⟩ := hk
  refine ⟨c, A, n, ?_, ⟨A, n, ds, rfl, hrest⟩, by simpa [Lit.wf, IntKind.min, IntKind.max, IntKind.signed, IntKind.bits] using hpw, hw1, hw2⟩
  have ha' : a = [.bool c.rep] := ha
  have hp' : p = [.int .i64 c.after] := hp
  have hk1' : e1 = [.slice A c.choice.kept.length n] := hk1
  have hf1' : f1 = [.int .i64 c.choice.torn] := hf1
  have hf2' : f2 = [.int .i64 c.choice.half] := hf2
  have : cs.toList = [.bool c.rep, .int .i64 c.after, .slice A c.choice.kept.length n, .int .i64 c.choice.torn, .int .i64 c.choice.half] := by
    have h0 : cs.toList = a ++ b := hcs
    rw [h0, hb, hq, he2, ha', hp', hk1', hf1', hf2']
    rfl
  rw [show cs = cs.toList.toArray by simp, this]
end
theorem isOp_two (w : World) (ok ok2 ok3 : Nat → Prop) (v1 v2 : Value) (L1 L2 : List (List UInt8)) (A : Option Addr) (nk : Nat) (c : Choice) (h1 : IsBB w ok v1 L1) (h2 : IsBB w ok2 v2 L2) (hk : IsL (kInt .i64) w ok3 (.slice A c.kept.length nk) c.kept) (ht : (Lit.int .i64 c.torn).wf = true) (hh : (Lit.int .i64 c.half).wf = true) :
    IsL kOpJ (w.alloc (.cells #[.int .i64 0, v1, .int .i64 0, .slice none 0 0, .int .i64 0, .int .i64 0, .int .i64 0, v2, .int .i64 0, .slice A c.kept.length nk, .int .i64 c.torn, .int .i64 c.half] 46)) (fun _ => True) (.slice (some ⟨w.heap.size, 0, none⟩) 2 2) [⟨0, L1, 0, ⟨[], 0, 0⟩⟩, ⟨0, L2, 0, c⟩] := by
  have hb : ∀ o, Below w.heap.size w (w.alloc o) := fun o => (Below.refl _ _).alloc (Nat.le_refl _) _
  have h0 : (Lit.int .i64 0).wf = true := by decide
  refine ⟨_, 2, _, rfl, Nat.le_refl _, by unfold maxLen; omega, (Blk.new w 46 #[.int .i64 0, v1, .int .i64 0, .slice none 0 0, .int .i64 0, .int .i64 0, .int .i64 0, v2, .int .i64 0, .slice A c.kept.length nk, .int .i64 c.torn, .int .i64 c.half]).rd _ trivial, ?_⟩
  refine kMany.cons (c := [.int .i64 0, v1, .int .i64 0, .slice none 0 0, .int .i64 0, .int .i64 0]) ?_ (kMany.one (c := [.int .i64 0, v2, .int .i64 0, .slice A c.kept.length nk, .int .i64 c.torn, .int .i64 c.half]) ?_)
  · refine ⟨[.int .i64 0], _, rfl, ⟨rfl, h0⟩, [v1], _, rfl, ⟨v1, rfl, (h1.grow (hb _)).weaken fun _ _ => trivial⟩, [.int .i64 0], _, rfl, ⟨rfl, h0⟩, ?_⟩
    exact ⟨[.slice none 0 0], _, rfl, kSlice_iff.2 IsL.nil, [.int .i64 0], _, rfl, ⟨rfl, h0⟩, rfl, h0⟩
  · refine ⟨[.int .i64 0], _, rfl, ⟨rfl, h0⟩, [v2], _, rfl, ⟨v2, rfl, (h2.grow (hb _)).weaken fun _ _ => trivial⟩, [.int .i64 0], _, rfl, ⟨rfl, h0⟩, ?_⟩
    exact ⟨[.slice A c.kept.length nk], _, rfl, kSlice_iff.2 ((hk.grow (hb _)).weaken fun _ _ => trivial), [.int .i64 c.torn], _, rfl, ⟨rfl, ht⟩, rfl, hh⟩
end Go.Proofs.Ytjobkmcbindhmaa
