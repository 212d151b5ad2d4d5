/-
  ChooseUp: for all arguments the law answers true, and its arguments read as they did. The listed package-level variables are tied to the program's text (the seat's given tie). No other condition.
-/
import Derived.Test.YtgebodibamgipaaDoorChCard
import Derived.Test.YtgebodibamgipaaDoorChUpLaw
namespace Go.Proofs.YtgebodibamgipaaDoor
open Go.ChangeShapes Go.WideShapes Go.ChangeAt Go.RowKit

set_option maxRecDepth 100000 in
theorem chooseUp_lifted (os : Os) (started : os.Started) (H : Type) (enc : TypeId × Value → H) :
    ReturnsInHanded {} Tryd.checked os 4 .any (fun w args => (Rows.chooseUpSpec.pre enc Tryd.prog Tryd.f4 [] false w args ∧ laidMetH Tryd.prog Rows.chooseUpRow.laid w) ∧ sizedMet enc Tryd.prog Tryd.f4 (OpenSpec.ofChange Rows.chooseUpSpec) false w args)
      (Rows.chooseUpSpec.post enc Tryd.prog Tryd.f4 false true false false) := by
  refine of_and_shaped (C := Tryd.checked) (X := fun w _ => laidMetH Tryd.prog Rows.chooseUpRow.laid w) (fun _ _ _ hh h => h.of_heap hh) Tryd.own started (by kernel_rfl) Tryd.func4
    (ChangeSpec.witness_shaped (enc := enc) (C := Tryd.checked) (os := os) (X := fun w _ => laidMetH Tryd.prog Rows.chooseUpRow.laid w) false (World.laidAll Tryd.prog os Rows.chooseUpRow.laid) #[.slice none 0 0, .string ⟨#[]⟩] 8 (World.laidAll_os _ _ _) (World.shaped_of_ZipB (by kernel_rfl) (by kernel_rfl)) (by kernel_rfl) (by kernel_rfl) (by kernel_rfl) (laid_door os _)) ?_
  intro W base args ds gs before hval0 hW _ _ hL hsh _
  have henv : Env W := env_of hL hsh
  have hval : ∀ (j : Nat) t v, Tryd.f4.params[j]? = some t → args[j]? = some v → Value.okWide Tryd.prog W .any base t v := hval0
  have hW' := hW
  obtain ⟨p, q, hA0, hV, rfl, hfz, hnd⟩ := hW
  have hA : DataW.TrodAll enc Tryd.prog W 0 (fun _ => true) true Tryd.f4.params.toList args.toList ds p := hA0
  rw [Tryd.params4] at hA hval
  obtain ⟨v0, v1, d0, d1, p0, p1, rfl, rfl, rfl, h0, h1⟩ := trodAll_two hA
  obtain ⟨rfl, rfl⟩ := trodVars_none hV
  obtain ⟨L0, hL0⟩ := open_texts (hval 0 22 v0 rfl rfl) h0
  obtain ⟨l1, rfl, hl1⟩ := open_text Tryd.underlying9 (hval 1 9 v1 rfl rfl) h1
  refine (chooseup_walk v0 L0 l1 W hL0 hl1 henv).mono fun e W' ⟨he, hg⟩ => ?_
  subst he
  exact ⟨_, rfl, post_law hW' rfl rfl (by kernel_rfl) Tryd.underlying4 Tryd.laidOut (by kernel_rfl) hg⟩

theorem chooseUp_row : Rows.ChooseUpSaid :=
  OpenClaim.holds_of_wide 4 Tryd.f4 rfl rfl rfl rfl rfl rfl rfl ⟨rfl, rfl, rfl, rfl, rfl⟩ rfl rfl rfl rfl rfl (by kernel_rfl) Tryd.func4 (by kernel_rfl)
    (of_decide_eq_true (by kernel_rfl)) (by unfold Func.isWrapper; first | (rw [if_pos (by decide +kernel)]; kernel_rfl) | (rw [if_neg (by decide +kernel)]; exact ⟨rfl, rfl⟩))
    (fun os started H enc _ => chooseUp_lifted os started H enc)

theorem chooseUp_holds : Rows.ChooseUpCardSaid :=
  Claim7.holds_tied_plain_at .later [] Rows.chooseUpCard.laidKinds true Rows.chooseUpCard.stood.harness Rows.chooseUpCard.stood.looks
    chooseUp_row (fun _ h => by cases h) (by kernel_rfl) (fun _ h => by cases h) chooseUp_row_tie rfl ⟨rfl, rfl⟩ (by kernel_rfl) rfl
    (fun f fn hf hfn => by
      obtain rfl : f = 4 := Option.some.inj ((show Tryd.prog.funcNamed "wardship/wardshiplaw14.ChooseUp" = some 4 by kernel_rfl).symm.trans hf) |>.symm
      obtain rfl : fn = Tryd.f4 := (Option.some.inj (Tryd.func4.symm.trans hfn)).symm
      exact ⟨by kernel_rfl, fun j t ht => by
        rw [Tryd.params4] at ht
        have hm : t ∈ [22, 9] := by simpa using Array.mem_of_getElem? ht
        have hall : ([22, 9].all fun u => !Tryd.prog.wantsStandIn u) = true := by kernel_rfl
        exact (show Tryd.prog.wantsStandIn t = false by simpa using List.all_eq_true.1 hall t hm)⟩)
    (by kernel_rfl)
end Go.Proofs.YtgebodibamgipaaDoor
