/-
  EntryJoins: for all arguments the law answers true, and its arguments read as they did. The listed package-level variables are tied to the program's text (the seat's given tie). No other condition.
-/
import Derived.Test.YtckibimganmklaaDoorEnCard
import Derived.Test.YtckibimganmklaaDoorEnJoinsLaw
namespace Go.Proofs.YtckibimganmklaaDoor
open Go.ChangeShapes Go.WideShapes Go.ChangeAt Go.RowKit

set_option maxRecDepth 100000 in
theorem entryJoins_lifted (os : Os) (started : os.Started) (H : Type) (enc : TypeId × Value → H) :
    ReturnsInHanded {} Tryd.checked os 8 .any (fun w args => (Rows.entryJoinsSpec.pre enc Tryd.prog Tryd.f8 [] false w args ∧ laidMetH Tryd.prog Rows.entryJoinsRow.laid w) ∧ sizedMet enc Tryd.prog Tryd.f8 (OpenSpec.ofChange Rows.entryJoinsSpec) false w args)
      (Rows.entryJoinsSpec.post enc Tryd.prog Tryd.f8 false true false false) := by
  refine of_and_shaped (C := Tryd.checked) (X := fun w _ => laidMetH Tryd.prog Rows.entryJoinsRow.laid w) (fun _ _ _ hh h => h.of_heap hh) Tryd.own started (by kernel_rfl) Tryd.func8
    (ChangeSpec.witness_shaped (enc := enc) (C := Tryd.checked) (os := os) (X := fun w _ => laidMetH Tryd.prog Rows.entryJoinsRow.laid w) false (World.laidAll Tryd.prog os Rows.entryJoinsRow.laid) #[.slice none 0 0, .slice none 0 0, .slice none 0 0] 8 (World.laidAll_os _ _ _) (World.shaped_of_ZipB (by kernel_rfl) (by kernel_rfl)) (by kernel_rfl) (by kernel_rfl) (by kernel_rfl) (laid_door os _)) ?_
  intro W base args ds gs before hval0 hW _ _ hL _ _
  have hpow : Pow W := pow_of hL
  have hval : ∀ (j : Nat) t v, Tryd.f8.params[j]? = some t → args[j]? = some v → Value.okWide Tryd.prog W .any base t v := hval0
  have hW' := hW
  obtain ⟨p, q, hA0, hV, rfl, hfz, hnd⟩ := hW
  have hA : DataW.TrodAll enc Tryd.prog W 0 (fun _ => true) true Tryd.f8.params.toList args.toList ds p := hA0
  rw [Tryd.params8] at hA hval
  obtain ⟨v0, v1, v2, d0, d1, d2, p0, p1, p2, rfl, rfl, rfl, h0, h1, h2⟩ := trodAll_three hA
  obtain ⟨rfl, rfl⟩ := trodVars_none hV
  obtain ⟨L0, hL0⟩ := open_ents (hval 0 22 v0 rfl rfl) h0
  obtain ⟨L1, hL1⟩ := open_ents (hval 1 22 v1 rfl rfl) h1
  obtain ⟨L2, hL2⟩ := open_ents (hval 2 22 v2 rfl rfl) h2
  refine (entryjoins_walk v0 L0 v1 L1 v2 L2 W hL0 hL1 hL2 hpow).mono fun e W' ⟨he, hg⟩ => ?_
  subst he
  exact ⟨_, rfl, post_law hW' rfl rfl (by kernel_rfl) Tryd.underlying4 Tryd.laidOut (by kernel_rfl) hg⟩

theorem entryJoins_row : Rows.EntryJoinsSaid :=
  OpenClaim.holds_of_wide 8 Tryd.f8 rfl rfl rfl rfl rfl rfl rfl ⟨rfl, rfl, rfl, rfl, rfl⟩ rfl rfl rfl rfl rfl (by kernel_rfl) Tryd.func8 (by kernel_rfl)
    (of_decide_eq_true (by kernel_rfl)) (by unfold Func.isWrapper; first | (rw [if_pos (by decide +kernel)]; kernel_rfl) | (rw [if_neg (by decide +kernel)]; exact ⟨rfl, rfl⟩))
    (fun os started H enc _ => entryJoins_lifted os started H enc)

theorem entryJoins_holds : Rows.EntryJoinsCardSaid :=
  Claim7.holds_tied_plain_at .later [] Rows.entryJoinsCard.laidKinds true Rows.entryJoinsCard.stood.harness Rows.entryJoinsCard.stood.looks
    entryJoins_row (fun _ h => by cases h) (by kernel_rfl) (fun _ h => by cases h) entryJoins_row_tie rfl ⟨rfl, rfl⟩ (by kernel_rfl) rfl
    (fun f fn hf hfn => by
      obtain rfl : f = 8 := Option.some.inj ((show Tryd.prog.funcNamed "wardship/wardshiplaw10.EntryJoins" = some 8 by kernel_rfl).symm.trans hf) |>.symm
      obtain rfl : fn = Tryd.f8 := (Option.some.inj (Tryd.func8.symm.trans hfn)).symm
      exact ⟨by kernel_rfl, fun j t ht => by
        rw [Tryd.params8] at ht
        have hm : t ∈ [22, 22, 22] := by simpa using Array.mem_of_getElem? ht
        have hall : ([22, 22, 22].all fun u => !Tryd.prog.wantsStandIn u) = true := by kernel_rfl
        exact (show Tryd.prog.wantsStandIn t = false by simpa using List.all_eq_true.1 hall t hm)⟩)
    (by kernel_rfl)
end Go.Proofs.YtckibimganmklaaDoor
