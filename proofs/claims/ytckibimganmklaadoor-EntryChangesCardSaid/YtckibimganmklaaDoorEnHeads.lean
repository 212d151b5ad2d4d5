/-
  version.Heads, Sweep, Unseen, over version.those and slices.ContainsFunc.
-/

import Derived.Test.YtckibimganmklaaDoorVeThose
import Derived.Test.YtckibimganmklaaDoorEnThose
namespace Go.Proofs.YtckibimganmklaaDoor
open Go.RowKit
set_option maxRecDepth 100000

theorem predE_sweep (B : Nat → Nat) (g : Nat) (w : World) (hb : Blk w g 27 (av B)) : PredE 56 #[.pointer (some ⟨g, 0, none⟩)] (fun x => !goneV x.by_ B) w := by
  intro W x hW
  have hB0 : Blk (W.alloc (.cells (entC x) 29)) g 27 (av B) := (hb.grow hW).alloc _
  have hA : Blk (W.alloc (.cells (entC x) 29)) W.heap.size 29 (entC x) := Blk.new W _ _
  have hbel : Below W.heap.size W (W.alloc (.cells (entC x) 29)) := (Below.refl _ _).alloc (Nat.le_refl _) _
  have R := Lib.hid hA.ent.by_
  have HB := Lib.hid hB0
  have hg := fun z => gone_any x.by_ B z
  obtain ⟨b, hbe⟩ : ∃ b, b = goneV x.by_ B := ⟨_, rfl⟩
  show Calls _ _ _ _ fun e w' => e = .returned (.bool (!goneV x.by_ B)) ∧ _
  rw [← hbe] at hg ⊢
  obtain ⟨C, hC⟩ : ∃ C, C = entC x := ⟨_, rfl⟩
  rw [← hC] at R HB hbel ⊢
  have Hbel := Lib.hid hbel
  unfold vv at hg
  obtain ⟨A, hA'⟩ : ∃ A, A = av x.by_ := ⟨_, rfl⟩
  rw [← hA'] at hg R
  have hinf : (Tryd.prog.info? 27).map (·.size) = some A.toList.length := by rw [hA']; exact vec_info
  have Hinf := Lib.hid hinf
  obtain ⟨D, hD⟩ : ∃ D, D = av B := ⟨_, rfl⟩
  rw [← hD] at hg HB
  have hinfD : (Tryd.prog.info? 27).map (·.size) = some D.size := by rw [hD]; exact vec_info
  have HinfD := Lib.hid hinfD
  have Hg := Lib.hid hg
  clear hB0 hA hbel hbe hC hA' hinf hD hinfD hg hb
  show Calls _ _ #[.agg C, .pointer (some ⟨g, 0, none⟩)] _ _
  go_enter Tryd.func56, Tryd.ntmps56
  go_wp2_with (first | (refine wpList_load_mid (op := ⟨some 5, _, _, _, _, _⟩) rfl 27 (.tmp 4) rfl W.heap.size (0 + 7) rfl _ _ R.out Tryd.underlying27 rfl Hinf.out ?_) | (refine wpList_load_row (o := ⟨some 6, _, _, _, _, _⟩) rfl 27 (.tmp 1) rfl g rfl 27 D (0, 0) _ HB.out Tryd.underlying27 rfl HinfD.out ?_) | (go_at_call 28; go_must (refine (Hg.out _).mono ?_; rintro e1 w1 ⟨rfl, hb1⟩)))
  go_ret
  exact ⟨rfl, below_call Hbel.out hb1⟩

theorem esweep_any (ok : Nat → Prop) (v : Value) (L : List Ent) (B : Nat → Nat) (w : World) (hL : IsL kEnt w ok v L) (hd : ∀ x ∈ L, x.data.length ≤ 1000) (hl : L.length ≤ 1000) :
    Calls Tryd.prog 27 #[v, vv B] w fun e w' => (∃ u, e = .returned u ∧ OwnE w' w.heap.size u (L.filter fun x => !goneV x.by_ B)) ∧ Below w.heap.size w w' := by
  have hbel : Below w.heap.size w (w.alloc (.cells (av B) 27)) := (Below.refl _ _).alloc (Nat.le_refl _) _
  have Hc := Lib.hid (ethose_any 56 _ _ (enters_of Tryd.func56 (by kernel_rfl) rfl) ok v L _ (hL.grow hbel) hd hl (predE_sweep B w.heap.size _ (Blk.new w _ _)))
  have Hbel := Lib.hid hbel
  unfold vv
  clear hL hd hl hbel
  go_enter Tryd.func27, Tryd.ntmps27
  go_wp2_with (go_at_call 46; go_must (refine Hc.out.mono ?_; rintro e1 w1 ⟨⟨u, rfl, hown⟩, hb1⟩))
  go_ret
  exact ⟨⟨_, rfl, hown.mono Hbel.out.size⟩, below_call Hbel.out hb1⟩

end Go.Proofs.YtckibimganmklaaDoor
