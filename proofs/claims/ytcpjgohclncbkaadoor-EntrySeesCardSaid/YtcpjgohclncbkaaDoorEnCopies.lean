/-
  slices.Clone of versions; version.copies.
-/

import Derived.Test.YtcpjgohclncbkaaDoorVeOwn
import Derived.Test.YtcpjgohclncbkaaDoorEnOwn
import Derived.Test.YtcpjgohclncbkaaDoorVeThose
import Derived.Test.YtcpjgohclncbkaaDoorEnThose
import Derived.Lib.BufferMore
namespace Go.Proofs.YtcpjgohclncbkaaDoor
open Go.RowKit
set_option maxRecDepth 100000

theorem eclonev_any (ok : Nat → Prop) (v : Value) (L : List Ent) (w : World) (hL : IsL kEnt w ok v L) (hl : L.length ≤ 1000) :
    Calls Tryd.prog 58 #[v] w fun e w' => ∃ u, e = .returned u ∧ OwnE w' w.heap.size u L ∧ Below w.heap.size w w' := by
  obtain ⟨A, c, ds, rfl, hc, hm, hr, hmany⟩ := hL
  obtain ⟨hds, hvok⟩ := ent_cells hmany
  have hds' : ds = entsC L := hds
  have hba : Below w.heap.size w (w.alloc (.cells #[] 29)) := (Below.refl _ _).alloc (Nat.le_refl _) _
  have h1c : ∀ u ∈ ds, u.oneCell' = true := by rw [hds']; exact entsC_each L
  have hdl : ds.length = L.length * 15 := by rw [hds', entsC_length]
  have Hr := Lib.hid hr
  have Hds := Lib.hid hds'
  have Hvok := Lib.hid hvok
  have Hdl := Lib.hid hdl
  unfold maxLen at hm
  clear hr hmany hds hds' hvok hm hdl
  cases A with
  | none =>
    have hl0 : L = [] := by
      rcases Classical.em (ds = []) with h | h
      · have := Hdl.out; rw [h] at this; exact List.eq_nil_of_length_eq_zero (by simp at this; omega)
      · obtain ⟨ad, e, _⟩ := Hr.out h
        cases e
    subst hl0
    have hnil : ∀ W : World, (binOp .eql 22 (.slice none 0 c) (.slice none 0 0)).run Tryd.prog W = .ok (.bool true) W := fun W => Lib.run_eql_slice_nil_nil W _ _ Tryd.underlying22
    go_enter Tryd.func58, Tryd.ntmps58
    go_wp2
    go_ret
    exact ⟨_, rfl, OwnE.nil _ _, Below.refl _ _⟩
  | some ad =>
    have hnil : ∀ W : World, (binOp .eql 22 (.slice (some ad) L.length c) (.slice none 0 0)).run Tryd.prog W = .ok (.bool false) W := fun W => Lib.run_eql_slice_some_nil W _ _ _ Tryd.underlying22
    go_enter Tryd.func58, Tryd.ntmps58
    go_wp2_with (at_builtin; go_must (refine wpList_appK _ elemE rfl (.tmp 5) (.tmp 6) rfl w.heap.size 0 _ [] rfl (OwnK.empty w _ _) ok (some ad) L.length c ds Hdl.out rfl (Hr.out.grow hba) h1c (by omega) (by omega) hba.size ?_; intro v1 w1 hown1 hg1 _; have hb1 := hba.trans ((OwnK.empty w 29 15).below_of hg1 hba.size (Nat.le_refl _)); clear hg1; simp only [Nat.zero_add, List.nil_append] at hown1; obtain ⟨A1, c1, rfl, _, _, _⟩ := hown1.form))
    go_ret
    exact ⟨_, rfl, ⟨by rw [← Hds.out]; exact hown1, Hvok.out⟩, hb1⟩

set_option maxHeartbeats 1000000 in
theorem ecopies_any (ok : Nat → Prop) (v : Value) (L : List Ent) (w : World) (hL : IsL kEnt w ok v L) (hl : L.length ≤ 1000) (hd : ∀ x ∈ L, x.data.length ≤ 1000) :
    Calls Tryd.prog 36 #[v] w fun e w' => ∃ u, e = .returned u ∧ OwnE w' w.heap.size u L ∧ Below w.heap.size w w' := by
  have Hcl := Lib.hid (eclonev_any ok v L w hL hl)
  have Hd := Lib.hid hd
  obtain ⟨n, hn⟩ : ∃ n, n = L.length := ⟨_, rfl⟩
  have Hn := Lib.hid hn
  rw [← hn] at hl
  have hmx : maxLen ≤ 9223372036854775807 := by decide
  clear hL hd hn
  go_enter Tryd.func36, Tryd.ntmps36
  go_upto_region 2 with (go_at_call 58; go_must (refine Hcl.out.mono ?_; rintro e1 w1 ⟨u, rfl, hown, hb1⟩))
  obtain ⟨A, c, hue, huc, hum, _⟩ := ent_at hown.isL
  rw [← Hn.out] at hue huc
  subst hue
  have Hb1 := Lib.hid hb1
  have Hown0 := Lib.hid hown
  clear hown hb1
  go_wp2_with fail
  go_loopw [10] (fun i wr => ∃ k : Nat, k ≤ n ∧ i = .int .i64 (k : Int) ∧ Hid (OwnE wr w.heap.size (.slice A n c) L) ∧ Hid (Below w.heap.size w wr)) (fun i _ => n - (intOf i).toNat)
  case atStart => exact ⟨0, by omega, rfl, Hown0, Hb1⟩
  case round =>
    obtain ⟨k, hk, rfl, Hown, Hbw⟩ := hrel
    by_cases hlt : k < n
    · have hkl : k < L.length := by rw [← Hn.out]; exact hlt
      obtain ⟨g, cap, he, hc1, hc2, hbg, hgs, hr, hth⟩ := Hown.out.elem hkl
      have hA : A = some ⟨g, 0, none⟩ := by injection he
      subst hA
      have hxok := Hown.out.2 L[k] (List.getElem_mem hkl)
      have hxd := Hd.out L[k] (List.getElem_mem hkl)
      have hsame : L.set k L[k] = L := List.set_getElem_self hkl
      have hspl : splice (entC L[k]).toList 0 (entC L[k]).toList = (entC L[k]).toList := splice_all _ _ rfl
      have hst := fun (z : World) (hz : OwnE z w.heap.size (.slice (some ⟨g, 0, none⟩) L.length c) L) => OwnE.store hz hkl L[k] hxok 0 (entC L[k]).toList (Nat.le_refl _) hspl
      rw [hsame] at hst
      have hws := Hbw.out.size
      obtain ⟨x, hxe⟩ : ∃ x, x = L[k] := ⟨_, rfl⟩
      rw [← hxe] at hr hxok hxd hst
      have Hcp := Lib.hid fun z => ecopied_any x hxd z
      obtain ⟨C, hC⟩ : ∃ C, C = entC x := ⟨_, rfl⟩
      have hsz : C.size = 15 := by rw [hC]; rfl
      have hone : C.all (·.oneCell') = true := by rw [hC]; exact entC_one x
      have hinfL : (Tryd.prog.info? 29).map (·.size) = some C.toList.length := by rw [hC]; exact ent_info
      have hinf : (Tryd.prog.info? 29).map (·.size) = some C.size := by rw [hC]; exact ent_info
      rw [← hC] at hr Hcp hst
      rw [← Hn.out] at hst
      have R := Lib.hid hr
      have Hth := Lib.hid hth
      have Hst := Lib.hid hst
      have Hone := Lib.hid hone
      have HinfL := Lib.hid hinfL
      have Hinf := Lib.hid hinf
      have hblk : Blk (wr.alloc (.cells C 29)) wr.heap.size 29 C := Blk.new _ _ _
      have hbel1 : Below w.heap.size w (wr.alloc (.cells C 29)) := Hbw.out.alloc hws _
      have hth1 := Hth.out
      have Hown1 := Lib.hid (show OwnE (wr.alloc (.cells C 29)) w.heap.size (.slice (some ⟨g, 0, none⟩) n c) L from ⟨OwnK.alloc Hown.out.1 _, Hown.out.2⟩)
      have Hblk := Lib.hid hblk
      have Hbel1 := Lib.hid hbel1
      have hg0 : k < n := hlt
      clear hxok hxd hsame hspl hst hr hth hth1 hxe hC hone hinfL hinf hblk hbel1 he
      go_upto_region 5 with (first | (refine wpList_load_mid (op := ⟨some 14, _, _, _, _, _⟩) rfl 29 (.tmp 13) rfl g (k * 15) rfl _ _ R.out Tryd.underlying29 rfl HinfL.out ?_) | (refine wpList_store_new (op := ⟨none, _, _, _, _, _⟩) rfl 29 (.tmp 5) (.tmp 14) rfl zeroE C rfl rfl Hinf.out (by rw [hsz]; rfl) Hone.out ?_))
      obtain ⟨wa, hwa⟩ : ∃ wa, wa = wr.alloc (.cells C 29) := ⟨_, rfl⟩
      rw [← hwa] at Hblk Hbel1 Hown1 ⊢
      clear hwa
      go_wp2_with (first | (refine wpList_load_row (o := ⟨some 17, _, _, _, _, _⟩) rfl 29 (.tmp 5) rfl wr.heap.size rfl 29 C (0, 0) _ Hblk.out Tryd.underlying29 rfl Hinf.out ?_) | (go_at_call 39; go_must (refine (Hcp.out _).mono ?_; rintro e2 w2 ⟨rfl, hb2⟩; have Hown2 := Lib.hid (Hown1.out.grow hb2); have Hbel2 := Lib.hid (below_call Hbel1.out hb2); clear hb2)) | (refine wpList_store_mid (op := ⟨none, _, _, _, _, _⟩) rfl 29 (.tmp 19) (.tmp 18) rfl g (k * 15) C rfl rfl (by rw [hsz]; exact (Hown2.out.at_ hkl).2) Hinf.out Hone.out ?_))
      go_roundw
      case rel => exact ⟨k + 1, by omega, by go_num, Lib.hid (Hst.out _ Hown2.out), Lib.hid (below_setCells Hbel2.out hbg Hbel2.out.size _ _)⟩
      case measure => simp [intOf]; omega
    · obtain rfl : k = n := by omega
      go_wp2_with fail
      go_ret
      exact ⟨_, rfl, Hown.out, Hbw.out⟩
end Go.Proofs.YtcpjgohclncbkaaDoor
