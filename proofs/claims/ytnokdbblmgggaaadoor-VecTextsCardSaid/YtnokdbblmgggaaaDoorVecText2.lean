/-
  A vector as a text: the document's Write.
-/
import Derived.Test.YtnokdbblmgggaaaDoorVecText
import Derived.Test.YtnokdbblmgggaaaDoorRegions
namespace Go.Proofs.YtnokdbblmgggaaaDoor
open Go.RowKit
set_option maxRecDepth 100000

set_option maxHeartbeats 2000000 in
theorem refwrite_any (V : Nat → Nat) (hV : okV V) (w : World) (hp : Pow w) :
    Calls Tryd.prog 8 #[vv V] w fun e w' => e = .returned (str (writeT V)) ∧ Below w.heap.size w w' := by
  have hA0 : Blk (w.alloc (.cells (av V) 24)) w.heap.size 24 (av V) := Blk.new w _ _
  have hbel : Below w.heap.size w (w.alloc (.cells (av V) 24)) := (Below.refl _ _).alloc (Nat.le_refl _) _
  have HA := Lib.hid hA0
  have HV := Lib.hid hV
  have Hp := Lib.hid hp
  clear hA0 hV hp
  unfold vv
  go_enter Tryd.func8, Tryd.ntmps8
  go_wp2_with fail
  go_loopw [3, 4] (fun v i wr => ∃ k : Nat, k ≤ 8 ∧ i = .int .i64 (k : Int) ∧ v = str (writeK V k) ∧ Blk wr w.heap.size 24 (av V) ∧ Below w.heap.size w wr) (fun _ i _ => 8 - (intOf i).toNat)
  case atStart => exact ⟨0, by omega, rfl, rfl, HA.out, hbel⟩
  case round =>
    obtain ⟨k, hk, rfl, rfl, hb, hbw⟩ := hrel
    by_cases hlt : k < 8
    · have hc : wr.cell? ⟨w.heap.size, k, none⟩ = some (.int .u32 (V k : Int)) := by rw [hb.cell, av_get _ hlt]
      have hVk := HV.out k hlt
      by_cases h0 : V k = 0
      · have e : writeK V (k + 1) = writeK V k := writeK_zero h0
        rw [h0] at hc
        rw [← e]
        have Hb := Lib.hid hb
        clear hb h0 e hVk
        go_wp2
        go_roundw
        case rel => exact ⟨k + 1, by omega, by go_num, rfl, Hb.out, hbw⟩
        case measure => simp [intOf]; omega
      · have e : writeK V (k + 1) = if writeK V k = [] then partT V k else writeK V k ++ [32] ++ partT V k := writeK_more h0
        have hk1 : (k : Int) + 1 = ((k + 1 : Nat) : Int) := by omega
        have hgt2 : ¬ (V k : Int) = 0 := by omega
        have hwl := writeK_len HV.out hk
        have hb0 := hb
        have Hb := Lib.hid hb
        have He := Lib.hid e
        have Hk1 := Lib.hid hk1
        have hit := fun z hz => itoa_any (k + 1) (by omega) z hz
        have hfu := fun z hz => itoa_any (V k) (by omega) z hz
        have hd1 := decDigits_le (k + 1) (by omega)
        have hd2 := decDigits_le (V k) hVk
        have hpt : partT V k = Lib.decDigits (k + 1) ++ [58] ++ Lib.decDigits (V k) := rfl
        generalize Lib.decDigits (k + 1) = D1 at hit hd1 hpt
        generalize Lib.decDigits (V k) = D2 at hfu hd2 hpt
        obtain ⟨W, hW⟩ : ∃ W, W = writeK V k := ⟨_, rfl⟩
        rw [← hW] at hwl He ⊢
        clear hW
        have hpl : (partT V k).length ≤ 41 := partT_len HV.out hlt
        have add0 : ∀ u : World, (Op.stringOp .add ⟨W.toArray⟩ ⟨#[32]⟩).run Tryd.prog u = .ok (str (W ++ [32])) u := fun u => run_str_add u W [32] (by simp; omega)
        have add1 : ∀ u : World, (Op.stringOp .add ⟨D1.toArray⟩ ⟨#[58]⟩).run Tryd.prog u = .ok (str (D1 ++ [58])) u := fun u => run_str_add u D1 [58] (by simp; omega)
        have add2 : ∀ u : World, (Op.stringOp .add ⟨(D1 ++ [58]).toArray⟩ ⟨D2.toArray⟩).run Tryd.prog u = .ok (str (partT V k)) u := fun u => by
          rw [hpt]; exact run_str_add u (D1 ++ [58]) D2 (by simp; omega)
        have add3 : ∀ u : World, (Op.stringOp .add ⟨(W ++ [32]).toArray⟩ ⟨(partT V k).toArray⟩).run Tryd.prog u = .ok (str (W ++ [32] ++ partT V k)) u := fun u => run_str_add u (W ++ [32]) (partT V k) (by simp; omega)
        have add4 : ∀ u : World, (Op.stringOp .add ⟨#[]⟩ ⟨(partT V k).toArray⟩).run Tryd.prog u = .ok (str (partT V k)) u := fun u => by
          have := run_str_add (P := Tryd.prog) u [] (partT V k) (by simp; omega)
          simpa using this
        have hit2 : ∀ (z : World), Pow z → Calls Tryd.prog 12 #[.int .i64 ((k + 1 : Nat) : Int)] z fun e w' => e = .returned (.string ⟨D1.toArray⟩) ∧ Below z.heap.size z w' := hit
        have Hit := Lib.hid hit2
        clear hit2
        have Hfu := Lib.hid hfu
        obtain ⟨PT, hPT⟩ : ∃ PT, PT = partT V k := ⟨_, rfl⟩
        rw [← hPT] at add2 add3 add4 He
        obtain ⟨VK, hVK⟩ : ∃ VK : Int, VK = (V k : Int) := ⟨_, rfl⟩
        rw [← hVK] at hgt2 hc
        have hfu2 : ∀ (z : World), Pow z → Calls Tryd.prog 12 #[.int .i64 VK] z fun e w' => e = .returned (.string ⟨D2.toArray⟩) ∧ Below z.heap.size z w' := by rw [hVK]; exact Hfu.out
        have Hfu' := Lib.hid hfu2
        clear hfu2
        have hwr : IntKind.i64.wrap VK = VK := by rw [IntKind.wrap_i64] <;> omega
        have hcx : ∀ y : Ext wr, y.now.cell? ⟨w.heap.size, k, none⟩ = some (.int .u32 VK) := fun y => by rw [(Hb.out.grow y.out).cell, av_get _ hlt, hVK]
        have hrow : ∀ y : Ext wr, Blk y.now w.heap.size 24 (av V) := fun y => Hb.out.grow y.out
        have Hrow := Lib.hid hrow
        have HVK := Lib.hid hVK
        clear hit hfu hpt hPT hVk hd1 hd2 hb hb0 h0 Hfu hrow hVK e hk1 hpl
        by_cases hz : W = []
        · rw [if_pos hz] at He
          subst hz
          clear add0 add3 hwl
          go_wp2_with fail
          refine wp_region_grow (by kernel_rfl) (by kernel_rfl) ?_
          repeat (first | go_big_quiet_step ((go_at_call 12; first | exact calls_grow (Hfu'.out _ (Hp.out.grow (below_call hbw (Ext.out _)))) | (rw [Hk1.out]; exact calls_grow (Hit.out _ (Hp.out.grow (below_call hbw (Ext.out _))))))) | quiet_step ((go_at_call 12; first | exact calls_grow (Hfu'.out _ (Hp.out.grow (below_call hbw (Ext.out _)))) | (rw [Hk1.out]; exact calls_grow (Hit.out _ (Hp.out.grow (below_call hbw (Ext.out _))))))))
          refine wpQuiet_nil ?_
          rintro _ ⟨⟨w6, hb6⟩, rfl⟩
          go_wp2
          go_roundw
          case rel => exact ⟨k + 1, by omega, by go_num, by rw [He.out], Hb.out.grow hb6, hbw.trans (hb6.mono hbw.size)⟩
          case measure => simp [intOf]; omega
        · rw [if_neg hz] at He
          have hne : W.isEmpty = false := by simpa using hz
          clear add4 hwl
          go_wp2_with fail
          refine wp_region_grow (by kernel_rfl) (by kernel_rfl) ?_
          repeat (first | go_big_quiet_step ((go_at_call 12; first | exact calls_grow (Hfu'.out _ (Hp.out.grow (below_call hbw (Ext.out _)))) | (rw [Hk1.out]; exact calls_grow (Hit.out _ (Hp.out.grow (below_call hbw (Ext.out _))))))) | quiet_step ((go_at_call 12; first | exact calls_grow (Hfu'.out _ (Hp.out.grow (below_call hbw (Ext.out _)))) | (rw [Hk1.out]; exact calls_grow (Hit.out _ (Hp.out.grow (below_call hbw (Ext.out _))))))))
          refine wpQuiet_nil ?_
          rintro _ ⟨⟨w6, hb6⟩, rfl⟩
          go_wp2
          go_roundw
          case rel => exact ⟨k + 1, by omega, by go_num, by rw [He.out]; simp, Hb.out.grow hb6, hbw.trans (hb6.mono hbw.size)⟩
          case measure => simp [intOf]; omega
    · obtain rfl : k = 8 := by omega
      have Hb := Lib.hid hb
      clear hb
      go_wp2_with fail
      go_ret
      exact ⟨rfl, hbw⟩
end Go.Proofs.YtnokdbblmgggaaaDoor
