/-
  sum.Seal: bytes with their checksum behind them.
-/
import Derived.Test.YthlkcdlnjlncfaaQuiet
import Derived.Test.YthlkcdlnjlncfaaSum
import Derived.Test.YthlkcdlnjlncfaaClone
import Derived.Test.YthlkcdlnjlncfaaEqual
import Derived.Deep.RegionHeld
import Derived.Laws.MakeOwn
namespace Go.Proofs.Ythlkcdlnjlncfaa
open Go.RowKit


set_option maxHeartbeats 400000 in
set_option maxRecDepth 100000 in
theorem seal_any (ok : Nat → Prop) (v0 : Value) (l : List UInt8) (w : World) (hv : IsB w ok v0 l) (hl : l.length ≤ 1099511627776) :
    Calls Try.prog 13 #[v0] w fun e w' => ∃ v, e = .returned v ∧ Own1 w' w.heap.size 5 v ((l ++ sumB l).map u8) ∧ Below w.heap.size w w' := by
  obtain ⟨i0, hi, hz0, hz1, hz2⟩ := info_parts info_byte
  obtain ⟨A, c, rfl, hc, hm, hr⟩ := hv
  have hmk : ∀ u : World, (Instr.makeSlice 22 (.int .i64 0) (.int .i64 ((l.length : Int) + 4))).run Try.prog u =
      .ok (.slice (some ⟨u.heap.size, 0, none⟩) 0 (l.length + 4)) (u.alloc (.cells (madeCells #[.int .u8 0] (l.length + 4)) 5)) := fun u => by
    have h := run_make (P := Try.prog) u 22 5 i0 (.int .u8 0) Try.underlying22 hi hz0 .i64 .i64 (0 : Int) ((l.length : Int) + 4) (by omega) (by omega) (by rw [hz2]; omega) (by omega)
    rw [show ((l.length : Int) + 4).toNat = l.length + 4 by omega] at h
    simpa [hz1, Value.cells] using h
  have hown : Own1 (w.alloc (.cells (madeCells #[.int .u8 0] (l.length + 4)) 5)) w.heap.size 5 (.slice (some ⟨w.heap.size, 0, none⟩) 0 (l.length + 4)) [] :=
    ⟨rfl, .inr ⟨w.heap.size, l.length + 4, _, rfl, Nat.le_refl _, Blk.new _ _ _, by simp, by unfold maxLen; omega, by simp [madeCells], by simp⟩⟩
  have Hr := Lib.hid hr
  have Hown := Lib.hid hown
  have Hc := Lib.hid hc
  have Hm := Lib.hid hm
  clear hr hown hc hm
  go_enter Try.func13, Try.ntmps13
  have hb0 : Below w.heap.size w (w.alloc (.cells (madeCells #[.int .u8 0] (l.length + 4)) 5)) := (Below.refl _ _).alloc (Nat.le_refl _) _
  go_wp2_with (first | (at_builtin; refine wpList_app1 _ elemB rfl (.tmp 8) (.tmp 9) rfl w.heap.size _ [] rfl Hown.out ok A l.length c (l.map u8) (List.length_map _) rfl (Hr.out.grow hb0) (u8_oneCell _) (by simp; omega) (by simp; omega) hb0.size ?_; intro v1 w1 hown1 hg1 _; have hb1 := hb0.trans (Hown.out.below_of hg1 hb0.size (Nat.le_refl _)); rw [List.nil_append] at hown1; clear hg1) | (at_builtin; refine wpList_app1 _ elemB rfl (.tmp 11) (.tmp 13) rfl w.heap.size v1 (l.map u8) rfl hown2 _ A2 4 c2 ((sumB l).map u8) (by simp [sumB_length]) rfl hr2 (u8_oneCell _) (by simp; omega) (by simp; omega) hb2.size ?_; intro v3 w3 hown3 hg3 _; have hb3 := hb2.trans (hown2.below_of hg3 hb2.size (Nat.le_refl _)); clear hg3) | (go_at_call 18; refine (sumbytes_any ok _ l _ ⟨A, c, rfl, Hc.out, Hm.out, Hr.out.grow hb1⟩).mono ?_; rintro e w2 ⟨x, rfl, hx, hbx⟩; have hb2 := hb1.trans (hbx.mono hb1.size); have hown2 := hown1.grow hbx; obtain ⟨A2, c2, rfl, _, _, hr2⟩ := hx.isB; rw [sumB_length]; clear hx hbx hown1))
  go_ret
  rw [List.map_append]
  exact ⟨_, rfl, hown3, hb3⟩
end Go.Proofs.Ythlkcdlnjlncfaa
