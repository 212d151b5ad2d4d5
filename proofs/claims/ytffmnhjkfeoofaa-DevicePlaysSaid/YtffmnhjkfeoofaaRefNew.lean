/-
  wardshipref03: New.
-/
import Derived.Test.YtffmnhjkfeoofaaRefChange
namespace Go.Proofs.Ytffmnhjkfeoofaa
open Go.RowKit
set_option maxRecDepth 100000

set_option maxHeartbeats 2000000 in
theorem refnew_any (n : Nat) (w : World) (hn : n ≤ 1099511627776) :
    Calls Try.prog 13 #[.int .i64 (n : Int)] w fun e w' => ∃ v', e = .returned v' ∧ IsDev w' (fun k => w.heap.size ≤ k) v' (newD n) ∧ Below w.heap.size w w' := by
  have hmk2 := run_bytes256
  have hcz := conv_zeros
  obtain ⟨Z1, hZ1⟩ : ∃ Z1 : Array Value, Z1 = Array.replicate 256 (.int .u8 0) := ⟨_, rfl⟩
  rw [← hZ1] at hmk2 hcz
  have hb0 : Below w.heap.size w ((w.alloc (.cells #[.slice none 0 0, .slice none 0 0, .int .i64 0, .slice none 0 0, .int .i64 0, .int .i64 0, .int .i64 0, .bool false] 36)).alloc (.cells Z1 5)) := (((Below.refl _ _).alloc (Nat.le_refl _) _).alloc (by simp) _)
  have hB0 : Blk ((w.alloc (.cells #[.slice none 0 0, .slice none 0 0, .int .i64 0, .slice none 0 0, .int .i64 0, .int .i64 0, .int .i64 0, .bool false] 36)).alloc (.cells Z1 5)) w.heap.size 36 #[.slice none 0 0, .slice none 0 0, .int .i64 0, .slice none 0 0, .int .i64 0, .int .i64 0, .int .i64 0, .bool false] := (Blk.new w _ _).alloc _
  have hcz1 := hcz (w.alloc (.cells #[.slice none 0 0, .slice none 0 0, .int .i64 0, .slice none 0 0, .int .i64 0, .int .i64 0, .int .i64 0, .bool false] 36))
  rw [show (w.alloc (.cells #[.slice none 0 0, .slice none 0 0, .int .i64 0, .slice none 0 0, .int .i64 0, .int .i64 0, .int .i64 0, .bool false] 36)).heap.size = w.heap.size + 1 by simp] at hcz1
  have Hb0 := Lib.hid hb0
  have HB0 := Lib.hid hB0
  clear hZ1 hb0 hB0
  go_enter Try.func13, Try.ntmps13
  go_wp2
  go_loopw [4, 5] (fun l i wr => ∃ k : Nat, k ≤ n ∧ i = .int .i64 (k : Int) ∧ OwnK wr (w.heap.size + 1) 9 1 l k ((List.replicate k zeroTxt).map str) ∧ Blk wr w.heap.size 36 #[.slice none 0 0, .slice none 0 0, .int .i64 0, .slice none 0 0, .int .i64 0, .int .i64 0, .int .i64 0, .bool false] ∧ Below w.heap.size w wr) (fun _ i _ => n - (intOf i).toNat)
  case atStart => exact ⟨0, Nat.zero_le _, rfl, OwnK.nil _ _ _ _, HB0.out, Hb0.out⟩
  case round =>
    obtain ⟨k, hk, rfl, hown, hblk, hbw⟩ := hrel
    obtain ⟨A0, n0, hv0, _, _, _⟩ := hown.form
    subst hv0
    have hsw := hblk.lt
    have Hown := Lib.hid hown
    have Hblk := Lib.hid hblk
    have Hbw := Lib.hid hbw
    clear hown hblk hbw hmk2 hcz hcz1 HB0 Hb0
    by_cases hlt : k < n
    · go_wp2_with (at_builtin; refine wpList_appK_new _ elemS rfl (.tmp 13) (.tmp 15) rfl (w.heap.size + 1) k (.slice A0 k n0) _ rfl Hown.out [str zeroTxt] 1 rfl 9 rfl (str_oneCell [zeroTxt]) (by omega) (by omega) hsw ?_; intro v1 w1 hown1 hg1 _; have Hown1 := Lib.hid hown1; have Hg1 := Lib.hid hg1; clear hown1 hg1)
      go_roundw
      case rel =>
        refine ⟨k + 1, by omega, by go_num, ?_, Hblk.out.grown Hg1.out (fun e => by have := (Hown.out.lt _ e).1; omega), Hbw.out.trans (Hown.out.below_of Hg1.out (by omega) (by omega))⟩
        rw [List.replicate_succ', List.map_append]
        exact Hown1.out
      case measure => simp [intOf]; omega
    · obtain rfl : k = n := by omega
      obtain ⟨wa, rfl⟩ : ∃ x, x = wr := ⟨wr, rfl⟩
      go_wp2_with (with_reducible refine wpList_store_fr (op := ⟨none, .store 36 (.tmp 2) (.tmp 18), _, _, _, _⟩) rfl _ _ _ rfl w.heap.size 36 [.slice none 0 0, .slice none 0 0, .int .i64 0, .slice none 0 0, .int .i64 0, .int .i64 0, .int .i64 0, .bool false] [.slice A0 k n0, .slice none 0 0, .int .i64 (-1), .slice none 0 0, .int .i64 0, .int .i64 0, .int .i64 0, .bool false] rfl rfl Hblk.out rfl (by kernel_rfl) (by simp [Value.oneCell']) ?_; intro w9 hblk9 hfr9)
      have z0 := hblk9.cell 0
      have z1 := hblk9.cell 1
      have z2 := hblk9.cell 2
      have z3 := hblk9.cell 3
      have z4 := hblk9.cell 4
      have z5 := hblk9.cell 5
      have z6 := hblk9.cell 6
      have z7 := hblk9.cell 7
      simp at z0 z1 z2 z3 z4 z5 z6 z7
      have hb9 : Below w.heap.size w w9 := Hbw.out.trans (hfr9.below (fun q (hq : q = w.heap.size) => by omega) Hbw.out.size)
      refine bodyPost_ret (v := .agg #[.slice A0 k n0, .slice none 0 0, .int .i64 (-1), .slice none 0 0, .int .i64 0, .int .i64 0, .int .i64 0, .bool false]) (by simp [results, Try.results13, go_sem, z0, z1, z2, z3, z4, z5, z6, z7]) rfl ?_
      refine ⟨_, rfl, ?_, hb9⟩
      have hrow : OwnL kStr wa (w.heap.size + 1) 9 (.slice A0 k n0) (List.replicate k zeroTxt) := ⟨_, by rw [List.length_replicate]; exact Hown.out, kStr_many fun l hl => by rw [(List.mem_replicate.1 hl).2]; unfold zeroTxt maxLen; rw [List.length_replicate]; omega⟩
      have hI := hrow.isL.move (w' := w9) (ok' := fun q => w.heap.size ≤ q) fun q hq hlt => ⟨by have := (hrow.lt q hq).1; omega, (hfr9.block q hlt (fun (e : q = w.heap.size) => by have := (hrow.lt q hq).1; omega)).2⟩
      have hlen : (newD k).sure.length = k := List.length_replicate
      refine ⟨A0, n0, none, 0, none, 0, by rw [hlen]; rfl, ?_, IsL.nil, IsL.nil⟩
      rw [hlen]
      exact hI
end Go.Proofs.Ytffmnhjkfeoofaa
