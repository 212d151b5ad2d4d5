/-
  The walks of CodecNums and CodecOrder.
-/
import Derived.Test.YtkhhihkcgpfmfaaLives01
import Derived.Test.YtkhhihkcgpfmfaaRefAsNum
import Derived.Test.YtkhhihkcgpfmfaaGrow
import Derived.WalkSpells
namespace Go.Proofs.Ytkhhihkcgpfmfaa
open Go.RowKit
set_option maxRecDepth 100000

theorem drew_rd {w : World} {ok : Nat → Prop} {A : Option Addr} {xs : List Value} (h : Rd w ok A xs) : Rd w.drew ok A xs := h
theorem asNumV_numB (N : Nat) (h : N < 18446744073709551616) : asNumV (numB N) = (N, 0) := by
  have hl := numLen_le N (by omega)
  rw [← numB_length] at hl
  rw [asNumV_of _ (by omega), asNum_numB N (by omega), if_pos rfl]

set_option maxHeartbeats 1000000 in
theorem codecnums_walk (N : Nat) (hN : N < 18446744073709551616) (v : Value) (b : List UInt8) (ok : Nat → Prop) (w : World) (hv : IsB w ok v b) :
    Calls Try.prog 3 #[.int .u64 (N : Int), v] w fun e w' => e = .returned (.bool true) ∧ Below w.heap.size w w' := by
  obtain ⟨A, c, rfl, hc, hm, hr⟩ := hv
  by_cases hlong : 100 < b.length
  · go_enter Try.func3, Try.ntmps3
    go_wp2_with fail
    refine (lives_any _).mono ?_
    rintro e w1 ⟨rfl, hb1⟩
    go_wp2_with fail
    refine (lives_any _).mono ?_
    rintro e w2 ⟨rfl, hb2⟩
    go_wp2_with fail
    go_ret
    exact ⟨rfl, hb1.trans (hb2.mono hb1.size)⟩
  · have hnv := asNumV_numB N hN
    have hx8 := numLen_le N (by omega)
    rw [← numB_length] at hx8
    have Hnv := Lib.hid hnv
    have Hx8 := Lib.hid hx8
    have Hr := Lib.hid hr
    clear hnv hx8 hr
    go_enter Try.func3, Try.ntmps3
    go_wp2_with fail
    refine (lives_any _).mono ?_
    rintro e w1 ⟨rfl, hb1⟩
    go_wp2_with fail
    refine (num_any N hN _).mono ?_
    rintro e w2 ⟨x, rfl, hx, hb2⟩
    have hxg := hx
    obtain ⟨Ax, cx, rfl, hxc, hxm, hxr⟩ := hx.isB
    go_wp2_with fail
    refine (asnum_any _ Ax cx (numB N) _ (Nat.le_trans hxc hxm) hxr).mono ?_
    rintro e w3 ⟨rfl, hw3⟩
    obtain rfl := hw3.symm
    rw [Hnv.out]
    go_wp2_with fail
    have hb12 := hb1.trans (hb2.mono hb1.size)
    have hrb := (Hr.out.grow hb12)
    refine (asnum_any _ A c b _ (Nat.le_trans hc hm) hrb).mono ?_
    rintro e w4 ⟨rfl, hw4⟩
    obtain rfl := hw4.symm
    have hra : ∀ W : World, Calls Try.prog 12 #[str b] W _ := fun W => refasnum_any b W (Nat.le_trans hc hm)
    generalize asNumV b = kv at hra ⊢
    obtain ⟨k, ev⟩ := kv
    have Hra := Lib.hid hra
    clear hra
    dsimp only
    go_wp2_with (with_reducible refine wpList_bytes_str 5 Try.underlying23 Try.underlying5 Try.underlying9 ok A c b rfl hrb ?_)
    refine (Hra.out _).mono ?_
    rintro e w5 ⟨rfl, hb5⟩
    dsimp only
    have hxr5 := hxr.grow hb5
    go_wp2_with fail
    have hcv : ∀ y : Ext w5, (convert 23 9 (.slice Ax (numB N).length cx)).run Try.prog y.now = .ok (str (numB N)) y.now := fun y => run_bytes_str _ _ _ Try.underlying23 Try.underlying5 Try.underlying9 (hxr5.ext y)
    clear hxr5 hxr hx hxg
    refine wp_region_grow (by kernel_rfl) (by kernel_rfl) ?_
    repeat (first | go_big_quiet_step ((go_at_call 13; exact calls_grow (refnum N _ hN))) | quiet_step ((go_at_call 13; exact calls_grow (refnum N _ hN))))
    refine wpQuiet_nil ?_
    rintro _ ⟨⟨w6, hb6⟩, rfl⟩
    go_wp2
    go_ret
    exact ⟨rfl, (hb12.trans (hb5.mono hb12.size)).trans (hb6.mono (Nat.le_trans hb12.size hb5.size))⟩
end Go.Proofs.Ytkhhihkcgpfmfaa
