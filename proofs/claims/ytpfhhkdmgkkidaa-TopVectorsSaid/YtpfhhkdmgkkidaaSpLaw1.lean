/-
  The walk of SpanShrinks.
-/
import Derived.Test.YtpfhhkdmgkkidaaSpRefGrow
import Derived.Test.YtpfhhkdmgkkidaaGrow
namespace Go.Proofs.Ytpfhhkdmgkkidaa
open Go.RowKit
set_option maxRecDepth 100000

/-- A row of bytes, wherever memory has grown to, as a text. -/
theorem conv_ext {W : World} {ok : Nat → Prop} {A : Option Addr} {c : Nat} {l : List UInt8} (h : Rd W ok A (l.map u8)) : ∀ y : Ext W, (convert 26 9 (.slice A l.length c)).run Try.prog y.now = .ok (str l) y.now := fun y => run_bytes_str _ _ _ Try.underlying26 Try.underlying5 Try.underlying9 (h.ext y)
theorem eql_lit (V : Nat → Nat) : ∀ w : World, (binOp .eql 24 (.agg #[.int .u32 (V 0 : Int), .int .u32 (V 1 : Int), .int .u32 (V 2 : Int), .int .u32 (V 3 : Int), .int .u32 (V 4 : Int), .int .u32 (V 5 : Int), .int .u32 (V 6 : Int), .int .u32 (V 7 : Int)]) (.agg #[.int .u32 (V 0 : Int), .int .u32 (V 1 : Int), .int .u32 (V 2 : Int), .int .u32 (V 3 : Int), .int .u32 (V 4 : Int), .int .u32 (V 5 : Int), .int .u32 (V 6 : Int), .int .u32 (V 7 : Int)])).run Try.prog w = .ok (.bool true) w := eql_same V
/-- A fresh block, written whole. -/
theorem fresh_store {w : World} (V : Nat → Nat) {B : Nat} {a : World} (hb : Below B a w) (hB : B ≤ w.heap.size) :
    Blk ((w.alloc (.cells (av zeroV) 24)).setRow w.heap.size (av V)) w.heap.size 24 (av V) ∧ Below B a ((w.alloc (.cells (av zeroV) 24)).setRow w.heap.size (av V)) ∧ ∀ {k : Nat} {t : TypeId} {cs : Array Value}, Blk w k t cs → Blk ((w.alloc (.cells (av zeroV) 24)).setRow w.heap.size (av V)) k t cs := by
  refine ⟨(Blk.new w _ _).setRow_ _, below_setRow (hb.alloc hB _) hB _, fun h => ?_⟩
  have := h.lt
  exact Blk.setRowFar (h.alloc _) (by omega) _
theorem Rd.fresh {w : World} {ok : Nat → Prop} {A : Option Addr} {xs : List Value} (h : Rd w ok A xs) (V : Nat → Nat) : Rd ((w.alloc (.cells (av zeroV) 24)).setRow w.heap.size (av V)) ok A xs :=
  h.frame fun k _ hk => by
    rw [setRow_other _ _ _ _ (by omega)]
    exact Below.heap_alloc w _ k hk

set_option maxHeartbeats 1000000 in
theorem spanshrinks_walk (A B : Nat → Nat) (w : World) (hA : okV A) (hB : okV B) :
    Calls Try.prog 3 #[vv A, vv B] w fun e w' => e = .returned (.bool true) ∧ Below w.heap.size w w' := by
  obtain ⟨h1, h2, hbel⟩ := boxes2 A B w
  have hs := fun w => shrink_any A B hA hB w
  have hg := fun ok Ad c w1 h1 h2 h3 => grow_any ok Ad c (spanB A B) B hB w1 h1 h2 h3
  have hr := fun w => refshrink_any A B hA hB w
  unfold GrowPost at hg
  have hgs := grow_span hA hB
  have hgv : av (growV (spanB A B) B).1 = av A := av_congr hgs.2
  unfold vv at hs hg hr ⊢
  rw [hgv, hgs.1] at hg
  generalize spanB A B = S at hs hg hr
  obtain ⟨W, hW⟩ : ∃ W, W = ((w.alloc (.cells (av A) 24)).alloc (.cells (av B) 24)) := ⟨_, rfl⟩
  rw [← hW] at h1 h2 hbel
  have HW := Lib.hid hW
  have H1 := Lib.hid h1
  have H2 := Lib.hid h2
  have Hs := Lib.hid hs
  have Hg := Lib.hid hg
  have Hr := Lib.hid hr
  clear hW h1 h2 hs hg hr hgs hgv
  go_enter Try.func3, Try.ntmps3
  go_wp2_with fail
  rw [← HW.out]
  refine (lives_any _).mono ?_
  rintro e w1 ⟨rfl, hb1⟩
  have hb01 := below_call hbel hb1
  have HA1 := Lib.hid (H1.out.grow hb1)
  have HB1 := Lib.hid (H2.out.grow hb1)
  go_wp2_with (first | (refine wpList_load_row rfl 24 (.tmp 2) rfl w.heap.size rfl 24 (av A) (0, 0) _ (by exact HA1.out) Try.underlying24 rfl vec_info ?_) | (refine wpList_load_row rfl 24 (.tmp 3) rfl (w.heap.size + 1) rfl 24 (av B) (0, 0) _ (by exact HB1.out) Try.underlying24 rfl vec_info ?_))
  refine (Hs.out _).mono ?_
  rintro e w2 ⟨v, rfl, hown, hb2⟩
  obtain ⟨Ad, c, rfl, hlc, hcm, hrd⟩ := hown.isB
  have hb02 := below_call hb01 hb2
  have HA2 := Lib.hid (HA1.out.grow hb2)
  have HB2 := Lib.hid (HB1.out.grow hb2)
  have hg2 := Hg.out _ Ad c w2 hlc hcm hrd
  have Hg2 := Lib.hid hg2
  have Hrd := Lib.hid hrd
  clear hown hg2 hrd hb2 hb01 HA1 HB1
  go_wp2_with (first | (refine wpList_load_row rfl 24 (.tmp 3) rfl (w.heap.size + 1) rfl 24 (av B) (0, 0) _ (by exact HB2.out) Try.underlying24 rfl vec_info ?_))
  refine Hg2.out.mono ?_
  rintro e w3 ⟨rfl, hb3⟩
  have hb03 := below_call hb02 hb3
  obtain ⟨f1, f2, f3⟩ := fresh_store A hb03 hb03.size
  have f4 := f3 (HA2.out.grow hb3)
  have f5 := f3 (HB2.out.grow hb3)
  have f6 := (Hrd.out.grow hb3).fresh A
  have hN : Blk (w3.alloc (.cells (av zeroV) 24)) w3.heap.size 24 (av zeroV) := Blk.new w3 _ _
  obtain ⟨Z, hZ⟩ : ∃ Z, Z = ((w3.alloc (.cells (av zeroV) 24)).setRow w3.heap.size (av A)) := ⟨_, rfl⟩
  rw [← hZ] at f1 f2 f4 f5 f6
  have ra := f4.reads
  have rb := f5.reads
  have rc := f1.reads
  have hcv := conv_ext (c := c) f6
  have heq := eql_lit A
  have HN := Lib.hid hN
  have HZ := Lib.hid hZ
  rw [zero_av] at HZ
  clear f1 f3 f4 f5 f6 hN hZ hb3 hb02 HA2 HB2
  go_wp2_with (first | (refine wpList_store_row rfl 24 (.tmp 6) (.tmp 17) rfl w3.heap.size (av A) rfl rfl 24 (av zeroV) (by exact HN.out) vec_info rfl (av_one _) ?_; rw [← HZ.out]))
  refine wp_region_grow (by kernel_rfl) (by kernel_rfl) ?_
  repeat (first | go_big_quiet_step ((go_at_call 12; exact calls_grow (Hr.out _))) | quiet_step ((go_at_call 12; exact calls_grow (Hr.out _))))
  refine wpQuiet_nil ?_
  rintro _ ⟨⟨w6, hb6⟩, rfl⟩
  go_wp2
  go_ret
  exact ⟨rfl, below_call f2 hb6⟩
end Go.Proofs.Ytpfhhkdmgkkidaa
