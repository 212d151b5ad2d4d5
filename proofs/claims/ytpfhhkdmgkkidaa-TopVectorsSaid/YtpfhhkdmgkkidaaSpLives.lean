/-
  span.Rebase; wardshiplaw07.lives.
-/
import Derived.Test.YtpfhhkdmgkkidaaSpShrink
namespace Go.Proofs.Ytpfhhkdmgkkidaa
open Go.RowKit
set_option maxRecDepth 100000

/-- What Rebase answers. -/
def rebS (l : List UInt8) (B C : Nat → Nat) : List UInt8 := if (growV l B).2 = 0 then spanB (growV l B).1 C else []
def RebPost (l : List UInt8) (B C : Nat → Nat) (w : World) (e : Ending) (w' : World) : Prop :=
  ∃ v, e = .returned (.tuple #[v, .int .i64 ((growV l B).2 : Int)]) ∧ Own1 w' w.heap.size 5 v ((rebS l B C).map u8) ∧ Below w.heap.size w w'

set_option maxHeartbeats 400000 in
theorem rebase_any (ok : Nat → Prop) (A : Option Addr) (c : Nat) (l : List UInt8) (B C : Nat → Nat) (hB : okV B) (hC : okV C) (w : World) (hlc : l.length ≤ c) (hcm : c ≤ maxLen) (hr : Rd w ok A (l.map u8)) :
    Calls Try.prog 14 #[.slice A l.length c, vv B, vv C] w (RebPost l B C w) := by
  obtain ⟨h1, h2, hbel⟩ := boxes2 B C w
  have hg := fun w1 (hb : Below w.heap.size w w1) => grow_any ok A c l B hB w1 hlc hcm (hr.grow hb)
  have hok := okV_grow l B
  unfold GrowPost at hg
  unfold RebPost rebS
  generalize growV l B = R at hg hok ⊢
  obtain ⟨V, q⟩ := R
  simp only [] at hg hok ⊢
  have hs := fun w1 => shrink_any V C hok hC w1
  have H1e := Lib.hid h1
  obtain ⟨W, hW⟩ : ∃ W, W = ((w.alloc (.cells (av B) 24)).alloc (.cells (av C) 24)) := ⟨_, rfl⟩
  rw [← hW] at h1 h2 hbel
  unfold vv at hg hs ⊢
  have HW := Lib.hid hW
  have H1 := Lib.hid h1
  have H2 := Lib.hid h2
  have Hg := Lib.hid hg
  have Hs := Lib.hid hs
  clear hW h1 h2 hg hs hr
  by_cases hq : q = 0
  · subst hq
    go_enter Try.func14, Try.ntmps14
    go_wp2_with (refine wpList_load_row rfl 24 (.tmp 4) rfl w.heap.size rfl 24 (av B) (0, 0) _ (by exact H1e.out) Try.underlying24 rfl vec_info ?_)
    rw [← HW.out]
    refine (Hg.out _ hbel).mono ?_
    rintro e w1 ⟨rfl, hb1⟩
    have hb01 := below_call hbel hb1
    have hs1 := hb01.size
    have hN : Blk (w1.alloc (.cells (av zeroV) 24)) w1.heap.size 24 (av zeroV) := Blk.new w1 _ _
    obtain ⟨Z, hZ⟩ : ∃ Z, Z = ((w1.alloc (.cells (av zeroV) 24)).setRow w1.heap.size (av V)) := ⟨_, rfl⟩
    have hZ1 : Blk Z w1.heap.size 24 (av V) := by rw [hZ]; exact hN.setRow_ (av V)
    have hlt := (H2.out.grow hb1).lt
    have hZ2 : Blk Z (w.heap.size + 1) 24 (av C) := by rw [hZ]; exact Blk.setRowFar ((H2.out.grow hb1).alloc _) (by omega) _
    have hbZ : Below w.heap.size w Z := by rw [hZ]; exact below_setRow (hb01.alloc hs1 _) hs1 _
    have HN := Lib.hid hN
    have HZ := Lib.hid hZ
    rw [zero_av] at HZ
    have HZ1 := Lib.hid hZ1
    have HZ2 := Lib.hid hZ2
    clear hN hZ hZ1 hZ2
    go_wp2_with (first | (refine wpList_store_row rfl 24 (.tmp 8) (.tmp 14) rfl w1.heap.size (av V) rfl rfl 24 (av zeroV) (by exact HN.out) vec_info rfl (av_one _) ?_; rw [← HZ.out]) | (refine wpList_load_row rfl 24 (.tmp 8) rfl w1.heap.size rfl 24 (av V) (0, 0) _ (by exact HZ1.out) Try.underlying24 rfl vec_info ?_) | (refine wpList_load_row rfl 24 (.tmp 5) rfl (w.heap.size + 1) rfl 24 (av C) (0, 0) _ (by exact HZ2.out) Try.underlying24 rfl vec_info ?_) | (go_at_call 10; refine (Hs.out _).mono ?_; rintro e w2 ⟨v, rfl, hown, hb2⟩))
    go_ret2
    exact ⟨v, rfl, hown.mono hbZ.size, below_call hbZ hb2⟩
  · have hq' : ((q : Int) != 0) = true := by rw [bne_iff_ne]; omega
    have Hq := Lib.hid hq
    clear hq
    go_enter Try.func14, Try.ntmps14
    go_wp2_with (refine wpList_load_row rfl 24 (.tmp 4) rfl w.heap.size rfl 24 (av B) (0, 0) _ (by exact H1e.out) Try.underlying24 rfl vec_info ?_)
    rw [← HW.out]
    refine (Hg.out _ hbel).mono ?_
    rintro e w1 ⟨rfl, hb1⟩
    have hb01 := below_call hbel hb1
    have hs1 := hb01.size
    have hN : Blk (w1.alloc (.cells (av zeroV) 24)) w1.heap.size 24 (av zeroV) := Blk.new w1 _ _
    have hbZ : Below w.heap.size w ((w1.alloc (.cells (av zeroV) 24)).setRow w1.heap.size (av V)) := below_setRow (hb01.alloc hs1 _) hs1 _
    have HN := Lib.hid hN
    clear hN
    go_wp2_with (refine wpList_store_row rfl 24 (.tmp 8) (.tmp 14) rfl w1.heap.size (av V) rfl rfl 24 (av zeroV) (by exact HN.out) vec_info rfl (av_one _) ?_)
    go_ret2
    exact ⟨.slice none 0 0, rfl, Own1.nil _ _ _, hbZ⟩

def lvA : Nat → Nat := fun i => if i = 0 then 5 else if i = 1 then 3 else 0
def lvB : Nat → Nat := fun i => if i = 0 then 2 else if i = 1 then 4 else 0
theorem okV_lvA : okV lvA := fun i _ => by unfold lvA; split; omega; split <;> omega
theorem okV_lvB : okV lvB := fun i _ => by unfold lvB; split; omega; split <;> omega
theorem lives_span : spanB lvA lvB = [1, 2, 1, 3, 1, 1] := by decide +kernel
theorem lives_avA : av lvA = #[.int .u32 5, .int .u32 3, .int .u32 0, .int .u32 0, .int .u32 0, .int .u32 0, .int .u32 0, .int .u32 0] := rfl
theorem lives_avB : av lvB = #[.int .u32 2, .int .u32 4, .int .u32 0, .int .u32 0, .int .u32 0, .int .u32 0, .int .u32 0, .int .u32 0] := rfl

set_option maxHeartbeats 400000 in
theorem lives_any (w : World) : Calls Try.prog 9 #[] w fun e w' => e = .returned (.bool true) ∧ Below w.heap.size w w' := by
  have hs := fun w1 => shrink_any lvA lvB okV_lvA okV_lvB w1
  have hg := fun ok A c w1 h1 h2 h3 => grow_any ok A c (spanB lvA lvB) lvB okV_lvB w1 h1 h2 h3
  unfold GrowPost at hg
  have hgs := grow_span okV_lvA okV_lvB
  have hgv : av (growV (spanB lvA lvB) lvB).1 = av lvA := av_congr hgs.2
  unfold vv at hs hg
  rw [hgv, hgs.1] at hg
  have hsp := lives_span
  generalize spanB lvA lvB = S at hs hg hsp
  subst hsp
  have heql := fun w => eql_same lvA w
  rw [lives_avA, lives_avB] at hs
  rw [lives_avA, lives_avB] at hg
  rw [lives_avA] at heql
  have Hs := Lib.hid hs
  have Hg := Lib.hid hg
  clear hs hg hgs hgv
  go_enter Try.func9, Try.ntmps9
  go_wp2_with fail
  refine (Hs.out _).mono ?_
  rintro e w1 ⟨v, rfl, hown, hb1⟩
  obtain ⟨A, c, rfl, hlc, hcm, hrd⟩ := hown.isB
  have hlc6 : 6 ≤ c := hlc
  have hg1 := Hg.out _ A c w1 hlc hcm hrd
  have Hg1 := Lib.hid hg1
  clear hg1
  go_wp2_with fail
  refine Hg1.out.mono ?_
  rintro e w2 ⟨rfl, hb2⟩
  have hN : Blk (w2.alloc (.cells (av zeroV) 24)) w2.heap.size 24 (av zeroV) := Blk.new w2 _ _
  have hb02 := below_call hb1 hb2
  obtain ⟨Z, hZ⟩ : ∃ Z, Z = ((w2.alloc (.cells (av zeroV) 24)).setRow w2.heap.size (av lvA)) := ⟨_, rfl⟩
  have hZ1 : Blk Z w2.heap.size 24 (av lvA) := by rw [hZ]; exact hN.setRow_ (av lvA)
  have hbZ : Below w.heap.size w Z := by rw [hZ]; exact below_setRow (hb02.alloc hb02.size _) hb02.size _
  have hrZ : Rd Z _ A (([1, 2, 1, 3, 1, 1] : List UInt8).map u8) := hrd.frame (w' := Z) fun k hk hlt => by
    rw [hZ, setRow_other _ _ _ _ (by have := hb2.size; omega)]
    exact (Below.heap_alloc w2 _ k (by have := hb2.size; omega)).trans (hb2.block k hlt)
  have hconv := fun dst hd => run_bytes_str (P := Try.prog) (w := Z) (c := c) 26 dst _ Try.underlying26 Try.underlying5 hd hrZ
  have hcv : (convert 26 9 (.slice A 6 c)).run Try.prog Z = .ok (str [1, 2, 1, 3, 1, 1]) Z := hconv 9 Try.underlying9
  have HN := Lib.hid hN
  have HZ := Lib.hid hZ
  rw [zero_av, lives_avA] at HZ
  have HZ1 := Lib.hid hZ1
  rw [lives_avA] at HZ1
  have x0 := HZ1.out.cell 0
  have x1 := HZ1.out.cell 1
  have x2 := HZ1.out.cell 2
  have x3 := HZ1.out.cell 3
  have x4 := HZ1.out.cell 4
  have x5 := HZ1.out.cell 5
  have x6 := HZ1.out.cell 6
  have x7 := HZ1.out.cell 7
  simp only [List.getElem?_toArray, List.getElem?_cons_zero, List.getElem?_cons_succ] at x0 x1 x2 x3 x4 x5 x6 x7
  clear hN hZ hZ1 hconv hrZ
  go_wp2_with (first | (refine wpList_load_row rfl 24 (.tmp 2) rfl w2.heap.size rfl 24 _ (0, 0) _ (by exact HZ1.out) Try.underlying24 rfl vec_info ?_) | (refine wpList_store_row rfl 24 (.tmp 2) (.tmp 11) rfl w2.heap.size (av lvA) rfl rfl 24 (av zeroV) (by exact HN.out) vec_info rfl (av_one _) ?_; rw [lives_avA, ← HZ.out]))
  go_ret
  exact ⟨rfl, hbZ⟩
end Go.Proofs.Ytpfhhkdmgkkidaa
