/-
  version.Heads, Sweep, Unseen, over version.those and slices.ContainsFunc.
-/
import Derived.Test.YtnehoabeameioaaVeThose
namespace Go.Proofs.Ytnehoabeameioaa
open Go.RowKit
set_option maxRecDepth 100000

theorem heads_any (ok : Nat → Prop) (v : Value) (L : List Ver) (w : World) (hL : IsL kVer w ok v L) (hd : ∀ x ∈ L, x.data.length ≤ 1000) (hl : L.length ≤ 1000) :
    Calls Try.prog 19 #[v] w fun e w' => (∃ u, e = .returned u ∧ OwnV w' w.heap.size u (L.filter headV)) ∧ Below w.heap.size w w' := by
  have Hc := Lib.hid (those_any 21 #[] headV (enters_of Try.func21 (by kernel_rfl) rfl) ok v L w hL hd hl (predV_head w))
  clear hL hd hl
  go_enter Try.func19, Try.ntmps19
  go_wp2_with (go_at_call 40; go_must (refine Hc.out.mono ?_; rintro e1 w1 ⟨⟨u, rfl, hown⟩, hb1⟩))
  go_ret
  exact ⟨⟨_, rfl, hown⟩, hb1⟩

theorem predV_sweep (B : Nat → Nat) (g : Nat) (w : World) (hb : Blk w g 37 (av B)) : PredV 42 #[.pointer (some ⟨g, 0, none⟩)] (fun x => !goneV x.by_ B) w := by
  intro W x hW
  have hB0 : Blk (W.alloc (.cells (verC x) 39)) g 37 (av B) := (hb.grow hW).alloc _
  have hA : Blk (W.alloc (.cells (verC x) 39)) W.heap.size 39 (verC x) := Blk.new W _ _
  have hbel : Below W.heap.size W (W.alloc (.cells (verC x) 39)) := (Below.refl _ _).alloc (Nat.le_refl _) _
  have R := Lib.hid hA.ver.by_
  have HB := Lib.hid hB0
  have hg := fun z => gone_any x.by_ B z
  obtain ⟨b, hbe⟩ : ∃ b, b = goneV x.by_ B := ⟨_, rfl⟩
  show Calls _ _ _ _ fun e w' => e = .returned (.bool (!goneV x.by_ B)) ∧ _
  rw [← hbe] at hg ⊢
  obtain ⟨C, hC⟩ : ∃ C, C = verC x := ⟨_, rfl⟩
  rw [← hC] at R HB hbel ⊢
  have Hbel := Lib.hid hbel
  unfold vv at hg
  obtain ⟨A, hA'⟩ : ∃ A, A = av x.by_ := ⟨_, rfl⟩
  rw [← hA'] at hg R
  have hinf : (Try.prog.info? 37).map (·.size) = some A.toList.length := by rw [hA']; exact vec_info
  have Hinf := Lib.hid hinf
  obtain ⟨D, hD⟩ : ∃ D, D = av B := ⟨_, rfl⟩
  rw [← hD] at hg HB
  have hinfD : (Try.prog.info? 37).map (·.size) = some D.size := by rw [hD]; exact vec_info
  have HinfD := Lib.hid hinfD
  have Hg := Lib.hid hg
  clear hB0 hA hbel hbe hC hA' hinf hD hinfD hg hb
  show Calls _ _ #[.agg C, .pointer (some ⟨g, 0, none⟩)] _ _
  go_enter Try.func42, Try.ntmps42
  go_wp2_with (first | (refine wpList_load_mid (op := ⟨some 5, _, _, _, _, _⟩) rfl 37 (.tmp 4) rfl W.heap.size (0 + 3) rfl _ _ R.out Try.underlying37 rfl Hinf.out ?_) | (refine wpList_load_row (o := ⟨some 6, _, _, _, _, _⟩) rfl 37 (.tmp 1) rfl g rfl 37 D (0, 0) _ HB.out Try.underlying37 rfl HinfD.out ?_) | (go_at_call 43; go_must (refine (Hg.out _).mono ?_; rintro e1 w1 ⟨rfl, hb1⟩)))
  go_ret
  exact ⟨rfl, below_call Hbel.out hb1⟩

theorem sweep_any (ok : Nat → Prop) (v : Value) (L : List Ver) (B : Nat → Nat) (w : World) (hL : IsL kVer w ok v L) (hd : ∀ x ∈ L, x.data.length ≤ 1000) (hl : L.length ≤ 1000) :
    Calls Try.prog 23 #[v, vv B] w fun e w' => (∃ u, e = .returned u ∧ OwnV w' w.heap.size u (L.filter fun x => !goneV x.by_ B)) ∧ Below w.heap.size w w' := by
  have hbel : Below w.heap.size w (w.alloc (.cells (av B) 37)) := (Below.refl _ _).alloc (Nat.le_refl _) _
  have Hc := Lib.hid (those_any 42 _ _ (enters_of Try.func42 (by kernel_rfl) rfl) ok v L _ (hL.grow hbel) hd hl (predV_sweep B w.heap.size _ (Blk.new w _ _)))
  have Hbel := Lib.hid hbel
  unfold vv
  clear hL hd hl hbel
  go_enter Try.func23, Try.ntmps23
  go_wp2_with (go_at_call 40; go_must (refine Hc.out.mono ?_; rintro e1 w1 ⟨⟨u, rfl, hown⟩, hb1⟩))
  go_ret
  exact ⟨⟨_, rfl, hown.mono Hbel.out.size⟩, below_call Hbel.out hb1⟩

set_option maxHeartbeats 2000000 in
theorem predV_unseen (B : Nat → Nat) (g : Nat) (w : World) (hb : Blk w g 37 (av B)) : PredV 46 #[.pointer (some ⟨g, 0, none⟩)] (fun x => headV x && !hasV B x.rep x.seq) w := by
  intro W x hW
  have hB0 : Blk (W.alloc (.cells (verC x) 39)) g 37 (av B) := (hb.grow hW).alloc _
  have hA : Blk (W.alloc (.cells (verC x) 39)) W.heap.size 39 (verC x) := Blk.new W _ _
  have hbel : Below W.heap.size W (W.alloc (.cells (verC x) 39)) := (Below.refl _ _).alloc (Nat.le_refl _) _
  have HA := Lib.hid hA
  have HB := Lib.hid hB0
  have hh := fun z => head_any x z
  have hs := fun z => has_any B x.rep x.seq z
  obtain ⟨b, hbe⟩ : ∃ b, b = headV x := ⟨_, rfl⟩
  obtain ⟨q, hqe⟩ : ∃ q, q = hasV B x.rep x.seq := ⟨_, rfl⟩
  show Calls _ _ _ _ fun e w' => e = .returned (.bool (headV x && !hasV B x.rep x.seq)) ∧ _
  rw [← hbe] at hh ⊢
  rw [← hqe] at hs ⊢
  obtain ⟨C, hC⟩ : ∃ C, C = verC x := ⟨_, rfl⟩
  have hinf : (Try.prog.info? 39).map (·.size) = some C.size := by rw [hC]; exact ver_info
  have Hinf := Lib.hid hinf
  rw [← hC] at HA HB hh hbel ⊢
  have hC0 : C[0]? = some (.int .i64 x.rep) := by rw [hC]; rfl
  have hC1 : C[1]? = some (.int .u32 (x.seq : Int)) := by rw [hC]; rfl
  have Hbel := Lib.hid hbel
  unfold vv idv at hs
  have Hs := Lib.hid hs
  have Hh := Lib.hid hh
  have HC0 := Lib.hid hC0
  have HC1 := Lib.hid hC1
  clear hB0 hA hbel hbe hqe hC hinf hs hh hb hC0 hC1
  show Calls _ _ #[.agg C, .pointer (some ⟨g, 0, none⟩)] _ _
  cases b with
  | false =>
    go_enter Try.func46, Try.ntmps46
    go_wp2_with (first | (refine wpList_load_row (o := ⟨some 4, _, _, _, _, _⟩) rfl 39 (.tmp 2) rfl W.heap.size rfl 39 C (0, 0) _ HA.out Try.underlying39 rfl Hinf.out ?_) | (go_at_call 21; go_must (refine (Hh.out _).mono ?_; rintro e1 w1 ⟨rfl, hb1⟩)))
    go_ret
    exact ⟨rfl, below_call Hbel.out hb1⟩
  | true =>
    have hcs : ∀ w1 : World, Below (W.alloc (.cells C 39)).heap.size (W.alloc (.cells C 39)) w1 → (w1.cell? ⟨W.heap.size, 0, none⟩ = some (.int .i64 x.rep) ∧ w1.cell? ⟨W.heap.size, 1, none⟩ = some (.int .u32 (x.seq : Int))) ∧ ∀ k, k < 8 → w1.cell? ⟨g, k, none⟩ = some (.int .u32 (B k : Int)) := fun w1 h1 =>
      ⟨⟨by rw [(HA.out.grow h1).cell]; exact HC0.out, by rw [(HA.out.grow h1).cell]; exact HC1.out⟩, fun k hk => by rw [(HB.out.grow h1).cell]; exact av_get B hk⟩
    have Hcs := Lib.hid hcs
    clear hcs
    go_enter Try.func46, Try.ntmps46
    go_wp2_with (first | (refine wpList_load_row (o := ⟨some 4, _, _, _, _, _⟩) rfl 39 (.tmp 2) rfl W.heap.size rfl 39 C (0, 0) _ HA.out Try.underlying39 rfl Hinf.out ?_) | (go_at_call 21; go_must (refine (Hh.out _).mono ?_; rintro e1 w1 ⟨rfl, hb1⟩; obtain ⟨⟨z0, z1⟩, zk⟩ := Hcs.out w1 hb1; have y0 := zk 0 (by omega); have y1 := zk 1 (by omega); have y2 := zk 2 (by omega); have y3 := zk 3 (by omega); have y4 := zk 4 (by omega); have y5 := zk 5 (by omega); have y6 := zk 6 (by omega); have y7 := zk 7 (by omega); have HB1 := Lib.hid hb1; clear zk hb1)) | (go_at_call 47; go_must (refine (Hs.out _).mono ?_; rintro e2 w2 ⟨rfl, hb2⟩)))
    go_ret
    exact ⟨rfl, below_call (below_call Hbel.out HB1.out) hb2⟩

set_option maxHeartbeats 2000000 in
theorem index_any (g : Nat) (lb : Array Value) (p : Ver → Bool) (eg : ∀ args w, (callFunc g args).run Try.prog w = .ok (.enter g args) w) (ok : Nat → Prop) (v : Value) (L : List Ver) (w : World)
    (hL : IsL kVer w ok v L) (hp : PredV g lb p w) :
    Calls Try.prog 59 #[v, .func (.func g) #[] lb] w fun e w' => (∃ r : Int, e = .returned (.int .i64 r) ∧ decide (0 ≤ r) = L.any p) ∧ Below w.heap.size w w' := by
  obtain ⟨A, c, rfl, hc1, hc2, hL⟩ := ver_at hL
  have hm : maxLen ≤ 9223372036854775807 := by decide
  have Hel := Lib.hid hL
  have Hp := Lib.hid hp
  obtain ⟨n, hn⟩ : ∃ n, n = L.length := ⟨_, rfl⟩
  rw [← hn] at hc1 ⊢
  have Hn := Lib.hid hn
  obtain ⟨B, hB⟩ : ∃ B, B = L.any p := ⟨_, rfl⟩
  rw [← hB]
  have HBv := Lib.hid hB
  clear hL hp hn hB
  go_enter Try.func59, Try.ntmps59
  go_wp2_with fail
  go_loopw [8] (fun i wr => ∃ (k : Nat), k ≤ n ∧ i = .int .i64 (k : Int) ∧ (L.take k).any p = false ∧ Below w.heap.size w wr) (fun i _ => n - (intOf i).toNat)
  case atStart => exact ⟨0, by omega, rfl, rfl, Below.refl _ _⟩
  case round =>
    obtain ⟨k, hk, rfl, hnone, hbw⟩ := hrel
    have Hnone := Lib.hid hnone
    clear hnone
    by_cases hlt : k < n
    · have hkl : k < L.length := by rw [← Hn.out]; exact hlt
      obtain ⟨b, off, rfl, _, hb, hel⟩ := Hel.out (by intro e; subst e; simp at hkl)
      have R := Lib.hid (range_ext (hel k hkl).1 hbw)
      have htk : L.take (k + 1) = L.take k ++ [L[k]] := by rw [List.take_succ_eq_append_getElem hkl]
      have hmem : L[k] ∈ L := List.getElem_mem hkl
      obtain ⟨x, hxe⟩ : ∃ x, x = L[k] := ⟨_, rfl⟩
      rw [← hxe] at R htk hmem
      have Htk := Lib.hid htk
      have Hmem := Lib.hid hmem
      have hpx := Hp.out wr x hbw
      obtain ⟨q, hq⟩ : ∃ q, q = p x := ⟨_, rfl⟩
      rw [← hq] at hpx
      have Hq := Lib.hid hq
      have Hpx := Lib.hid hpx
      obtain ⟨C, hC⟩ : ∃ C, C = verC x := ⟨_, rfl⟩
      have hinfL : (Try.prog.info? 39).map (·.size) = some C.toList.length := by rw [hC]; exact ver_info
      have HinfL := Lib.hid hinfL
      rw [← hC] at R Hpx
      have Hbw := Lib.hid hbw
      clear hel hxe htk hmem hpx hq hC hinfL hbw Hel Hp
      cases q with
      | true =>
        have Hyes := Lib.hid (show B = true by rw [HBv.out, List.any_eq_true]; exact ⟨x, Hmem.out, Hq.out.symm⟩)
        go_wp2_with (first | (refine wpList_load_mid (op := ⟨some 15, _, _, _, _, _⟩) rfl 39 (.tmp 14) rfl b (off + k * 11) rfl _ _ R.out Try.underlying39 rfl HinfL.out ?_) | (go_at_fn g; go_must (refine Hpx.out.mono ?_; rintro e1 w1 ⟨rfl, hb1⟩)))
        go_ret
        exact ⟨⟨_, rfl, by rw [Hyes.out]; simp⟩, below_call Hbw.out hb1⟩
      | false =>
        have Hnx := Lib.hid (show (L.take (k + 1)).any p = false by rw [Htk.out, List.any_append, Hnone.out]; simp [← Hq.out])
        go_wp2_with (first | (refine wpList_load_mid (op := ⟨some 15, _, _, _, _, _⟩) rfl 39 (.tmp 14) rfl b (off + k * 11) rfl _ _ R.out Try.underlying39 rfl HinfL.out ?_) | (go_at_fn g; go_must (refine Hpx.out.mono ?_; rintro e1 w1 ⟨rfl, hb1⟩; have HB1 := Lib.hid hb1; clear hb1)))
        go_roundw
        case rel => exact ⟨k + 1, by omega, by go_num, Hnx.out, below_call Hbw.out HB1.out⟩
        case measure => simp [intOf]; omega
    · obtain rfl : k = n := by omega
      have Hno := Lib.hid (show B = false by rw [HBv.out, ← Hnone.out, List.take_of_length_le (by rw [Hn.out]; exact Nat.le_refl _)])
      go_wp2_with fail
      go_ret
      exact ⟨⟨_, rfl, by rw [Hno.out]; simp⟩, hbw⟩

theorem contains_any (g : Nat) (lb : Array Value) (p : Ver → Bool) (eg : ∀ args w, (callFunc g args).run Try.prog w = .ok (.enter g args) w) (ok : Nat → Prop) (v : Value) (L : List Ver) (w : World)
    (hL : IsL kVer w ok v L) (hp : PredV g lb p w) :
    Calls Try.prog 45 #[v, .func (.func g) #[] lb] w fun e w' => e = .returned (.bool (L.any p)) ∧ Below w.heap.size w w' := by
  have Hc := Lib.hid (index_any g lb p eg ok v L w hL hp)
  clear hL hp
  go_enter Try.func45, Try.ntmps45
  go_wp2_with (go_at_call 59; go_must (refine Hc.out.mono ?_; rintro e1 w1 ⟨⟨r, rfl, hr⟩, hb1⟩))
  go_ret
  exact ⟨by rw [← hr]; rfl, hb1⟩

theorem unseen_any (ok : Nat → Prop) (v : Value) (L : List Ver) (B : Nat → Nat) (w : World) (hL : IsL kVer w ok v L) :
    Calls Try.prog 25 #[v, vv B] w fun e w' => e = .returned (.bool (L.any fun x => headV x && !hasV B x.rep x.seq)) ∧ Below w.heap.size w w' := by
  have hbel : Below w.heap.size w (w.alloc (.cells (av B) 37)) := (Below.refl _ _).alloc (Nat.le_refl _) _
  have Hc := Lib.hid (contains_any 46 _ _ (enters_of Try.func46 (by kernel_rfl) rfl) ok v L _ (hL.grow hbel) (predV_unseen B w.heap.size _ (Blk.new w _ _)))
  have Hbel := Lib.hid hbel
  unfold vv
  obtain ⟨R, hR⟩ : ∃ R, R = (L.any fun x => headV x && !hasV B x.rep x.seq) := ⟨_, rfl⟩
  rw [← hR] at Hc ⊢
  clear hL hbel hR
  go_enter Try.func25, Try.ntmps25
  go_wp2_with (go_at_call 45; go_must (refine Hc.out.mono ?_; rintro e1 w1 ⟨rfl, hb1⟩))
  go_ret
  exact ⟨rfl, below_call Hbel.out hb1⟩
end Go.Proofs.Ytnehoabeameioaa
