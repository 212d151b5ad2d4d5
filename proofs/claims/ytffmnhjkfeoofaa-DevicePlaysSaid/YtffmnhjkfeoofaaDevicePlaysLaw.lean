/-
  The walk of DevicePlays.
-/
import Derived.Test.YtffmnhjkfeoofaaStepAll
namespace Go.Proofs.Ytffmnhjkfeoofaa
open Go.RowKit
set_option maxRecDepth 100000

set_option maxHeartbeats 400000 in
theorem deviceplays_walk (n : Int) (v : Value) (L : List OpM) (w : World) (hn : -9223372036854775808 ≤ n ∧ n ≤ 9223372036854775807) (hv : IsL kOp w (fun _ => True) v L) :
    Calls Try.prog 3 #[.int .i64 n, v] w fun e w' => e = .returned (.bool true) ∧ Below w.heap.size w w' := by
  have hv0 : IsL kOp w (fun k => k < w.heap.size) v L := hv.move fun k _ hk => ⟨hk, rfl⟩
  obtain ⟨A, c, rfl, hc, hm, hel⟩ := op_at hv0
  have Hel := Lib.hid hel
  have Hv := Lib.hid hv
  unfold maxLen at hm
  clear hel hv hv0
  cases hfit : fitsB n L with
  | false =>
    have Hfit := Lib.hid hfit
    clear hfit
    go_enter Try.func3, Try.ntmps3
    go_wp2_with fail
    refine (lives_any _).mono ?_
    rintro e w1 ⟨rfl, hb1⟩
    go_wp2_with fail
    refine (fits_any _ _ n L _ (Hv.out.grow hb1)).mono ?_
    rintro e w2 ⟨rfl, hb2⟩
    rw [Hfit.out]
    have hb02 := below_call hb1 hb2
    go_wp2_with fail
    refine (lives_any _).mono ?_
    rintro e w3 ⟨rfl, hb3⟩
    go_wp2
    go_ret
    exact ⟨rfl, below_call hb02 hb3⟩
  | true =>
    obtain ⟨h1, h10, h60, hop⟩ := fits_out hfit
    obtain ⟨N, rfl⟩ := Int.eq_ofNat_of_zero_le (show 0 ≤ n by omega)
    have hN1 : 0 < N := by omega
    have hN2 : N ≤ 10 := by omega
    have Hfit := Lib.hid hfit
    have Hop := Lib.hid hop
    clear hfit hop h1 h10
    go_enter Try.func3, Try.ntmps3
    go_wp2_with fail
    refine (lives_any _).mono ?_
    rintro e w1 ⟨rfl, hb1⟩
    go_wp2_with fail
    refine (fits_any _ _ N L _ (Hv.out.grow hb1)).mono ?_
    rintro e w2 ⟨rfl, hb2⟩
    rw [Hfit.out]
    have hb02 := below_call hb1 hb2
    clear hb1 hb2
    go_wp2_with fail
    refine (new_ok N _ hN1 (by omega)).mono ?_
    rintro e w3 ⟨g, F, rfl, hdev, hb3⟩
    have hb03 := below_call hb02 hb3
    have Hdev := Lib.hid hdev
    have Hb03 := Lib.hid hb03
    have hs02 := hb02.size
    clear hdev hb02 hb3 hb03
    go_wp2_with fail
    refine (size_any _ _ _ (newD N) _ Hdev.out).mono ?_
    rintro e w' ⟨rfl, rfl⟩
    rw [show (newD N).sure.length = N from List.length_replicate]
    go_wp2_with fail
    refine (refnew_any N w3 (by omega)).mono ?_
    rintro e w4 ⟨vx, rfl, hdx, hb4⟩
    obtain ⟨a1, d1, a2, d2, a3, d3, rfl, k1, k2, k3⟩ := hdx
    have hs34 := hb4.size
    obtain ⟨bx, hbx⟩ : ∃ bx, bx = w4.heap.size := ⟨_, rfl⟩
    have hbox : Blk (w4.alloc (.cells #[.slice a1 (newD N).sure.length d1, .slice a2 (newD N).loose.length d2, .int .i64 (newD N).left, .slice a3 (newD N).choice.kept.length d3, .int .i64 (newD N).choice.torn, .int .i64 (newD N).choice.half, .int .i64 ((newD N).changes : Int), .bool (newD N).off] 36)) bx 36 #[.slice a1 (newD N).sure.length d1, .slice a2 (newD N).loose.length d2, .int .i64 (newD N).left, .slice a3 (newD N).choice.kept.length d3, .int .i64 (newD N).choice.torn, .int .i64 (newD N).choice.half, .int .i64 ((newD N).changes : Int), .bool (newD N).off] := by rw [hbx]; exact Blk.new _ _ _
    have hbg : Below w3.heap.size w3 (w4.alloc (.cells #[.slice a1 (newD N).sure.length d1, .slice a2 (newD N).loose.length d2, .int .i64 (newD N).left, .slice a3 (newD N).choice.kept.length d3, .int .i64 (newD N).choice.torn, .int .i64 (newD N).choice.half, .int .i64 ((newD N).changes : Int), .bool (newD N).off] 36)) := hb4.alloc hb4.size _
    have hdg := Hdev.out.grow hbg
    have hnb : ¬ F bx := fun h => by have := (Hdev.out.low _ h).2; omega
    have hmv : ∀ q, w3.heap.size ≤ q → q < w4.heap.size → (¬ F q ∧ q ≠ bx) ∧ (w4.alloc (.cells #[.slice a1 (newD N).sure.length d1, .slice a2 (newD N).loose.length d2, .int .i64 (newD N).left, .slice a3 (newD N).choice.kept.length d3, .int .i64 (newD N).choice.torn, .int .i64 (newD N).choice.half, .int .i64 ((newD N).changes : Int), .bool (newD N).off] 36)).heap[q]? = w4.heap[q]? := fun q hq hlt => ⟨⟨fun h => by have := (Hdev.out.low _ h).2; omega, by omega⟩, ((Below.refl w4.heap.size w4).alloc (Nat.le_refl _) _).block q hlt⟩
    have hval : IsDev (w4.alloc (.cells #[.slice a1 (newD N).sure.length d1, .slice a2 (newD N).loose.length d2, .int .i64 (newD N).left, .slice a3 (newD N).choice.kept.length d3, .int .i64 (newD N).choice.torn, .int .i64 (newD N).choice.half, .int .i64 ((newD N).changes : Int), .bool (newD N).off] 36)) (fun q => ¬ F q ∧ q ≠ bx) (.agg #[.slice a1 (newD N).sure.length d1, .slice a2 (newD N).loose.length d2, .int .i64 (newD N).left, .slice a3 (newD N).choice.kept.length d3, .int .i64 (newD N).choice.torn, .int .i64 (newD N).choice.half, .int .i64 ((newD N).changes : Int), .bool (newD N).off]) (newD N) := ⟨a1, d1, a2, d2, a3, d3, rfl, k1.move hmv, k2.move hmv, k3.move hmv⟩
    have Hbox := Lib.hid hbox
    have Hdg := Lib.hid hdg
    have Hval := Lib.hid hval
    have Hnb := Lib.hid hnb
    have Hb04 := Lib.hid (below_call Hb03.out hbg)
    have hbxw : w3.heap.size ≤ bx := by omega
    clear hbox hbg hdg hnb hmv hval k1 k2 k3 hb4
    go_wp2_with fail
    rw [← hbx]
    go_loopw [41] (fun i wr => ∃ (m : Nat) (D : Dev) (G : Nat → Prop) (a1 : Option Addr) (d1 : Nat) (a2 : Option Addr) (d2 : Nat) (a3 : Option Addr) (d3 : Nat), m ≤ L.length ∧ i = .int .i64 (m : Int) ∧ D.Few m ∧ D.sure.length = N ∧ DevAt wr w2.heap.size G g D ∧ ¬ G bx ∧ Blk wr bx 36 #[.slice a1 D.sure.length d1, .slice a2 D.loose.length d2, .int .i64 D.left, .slice a3 D.choice.kept.length d3, .int .i64 D.choice.torn, .int .i64 D.choice.half, .int .i64 (D.changes : Int), .bool D.off] ∧ IsDev wr (fun q => ¬ G q ∧ q ≠ bx) (.agg #[.slice a1 D.sure.length d1, .slice a2 D.loose.length d2, .int .i64 D.left, .slice a3 D.choice.kept.length d3, .int .i64 D.choice.torn, .int .i64 D.choice.half, .int .i64 (D.changes : Int), .bool D.off]) D ∧ Below w.heap.size w wr) (fun i _ => L.length - (intOf i).toNat)
    case atStart => exact ⟨0, newD N, F, a1, d1, a2, d2, a3, d3, by omega, rfl, newD_few _ _, List.length_replicate, Hdg.out, Hnb.out, Hbox.out, Hval.out, Hb04.out⟩
    case round =>
      clear Hbox Hdg Hval Hnb Hb04 hbx
      obtain ⟨m, D, G, a1, d1, a2, d2, a3, d3, hm1, rfl, hfew, hlen, hdv, hnb, hbox, hval, hbw⟩ := hrel
      have y0 := hbox.cell 0
      have y1 := hbox.cell 1
      have y2 := hbox.cell 2
      have y3 := hbox.cell 3
      have y4 := hbox.cell 4
      have y5 := hbox.cell 5
      have y6 := hbox.cell 6
      have y7 := hbox.cell 7
      have yf7 := hbox.frozen 7
      simp at y0 y1 y2 y3 y4 y5 y6 y7
      have hbl := hbox.lt
      have hdl := hdv.low
      have Hfew := Lib.hid hfew
      have Hlen := Lib.hid hlen
      have Hdv := Lib.hid hdv
      have Hnb := Lib.hid hnb
      have Hbox := Lib.hid hbox
      have Hval := Lib.hid hval
      have Hbw := Lib.hid hbw
      have Hdl := Lib.hid hdl
      have hs2 : w2.heap.size ≤ wr.heap.size := Hdv.out.size
      clear hfew hlen hdv hnb hbox hval hbw hdl
      by_cases hlt : m < L.length
      · obtain ⟨b, off, rfl, hbw0, _, hcells⟩ := Hel.out (by intro e; rw [e] at hlt; simp at hlt)
        obtain ⟨Ak, nk, c0, c1, c2, c3, c4, c5, c6, c7, hkL, hkk, hka, hsl⟩ := hcells m hlt
        have d0 := (Hbw.out.cell (p := ⟨b, off + m * 8, none⟩) hbw0).trans c0
        have d1' := (Hbw.out.cell (p := ⟨b, off + m * 8 + 1, none⟩) hbw0).trans c1
        have d2' := (Hbw.out.cell (p := ⟨b, off + m * 8 + 2, none⟩) hbw0).trans c2
        have d3' := (Hbw.out.cell (p := ⟨b, off + m * 8 + 3, none⟩) hbw0).trans c3
        have d4 := (Hbw.out.cell (p := ⟨b, off + m * 8 + 4, none⟩) hbw0).trans c4
        have d5 := (Hbw.out.cell (p := ⟨b, off + m * 8 + 5, none⟩) hbw0).trans c5
        have d6 := (Hbw.out.cell (p := ⟨b, off + m * 8 + 6, none⟩) hbw0).trans c6
        have d7 := (Hbw.out.cell (p := ⟨b, off + m * 8 + 7, none⟩) hbw0).trans c7
        have hk70 := (Hop.out _ (List.getElem_mem hlt)).2
        have hbO : Below wr.heap.size wr (wr.alloc (.cells #[.int .i64 L[m].kind, .int .i64 L[m].at_, .int .u8 (L[m].c.toNat : Int), str L[m].s, .bool L[m].long, .slice Ak L[m].choice.kept.length nk, .int .i64 L[m].choice.torn, .int .i64 L[m].choice.half] 39)) := (Below.refl _ _).alloc (Nat.le_refl _) _
        have hkw : IsL (kInt .i64) (wr.alloc (.cells #[.int .i64 L[m].kind, .int .i64 L[m].at_, .int .u8 (L[m].c.toNat : Int), str L[m].s, .bool L[m].long, .slice Ak L[m].choice.kept.length nk, .int .i64 L[m].choice.torn, .int .i64 L[m].choice.half] 39)) (fun q => ¬ G q ∧ q ≠ bx) (.slice Ak L[m].choice.kept.length nk) L[m].choice.kept := hkL.move fun q hq hlt => ⟨⟨fun h => by have := (Hdl.out q h).1; omega, by have := Hb03.out.size; omega⟩, (hbO.block q (Nat.lt_of_lt_of_le hlt Hbw.out.size)).trans (Hbw.out.block q hlt)⟩
        have hstep := step_any w2.heap.size G g D (.agg #[.slice a1 D.sure.length d1, .slice a2 D.loose.length d2, .int .i64 D.left, .slice a3 D.choice.kept.length d3, .int .i64 D.choice.torn, .int .i64 D.choice.half, .int .i64 (D.changes : Int), .bool D.off]) L[m] Ak nk (fun q => q ≠ bx) (wr.alloc (.cells #[.int .i64 L[m].kind, .int .i64 L[m].at_, .int .u8 (L[m].c.toNat : Int), str L[m].s, .bool L[m].long, .slice Ak L[m].choice.kept.length nk, .int .i64 L[m].choice.torn, .int .i64 L[m].choice.half] 39)) (Hdv.out.grow hbO) (Hval.out.grow hbO) hkw ⟨by have := Hfew.out.1; omega, by have := Hfew.out.2; omega⟩ hka hk70
        have Hstep := Lib.hid hstep
        have HboxO := Lib.hid (Hbox.out.grow hbO)
        have HbwO := Lib.hid (below_call Hbw.out hbO)
        have hszO : (wr.alloc (.cells #[.int .i64 L[m].kind, .int .i64 L[m].at_, .int .u8 (L[m].c.toNat : Int), str L[m].s, .bool L[m].long, .slice Ak L[m].choice.kept.length nk, .int .i64 L[m].choice.torn, .int .i64 L[m].choice.half] 39)).heap.size = wr.heap.size + 1 := by simp
        have HszO := Lib.hid hszO
        clear hcells c0 c1 c2 c3 c4 c5 c6 c7 hkL hbO hkw hstep hszO hsl hka hkk
        go_wp2_with fail
        refine Hstep.out.mono ?_
        rintro e w5 ⟨v5, rfl, G5, hd5, hv5, hf5⟩
        obtain ⟨D5, hD5⟩ : ∃ D5, D5 = stepD D L[m] := ⟨_, rfl⟩
        have hl5 : D5.sure.length = N := by rw [hD5, stepD_length]; exact Hlen.out
        have hfew5 : D5.Few (m + 1) := by rw [hD5]; exact stepD_few Hfew.out _
        rw [← hD5] at hd5 hv5
        have Hl5 := Lib.hid hl5
        have Hfew5 := Lib.hid hfew5
        clear hl5 hfew5
        obtain ⟨b1, e1, b2, e2, b3, e3, rfl, k1, k2, k3⟩ := hv5
        have hgb := hf5.block bx HboxO.out.lt Hnb.out
        have hbox5 := HboxO.out.keep hgb.2
        have hb5 : Below w5.heap.size w5 (w5.alloc (.cells #[.slice b1 D5.sure.length e1, .slice b2 D5.loose.length e2, .int .i64 D5.left, .slice b3 D5.choice.kept.length e3, .int .i64 D5.choice.torn, .int .i64 D5.choice.half, .int .i64 (D5.changes : Int), .bool D5.off] 36)) := (Below.refl _ _).alloc (Nat.le_refl _) _
        have hbox6 := hbox5.grow hb5
        have hd6 := hd5.grow hb5
        have hbw5 : Below w.heap.size w w5 := HbwO.out.trans (hf5.below (fun q hq => by have := (Hdl.out q hq).1; omega) HbwO.out.size)
        have hbw6 := below_call hbw5 hb5
        have hmv : ∀ q, (¬ G5 q ∧ (q < (wr.alloc (.cells #[.int .i64 L[m].kind, .int .i64 L[m].at_, .int .u8 (L[m].c.toNat : Int), str L[m].s, .bool L[m].long, .slice Ak L[m].choice.kept.length nk, .int .i64 L[m].choice.torn, .int .i64 L[m].choice.half] 39)).heap.size → q ≠ bx)) → q < w5.heap.size → (¬ G5 q ∧ q ≠ bx) ∧ (w5.alloc (.cells #[.slice b1 D5.sure.length e1, .slice b2 D5.loose.length e2, .int .i64 D5.left, .slice b3 D5.choice.kept.length e3, .int .i64 D5.choice.torn, .int .i64 D5.choice.half, .int .i64 (D5.changes : Int), .bool D5.off] 36)).heap[q]? = w5.heap[q]? := fun q hq hlt => ⟨⟨hq.1, fun e => hq.2 (by rw [e, HszO.out]; omega) e⟩, hb5.block q hlt⟩
        have Hbox6 := Lib.hid hbox6
        have Hd6 := Lib.hid hd6
        have Hbw6 := Lib.hid hbw6
        have Hgb := Lib.hid hgb.1
        have K1 := Lib.hid (k1.move hmv)
        have K2 := Lib.hid (k2.move hmv)
        have K3 := Lib.hid (k3.move hmv)
        clear hbox5 hbox6 hd6 hbw5 hbw6 hgb k1 k2 k3 hb5 hd5 hf5 hmv hD5 Hstep
        go_wp2_with (with_reducible refine wpList_store_fr (op := ⟨none, .store 36 (.tmp 7) (.tmp 52), _, _, _, _⟩) rfl _ _ _ rfl bx 36 [.slice a1 D.sure.length d1, .slice a2 D.loose.length d2, .int .i64 D.left, .slice a3 D.choice.kept.length d3, .int .i64 D.choice.torn, .int .i64 D.choice.half, .int .i64 (D.changes : Int), .bool D.off] [.slice b1 D5.sure.length e1, .slice b2 D5.loose.length e2, .int .i64 D5.left, .slice b3 D5.choice.kept.length e3, .int .i64 D5.choice.torn, .int .i64 D5.choice.half, .int .i64 (D5.changes : Int), .bool D5.off] rfl rfl Hbox6.out rfl (by kernel_rfl) (by simp [Value.oneCell']) ?_; intro w9 hblk9 hfr9)
        have hd9 := Hd6.out.keep (fun q hq => (hfr9.block q (Hd6.out.low q hq).2 (fun (e : q = bx) => Hgb.out (e ▸ hq))).2) hfr9.size
        have hmv : ∀ q, (¬ G5 q ∧ q ≠ bx) → q < (w5.alloc (.cells #[.slice b1 D5.sure.length e1, .slice b2 D5.loose.length e2, .int .i64 D5.left, .slice b3 D5.choice.kept.length e3, .int .i64 D5.choice.torn, .int .i64 D5.choice.half, .int .i64 (D5.changes : Int), .bool D5.off] 36)).heap.size → (¬ G5 q ∧ q ≠ bx) ∧ w9.heap[q]? = (w5.alloc (.cells #[.slice b1 D5.sure.length e1, .slice b2 D5.loose.length e2, .int .i64 D5.left, .slice b3 D5.choice.kept.length e3, .int .i64 D5.choice.torn, .int .i64 D5.choice.half, .int .i64 (D5.changes : Int), .bool D5.off] 36)).heap[q]? := fun q hq hlt => ⟨hq, (hfr9.block q hlt hq.2).2⟩
        have hval9 : IsDev w9 (fun q => ¬ G5 q ∧ q ≠ bx) (.agg #[.slice b1 D5.sure.length e1, .slice b2 D5.loose.length e2, .int .i64 D5.left, .slice b3 D5.choice.kept.length e3, .int .i64 D5.choice.torn, .int .i64 D5.choice.half, .int .i64 (D5.changes : Int), .bool D5.off]) D5 := ⟨b1, e1, b2, e2, b3, e3, rfl, K1.out.move hmv, K2.out.move hmv, K3.out.move hmv⟩
        have hbw9 := Hbw6.out.trans (hfr9.below (B := w.heap.size) (fun q (hq : q = bx) => by have := Hb03.out.size; omega) Hbw6.out.size)
        have x1 := hblk9.cell 1
        have x6 := hblk9.cell 6
        have x7 := hblk9.cell 7
        simp at x1 x6 x7
        have x1d : w9.drew.cell? ⟨bx, 1, none⟩ = _ := x1
        have x6d : w9.drew.cell? ⟨bx, 6, none⟩ = _ := x6
        have x7d : w9.drew.cell? ⟨bx, 7, none⟩ = _ := x7
        have hd9d : DevAt w9.drew w2.heap.size G5 g D5 := hd9.keep (fun _ _ => rfl) (Nat.le_refl _)
        have Hd9d := Lib.hid hd9d
        have Hblk9 := Lib.hid hblk9
        have Hval9 := Lib.hid hval9
        have Hbw9 := Lib.hid hbw9
        clear hfr9 hmv hval9 hbw9 hblk9 K1 K2 K3 Hbox6 Hd6 Hbw6
        go_wp2_with fail
        go_region_held3 (fun u => DevAt u w2.heap.size G5 g D5 ∧ u.cell? ⟨bx, 1, none⟩ = some (.slice b2 D5.loose.length e2) ∧ u.cell? ⟨bx, 6, none⟩ = some (.int .i64 (D5.changes : Int)) ∧ u.cell? ⟨bx, 7, none⟩ = some (.bool D5.off))
          (first | (with_reducible exact ⟨hd9d, x1d, x6d, x7d⟩) | (with_reducible assumption))
          (first
            | (go_at_call 15; refine (off_any _ _ _ D5 _ (And.left (by assumption))).mono ?_; rintro e wq ⟨rfl, rfl⟩)
            | (go_at_call 16; refine (loose_any _ _ _ D5 _ (And.left (by assumption))).mono ?_; rintro e wq ⟨rfl, rfl⟩)
            | (go_at_call 17; refine (changes_any _ _ _ D5 _ (And.left (by assumption))).mono ?_; rintro e wq ⟨rfl, rfl⟩))
        go_wp2_with fail
        go_roundw
        case rel => exact ⟨m + 1, D5, G5, b1, e1, b2, e2, b3, e3, by omega, by go_num, Hfew5.out, Hl5.out, Hd9d.out, Hgb.out, Hblk9.out.drew, Hval9.out.frame (fun _ _ _ => rfl), Hbw9.out.drew⟩
        case measure => simp [intOf]; omega
      · obtain rfl : m = L.length := by omega
        obtain ⟨wa, rfl⟩ : ∃ x, x = wr := ⟨wr, rfl⟩
        go_wp2_with fail
        refine (on_any _ G g D wa Hdv.out).mono ?_
        rintro e w5 ⟨rfl, hd5, hf5⟩
        have hgb := hf5.block bx Hbox.out.lt Hnb.out
        have hbox5 := Hbox.out.keep hgb.2
        have hbw5 : Below w.heap.size w w5 := Hbw.out.trans (hf5.below (fun q hq => by have := (Hdl.out q hq).1; omega) Hbw.out.size)
        have hst : ∀ q, q ≠ bx → (w5.setCell ⟨bx, 7, none⟩ (.bool false)).heap[q]? = w5.heap[q]? := fun q hq => Below.heap_setCell _ _ _ _ hq
        have hbox6 := hbox5.set_ 7 (.bool false)
        have hbox6' : Blk (w5.setCell ⟨bx, 7, none⟩ (.bool false)) bx 36 #[.slice a1 D.sure.length d1, .slice a2 D.loose.length d2, .int .i64 D.left, .slice a3 D.choice.kept.length d3, .int .i64 D.choice.torn, .int .i64 D.choice.half, .int .i64 (D.changes : Int), .bool false] := by simpa using hbox6
        have hd6 := hd5.keep (w' := w5.setCell ⟨bx, 7, none⟩ (.bool false)) (fun q hq => hst q (fun e => Hnb.out (e ▸ hq))) (by simp [World.setCell])
        obtain ⟨_, _, _, _, _, _, ev, k1, k2, k3⟩ := Hval.out
        cases ev
        have hmv : ∀ q, (¬ G q ∧ q ≠ bx) → q < wa.heap.size → (¬ G q ∧ q ≠ bx) ∧ (w5.setCell ⟨bx, 7, none⟩ (.bool false)).heap[q]? = wa.heap[q]? := fun q hq hlt => ⟨hq, (hst q hq.2).trans (hf5.block q hlt hq.1).2⟩
        have hval6 : IsDev (w5.setCell ⟨bx, 7, none⟩ (.bool false)) (fun q => ¬ G q ∧ q ≠ bx) (.agg #[.slice a1 D.sure.length d1, .slice a2 D.loose.length d2, .int .i64 D.left, .slice a3 D.choice.kept.length d3, .int .i64 D.choice.torn, .int .i64 D.choice.half, .int .i64 (D.changes : Int), .bool false]) ({ D with off := false } : Dev) := ⟨a1, d1, a2, d2, a3, d3, rfl, k1.move hmv, k2.move hmv, k3.move hmv⟩
        have hbw6 := hbw5.setCell (p := ⟨bx, 7, none⟩) (by have := Hb03.out.size; show w.heap.size ≤ bx; omega) (.bool false)
        have z7 := hbox5.cell 7
        have zf7 := hbox5.frozen 7
        simp at z7
        have hwfD := hd5.wf
        have Hbox6 := Lib.hid hbox6'
        have Hd6 := Lib.hid hd6
        have Hval6 := Lib.hid hval6
        have Hbw6 := Lib.hid hbw6
        have HwfD := Lib.hid hwfD
        clear hgb hbox5 hbw5 hst hbox6 hbox6' hd6 k1 k2 k3 hmv hval6 hbw6 hd5 hf5 y0 y1 y2 y3 y4 y5 y6 y7 yf7 hwfD
        go_wp2_with fail
        obtain ⟨w6, hw6⟩ : ∃ x, x = w5.setCell ⟨bx, 7, none⟩ (.bool false) := ⟨_, rfl⟩
        rw [← hw6] at Hbox6 Hd6 Hval6 Hbw6 ⊢
        clear hw6 z7 zf7
        go_loopw [82] (fun i wr => ∃ q : Nat, q ≤ N ∧ i = .int .i64 (q : Int) ∧ Below w6.heap.size w6 wr) (fun i _ => N - (intOf i).toNat)
        case atStart => exact ⟨0, by omega, rfl, Below.refl _ _⟩
        case round =>
          obtain ⟨q, hq, rfl, hb6⟩ := hrel
          have Hb6 := Lib.hid hb6
          clear hb6
          by_cases hlt : q < N
          · have hbx6 := Hbox6.out.grow Hb6.out
            have y0 := hbx6.cell 0
            have y1 := hbx6.cell 1
            have y2 := hbx6.cell 2
            have y3 := hbx6.cell 3
            have y4 := hbx6.cell 4
            have y5 := hbx6.cell 5
            have y6 := hbx6.cell 6
            have y7 := hbx6.cell 7
            simp at y0 y1 y2 y3 y4 y5 y6 y7
            have hd7 := Hd6.out.grow Hb6.out
            have hqs : q < ({ D with off := false } : Dev).sure.length := by show q < D.sure.length; rw [Hlen.out]; exact hlt
            have hnow := fun (u : World) (hu : Below w6.heap.size w6 u) => now_any _ _ ({ D with off := false } : Dev) q u (Hval6.out.grow hu) hqs
            have hxl := now_length HwfD.out q hqs
            obtain ⟨X, hX⟩ : ∃ X, X = ({ D with off := false } : Dev).now q := ⟨_, rfl⟩
            have hy : ({ D with off := false } : Dev).why (q : Int) = 0 := by
              unfold Dev.why
              show (if false = true then _ else if _ ∨ (D.sure.length : Int) ≤ _ then _ else _) = _
              rw [Hlen.out, if_neg (by decide), if_neg (by omega)]
            have Hd7 := Lib.hid hd7
            have Hnow := Lib.hid hnow
            have Hxl := Lib.hid hxl
            have HX := Lib.hid hX
            clear hbx6 hd7 hnow hxl hX
            go_wp2_with fail
            refine (read_any _ G g ({ D with off := false } : Dev) (q : Int) _ Hd7.out).mono ?_
            rintro e w7 hrd
            rcases hrd with ⟨hno, _⟩ | ⟨_, vb, rfl, hob, hb7⟩
            · exact absurd hy hno
            rw [show ((q : Int)).toNat = q from rfl, ← HX.out] at hob
            obtain ⟨A9, c9, hv9, _, _, _⟩ := hob.form
            rw [List.length_map, HX.out, Hxl.out] at hv9
            subst hv9
            have hB9 := hob.isB
            have u0 := cell_then hb7 y0
            have u1 := cell_then hb7 y1
            have u2 := cell_then hb7 y2
            have u3 := cell_then hb7 y3
            have u4' := cell_then hb7 y4
            have u5 := cell_then hb7 y5
            have u6 := cell_then hb7 y6
            have u7 := cell_then hb7 y7
            have HB9 := Lib.hid hB9
            have Hb67 := Lib.hid (below_call Hb6.out hb7)
            have hcv9 : ∀ z, Below w7.heap.size w7 z → (convert 42 9 (.slice A9 256 c9)).run Try.prog z = .ok (str X) z := fun z hz => conv_is (HB9.out.grow hz)
            clear hob hB9 hb7 y0 y1 y2 y3 y4 y5 y6 y7 hy
            go_wp2_with fail
            go_region_held3 (fun u => Below w7.heap.size w7 u ∧ u.cell? ⟨bx, 0, none⟩ = some (.slice a1 D.sure.length d1) ∧ u.cell? ⟨bx, 1, none⟩ = some (.slice a2 D.loose.length d2) ∧ u.cell? ⟨bx, 2, none⟩ = some (.int .i64 D.left) ∧ u.cell? ⟨bx, 3, none⟩ = some (.slice a3 D.choice.kept.length d3) ∧ u.cell? ⟨bx, 4, none⟩ = some (.int .i64 D.choice.torn) ∧ u.cell? ⟨bx, 5, none⟩ = some (.int .i64 D.choice.half) ∧ u.cell? ⟨bx, 6, none⟩ = some (.int .i64 (D.changes : Int)) ∧ u.cell? ⟨bx, 7, none⟩ = some (.bool false))
              (first | exact ⟨(Below.refl _ _).drew, u0, u1, u2, u3, u4', u5, u6, u7⟩ | (go_split_ands; exact ⟨below_on (by assumption) hb8, cell_then hb8 (by assumption), cell_then hb8 (by assumption), cell_then hb8 (by assumption), cell_then hb8 (by assumption), cell_then hb8 (by assumption), cell_then hb8 (by assumption), cell_then hb8 (by assumption), cell_then hb8 (by assumption)⟩) | assumption)
              ((go_at_call 20; refine (Hnow.out _ (below_call Hb67.out (And.left (by assumption)))).mono ?_; rintro e w8 ⟨rfl, hb8⟩; rw [← HX.out]))
            have hb78 := below_drew_then hb8
            clear hcv9 u0 u1 u2 u3 u4' u5 u6 u7 hb8
            go_wp2_with fail
            go_roundw
            case rel => exact ⟨q + 1, by omega, by go_num, below_call Hb67.out hb78⟩
            case measure => simp [intOf]; omega
          · obtain rfl : q = N := by omega
            go_wp2
            go_ret
            exact ⟨rfl, Hbw6.out.trans (Hb6.out.mono Hbw6.out.size)⟩
end Go.Proofs.Ytffmnhjkfeoofaa
