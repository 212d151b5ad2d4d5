/-
  wardshiplaw05.like, walked: it answers true where the list is what the Keep shows.
-/
import Derived.Test.YtdmbmkjiffhbcaaGreatKLike
namespace Go.Proofs.YtdmbmkjiffhbcaaGreat
open Go.RowKit
set_option maxRecDepth 100000

theorem str_ne {a b : List UInt8} (h : a ≠ b) : ((⟨a.toArray⟩ : ByteArray).toList == (⟨b.toArray⟩ : ByteArray).toList) = false := by
  rw [beq_eq_false_iff_ne]
  intro e
  rw [ByteArray.toList_eq, ByteArray.toList_eq] at e
  exact h e
set_option maxHeartbeats 2000000 in
theorem like_any (F ok : Nat → Prop) (kb n : Nat) (G : Nat → Option (List UInt8)) (v : Value) (L : PairL) (w : World) (h : KSees w F kb n G) (hn : n ≤ 1099511627776) (hGl : ∀ k l, k < 18446744073709551616 → G k = some l → l.length ≤ 65535) (hL : IsL kPairR w ok v L) :
    Calls Tryz.prog 16 #[.pointer (some ⟨kb, 0, none⟩), v] w fun e w' => (∃ B, e = .returned (.bool B) ∧ (RepL G L → B = true)) ∧ Below w.heap.size w w' := by
  obtain ⟨A, c, rfl, hLc, hcm, hcells⟩ := pairR_at hL
  unfold maxLen at hcm
  have Hks := Lib.hid (sees_keys h hn)
  have Hc := Lib.hid hcells
  have Hget := Lib.hid (fun (z : World) (hz : Below w.heap.size w z) (key : Nat) (hk : key < 18446744073709551616) => sees_get (h.grow hz) key hk (fun l hl => by have := hGl key l hk hl; omega))
  clear hL hcells h
  go_enter Tryz.func16, Tryz.ntmps16
  go_wp2_with fail
  refine Hks.out.mono ?_
  rintro e w1 ⟨⟨vy, ys, rfl, hys, hyl, hown⟩, hb1⟩
  obtain ⟨Ay, cy, hvy, hyc, hym, hrd⟩ := hown.form
  have hownb : ∀ q, vy.ownBlock = some q → q < w1.heap.size := fun q hq => (hown.lt q hq).2
  rw [List.length_map] at hvy hyc
  unfold maxLen at hym
  have hrow : ∀ k (hk : k < ys.length), ∃ q off, Ay = some ⟨q, off, none⟩ ∧ q < w1.heap.size ∧ w1.cell? ⟨q, off + k, none⟩ = some (.int .u64 (ys[k] : Int)) := fun k hk => by
    obtain ⟨q, off, e, ho, hl, hc⟩ := hrd.at' (by intro h; rw [List.map_eq_nil_iff] at h; rw [h] at hk; simp at hk)
    refine ⟨q, off, e, hl, ?_⟩
    rw [hc k (by rw [List.length_map]; exact hk), List.getElem_map]
    rfl
  subst hvy
  have hRep : RepL G L → ys = L.map (·.1) := fun hr => hr.keys ys hys.1 hys.2
  have Hrow := Lib.hid hrow
  have HRep := Lib.hid hRep
  have Hb1 := Lib.hid hb1
  have hs1 := hb1.size
  clear hown hrd hownb hrow hRep hb1 hys Hks
  by_cases hlen : ys.length = L.length
  case neg =>
    have e1 : ((ys.length : Int) != (L.length : Int)) = true := by rw [bne_iff_ne]; omega
    go_wp2_with fail
    go_ret
    exact ⟨⟨false, rfl, fun hr => absurd (by rw [HRep.out hr, List.length_map]) hlen⟩, Hb1.out⟩
  case pos =>
    have e1 : ((ys.length : Int) != (L.length : Int)) = false := by rw [bne_eq_false_iff_eq]; omega
    go_wp2_with fail
    clear e1
    go_loopw [19] (fun i wr => ∃ k : Nat, k ≤ L.length ∧ i = .int .i64 (k : Int) ∧ Below w1.heap.size w1 wr) (fun i _ => L.length - (intOf i).toNat)
    case atStart => exact ⟨0, by omega, rfl, Below.refl _ _⟩
    case round =>
      obtain ⟨k, hk, rfl, hbel⟩ := hrel
      have Hbel := Lib.hid hbel
      have hws := hbel.size
      clear hbel
      by_cases hlt : k < L.length
      · obtain ⟨b, off, rfl, hokb, hbl, hcell⟩ := Hc.out (by intro e; subst e; simp at hlt)
        obtain ⟨q0, q1, hpk⟩ := hcell k hlt
        obtain ⟨q, offy, rfl, hq1, hqc⟩ := Hrow.out k (by omega)
        have hb0 := below_call Hb1.out Hbel.out
        have c0 := (hb0.cell (p := ⟨b, off + k * 2, none⟩) hbl).trans q0
        have c1 := (hb0.cell (p := ⟨b, off + k * 2 + 1, none⟩) hbl).trans q1
        have y0 := (Hbel.out.cell (p := ⟨q, offy + k, none⟩) hq1).trans hqc
        obtain ⟨yk, hyk⟩ : ∃ yk, yk = ys[k] := ⟨_, rfl⟩
        rw [← hyk] at y0 hqc
        have Y1 := Lib.hid hqc
        have hR1 : RepL G L → yk = L[k].1 ∧ G L[k].1 = some L[k].2 := fun hr => by
          refine ⟨?_, (hr.holds _ _ (hr.most _ (List.getElem_mem hlt))).2 (List.getElem_mem hlt)⟩
          have h1 : ys[k]? = (L.map (·.1))[k]? := by rw [HRep.out hr]
          rw [List.getElem?_map, List.getElem?_eq_getElem hlt, List.getElem?_eq_getElem (by omega)] at h1
          injection h1 with h1
          rw [hyk, h1]
        generalize L[k] = p at c0 c1 hpk hR1
        obtain ⟨pk, pv⟩ := p
        dsimp only at c0 c1 hpk hR1
        obtain ⟨W, hW⟩ : ∃ W, W = wr.alloc (.cells #[.int .u64 (pk : Int), str pv] 87) := ⟨_, rfl⟩
        have hbW : Below wr.heap.size wr W := by rw [hW]; exact (Below.refl _ _).alloc (Nat.le_refl _) _
        have hBk : Blk W wr.heap.size 87 #[.int .u64 (pk : Int), str pv] := by rw [hW]; exact Blk.new _ _ _
        have hget := Hget.out W (below_call hb0 hbW) pk hpk
        have HR1 := Lib.hid hR1
        have Hgt := Lib.hid hget
        have HbW := Lib.hid (below_call Hbel.out hbW)
        have HBk := Lib.hid hBk
        have HW := Lib.hid hW
        have Hy0 := Lib.hid y0
        have hqw : q < wr.heap.size := by omega
        have hi1 : (k : Int) < (ys.length : Int) := by omega
        obtain ⟨g2, hg2⟩ : ∃ g2, g2 = G pk := ⟨_, rfl⟩
        rw [← hg2] at Hgt HR1
        have p0 := hBk.cell 0
        have p1 := hBk.cell 1
        simp only [List.getElem?_toArray, List.getElem?_cons_zero, List.getElem?_cons_succ] at p0 p1
        have hBs : wr.heap.size < W.heap.size := hBk.lt
        have P0 := Lib.hid p0
        have P1 := Lib.hid p1
        clear hcell q0 q1 hqc hyk hb0 hR1 hget hbW hBk hW hg2 y0 p0 p1
        go_upto_region 7 with fail
        rw [← HW.out]
        have p0 := P0.out
        go_wp2_with fail
        refine Hgt.out.mono ?_
        rintro e w3 ⟨⟨v3, rfl, hown3⟩, hb3⟩
        obtain ⟨A3, c3, hv3, _⟩ := hown3.form
        rw [List.length_map] at hv3
        subst hv3
        have hB3 := hown3.isB
        have hcv : ∀ m, (convert 47 9 (.slice A3 (g2.getD []).length c3)).run Tryz.prog (w3.drewN m) = .ok (str (g2.getD [])) (w3.drewN m) := fun m => conv_is (hB3.drewN m)
        have d0 : w3.cell? ⟨wr.heap.size, 0, none⟩ = some (.int .u64 (pk : Int)) := (hb3.cell (p := ⟨wr.heap.size, 0, none⟩) hBs).trans P0.out
        have d1 : w3.cell? ⟨wr.heap.size, 1, none⟩ = some (str pv) := (hb3.cell (p := ⟨wr.heap.size, 1, none⟩) hBs).trans P1.out
        have y3 : w3.cell? ⟨q, offy + k, none⟩ = some (.int .u64 (yk : Int)) := (hb3.cell (p := ⟨q, offy + k, none⟩) (show q < W.heap.size by omega)).trans (((HbW.out).cell (p := ⟨q, offy + k, none⟩) hq1).trans Y1.out)
        have Hb3 := Lib.hid (below_call HbW.out hb3)
        clear hown3 hB3 hb3 p0
        by_cases hyp : yk = pk
        case neg =>
          have e1 : ((yk : Int) != (pk : Int)) = true := by rw [bne_iff_ne]; omega
          go_upto_region 8 with fail
          go_quiet (fail)
          go_wp2_with fail
          go_ret
          exact ⟨⟨false, rfl, fun hr => absurd (HR1.out hr).1 hyp⟩, below_drewN (below_call Hb1.out Hb3.out) _⟩
        case pos =>
          subst hyp
          have e1 : ((yk : Int) != (yk : Int)) = false := bne_self_eq_false _
          cases g2 with
          | none =>
            go_upto_region 8 with fail
            go_quiet (fail)
            go_wp2_with fail
            go_ret
            exact ⟨⟨false, rfl, fun hr => by have := (HR1.out hr).2; cases this⟩, below_drewN (below_call Hb1.out Hb3.out) _⟩
          | some l =>
            simp only [Option.getD_some] at hcv
            by_cases hl : l = pv
            · subst hl
              go_upto_region 8 with fail
              go_quiet (fail)
              go_wp2_with fail
              all_goals exact ⟨⟨k + 1, by omega, by go_num, below_drewN Hb3.out _⟩, by simp [intOf]; omega⟩
            · have e3 : (l == pv) = false := beq_eq_false_iff_ne.2 hl
              go_upto_region 8 with fail
              go_quiet (fail)
              go_wp2_with fail
              go_ret
              exact ⟨⟨false, rfl, fun hr => by have := (HR1.out hr).2; injection this with this; exact absurd this hl⟩, below_drewN (below_call Hb1.out Hb3.out) _⟩
      · obtain rfl : k = L.length := by omega
        go_wp2_with fail
        go_ret
        exact ⟨⟨true, rfl, fun _ => rfl⟩, below_call Hb1.out Hbel.out⟩
end Go.Proofs.YtdmbmkjiffhbcaaGreat
