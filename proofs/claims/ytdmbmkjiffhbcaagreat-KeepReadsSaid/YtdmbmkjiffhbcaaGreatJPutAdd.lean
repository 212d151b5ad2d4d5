/-
  (*journal.Journal).put.
  Add and Replace.
-/
import Derived.Test.YtdmbmkjiffhbcaaGreatJUnPrep
import Derived.Test.YtdmbmkjiffhbcaaGreatJStore
namespace Go.Proofs.YtdmbmkjiffhbcaaGreat
open Go.RowKit
set_option maxRecDepth 100000

/-- Journal and device behind a call. -/
def JPost (base : Nat) (G : Nat → Prop) (j g : Nat) (w : World) (R : (JM × Dev) × Int) (e : Ending) (w' : World) : Prop :=
  e = .returned (.int .i64 R.2) ∧ ∃ G', DevAt w' base G' g R.1.2 ∧ JAt w' j g R.1.1 ∧ ¬ G' j ∧ Fr (fun k => G k ∨ k = j) (fun k => G' k ∨ k = j) w w'

theorem JAt.blk {w : World} {j g : Nat} {J : JM} (h : JAt w j g J) : Blk w j 98 #[.pointer (some ⟨g, 0, none⟩), .int .u64 (J.number : Int), .int .i64 (J.side : Int), .int .i64 (J.used : Int), .int .i64 (J.count : Int), .bool J.broken] := h
theorem Fr.or_ {F F' : Nat → Prop} {w w' : World} (h : Fr F F' w w') (j : Nat) : Fr (fun k => F k ∨ k = j) (fun k => F' k ∨ k = j) w w' :=
  ⟨h.os, h.tape, h.output, h.size, fun k hk hF => by
    obtain ⟨h1, h2⟩ := h.block k hk fun h => hF (.inl h)
    exact ⟨fun h => h.elim h1 fun e => hF (.inr e), h2⟩⟩
theorem DevAt.setFar {w : World} {base : Nat} {F : Nat → Prop} {g : Nat} {D : Dev} (h : DevAt w base F g D) {p : Addr} (hp : ¬ F p.block) (u : Value) : DevAt (w.setCell p u) base F g D :=
  h.keep (fun k hk => Below.heap_setCell _ _ _ _ (fun e => hp (e ▸ hk))) (by simp [World.setCell])

set_option maxHeartbeats 1000000 in
theorem jput_any (base : Nat) (G ok : Nat → Prop) (j g : Nat) (J : JM) (D : Dev) (n s u cnt : Nat) (v : Value) (L : List (List UInt8)) (w : World) (hs : s ≤ 1) (hu : u ≤ sideN D * 256) (hnum : n ≤ 4611686018427387904) (hcnt : cnt ≤ 2199023255552) (h6 : 6 ≤ D.sure.length) (hfew : D.Few 900000)
    (hd : DevAt w base G g D) (hj : JAt w j g J) (hn : ¬ G j) (hv : IsBB w ok v L) (hlong : ∀ r ∈ L, r.length ≤ 65531) :
    Calls Tryz.prog 38 #[.pointer (some ⟨j, 0, none⟩), vTally (n, s, u), .int .i64 (cnt : Int), v] w (JPost base G j g w (putJ J D n s u cnt L)) := by
  have hb0 : Below w.heap.size w (w.alloc (.cells #[.int .u64 (n : Int), .int .i64 (s : Int), .int .i64 (u : Int)] 90)) := (Below.refl _ _).alloc (Nat.le_refl _) _
  have hB0 : Blk (w.alloc (.cells #[.int .u64 (n : Int), .int .i64 (s : Int), .int .i64 (u : Int)] 90)) w.heap.size 90 #[.int .u64 (n : Int), .int .i64 (s : Int), .int .i64 (u : Int)] := Blk.new _ _ _
  obtain ⟨W, hW⟩ : ∃ W, W = w.alloc (.cells #[.int .u64 (n : Int), .int .i64 (s : Int), .int .i64 (u : Int)] 90) := ⟨_, rfl⟩
  rw [← hW] at hb0 hB0
  have hsn := sideN_le D hd.lens.2
  have HW := Lib.hid hW
  have Hb0 := Lib.hid hb0
  have HB0 := Lib.hid hB0
  have Hd := Lib.hid (hd.grow hb0)
  have Hj := Lib.hid (hj.grow hb0)
  have Hv := Lib.hid (hv.grow hb0)
  have Hd00 := Lib.hid hd
  have Hj00 := Lib.hid hj
  have Hn := Lib.hid hn
  have hjl := hj.lt
  have Hlong := Lib.hid hlong
  have Hfew := Lib.hid hfew
  obtain ⟨R, hR⟩ : ∃ R, R = putJ J D n s u cnt L := ⟨_, rfl⟩
  rw [← hR]
  have HR := Lib.hid hR
  have x0 := hB0.cell 0
  have x1 := hB0.cell 1
  have x2 := hB0.cell 2
  have j0 := (hj.grow hb0).cells.1
  simp only [List.getElem?_toArray, List.getElem?_cons_zero, List.getElem?_cons_succ] at x0 x1 x2
  clear hW hb0 hB0 hd hj hn hv hlong hfew hR
  unfold vTally
  by_cases hmax : n = 4611686018427387904
  · have h5 : R = ((J, D), 5) := by rw [HR.out]; unfold putJ; rw [if_pos hmax]
    have H5 := Lib.hid h5
    clear h5
    have hm : ((n : Int) == 4611686018427387904) = true := by rw [beq_iff_eq]; omega
    have Hmax := Lib.hid hmax
    clear hmax
    go_enter Tryz.func38, Tryz.ntmps38
    go_wp2_with fail
    rw [← HW.out]
    go_wp2
    go_ret
    rw [H5.out]
    exact ⟨rfl, G, Hd.out, Hj.out, Hn.out, (Fr.of_below Hb0.out _)⟩
  · have hm : ((n : Int) == 4611686018427387904) = false := by rw [beq_eq_false_iff_ne]; omega
    obtain ⟨T, hT⟩ : ∃ T : Nat, T = sideN D * 256 := ⟨_, rfl⟩
    have hT2 : T ≤ 524032 := by omega
    have hsz := sidesize_any base G g D W.drew (Hd.out.grow ((Below.refl _ _).drew))
    have hpk := jpack_any ok v L (T - u) W.drew (Hv.out.grow ((Below.refl _ _).drew)) Hlong.out (by omega)
    rw [← hT] at hsz hu
    have hw1 : IntKind.i64.wrap ((T : Int) - (u : Int)) = ((T - u : Nat) : Int) := by
      have e : (T : Int) - (u : Int) = ((T - u : Nat) : Int) := by omega
      rw [e, IntKind.wrap_i64]
      omega
    rw [← hw1] at hpk
    clear hw1
    have x2d : W.drew.cell? ⟨w.heap.size, 2, none⟩ = _ := x2
    have j0d : W.drew.cell? ⟨j, 0, none⟩ = _ := j0
    have Hsz := Lib.hid hsz
    have HT := Lib.hid hT
    obtain ⟨K, hK⟩ : ∃ K : Nat, K = (recsB L).length := ⟨_, rfl⟩
    have HK := Lib.hid hK
    by_cases hroom : T - u < (recsB L).length
    · have h5 : R = ((J, D), 5) := by rw [HR.out]; unfold putJ; rw [if_neg hmax, ← HT.out, if_pos hroom]
      have H5 := Lib.hid h5
      have hpk2 := hpk.mono (R' := fun e w' => e = .returned (.tuple #[.slice none 0 0, .int .i64 5]) ∧ Below W.drew.heap.size W.drew w') fun e w' h => ⟨h.2.elim (fun h => h.2) (fun h => by omega), h.1⟩
      have Hpk := Lib.hid hpk2
      clear h5 hmax hpk hpk2 hsz hT hroom hT2 hu hK
      go_enter Tryz.func38, Tryz.ntmps38
      go_wp2_with fail
      rw [← HW.out]
      go_region_held3 (fun z => z.cell? ⟨w.heap.size, 2, none⟩ = some (.int .i64 (u : Int)) ∧ z.cell? ⟨j, 0, none⟩ = some (.pointer (some ⟨g, 0, none⟩)))
        (first | (with_reducible exact ⟨x2d, j0d⟩) | (with_reducible exact ⟨k2, k0⟩) | (with_reducible assumption))
        (first
          | (go_at_call 55; with_reducible refine Hsz.out.mono ?_; rintro e wq ⟨rfl, rfl⟩)
          | (go_at_call 62; with_reducible refine Hpk.out.mono ?_; rintro e w5 ⟨rfl, hb5'⟩; have hb5 := below_drew_then hb5'; have k2 := cell_then hb5 x2; have k0 := cell_then hb5 j0))
      go_wp2
      go_ret
      rw [H5.out]
      exact ⟨rfl, G, Hd.out.grow hb5, Hj.out.grow hb5, Hn.out, (Fr.of_below (below_call Hb0.out hb5) _)⟩
    · have hK2 : u + K ≤ T := by omega
      have hRp : R = if (storeD D s u (recsB L) (n + 1) s (u + (recsB L).length)).2 ≠ 0 then (({ J with broken := true }, (storeD D s u (recsB L) (n + 1) s (u + (recsB L).length)).1), (storeD D s u (recsB L) (n + 1) s (u + (recsB L).length)).2)
          else ((⟨n + 1, s, u + (recsB L).length, cnt + L.length, J.broken⟩, (storeD D s u (recsB L) (n + 1) s (u + (recsB L).length)).1), 0) := by rw [HR.out]; unfold putJ; rw [if_neg hmax, ← HT.out, if_neg hroom]
      have hLc := recsB_count L
      rw [← hK] at hRp hLc
      obtain ⟨N1, hN1⟩ : ∃ N1, N1 = n + 1 := ⟨_, rfl⟩
      obtain ⟨U1, hU1⟩ : ∃ U1, U1 = u + K := ⟨_, rfl⟩
      obtain ⟨S, hS⟩ : ∃ S, S = storeD D s u (recsB L) N1 s U1 := ⟨_, rfl⟩
      rw [← hN1, ← hU1, ← hS] at hRp
      have hw2 : IntKind.u64.wrap ((n : Int) + 1) = (N1 : Int) := by rw [IntKind.wrap_u64]; omega
      have Hw2 := Lib.hid hw2
      clear hw2
      have hw3 : wrap64 ((u : Int) + (K : Int)) = (U1 : Int) := by
        have e : (u : Int) + (K : Int) = (U1 : Int) := by omega
        rw [e]
        exact IntWalk.wrap64_in _ (by omega)
      have Hw3 := Lib.hid hw3
      clear hw3
      obtain ⟨C1, hC1⟩ : ∃ C1, C1 = cnt + L.length := ⟨_, rfl⟩
      have hw4 : wrap64 ((cnt : Int) + (L.length : Int)) = (C1 : Int) := by
        have e : (cnt : Int) + (L.length : Int) = (C1 : Int) := by omega
        rw [e]
        exact IntWalk.wrap64_in _ (by omega)
      have Hw4 := Lib.hid hw4
      clear hw4
      rw [← hC1] at hRp
      have hpk2 := hpk.mono (R' := fun e w' => (∃ x, e = .returned (.tuple #[x, .int .i64 0]) ∧ Own1 w' W.drew.heap.size 5 x ((recsB L).map u8)) ∧ Below W.drew.heap.size W.drew w') fun e w' h => ⟨h.2.elim (fun h => by omega) (fun h => h.2), h.1⟩
      have hst0 : ∀ (w5 w6 : World) (vb : Value), Below W.heap.size W w6 → IsB w6 (fun _ => True) vb (recsB L) → Calls Tryz.prog 63 #[.pointer (some ⟨g, 0, none⟩), vTally (n, s, u), vb, vTally (N1, s, U1)] w6 fun e w' => e = .returned (.int .i64 S.2) ∧ ∃ G', DevAt w' base G' g S.1 ∧ Fr G G' w6 w' := fun w5 w6 vb hb hvb => by
        rw [hS]
        exact jstore_any base G (fun _ => True) g D n s u N1 s U1 vb (recsB L) w6 hs (by omega) (by omega) hs (by omega) h6 Hfew.out (Hd.out.grow hb) hvb
      unfold vTally at hst0
      obtain ⟨Av, cv, hvv, _⟩ := Hv.out.elem
      subst hvv
      have Hpk := Lib.hid hpk2
      have HRp := Lib.hid hRp
      have Hst := Lib.hid hst0
      have HN1 := Lib.hid hN1
      have HU1 := Lib.hid hU1
      have HC1 := Lib.hid hC1
      clear hmax hpk hpk2 hsz hT hroom hT2 hu hK hK2 hRp hLc hN1 hU1 hC1 hS hst0
      go_enter Tryz.func38, Tryz.ntmps38
      go_wp2_with fail
      rw [← HW.out]
      go_region_held3 (fun z => z.cell? ⟨w.heap.size, 2, none⟩ = some (.int .i64 (u : Int)) ∧ z.cell? ⟨j, 0, none⟩ = some (.pointer (some ⟨g, 0, none⟩)))
        (first | (with_reducible exact ⟨x2d, j0d⟩) | (with_reducible exact ⟨k2, k0⟩) | (with_reducible assumption))
        (first
          | (go_at_call 55; with_reducible refine Hsz.out.mono ?_; rintro e wq ⟨rfl, rfl⟩)
          | (go_at_call 62; with_reducible refine Hpk.out.mono ?_; rintro e w5 ⟨⟨x, rfl, hown5⟩, hb5'⟩; have hb5 := below_drew_then hb5'; have k2 := cell_then hb5 x2; have k1 := cell_then hb5 x1; have k00 := cell_then hb5 x0; have k0 := cell_then hb5 j0))
      obtain ⟨A5, c5, hx5, hc5, hm5, hr5⟩ := hown5.form
      rw [List.length_map, ← HK.out] at hx5
      subst hx5
      have Hx5 := Lib.hid (hown5.isB.weaken (ok' := fun _ => True) fun _ _ => trivial)
      have Hb5 := Lib.hid hb5
      clear hr5 hown5 hb5 hb5' hc5 hm5
      have hw2 := Hw2.out
      have hw3 := Hw3.out
      go_wp2_with fail
      have hb6 : Below w5.heap.size w5 (w5.alloc (.cells #[.int .u64 (N1 : Int), .int .i64 (s : Int), .int .i64 (U1 : Int)] 90)) := (Below.refl _ _).alloc (Nat.le_refl _) _
      have hB6 : Blk (w5.alloc (.cells #[.int .u64 (N1 : Int), .int .i64 (s : Int), .int .i64 (U1 : Int)] 90)) w5.heap.size 90 #[.int .u64 (N1 : Int), .int .i64 (s : Int), .int .i64 (U1 : Int)] := Blk.new _ _ _
      obtain ⟨W6, hW6⟩ : ∃ W6, W6 = w5.alloc (.cells #[.int .u64 (N1 : Int), .int .i64 (s : Int), .int .i64 (U1 : Int)] 90) := ⟨_, rfl⟩
      rw [← hW6] at hb6 hB6 ⊢
      have hb06 := below_call Hb5.out hb6
      have hB06 := HB0.out.grow hb06
      have hd6 := (Hd.out.grow hb06).low
      have hj6 := Hj.out.grow hb06
      have hn0 : ¬ G w.heap.size := fun h => by have := (Hd00.out.low _ h).2; omega
      have hs5 := Hb5.out.size
      have hW0 := HB0.out.lt
      have hn6 : ¬ G w5.heap.size := fun h => by have := (Hd00.out.low _ h).2; omega
      have p0 := hj6.cells.1
      have q0 := hB06.cell 0
      have q1 := hB06.cell 1
      have q2 := hB06.cell 2
      have y0 := hB6.cell 0
      have y1 := hB6.cell 1
      have y2 := hB6.cell 2
      simp only [List.getElem?_toArray, List.getElem?_cons_zero, List.getElem?_cons_succ] at q0 q1 q2 y0 y1 y2
      have p0d : W6.drew.cell? ⟨j, 0, none⟩ = _ := p0
      have q0d : W6.drew.cell? ⟨w.heap.size, 0, none⟩ = _ := q0
      have q1d : W6.drew.cell? ⟨w.heap.size, 1, none⟩ = _ := q1
      have q2d : W6.drew.cell? ⟨w.heap.size, 2, none⟩ = _ := q2
      have y0d : W6.drew.cell? ⟨w5.heap.size, 0, none⟩ = _ := y0
      have y1d : W6.drew.cell? ⟨w5.heap.size, 1, none⟩ = _ := y1
      have y2d : W6.drew.cell? ⟨w5.heap.size, 2, none⟩ = _ := y2
      have hst6 := Hst.out w5 W6.drew _ hb06.drew (Hx5.out.grow hb6.drew)
      have Hst6 := Lib.hid hst6
      have Hb06 := Lib.hid hb06
      have HB06 := Lib.hid hB06
      have HB6 := Lib.hid hB6
      have Hj6 := Lib.hid hj6
      have Hn6 := Lib.hid hn6
      have Hn0 := Lib.hid hn0
      clear hW6 hb6 hB6 hb06 hB06 hd6 hj6 hst6 hn6 hn0 hw2 hw3 k2 k1 k00 k0 x0 x1 x2 j0 x2d j0d
      go_region_held3 (fun z => z.cell? ⟨j, 0, none⟩ = some (.pointer (some ⟨g, 0, none⟩)) ∧ z.cell? ⟨w.heap.size, 0, none⟩ = some (.int .u64 (n : Int)) ∧ z.cell? ⟨w.heap.size, 1, none⟩ = some (.int .i64 (s : Int)) ∧ z.cell? ⟨w.heap.size, 2, none⟩ = some (.int .i64 (u : Int)) ∧ z.cell? ⟨w5.heap.size, 0, none⟩ = some (.int .u64 (N1 : Int)) ∧ z.cell? ⟨w5.heap.size, 1, none⟩ = some (.int .i64 (s : Int)) ∧ z.cell? ⟨w5.heap.size, 2, none⟩ = some (.int .i64 (U1 : Int)))
        (first | (with_reducible exact ⟨p0d, q0d, q1d, q2d, y0d, y1d, y2d⟩) | (with_reducible exact ⟨a0, b0, b1, b2, c0, c1, c2⟩) | (with_reducible assumption))
        ((go_at_call 63; with_reducible refine Hst6.out.mono ?_; rintro e w7 ⟨rfl, G7, hd7, hf7⟩; have hj7 := Hj6.out.keep (hf7.block _ Hj6.out.blk.lt Hn.out).2; have h07 := HB06.out.keep (hf7.block _ HB06.out.lt Hn0.out).2; have h57 := HB6.out.keep (hf7.block _ HB6.out.lt Hn6.out).2; have a0 := hj7.cells.1; have b0 := h07.cell 0; have b1 := h07.cell 1; have b2 := h07.cell 2; have c0 := h57.cell 0; have c1 := h57.cell 1; have c2 := h57.cell 2; simp only [List.getElem?_toArray, List.getElem?_cons_zero, List.getElem?_cons_succ] at b0 b1 b2 c0 c1 c2))
      have hjb := hj7.blk
      have f1 := hjb.frozen 1
      have f2 := hjb.frozen 2
      have f3 := hjb.frozen 3
      have f4 := hjb.frozen 4
      have f5 := hjb.frozen 5
      obtain ⟨_, m1, m2, m3, m4, m5⟩ := hj7.cells
      have hG7 : ¬ G7 j := (hf7.block _ Hj6.out.blk.lt Hn.out).1
      have hF7 : Fr (fun k => G k ∨ k = j) (fun k => G7 k ∨ k = j) w w7 := ((Fr.of_below Hb0.out G).trans ((Fr.of_below (Hb06.out.drew) G).trans hf7)).or_ j
      have Hjb := Lib.hid hjb
      have HG7 := Lib.hid hG7
      have HF7 := Lib.hid hF7
      have Hd7 := Lib.hid hd7
      clear hj7 h07 h57 hf7 hd7 hjb hG7 hF7 p0 q0 q1 q2 y0 y1 y2 p0d q0d q1d q2d y0d y1d y2d a0 b0 b1 b2
      by_cases he : S.2 = 0
      · have hRp := HRp.out
        rw [if_neg (by rw [he]; decide)] at hRp
        have HR2 := Lib.hid hRp
        rw [he]
        have hw4 := Hw4.out
        clear hRp he
        go_wp2
        go_ret
        rw [HR2.out]
        refine ⟨rfl, G7, (((Hd7.out.setFar HG7.out _).setFar HG7.out _).setFar HG7.out _).setFar HG7.out _, ?_, HG7.out, (((HF7.out.setCell (.inr rfl) _).setCell (.inr rfl) _).setCell (.inr rfl) _).setCell (.inr rfl) _⟩
        have h9 := (((Hjb.out.set_ 1 (.int .u64 (N1 : Int))).set_ 2 (.int .i64 (s : Int))).set_ 3 (.int .i64 (U1 : Int))).set_ 4 (.int .i64 (C1 : Int))
        show Blk _ j 98 _
        simpa using h9
      · have hRp := HRp.out
        rw [if_pos he] at hRp
        have hne : (S.2 != 0) = true := by rw [bne_iff_ne]; exact he
        have HR2 := Lib.hid hRp
        clear hRp he
        go_wp2
        go_ret
        rw [HR2.out]
        refine ⟨rfl, G7, Hd7.out.setFar HG7.out _, ?_, HG7.out, HF7.out.setCell (.inr rfl) _⟩
        have h9 := Hjb.out.set_ 5 (.bool true)
        show Blk _ j 98 _
        simpa using h9
end Go.Proofs.YtdmbmkjiffhbcaaGreat

namespace Go.Proofs.YtdmbmkjiffhbcaaGreat
open Go.RowKit
set_option maxRecDepth 100000

theorem jcheck_nil (v : Value) (w : World) : Calls Tryz.prog 37 #[.pointer none, v] w fun e w' => e = .returned (.int .i64 3) ∧ w = w' := by
  go_enter Tryz.func37, Tryz.ntmps37
  go_wp2_with fail
  refine (jbroken_nil w).mono ?_
  rintro e w' ⟨rfl, rfl⟩
  go_wp2
  go_ret
  exact ⟨rfl, rfl⟩
theorem jadd_nil (v : Value) (w : World) : Calls Tryz.prog 18 #[.pointer none, v] w fun e w' => e = .returned (.int .i64 3) ∧ w = w' := by
  go_enter Tryz.func18, Tryz.ntmps18
  go_wp2_with fail
  refine (jcheck_nil v w).mono ?_
  rintro e w' ⟨rfl, rfl⟩
  go_wp2
  go_ret
  exact ⟨rfl, rfl⟩
theorem jreplace_nil (v : Value) (w : World) : Calls Tryz.prog 52 #[.pointer none, v] w fun e w' => e = .returned (.int .i64 3) ∧ w = w' := by
  go_enter Tryz.func52, Tryz.ntmps52
  go_wp2_with fail
  refine (jcheck_nil v w).mono ?_
  rintro e w' ⟨rfl, rfl⟩
  go_wp2
  go_ret
  exact ⟨rfl, rfl⟩
/-- check's answer. -/
theorem jcheck_ok (ok : Nat → Prop) (v : Value) (L : List (List UInt8)) (w : World) (hv : IsBB w ok v L) (j g : Nat) (J : JM) (h : JAt w j g J) (E : Int) (hE : E = if J.broken then 3 else if fewLong L then 0 else 4) :
    Calls Tryz.prog 37 #[.pointer (some ⟨j, 0, none⟩), v] w fun e w' => e = .returned (.int .i64 E) ∧ w = w' := by
  have e : E = if J.broken then 3 else if ∀ r ∈ L, r.length ≤ 65531 then 0 else 4 := by
    rw [hE]
    unfold fewLong
    congr
  rw [e]
  exact jcheck_any ok v L w hv j g J h

set_option maxHeartbeats 400000 in
theorem jadd_any (base : Nat) (G ok : Nat → Prop) (j g : Nat) (J : JM) (D : Dev) (v : Value) (L : List (List UInt8)) (w : World) (hfit : JFit J D) (hfew : D.Few 900000) (hd : DevAt w base G g D) (hj : JAt w j g J) (hn : ¬ G j) (hv : IsBB w ok v L) :
    Calls Tryz.prog 18 #[.pointer (some ⟨j, 0, none⟩), v] w (JPost base G j g w (addJ J D L)) := by
  obtain ⟨E, hE⟩ : ∃ E : Int, E = if J.broken then 3 else if fewLong L then 0 else 4 := ⟨_, rfl⟩
  have Hck := Lib.hid (jcheck_ok ok v L w hv j g J hj E hE)
  obtain ⟨R, hR⟩ : ∃ R, R = addJ J D L := ⟨_, rfl⟩
  have HR := Lib.hid hR
  rw [← hR]
  obtain ⟨Av, cv, hvv, _⟩ := hv.elem
  subst hvv
  have Hstay := Lib.hid (show ∀ x : Int, R = ((J, D), x) → JPost base G j g w R (.returned (.int .i64 x)) w from fun x h => by rw [h]; exact ⟨rfl, G, hd, hj, hn, Fr.refl _ _⟩)
  by_cases hbr : J.broken = true
  · have h1 : E = 3 := by rw [hE, if_pos hbr]
    have h2 : R = ((J, D), 3) := by rw [hR]; unfold addJ; rw [if_pos hbr]
    rw [h1] at Hck
    have H2 := Lib.hid h2
    clear h1 h2 hE hR hd hj hn hv hfit hfew hbr
    go_enter Tryz.func18, Tryz.ntmps18
    go_wp2_with fail
    with_reducible refine Hck.out.mono ?_
    rintro e wq ⟨rfl, rfl⟩
    go_wp2
    go_ret
    exact Hstay.out 3 H2.out
  · by_cases hlg : fewLong L
    · have h1 : E = 0 := by rw [hE, if_neg hbr, if_pos hlg]
      rw [h1] at Hck
      by_cases hL : L = []
      · have h2 : R = ((J, D), 0) := by rw [hR]; unfold addJ; rw [if_neg hbr, if_neg (not_not_intro hlg), if_pos hL]
        have H2 := Lib.hid h2
        have hl0 : ((L.length : Int) == 0) = true := by rw [hL]; rfl
        clear hL
        clear h1 h2 hE hR hd hj hn hv hfit hfew hbr
        go_enter Tryz.func18, Tryz.ntmps18
        go_wp2_with fail
        with_reducible refine Hck.out.mono ?_
        rintro e wq ⟨rfl, rfl⟩
        go_wp2
        go_ret
        exact Hstay.out 0 H2.out
      · have h2 : R = putJ J D J.number J.side J.used J.count L := by rw [hR]; unfold addJ; rw [if_neg hbr, if_neg (not_not_intro hlg), if_neg hL]
        have hl0 : ((L.length : Int) == 0) = false := by
          rw [beq_eq_false_iff_ne]
          have := List.length_pos_iff.2 hL
          omega
        obtain ⟨d0, d1, d2, d3, d4, _⟩ := hj.cells
        have e1 : w.drew.cell? ⟨j, 1, none⟩ = _ := d1
        have e2 : w.drew.cell? ⟨j, 2, none⟩ = _ := d2
        have e3 : w.drew.cell? ⟨j, 3, none⟩ = _ := d3
        have e4 : w.drew.cell? ⟨j, 4, none⟩ = _ := d4
        have hp := jput_any base G ok j g J D J.number J.side J.used J.count (.slice Av L.length cv) L w.drew hfit.side hfit.used hfit.num (by have := hfit.count; omega) hfit.big hfew (hd.grow ((Below.refl _ _).drew)) (hj.grow ((Below.refl _ _).drew)) hn (hv.grow ((Below.refl _ _).drew)) hlg
        unfold vTally at hp
        rw [← h2] at hp
        have Hp := Lib.hid hp
        have hjl := hj.blk.lt
        have hjG : JAt w j g J := hj
        clear h1 h2 hE hR hd hn hv hfit hfew hbr hp hlg hL hj hjG
        go_enter Tryz.func18, Tryz.ntmps18
        go_wp2_with fail
        with_reducible refine Hck.out.mono ?_
        rintro e wq ⟨rfl, rfl⟩
        go_wp2_with fail
        go_region_with (go_at_call 38; (with_reducible refine Hp.out.mono ?_); rintro e w5 ⟨rfl, hpost⟩)
        all_goals
          go_wp2
          go_ret
          obtain ⟨G', p1, p2, p3, p4⟩ := hpost
          exact ⟨rfl, G', p1, p2, p3, ((Fr.refl _ w).drew).trans p4⟩
    · have h1 : E = 4 := by rw [hE, if_neg hbr, if_neg hlg]
      have h2 : R = ((J, D), 4) := by rw [hR]; unfold addJ; rw [if_neg hbr, if_pos hlg]
      rw [h1] at Hck
      have H2 := Lib.hid h2
      clear h1 h2 hE hR hd hj hn hv hfit hfew hbr hlg
      go_enter Tryz.func18, Tryz.ntmps18
      go_wp2_with fail
      with_reducible refine Hck.out.mono ?_
      rintro e wq ⟨rfl, rfl⟩
      go_wp2
      go_ret
      exact Hstay.out 4 H2.out

set_option maxHeartbeats 400000 in
theorem jreplace_any (base : Nat) (G ok : Nat → Prop) (j g : Nat) (J : JM) (D : Dev) (v : Value) (L : List (List UInt8)) (w : World) (hfit : JFit J D) (hfew : D.Few 900000) (hd : DevAt w base G g D) (hj : JAt w j g J) (hn : ¬ G j) (hv : IsBB w ok v L) :
    Calls Tryz.prog 52 #[.pointer (some ⟨j, 0, none⟩), v] w (JPost base G j g w (repJ J D L)) := by
  obtain ⟨E, hE⟩ : ∃ E : Int, E = if J.broken then 3 else if fewLong L then 0 else 4 := ⟨_, rfl⟩
  have Hck := Lib.hid (jcheck_ok ok v L w hv j g J hj E hE)
  obtain ⟨R, hR⟩ : ∃ R, R = repJ J D L := ⟨_, rfl⟩
  have HR := Lib.hid hR
  rw [← hR]
  obtain ⟨Av, cv, hvv, _⟩ := hv.elem
  subst hvv
  have Hstay := Lib.hid (show ∀ x : Int, R = ((J, D), x) → JPost base G j g w R (.returned (.int .i64 x)) w from fun x h => by rw [h]; exact ⟨rfl, G, hd, hj, hn, Fr.refl _ _⟩)
  by_cases hbr : J.broken = true
  · have h1 : E = 3 := by rw [hE, if_pos hbr]
    have h2 : R = ((J, D), 3) := by rw [hR]; unfold repJ; rw [if_pos hbr]
    rw [h1] at Hck
    have H2 := Lib.hid h2
    clear h1 h2 hE hR hd hj hn hv hfit hfew hbr
    go_enter Tryz.func52, Tryz.ntmps52
    go_wp2_with fail
    with_reducible refine Hck.out.mono ?_
    rintro e wq ⟨rfl, rfl⟩
    go_wp2
    go_ret
    exact Hstay.out 3 H2.out
  · by_cases hlg : fewLong L
    · have h1 : E = 0 := by rw [hE, if_neg hbr, if_pos hlg]
      rw [h1] at Hck
      have h2 : R = putJ J D J.number (1 - J.side) 0 0 L := by rw [hR]; unfold repJ; rw [if_neg hbr, if_neg (not_not_intro hlg)]
      obtain ⟨d0, d1, d2, d3, d4, _⟩ := hj.cells
      have e1 : w.drew.cell? ⟨j, 1, none⟩ = _ := d1
      have e2 : w.drew.cell? ⟨j, 2, none⟩ = _ := d2
      have hsd := hfit.side
      have hw1 : IntKind.i64.wrap (1 - (J.side : Int)) = ((1 - J.side : Nat) : Int) := by
        have e : (1 : Int) - (J.side : Int) = ((1 - J.side : Nat) : Int) := by omega
        rw [e, IntKind.wrap_i64]
        omega
      have hp := jput_any base G ok j g J D J.number (1 - J.side) 0 0 (.slice Av L.length cv) L w.drew (by omega) (Nat.zero_le _) hfit.num (by omega) hfit.big hfew (hd.grow ((Below.refl _ _).drew)) (hj.grow ((Below.refl _ _).drew)) hn (hv.grow ((Below.refl _ _).drew)) hlg
      unfold vTally at hp
      dsimp only at hp
      rw [← h2, ← hw1, show ((0 : Nat) : Int) = 0 from rfl] at hp
      have Hp := Lib.hid hp
      clear h1 h2 hE hR hd hn hv hfit hfew hbr hp hlg hj hw1 hsd
      go_enter Tryz.func52, Tryz.ntmps52
      go_wp2_with fail
      with_reducible refine Hck.out.mono ?_
      rintro e wq ⟨rfl, rfl⟩
      go_wp2_with fail
      go_region_with (go_at_call 38; (with_reducible refine Hp.out.mono ?_); rintro e w5 ⟨rfl, hpost⟩)
      all_goals
        go_wp2
        go_ret
        obtain ⟨G', p1, p2, p3, p4⟩ := hpost
        exact ⟨rfl, G', p1, p2, p3, ((Fr.refl _ w).drew).trans p4⟩
    · have h1 : E = 4 := by rw [hE, if_neg hbr, if_neg hlg]
      have h2 : R = ((J, D), 4) := by rw [hR]; unfold repJ; rw [if_neg hbr, if_pos hlg]
      rw [h1] at Hck
      have H2 := Lib.hid h2
      clear h1 h2 hE hR hd hj hn hv hfit hfew hbr hlg
      go_enter Tryz.func52, Tryz.ntmps52
      go_wp2_with fail
      with_reducible refine Hck.out.mono ?_
      rintro e wq ⟨rfl, rfl⟩
      go_wp2
      go_ret
      exact Hstay.out 4 H2.out
end Go.Proofs.YtdmbmkjiffhbcaaGreat
