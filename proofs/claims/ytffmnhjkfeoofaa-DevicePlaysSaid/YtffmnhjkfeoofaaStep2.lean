/-
  wardshiplaw03.step: Read.
-/
import Derived.Test.YtffmnhjkfeoofaaStepKit
import Derived.Test.YtffmnhjkfeoofaaStore
namespace Go.Proofs.Ytffmnhjkfeoofaa
open Go.RowKit
set_option maxRecDepth 100000

set_option maxHeartbeats 4000000 in
theorem step_read (base : Nat) (G : Nat → Prop) (g : Nat) (D : Dev) (v : Value) (o : OpM) (Ak : Option Addr) (nk : Nat) (ok : Nat → Prop) (w : World) (hd : DevAt w base G g D) (hv : IsDev w (fun q => ¬ G q ∧ ok q) v D) (hk : IsL (kInt .i64) w (fun q => ¬ G q ∧ ok q) (.slice Ak o.choice.kept.length nk) o.choice.kept) (hfew : D.loose.length ≤ 1000000 ∧ D.changes ≤ 1000000) (hkind : (IntKind.u64.wrap o.kind).tmod 6 = 2) :
    Calls Try.prog 14 #[.pointer (some ⟨g, 0, none⟩), v, .agg #[.int .i64 o.kind, .int .i64 o.at_, .int .u8 (o.c.toNat : Int), str o.s, .bool o.long, .slice Ak o.choice.kept.length nk, .int .i64 o.choice.torn, .int .i64 o.choice.half]] w fun e w' => ∃ v', e = .returned (.tuple #[v', .bool true]) ∧ ∃ G', DevAt w' base G' g D ∧ IsDev w' (fun q => ¬ G' q ∧ (q < w.heap.size → ok q)) v' D ∧ Fr G G' w w' := by
  obtain ⟨hlo, hch⟩ := hfew
  obtain ⟨A1, c1, A2, c2, A3, c3, rfl, h1, h2, h3⟩ := hv
  have G1 := Lib.hid (h1.move (w' := w) (ok' := (fun q => ¬ G q ∧ q < w.heap.size ∧ ok q)) (fun k h hl => ⟨⟨h.1, hl, h.2⟩, rfl⟩))
  have G2 := Lib.hid (h2.move (w' := w) (ok' := (fun q => ¬ G q ∧ q < w.heap.size ∧ ok q)) (fun k h hl => ⟨⟨h.1, hl, h.2⟩, rfl⟩))
  have G3 := Lib.hid (h3.move (w' := w) (ok' := (fun q => ¬ G q ∧ q < w.heap.size ∧ ok q)) (fun k h hl => ⟨⟨h.1, hl, h.2⟩, rfl⟩))
  have Gk := Lib.hid (hk.move (w' := w) (ok' := (fun q => ¬ G q ∧ q < w.heap.size ∧ ok q)) (fun k h hl => ⟨⟨h.1, hl, h.2⟩, rfl⟩))
  have hwf := hd.wf
  have hlen := hd.lens
  have hlow := hd.low
  have hleft := hd.left_le
  have hbA : Below w.heap.size w (((w.alloc (.cells #[.slice A1 D.sure.length c1, .slice A2 D.loose.length c2, .int .i64 D.left, .slice A3 D.choice.kept.length c3, .int .i64 D.choice.torn, .int .i64 D.choice.half, .int .i64 (D.changes : Int), .bool D.off] 36)).alloc (.cells #[.int .i64 o.kind, .int .i64 o.at_, .int .u8 (o.c.toNat : Int), str o.s, .bool o.long, .slice Ak o.choice.kept.length nk, .int .i64 o.choice.torn, .int .i64 o.choice.half] 39)).alloc (.cells #[.slice none 0 0, .slice none 0 0, .int .i64 0, .slice none 0 0, .int .i64 0, .int .i64 0, .int .i64 0, .bool false] 36)) := ((((Below.refl _ _).alloc (Nat.le_refl _) _).alloc (by simp) _).alloc (by simp; omega) _)
  have hB4 : Blk (((w.alloc (.cells #[.slice A1 D.sure.length c1, .slice A2 D.loose.length c2, .int .i64 D.left, .slice A3 D.choice.kept.length c3, .int .i64 D.choice.torn, .int .i64 D.choice.half, .int .i64 (D.changes : Int), .bool D.off] 36)).alloc (.cells #[.int .i64 o.kind, .int .i64 o.at_, .int .u8 (o.c.toNat : Int), str o.s, .bool o.long, .slice Ak o.choice.kept.length nk, .int .i64 o.choice.torn, .int .i64 o.choice.half] 39)).alloc (.cells #[.slice none 0 0, .slice none 0 0, .int .i64 0, .slice none 0 0, .int .i64 0, .int .i64 0, .int .i64 0, .bool false] 36)) w.heap.size 36 #[.slice A1 D.sure.length c1, .slice A2 D.loose.length c2, .int .i64 D.left, .slice A3 D.choice.kept.length c3, .int .i64 D.choice.torn, .int .i64 D.choice.half, .int .i64 (D.changes : Int), .bool D.off] := ((Blk.new w _ _).alloc _).alloc _
  have hB5 : Blk (((w.alloc (.cells #[.slice A1 D.sure.length c1, .slice A2 D.loose.length c2, .int .i64 D.left, .slice A3 D.choice.kept.length c3, .int .i64 D.choice.torn, .int .i64 D.choice.half, .int .i64 (D.changes : Int), .bool D.off] 36)).alloc (.cells #[.int .i64 o.kind, .int .i64 o.at_, .int .u8 (o.c.toNat : Int), str o.s, .bool o.long, .slice Ak o.choice.kept.length nk, .int .i64 o.choice.torn, .int .i64 o.choice.half] 39)).alloc (.cells #[.slice none 0 0, .slice none 0 0, .int .i64 0, .slice none 0 0, .int .i64 0, .int .i64 0, .int .i64 0, .bool false] 36)) (w.heap.size + 1) 39 #[.int .i64 o.kind, .int .i64 o.at_, .int .u8 (o.c.toNat : Int), str o.s, .bool o.long, .slice Ak o.choice.kept.length nk, .int .i64 o.choice.torn, .int .i64 o.choice.half] := by
    have := (Blk.new (w.alloc (.cells #[.slice A1 D.sure.length c1, .slice A2 D.loose.length c2, .int .i64 D.left, .slice A3 D.choice.kept.length c3, .int .i64 D.choice.torn, .int .i64 D.choice.half, .int .i64 (D.changes : Int), .bool D.off] 36)) 39 #[.int .i64 o.kind, .int .i64 o.at_, .int .u8 (o.c.toNat : Int), str o.s, .bool o.long, .slice Ak o.choice.kept.length nk, .int .i64 o.choice.torn, .int .i64 o.choice.half]).alloc (.cells #[.slice none 0 0, .slice none 0 0, .int .i64 0, .slice none 0 0, .int .i64 0, .int .i64 0, .int .i64 0, .bool false] 36)
    simpa using this
  have hB6 : Blk (((w.alloc (.cells #[.slice A1 D.sure.length c1, .slice A2 D.loose.length c2, .int .i64 D.left, .slice A3 D.choice.kept.length c3, .int .i64 D.choice.torn, .int .i64 D.choice.half, .int .i64 (D.changes : Int), .bool D.off] 36)).alloc (.cells #[.int .i64 o.kind, .int .i64 o.at_, .int .u8 (o.c.toNat : Int), str o.s, .bool o.long, .slice Ak o.choice.kept.length nk, .int .i64 o.choice.torn, .int .i64 o.choice.half] 39)).alloc (.cells #[.slice none 0 0, .slice none 0 0, .int .i64 0, .slice none 0 0, .int .i64 0, .int .i64 0, .int .i64 0, .bool false] 36)) (w.heap.size + 1 + 1) 36 #[.slice none 0 0, .slice none 0 0, .int .i64 0, .slice none 0 0, .int .i64 0, .int .i64 0, .int .i64 0, .bool false] := by
    have := Blk.new ((w.alloc (.cells #[.slice A1 D.sure.length c1, .slice A2 D.loose.length c2, .int .i64 D.left, .slice A3 D.choice.kept.length c3, .int .i64 D.choice.torn, .int .i64 D.choice.half, .int .i64 (D.changes : Int), .bool D.off] 36)).alloc (.cells #[.int .i64 o.kind, .int .i64 o.at_, .int .u8 (o.c.toNat : Int), str o.s, .bool o.long, .slice Ak o.choice.kept.length nk, .int .i64 o.choice.torn, .int .i64 o.choice.half] 39)) 36 #[.slice none 0 0, .slice none 0 0, .int .i64 0, .slice none 0 0, .int .i64 0, .int .i64 0, .int .i64 0, .bool false]
    simpa using this
  obtain ⟨W, hW⟩ : ∃ W, W = ((w.alloc (.cells #[.slice A1 D.sure.length c1, .slice A2 D.loose.length c2, .int .i64 D.left, .slice A3 D.choice.kept.length c3, .int .i64 D.choice.torn, .int .i64 D.choice.half, .int .i64 (D.changes : Int), .bool D.off] 36)).alloc (.cells #[.int .i64 o.kind, .int .i64 o.at_, .int .u8 (o.c.toNat : Int), str o.s, .bool o.long, .slice Ak o.choice.kept.length nk, .int .i64 o.choice.torn, .int .i64 o.choice.half] 39)).alloc (.cells #[.slice none 0 0, .slice none 0 0, .int .i64 0, .slice none 0 0, .int .i64 0, .int .i64 0, .int .i64 0, .bool false] 36) := ⟨_, rfl⟩
  have hWs : W.heap.size = w.heap.size + 3 := by rw [hW]; simp
  rw [← hW] at hbA hB4 hB5 hB6
  have hdW := hd.grow hbA
  have hno : ∀ q, w.heap.size ≤ q → ¬ G q := fun q hq h => by have := (hlow q h).2; omega
  have HW := Lib.hid hW
  have HbA := Lib.hid hbA
  have HB4 := Lib.hid hB4
  have HB5 := Lib.hid hB5
  have HB6 := Lib.hid hB6
  have HdW := Lib.hid hdW
  have Hwf := Lib.hid hwf
  have Hlow := Lib.hid hlow
  have Hno := Lib.hid hno
  have Hlen := Lib.hid hlen
  have HWs := Lib.hid hWs
  clear h1 h2 h3 hk hd hwf hlow hbA hB4 hB5 hB6 hW hdW hno hlen hWs
  go_enter Try.func14, Try.ntmps14
  go_wp2_with fail
  rw [← HW.out]
  refine (read_any base G g D o.at_ W HdW.out).mono ?_
  rintro e w4 hrd
  have hb4 : Below W.heap.size W w4 := by
    rcases hrd with ⟨_, _, rfl⟩ | ⟨_, v, _, _, h⟩
    · exact Below.refl _ _
    · exact h
  have hd4 := HdW.out.grow hb4
  have hf4 := Fr.of_below hb4 G
  have Hrd := Lib.hid hrd
  clear hb4 hrd
  have hB4w := HB4.out.keep (hf4.block _ HB4.out.lt (Hno.out _ (Nat.le_refl _))).2
  have hB5w := HB5.out.keep (hf4.block _ HB5.out.lt (Hno.out _ (by omega))).2
  have hB6w := HB6.out.keep (hf4.block _ HB6.out.lt (Hno.out _ (by omega))).2
  have y0 := hB4w.cell 0
  have y1 := hB4w.cell 1
  have y2 := hB4w.cell 2
  have y3 := hB4w.cell 3
  have y4 := hB4w.cell 4
  have y5 := hB4w.cell 5
  have y6 := hB4w.cell 6
  have y7 := hB4w.cell 7
  have p1 := hB5w.cell 1
  have p5 := hB5w.cell 5
  have p6 := hB5w.cell 6
  have p7 := hB5w.cell 7
  simp at y0 y1 y2 y3 y4 y5 y6 y7 p1 p5 p6 p7
  have hmv : ∀ q, (fun q => ¬ G q ∧ q < w.heap.size ∧ ok q) q → q < W.heap.size → (fun q => ¬ G q ∧ q < w.heap.size ∧ ok q) q ∧ w4.heap[q]? = W.heap[q]? := fun q hq hlt => ⟨hq, (hf4.block q hlt hq.1).2⟩
  have K1 := Lib.hid ((G1.out.grow HbA.out).move hmv)
  have K2 := Lib.hid ((G2.out.grow HbA.out).move hmv)
  have K3 := Lib.hid ((G3.out.grow HbA.out).move hmv)
  have Kk := Lib.hid ((Gk.out.grow HbA.out).move hmv)
  have hF4 := (Fr.of_below (F := G) HbA.out).trans hf4
  have hsz4 := hf4.size
  have HB4w := Lib.hid hB4w
  have HB5w := Lib.hid hB5w
  have HB6w := Lib.hid hB6w
  have Hd4 := Lib.hid hd4
  have HF4 := Lib.hid hF4
  have hs4 : w.heap.size + 3 ≤ w4.heap.size := by have := HWs.out; omega
  have hl4 : w.heap.size < w4.heap.size := by omega
  have hl5 : w.heap.size + 1 < w4.heap.size := by omega
  clear hB4w hB5w hB6w hmv hF4 hf4 hd4 G1 G2 G3 Gk
  have hwhy := fun (u : World) (hu : Below w4.heap.size w4 u) => why_any (fun q => ¬ G q ∧ q < w.heap.size ∧ ok q) (.agg #[.slice A1 D.sure.length c1, .slice A2 D.loose.length c2, .int .i64 D.left, .slice A3 D.choice.kept.length c3, .int .i64 D.choice.torn, .int .i64 D.choice.half, .int .i64 (D.changes : Int), .bool D.off]) D o.at_ u ⟨A1, c1, A2, c2, A3, c3, rfl, K1.out.grow hu, K2.out.grow hu, K3.out.grow hu⟩
  have Hwhy := Lib.hid hwhy
  clear hwhy
  rcases Hrd.out with ⟨hy, rfl, hww⟩ | ⟨hy, vb, rfl, hob, hbb⟩
  · have hy1 : (D.why o.at_ == 0) = false := by rw [beq_eq_false_iff_ne]; exact hy
    clear hy Hrd
    go_wp2_with fail
    refine (Hwhy.out w4 (Below.refl _ _)).mono ?_
    rintro e w5 ⟨rfl, hb5⟩
    have hu0 := cell_then hb5 y0
    have hu1 := cell_then hb5 y1
    have hu2 := cell_then hb5 y2
    have hu3 := cell_then hb5 y3
    have hu4 := cell_then hb5 y4
    have hu5 := cell_then hb5 y5
    have hu6 := cell_then hb5 y6
    have hu7 := cell_then hb5 y7
    have Hbu := Lib.hid hb5
    have Hres := Lib.hid (HB6w.out.grow hb5)
    clear hb5
    go_wp2_with (with_reducible refine wpList_store_fr (op := ⟨none, .store 36 (.tmp 6) (.tmp 98), _, _, _, _⟩) rfl _ _ _ rfl (w.heap.size + 1 + 1) 36 [.slice none 0 0, .slice none 0 0, .int .i64 0, .slice none 0 0, .int .i64 0, .int .i64 0, .int .i64 0, .bool false] [.slice A1 D.sure.length c1, .slice A2 D.loose.length c2, .int .i64 D.left, .slice A3 D.choice.kept.length c3, .int .i64 D.choice.torn, .int .i64 D.choice.half, .int .i64 (D.changes : Int), .bool D.off] rfl rfl Hres.out rfl (by kernel_rfl) (by simp [Value.oneCell']) ?_; intro w9 hblk9 hfr9)
    have z0 := hblk9.cell 0
    have z1 := hblk9.cell 1
    have z2 := hblk9.cell 2
    have z3 := hblk9.cell 3
    have z4 := hblk9.cell 4
    have z5 := hblk9.cell 5
    have z6 := hblk9.cell 6
    have z7 := hblk9.cell 7
    simp at z0 z1 z2 z3 z4 z5 z6 z7
    refine bodyPost_ret (v := .tuple #[.agg #[.slice A1 D.sure.length c1, .slice A2 D.loose.length c2, .int .i64 D.left, .slice A3 D.choice.kept.length c3, .int .i64 D.choice.torn, .int .i64 D.choice.half, .int .i64 (D.changes : Int), .bool D.off], .bool true]) (by simp [results, Try.results14, go_sem, z0, z1, z2, z3, z4, z5, z6, z7]) rfl ?_
    obtain ⟨hd9, hF9⟩ := step_end Hd4.out HF4.out (by omega) (Hno.out (w.heap.size + 1 + 1) (by omega)) (Hbu.out.mono (by omega)) (fun q _ hlt => Hbu.out.block q hlt) hfr9
    have hkeep : ∀ q, (fun q => ¬ G q ∧ q < w.heap.size ∧ ok q) q → q < w4.heap.size → (¬ G q ∧ (q < w.heap.size → ok q)) ∧ w9.heap[q]? = w4.heap[q]? := fun q hq hlt => ⟨⟨hq.1, fun _ => hq.2.2⟩, ((hfr9.block q (Nat.lt_of_lt_of_le hlt Hbu.out.size) (fun (e : q = w.heap.size + 1 + 1) => by have := hq.2.1; omega)).2).trans (Hbu.out.block q hlt)⟩
    exact ⟨_, rfl, G, hd9, ⟨A1, c1, A2, c2, A3, c3, rfl, K1.out.move hkeep, K2.out.move hkeep, K3.out.move hkeep⟩, hF9⟩
  · have hin : D.off = false ∧ 0 ≤ o.at_ ∧ o.at_ < (D.sure.length : Int) := by
      unfold Dev.why at hy
      cases hoff : D.off with
      | true => rw [hoff] at hy; cases hy
      | false =>
        rw [hoff, if_neg (by decide)] at hy
        by_cases hh : o.at_ < 0 ∨ (D.sure.length : Int) ≤ o.at_
        · rw [if_pos hh] at hy; cases hy
        · exact ⟨rfl, by omega, by omega⟩
    obtain ⟨-, hi0, hi1⟩ := hin
    have hnat : o.at_ = (o.at_.toNat : Int) := by omega
    have hilt : o.at_.toNat < D.sure.length := by omega
    have hnow := fun (u : World) (hu : Below w4.heap.size w4 u) => now_any (fun q => ¬ G q ∧ q < w.heap.size ∧ ok q) (.agg #[.slice A1 D.sure.length c1, .slice A2 D.loose.length c2, .int .i64 D.left, .slice A3 D.choice.kept.length c3, .int .i64 D.choice.torn, .int .i64 D.choice.half, .int .i64 (D.changes : Int), .bool D.off]) D o.at_.toNat u ⟨A1, c1, A2, c2, A3, c3, rfl, K1.out.grow hu, K2.out.grow hu, K3.out.grow hu⟩ hilt
    rw [← hnat] at hnow
    have hxl := now_length Hwf.out _ hilt
    obtain ⟨X, hX⟩ : ∃ X, X = D.now o.at_.toNat := ⟨_, rfl⟩
    rw [← hX] at hnow hxl hob
    obtain ⟨A9, c9, hv9, _, _, _⟩ := hob.form
    rw [List.length_map, hxl] at hv9
    subst hv9
    have hB9 := hob.isB
    have hne9 : X.map u8 ≠ [] := by intro e; rw [List.map_eq_nil_iff] at e; rw [e] at hxl; cases hxl
    obtain ⟨gb, cur, rfl, hgb, hblkb, hcur⟩ := hob.addr hne9
    have hcw : cur[0]? ≠ none ∧ 256 ≤ cur.size ∧ ∀ j, j < 256 → ∃ n : Int, cur[j]? = some (.int .u8 n) := by
      refine ⟨by rw [hcur 0 (by rw [List.length_map, hxl]; decide)]; simp, ?_, fun j hj => by have h0 := hcur j (by rw [List.length_map, hxl]; exact hj); simp only [List.getElem_map, u8] at h0; exact ⟨_, h0⟩⟩
      have := hcur 255 (by rw [List.length_map, hxl]; decide)
      have := (Array.getElem?_eq_some_iff.1 this).1
      omega
    have Hcw := Lib.hid hcw
    have Hblkb := Lib.hid hblkb
    have HB9 := Lib.hid hB9
    have Hnow := Lib.hid hnow
    have Hy := Lib.hid hy
    clear hnat hilt hi0 hi1 hy Hrd hX hnow hob hcur hblkb hB9 hcw hbb hne9
    go_wp2_with fail
    refine (Hwhy.out w4 (Below.refl _ _)).mono ?_
    rintro e w5 ⟨rfl, hb5⟩
    rw [Hy.out]
    have hu0 := cell_then hb5 y0
    have hu1 := cell_then hb5 y1
    have hu2 := cell_then hb5 y2
    have hu3 := cell_then hb5 y3
    have hu4 := cell_then hb5 y4
    have hu5 := cell_then hb5 y5
    have hu6 := cell_then hb5 y6
    have hu7 := cell_then hb5 y7
    have hp1 := cell_then hb5 p1
    have Hb5 := Lib.hid hb5
    have hcv9 : ∀ z, Below w5.heap.size w5 z → (convert 42 9 (.slice (some ⟨gb, 0, none⟩) 256 c9)).run Try.prog z = .ok (str X) z := fun z hz => conv_is (HB9.out.grow (below_on hb5 hz))
    clear hb5
    go_wp2_with fail
    go_region_held3 (fun u => Below w5.heap.size w5 u ∧ u.cell? ⟨w.heap.size + 1, 1, none⟩ = some (.int .i64 o.at_) ∧ u.cell? ⟨w.heap.size, 0, none⟩ = some (.slice A1 D.sure.length c1) ∧ u.cell? ⟨w.heap.size, 1, none⟩ = some (.slice A2 D.loose.length c2) ∧ u.cell? ⟨w.heap.size, 2, none⟩ = some (.int .i64 D.left) ∧ u.cell? ⟨w.heap.size, 3, none⟩ = some (.slice A3 D.choice.kept.length c3) ∧ u.cell? ⟨w.heap.size, 4, none⟩ = some (.int .i64 D.choice.torn) ∧ u.cell? ⟨w.heap.size, 5, none⟩ = some (.int .i64 D.choice.half) ∧ u.cell? ⟨w.heap.size, 6, none⟩ = some (.int .i64 (D.changes : Int)) ∧ u.cell? ⟨w.heap.size, 7, none⟩ = some (.bool D.off))
      (first | exact ⟨(Below.refl _ _).drew, hp1, hu0, hu1, hu2, hu3, hu4, hu5, hu6, hu7⟩ | (go_split_ands; exact ⟨below_on (by assumption) hb6, cell_then hb6 (by assumption), cell_then hb6 (by assumption), cell_then hb6 (by assumption), cell_then hb6 (by assumption), cell_then hb6 (by assumption), cell_then hb6 (by assumption), cell_then hb6 (by assumption), cell_then hb6 (by assumption), cell_then hb6 (by assumption)⟩) | assumption)
      ((go_at_call 20; refine (Hnow.out _ (below_on Hb5.out (And.left (by assumption)))).mono ?_; rintro e w6 ⟨rfl, hb6⟩))
    have hb46 := below_on Hb5.out (below_drew_then hb6)
    have hblk6 := Hblkb.out.grow hb46
    have hcw6 : 256 ≤ cur.size ∧ ∀ j, j < 256 → ∃ n : Int, cur[j]? = some (.int .u8 n) := Hcw.out.2
    have Hb46 := Lib.hid hb46
    have Hblk6 := Lib.hid hblk6
    have Hcw6 := Lib.hid hcw6
    have hG9 : ¬ G gb := Hno.out gb (by have := HWs.out; omega)
    clear hb46 hblk6 hcw6 hb6 Hblkb Hcw
    go_wp2_with fail
    go_loopw [120] (fun i wr => ∃ (k : Nat) (cu : Array Value), k ≤ 256 ∧ i = .int .i64 (k : Int) ∧ Blk wr gb 5 cu ∧ (256 ≤ cu.size ∧ ∀ j, j < 256 → ∃ n : Int, cu[j]? = some (.int .u8 n)) ∧ Fr (· = gb) (· = gb) w6 wr) (fun i _ => 256 - (intOf i).toNat)
    case atStart => exact ⟨0, cur, by omega, rfl, Hblk6.out, Hcw6.out, Fr.refl _ _⟩
    case round =>
      obtain ⟨k, cu, hk, rfl, hblk, ⟨hcs, hcn⟩, hfr⟩ := hrel
      by_cases hlt : k < 256
      · obtain ⟨n, hn⟩ := hcn k hlt
        have hcell := hblk.cell k
        rw [hn] at hcell
        have hfz := hblk.frozen k
        have Hset := Lib.hid (fun x => hblk.set_ k x)
        have Hcn := Lib.hid hcn
        have Hfr := Lib.hid hfr
        clear hn hblk hcn hfr
        go_wp2
        go_roundw
        case rel =>
          refine ⟨k + 1, _, by omega, by go_num, Hset.out _, ⟨by simpa using hcs, fun j hj => ?_⟩, Hfr.out.setCell rfl _⟩
          rw [Array.getElem?_setIfInBounds]
          by_cases hjk : k = j
          · rw [if_pos hjk, if_pos (by omega)]; exact ⟨_, rfl⟩
          · rw [if_neg hjk]; exact Hcn.out j hj
        case measure => simp [intOf]; omega
      · obtain rfl : k = 256 := by omega
        obtain ⟨wa, rfl⟩ : ∃ x, x = wr := ⟨wr, rfl⟩
        have hat : ∀ q, q < w4.heap.size → q ≠ gb → wa.heap[q]? = w4.heap[q]? := fun q hq hne => ((hfr.block q (Nat.lt_of_lt_of_le hq Hb46.out.size) hne).2).trans (Hb46.out.block q hq)
        have hgW : W.heap.size ≤ gb := hgb
        have hws : W.heap.size = w.heap.size + 3 := HWs.out
        have hBx : Blk wa w.heap.size 36 #[.slice A1 D.sure.length c1, .slice A2 D.loose.length c2, .int .i64 D.left, .slice A3 D.choice.kept.length c3, .int .i64 D.choice.torn, .int .i64 D.choice.half, .int .i64 (D.changes : Int), .bool D.off] := HB4w.out.keep (hat _ (by omega) (by omega))
        have hres := HB6w.out.keep (hat _ (by omega) (by omega))
        have hv0 := hBx.cell 0
        have hv1 := hBx.cell 1
        have hv2 := hBx.cell 2
        have hv3 := hBx.cell 3
        have hv4 := hBx.cell 4
        have hv5 := hBx.cell 5
        have hv6 := hBx.cell 6
        have hv7 := hBx.cell 7
        simp at hv0 hv1 hv2 hv3 hv4 hv5 hv6 hv7
        have hbw : Below w.heap.size w4 wa := (Hb46.out.mono (by omega)).trans (hfr.below (fun q (hq : q = gb) => by omega) (by have := Hb46.out.size; omega))
        have hbg : ∀ q, G q → q < w4.heap.size → wa.heap[q]? = w4.heap[q]? := fun q hq hlt => hat q hlt (fun e => hG9 (e ▸ hq))
        have Hres := Lib.hid hres
        have Hat := Lib.hid hat
        have Hbw := Lib.hid hbw
        have Hbg := Lib.hid hbg
        clear hat hBx hres hbw hbg hblk hcn hfr
        go_wp2_with (with_reducible refine wpList_store_fr (op := ⟨none, .store 36 (.tmp 6) (.tmp 130), _, _, _, _⟩) rfl _ _ _ rfl (w.heap.size + 1 + 1) 36 [.slice none 0 0, .slice none 0 0, .int .i64 0, .slice none 0 0, .int .i64 0, .int .i64 0, .int .i64 0, .bool false] [.slice A1 D.sure.length c1, .slice A2 D.loose.length c2, .int .i64 D.left, .slice A3 D.choice.kept.length c3, .int .i64 D.choice.torn, .int .i64 D.choice.half, .int .i64 (D.changes : Int), .bool D.off] rfl rfl Hres.out rfl (by kernel_rfl) (by simp [Value.oneCell']) ?_; intro w9 hblk9 hfr9)
        have z0 := hblk9.cell 0
        have z1 := hblk9.cell 1
        have z2 := hblk9.cell 2
        have z3 := hblk9.cell 3
        have z4 := hblk9.cell 4
        have z5 := hblk9.cell 5
        have z6 := hblk9.cell 6
        have z7 := hblk9.cell 7
        simp at z0 z1 z2 z3 z4 z5 z6 z7
        refine bodyPost_ret (v := .tuple #[.agg #[.slice A1 D.sure.length c1, .slice A2 D.loose.length c2, .int .i64 D.left, .slice A3 D.choice.kept.length c3, .int .i64 D.choice.torn, .int .i64 D.choice.half, .int .i64 (D.changes : Int), .bool D.off], .bool true]) (by simp [results, Try.results14, go_sem, z0, z1, z2, z3, z4, z5, z6, z7]) rfl ?_
        obtain ⟨hd9, hF9⟩ := step_end Hd4.out HF4.out (by omega) (Hno.out (w.heap.size + 1 + 1) (by omega)) Hbw.out Hbg.out hfr9
        have hkeep : ∀ q, (fun q => ¬ G q ∧ q < w.heap.size ∧ ok q) q → q < w4.heap.size → (¬ G q ∧ (q < w.heap.size → ok q)) ∧ w9.heap[q]? = w4.heap[q]? := fun q hq hlt => ⟨⟨hq.1, fun _ => hq.2.2⟩, ((hfr9.block q (Nat.lt_of_lt_of_le hlt Hbw.out.size) (fun (e : q = w.heap.size + 1 + 1) => by have := hq.2.1; omega)).2).trans (Hat.out q hlt (by have := hq.2.1; omega))⟩
        exact ⟨_, rfl, G, hd9, ⟨A1, c1, A2, c2, A3, c3, rfl, K1.out.move hkeep, K2.out.move hkeep, K3.out.move hkeep⟩, hF9⟩
end Go.Proofs.Ytffmnhjkfeoofaa
