/-
  wardshiplaw03.step: Write.
-/
import Derived.Test.YtffmnhjkfeoofaaStepKit
namespace Go.Proofs.Ytffmnhjkfeoofaa
open Go.RowKit
set_option maxRecDepth 100000

/-- These bytes lie at the head of a block. -/
def RowB (w : World) (g : Nat) (B : List UInt8) : Prop := ∃ cur, Blk w g 5 cur ∧ ∀ (j : Nat) (hj : j < B.length), cur[j]? = some (u8 B[j])
theorem RowB.keep {w w' : World} {g : Nat} {B : List UInt8} (h : RowB w g B) (hk : w'.heap[g]? = w.heap[g]?) : RowB w' g B := by
  obtain ⟨cur, h1, h2⟩ := h
  exact ⟨cur, h1.keep hk, h2⟩
theorem RowB.lt {w : World} {g : Nat} {B : List UInt8} (h : RowB w g B) : g < w.heap.size := by
  obtain ⟨cur, h1, _⟩ := h
  exact h1.lt
theorem RowB.isB {w : World} {g : Nat} {B : List UInt8} (h : RowB w g B) (c : Nat) (hc : B.length ≤ c) (hm : c ≤ maxLen) : IsB w (fun k => k = g) (.slice (some ⟨g, 0, none⟩) B.length c) B := by
  obtain ⟨cur, h1, h2⟩ := h
  refine ⟨_, c, rfl, hc, hm, Rd.of_cells rfl fun k hk => ?_⟩
  rw [Nat.zero_add, h1.cell, h2 k (by simpa using hk)]
  simp
theorem RowB.of_blk {w : World} {g : Nat} {B : List UInt8} (h : Blk w g 5 (B.map u8).toArray) : RowB w g B := ⟨_, h, fun j hj => by simp [hj]⟩
theorem elemB8 : ElemK Try.prog 42 5 1 1 := ElemK.mk_ (z := .int .u8 0) Try.underlying42 (by kernel_rfl) rfl (by decide)

set_option maxHeartbeats 4000000 in
theorem step_write_exact (base : Nat) (G : Nat → Prop) (g : Nat) (D : Dev) (v : Value) (o : OpM) (Ak : Option Addr) (nk : Nat) (ok : Nat → Prop) (w : World) (hd : DevAt w base G g D) (hv : IsDev w (fun q => ¬ G q ∧ ok q) v D) (hk : IsL (kInt .i64) w (fun q => ¬ G q ∧ ok q) (.slice Ak o.choice.kept.length nk) o.choice.kept) (hfew : D.loose.length ≤ 1000000 ∧ D.changes ≤ 1000000) (hkind : (IntKind.u64.wrap o.kind).tmod 6 = 0) :
    Calls Try.prog 14 #[.pointer (some ⟨g, 0, none⟩), v, .agg #[.int .i64 o.kind, .int .i64 o.at_, .int .u8 (o.c.toNat : Int), str o.s, .bool false, .slice Ak o.choice.kept.length nk, .int .i64 o.choice.torn, .int .i64 o.choice.half]] w fun e w' => ∃ v', e = .returned (.tuple #[v', .bool true]) ∧ ∃ G', DevAt w' base G' g (D.put o.at_ (fullB o.c o.s)).1 ∧ IsDev w' (fun q => ¬ G' q ∧ (q < w.heap.size → ok q)) v' (D.put o.at_ (fullB o.c o.s)).1 ∧ Fr G G' w w' := by
  obtain ⟨hlo, hch⟩ := hfew
  obtain ⟨A1, c1, A2, c2, A3, c3, rfl, h1, h2, h3⟩ := hv
  have G1 := Lib.hid (h1.move (w' := w) (ok' := (fun q => ¬ G q ∧ q < w.heap.size ∧ ok q)) (fun k h hl => ⟨⟨h.1, hl, h.2⟩, rfl⟩))
  have G2 := Lib.hid (h2.move (w' := w) (ok' := (fun q => ¬ G q ∧ q < w.heap.size ∧ ok q)) (fun k h hl => ⟨⟨h.1, hl, h.2⟩, rfl⟩))
  have G3 := Lib.hid (h3.move (w' := w) (ok' := (fun q => ¬ G q ∧ q < w.heap.size ∧ ok q)) (fun k h hl => ⟨⟨h.1, hl, h.2⟩, rfl⟩))
  have Gk := Lib.hid (hk.move (w' := w) (ok' := (fun q => ¬ G q ∧ q < w.heap.size ∧ ok q)) (fun k h hl => ⟨⟨h.1, hl, h.2⟩, rfl⟩))
  have hwf := hd.wf
  have hlen := hd.lens
  have hlow := hd.low
  have hleft := hd.left_le
  have hbA : Below w.heap.size w (((w.alloc (.cells #[.slice A1 D.sure.length c1, .slice A2 D.loose.length c2, .int .i64 D.left, .slice A3 D.choice.kept.length c3, .int .i64 D.choice.torn, .int .i64 D.choice.half, .int .i64 (D.changes : Int), .bool D.off] 36)).alloc (.cells #[.int .i64 o.kind, .int .i64 o.at_, .int .u8 (o.c.toNat : Int), str o.s, .bool false, .slice Ak o.choice.kept.length nk, .int .i64 o.choice.torn, .int .i64 o.choice.half] 39)).alloc (.cells #[.slice none 0 0, .slice none 0 0, .int .i64 0, .slice none 0 0, .int .i64 0, .int .i64 0, .int .i64 0, .bool false] 36)) := ((((Below.refl _ _).alloc (Nat.le_refl _) _).alloc (by simp) _).alloc (by simp; omega) _)
  have hB4 : Blk (((w.alloc (.cells #[.slice A1 D.sure.length c1, .slice A2 D.loose.length c2, .int .i64 D.left, .slice A3 D.choice.kept.length c3, .int .i64 D.choice.torn, .int .i64 D.choice.half, .int .i64 (D.changes : Int), .bool D.off] 36)).alloc (.cells #[.int .i64 o.kind, .int .i64 o.at_, .int .u8 (o.c.toNat : Int), str o.s, .bool false, .slice Ak o.choice.kept.length nk, .int .i64 o.choice.torn, .int .i64 o.choice.half] 39)).alloc (.cells #[.slice none 0 0, .slice none 0 0, .int .i64 0, .slice none 0 0, .int .i64 0, .int .i64 0, .int .i64 0, .bool false] 36)) w.heap.size 36 #[.slice A1 D.sure.length c1, .slice A2 D.loose.length c2, .int .i64 D.left, .slice A3 D.choice.kept.length c3, .int .i64 D.choice.torn, .int .i64 D.choice.half, .int .i64 (D.changes : Int), .bool D.off] := ((Blk.new w _ _).alloc _).alloc _
  have hB5 : Blk (((w.alloc (.cells #[.slice A1 D.sure.length c1, .slice A2 D.loose.length c2, .int .i64 D.left, .slice A3 D.choice.kept.length c3, .int .i64 D.choice.torn, .int .i64 D.choice.half, .int .i64 (D.changes : Int), .bool D.off] 36)).alloc (.cells #[.int .i64 o.kind, .int .i64 o.at_, .int .u8 (o.c.toNat : Int), str o.s, .bool false, .slice Ak o.choice.kept.length nk, .int .i64 o.choice.torn, .int .i64 o.choice.half] 39)).alloc (.cells #[.slice none 0 0, .slice none 0 0, .int .i64 0, .slice none 0 0, .int .i64 0, .int .i64 0, .int .i64 0, .bool false] 36)) (w.heap.size + 1) 39 #[.int .i64 o.kind, .int .i64 o.at_, .int .u8 (o.c.toNat : Int), str o.s, .bool false, .slice Ak o.choice.kept.length nk, .int .i64 o.choice.torn, .int .i64 o.choice.half] := by
    have := (Blk.new (w.alloc (.cells #[.slice A1 D.sure.length c1, .slice A2 D.loose.length c2, .int .i64 D.left, .slice A3 D.choice.kept.length c3, .int .i64 D.choice.torn, .int .i64 D.choice.half, .int .i64 (D.changes : Int), .bool D.off] 36)) 39 #[.int .i64 o.kind, .int .i64 o.at_, .int .u8 (o.c.toNat : Int), str o.s, .bool false, .slice Ak o.choice.kept.length nk, .int .i64 o.choice.torn, .int .i64 o.choice.half]).alloc (.cells #[.slice none 0 0, .slice none 0 0, .int .i64 0, .slice none 0 0, .int .i64 0, .int .i64 0, .int .i64 0, .bool false] 36)
    simpa using this
  have hB6 : Blk (((w.alloc (.cells #[.slice A1 D.sure.length c1, .slice A2 D.loose.length c2, .int .i64 D.left, .slice A3 D.choice.kept.length c3, .int .i64 D.choice.torn, .int .i64 D.choice.half, .int .i64 (D.changes : Int), .bool D.off] 36)).alloc (.cells #[.int .i64 o.kind, .int .i64 o.at_, .int .u8 (o.c.toNat : Int), str o.s, .bool false, .slice Ak o.choice.kept.length nk, .int .i64 o.choice.torn, .int .i64 o.choice.half] 39)).alloc (.cells #[.slice none 0 0, .slice none 0 0, .int .i64 0, .slice none 0 0, .int .i64 0, .int .i64 0, .int .i64 0, .bool false] 36)) (w.heap.size + 1 + 1) 36 #[.slice none 0 0, .slice none 0 0, .int .i64 0, .slice none 0 0, .int .i64 0, .int .i64 0, .int .i64 0, .bool false] := by
    have := Blk.new ((w.alloc (.cells #[.slice A1 D.sure.length c1, .slice A2 D.loose.length c2, .int .i64 D.left, .slice A3 D.choice.kept.length c3, .int .i64 D.choice.torn, .int .i64 D.choice.half, .int .i64 (D.changes : Int), .bool D.off] 36)).alloc (.cells #[.int .i64 o.kind, .int .i64 o.at_, .int .u8 (o.c.toNat : Int), str o.s, .bool false, .slice Ak o.choice.kept.length nk, .int .i64 o.choice.torn, .int .i64 o.choice.half] 39)) 36 #[.slice none 0 0, .slice none 0 0, .int .i64 0, .slice none 0 0, .int .i64 0, .int .i64 0, .int .i64 0, .bool false]
    simpa using this
  obtain ⟨W, hW⟩ : ∃ W, W = ((w.alloc (.cells #[.slice A1 D.sure.length c1, .slice A2 D.loose.length c2, .int .i64 D.left, .slice A3 D.choice.kept.length c3, .int .i64 D.choice.torn, .int .i64 D.choice.half, .int .i64 (D.changes : Int), .bool D.off] 36)).alloc (.cells #[.int .i64 o.kind, .int .i64 o.at_, .int .u8 (o.c.toNat : Int), str o.s, .bool false, .slice Ak o.choice.kept.length nk, .int .i64 o.choice.torn, .int .i64 o.choice.half] 39)).alloc (.cells #[.slice none 0 0, .slice none 0 0, .int .i64 0, .slice none 0 0, .int .i64 0, .int .i64 0, .int .i64 0, .bool false] 36) := ⟨_, rfl⟩
  have hWs : W.heap.size = w.heap.size + 3 := by rw [hW]; simp
  rw [← hW] at hbA hB4 hB5 hB6
  have hdW := hd.grow hbA
  have hno : ∀ q, w.heap.size ≤ q → ¬ G q := fun q hq h => by have := (hlow q h).2; omega
  have HW := Lib.hid hW
  have HbA := Lib.hid hbA
  have HB4 := Lib.hid hB4
  have HB5 := Lib.hid hB5
  have HB6 := Lib.hid hB6
  have HdW := Lib.hid hdW
  have Hwf := Lib.hid hwf
  have Hlow := Lib.hid hlow
  have Hno := Lib.hid hno
  have Hlen := Lib.hid hlen
  have HWs := Lib.hid hWs
  clear h1 h2 h3 hk hd hwf hlow hbA hB4 hB5 hB6 hW hdW hno hlen hWs
  obtain ⟨B, hB⟩ : ∃ B, B = fullB o.c o.s := ⟨_, rfl⟩
  have hBl : B.length = 256 := by rw [hB]; exact fullB_length _ _
  rw [← hB]
  have HB := Lib.hid hB
  clear hB
  go_enter Try.func14, Try.ntmps14
  go_wp2_with fail
  rw [← HW.out]
  refine (full_any o.c o.s W).mono ?_
  rintro e w2 ⟨gb, rfl, hgb, hblk2, hb2⟩
  rw [← HB.out] at hblk2
  have hrow2 := RowB.of_blk hblk2
  clear hblk2
  have Hb2 := Lib.hid hb2
  have Hrow2 := Lib.hid hrow2
  have Hd2 := Lib.hid (HdW.out.grow hb2)
  have hbs2 := hb2.size
  have hBm : 256 ≤ maxLen := by unfold maxLen; omega
  have HBm := Lib.hid hBm
  have hB52 := HB5.out.grow hb2
  have q1 := hB52.cell 1
  have q4 := hB52.cell 4
  simp at q1 q4
  clear hb2 hrow2 hBm hB52
  go_wp2_with fail
  have hIsB := Hrow2.out.isB 256 (by rw [hBl]; exact (Nat.le_refl _)) HBm.out
  rw [hBl] at hIsB
  refine (write_any base G g D _ o.at_ _ B _ Hd2.out hIsB Hd2.out.size (by omega) (by omega)).mono ?_
  rintro e w4 ⟨rfl, G', hd4, hf4'⟩
  obtain ⟨R, hR⟩ : ∃ R : Dev × Int, R = D.put o.at_ B := ⟨_, rfl⟩
  rw [← hR] at hd4 ⊢
  have HR := Lib.hid hR
  have hf4 := (Fr.of_below Hb2.out G).trans hf4'
  have hgG : ¬ G gb := Hno.out gb (by have := HWs.out; omega)
  have hgl2 := Hrow2.out.lt
  have hrow4 := Hrow2.out.keep (hf4'.block gb hgl2 hgG).2
  have hgG' : ¬ G' gb := (hf4'.block gb hgl2 hgG).1
  have hres0 : ¬ G' (w.heap.size + 1 + 1) := (hf4.block _ HB6.out.lt (Hno.out _ (by omega))).1
  have hgl4 := hrow4.lt
  have Hrow4 := Lib.hid hrow4
  clear hR hf4' hIsB hrow4 hgl2 hgG
  have hB4w := HB4.out.keep (hf4.block _ HB4.out.lt (Hno.out _ (Nat.le_refl _))).2
  have hB5w := HB5.out.keep (hf4.block _ HB5.out.lt (Hno.out _ (by omega))).2
  have hB6w := HB6.out.keep (hf4.block _ HB6.out.lt (Hno.out _ (by omega))).2
  have y0 := hB4w.cell 0
  have y1 := hB4w.cell 1
  have y2 := hB4w.cell 2
  have y3 := hB4w.cell 3
  have y4 := hB4w.cell 4
  have y5 := hB4w.cell 5
  have y6 := hB4w.cell 6
  have y7 := hB4w.cell 7
  have p1 := hB5w.cell 1
  have p5 := hB5w.cell 5
  have p6 := hB5w.cell 6
  have p7 := hB5w.cell 7
  simp at y0 y1 y2 y3 y4 y5 y6 y7 p1 p5 p6 p7
  have hmv : ∀ q, (fun q => ¬ G q ∧ q < w.heap.size ∧ ok q) q → q < W.heap.size → (fun q => ¬ G q ∧ q < w.heap.size ∧ ok q) q ∧ w4.heap[q]? = W.heap[q]? := fun q hq hlt => ⟨hq, (hf4.block q hlt hq.1).2⟩
  have K1 := Lib.hid ((G1.out.grow HbA.out).move hmv)
  have K2 := Lib.hid ((G2.out.grow HbA.out).move hmv)
  have K3 := Lib.hid ((G3.out.grow HbA.out).move hmv)
  have Kk := Lib.hid ((Gk.out.grow HbA.out).move hmv)
  have hF4 := (Fr.of_below (F := G) HbA.out).trans hf4
  have hsz4 := hf4.size
  have HB4w := Lib.hid hB4w
  have HB5w := Lib.hid hB5w
  have HB6w := Lib.hid hB6w
  have Hd4 := Lib.hid hd4
  have HF4 := Lib.hid hF4
  have hs4 : w.heap.size + 3 ≤ w4.heap.size := by have := HWs.out; omega
  have hl4 : w.heap.size < w4.heap.size := by omega
  have hl5 : w.heap.size + 1 < w4.heap.size := by omega
  clear hB4w hB5w hB6w hmv hF4 hf4 hd4 G1 G2 G3 Gk
  have hcv4 : (convert 42 9 (.slice (some ⟨gb, 0, none⟩) 256 256)).run Try.prog w4 = .ok (str B) w4 := by
    have h := Hrow4.out.isB 256 (by rw [hBl]; exact (Nat.le_refl _)) HBm.out
    rw [hBl] at h
    exact conv_is h
  go_wp2_with fail
  refine (refput_any (fun q => ¬ G q ∧ q < w.heap.size ∧ ok q) _ D o.at_ B w4 ⟨A1, c1, A2, c2, A3, c3, rfl, K1.out, K2.out, K3.out⟩ Hwf.out (by have := Hlen.out; omega) (by omega) (by omega) hleft (by rw [hBl]; exact HBm.out)).mono ?_
  rintro e w5 ⟨v5, rfl, hdev5, hb5⟩
  rw [← HR.out] at hdev5 ⊢
  obtain ⟨a1, d1, a2, d2, a3, d3, rfl, k1, k2, k3⟩ := hdev5
  have hbu5 : Below w5.heap.size w5 (w5.alloc (.cells #[.slice a1 R.1.sure.length d1, .slice a2 R.1.loose.length d2, .int .i64 R.1.left, .slice a3 R.1.choice.kept.length d3, .int .i64 R.1.choice.torn, .int .i64 R.1.choice.half, .int .i64 (R.1.changes : Int), .bool R.1.off] 36)) := (Below.refl _ _).alloc (Nat.le_refl _) _
  have hbu : Below w4.heap.size w4 (w5.alloc (.cells #[.slice a1 R.1.sure.length d1, .slice a2 R.1.loose.length d2, .int .i64 R.1.left, .slice a3 R.1.choice.kept.length d3, .int .i64 R.1.choice.torn, .int .i64 R.1.choice.half, .int .i64 (R.1.changes : Int), .bool R.1.off] 36)) := hb5.alloc hb5.size _
  have hbox : Blk (w5.alloc (.cells #[.slice a1 R.1.sure.length d1, .slice a2 R.1.loose.length d2, .int .i64 R.1.left, .slice a3 R.1.choice.kept.length d3, .int .i64 R.1.choice.torn, .int .i64 R.1.choice.half, .int .i64 (R.1.changes : Int), .bool R.1.off] 36)) w5.heap.size 36 #[.slice a1 R.1.sure.length d1, .slice a2 R.1.loose.length d2, .int .i64 R.1.left, .slice a3 R.1.choice.kept.length d3, .int .i64 R.1.choice.torn, .int .i64 R.1.choice.half, .int .i64 (R.1.changes : Int), .bool R.1.off] := Blk.new _ _ _
  have hs45 : w4.heap.size ≤ w5.heap.size := hb5.size
  have k1u := k1.move (w' := w5.alloc (.cells #[.slice a1 R.1.sure.length d1, .slice a2 R.1.loose.length d2, .int .i64 R.1.left, .slice a3 R.1.choice.kept.length d3, .int .i64 R.1.choice.torn, .int .i64 R.1.choice.half, .int .i64 (R.1.changes : Int), .bool R.1.off] 36)) (ok' := fun q => ((fun q => ¬ G q ∧ q < w.heap.size ∧ ok q) q ∨ w4.heap.size ≤ q) ∧ q < w5.heap.size) (fun q hq hlt => ⟨⟨hq, hlt⟩, hbu5.block q hlt⟩)
  have k2u := k2.move (w' := w5.alloc (.cells #[.slice a1 R.1.sure.length d1, .slice a2 R.1.loose.length d2, .int .i64 R.1.left, .slice a3 R.1.choice.kept.length d3, .int .i64 R.1.choice.torn, .int .i64 R.1.choice.half, .int .i64 (R.1.changes : Int), .bool R.1.off] 36)) (ok' := fun q => ((fun q => ¬ G q ∧ q < w.heap.size ∧ ok q) q ∨ w4.heap.size ≤ q) ∧ q < w5.heap.size) (fun q hq hlt => ⟨⟨hq, hlt⟩, hbu5.block q hlt⟩)
  have k3u := k3.move (w' := w5.alloc (.cells #[.slice a1 R.1.sure.length d1, .slice a2 R.1.loose.length d2, .int .i64 R.1.left, .slice a3 R.1.choice.kept.length d3, .int .i64 R.1.choice.torn, .int .i64 R.1.choice.half, .int .i64 (R.1.changes : Int), .bool R.1.off] 36)) (ok' := fun q => ((fun q => ¬ G q ∧ q < w.heap.size ∧ ok q) q ∨ w4.heap.size ≤ q) ∧ q < w5.heap.size) (fun q hq hlt => ⟨⟨hq, hlt⟩, hbu5.block q hlt⟩)
  have hrow5 := Hrow4.out.keep (hbu.block gb hgl4)
  have hsu : (w5.alloc (.cells #[.slice a1 R.1.sure.length d1, .slice a2 R.1.loose.length d2, .int .i64 R.1.left, .slice a3 R.1.choice.kept.length d3, .int .i64 R.1.choice.torn, .int .i64 R.1.choice.half, .int .i64 (R.1.changes : Int), .bool R.1.off] 36)).heap.size = w5.heap.size + 1 := by simp
  obtain ⟨U, hU⟩ : ∃ U, U = w5.alloc (.cells #[.slice a1 R.1.sure.length d1, .slice a2 R.1.loose.length d2, .int .i64 R.1.left, .slice a3 R.1.choice.kept.length d3, .int .i64 R.1.choice.torn, .int .i64 R.1.choice.half, .int .i64 (R.1.changes : Int), .bool R.1.off] 36) := ⟨_, rfl⟩
  rw [← hU] at hbu hbox k1u k2u k3u hrow5 hsu
  obtain ⟨cur, hblk0, hcur0⟩ := hrow5
  have hcn0 : ∀ j, j < 256 → ∃ n : Int, cur[j]? = some (.int .u8 n) := fun j hj => by
    have h0 := hcur0 j (by rw [hBl]; exact hj)
    simp only [u8] at h0
    exact ⟨_, h0⟩
  have Hbu := Lib.hid hbu
  have Hbox := Lib.hid hbox
  have L1 := Lib.hid k1u
  have L2 := Lib.hid k2u
  have L3 := Lib.hid k3u
  have Hblk0 := Lib.hid hblk0
  have Hcn0 := Lib.hid hcn0
  have HU := Lib.hid hU
  clear hbu5 hbu hbox k1 k2 k3 k1u k2u k3u hblk0 hcur0 hcn0 hb5 hU
  go_wp2_with fail
  go_loopw [56] (fun i wr => ∃ (k : Nat) (cu : Array Value), k ≤ 256 ∧ i = .int .i64 (k : Int) ∧ Blk wr gb 5 cu ∧ (∀ j, j < 256 → ∃ n : Int, cu[j]? = some (.int .u8 n)) ∧ Fr (· = gb) (· = gb) U wr) (fun i _ => 256 - (intOf i).toNat)
  case atStart => exact ⟨0, cur, by omega, rfl, by rw [← HU.out]; exact Hblk0.out, Hcn0.out, by rw [← HU.out]; exact Fr.refl _ _⟩
  case round =>
    obtain ⟨k, cu, hk, rfl, hblk, hcn, hfr⟩ := hrel
    by_cases hlt : k < 256
    · obtain ⟨n, hn⟩ := hcn k hlt
      have hcell := hblk.cell k
      rw [hn] at hcell
      have hfz := hblk.frozen k
      have hsz0 : k < cu.size := (Array.getElem?_eq_some_iff.1 hn).1
      have Hset := Lib.hid (fun x => hblk.set_ k x)
      have Hcn := Lib.hid hcn
      have Hfr := Lib.hid hfr
      clear hn hblk hcn hfr
      go_wp2
      go_roundw
      case rel =>
        refine ⟨k + 1, _, by omega, by go_num, Hset.out _, fun j hj => ?_, Hfr.out.setCell rfl _⟩
        rw [Array.getElem?_setIfInBounds]
        by_cases hjk : k = j
        · rw [if_pos hjk, if_pos (by omega)]; exact ⟨_, rfl⟩
        · rw [if_neg hjk]; exact Hcn.out j hj
      case measure => simp [intOf]; omega
    · obtain rfl : k = 256 := by omega
      obtain ⟨wa, rfl⟩ : ∃ x, x = wr := ⟨wr, rfl⟩
      have hat : ∀ q, q < U.heap.size → q ≠ gb → wa.heap[q]? = U.heap[q]? := fun q hq hne => (hfr.block q hq hne).2
      have hBx : Blk wa w5.heap.size 36 #[.slice a1 R.1.sure.length d1, .slice a2 R.1.loose.length d2, .int .i64 R.1.left, .slice a3 R.1.choice.kept.length d3, .int .i64 R.1.choice.torn, .int .i64 R.1.choice.half, .int .i64 (R.1.changes : Int), .bool R.1.off] := Hbox.out.keep (hat _ (by omega) (by omega))
      have hres := (HB6w.out.grow Hbu.out).keep (hat _ (by omega) (by have := HWs.out; omega))
      have hv0 := hBx.cell 0
      have hv1 := hBx.cell 1
      have hv2 := hBx.cell 2
      have hv3 := hBx.cell 3
      have hv4 := hBx.cell 4
      have hv5 := hBx.cell 5
      have hv6 := hBx.cell 6
      have hv7 := hBx.cell 7
      simp at hv0 hv1 hv2 hv3 hv4 hv5 hv6 hv7
      have hbw : Below w.heap.size w4 wa := (Hbu.out.mono (by omega)).trans (hfr.below (fun q (hq : q = gb) => by have := HWs.out; omega) (by omega))
      have hbg : ∀ q, G' q → q < w4.heap.size → wa.heap[q]? = w4.heap[q]? := fun q hq hlt => (hat q (by omega) (fun e => hgG' (e ▸ hq))).trans (Hbu.out.block q hlt)
      have Hres := Lib.hid hres
      have Hat := Lib.hid hat
      have Hbw := Lib.hid hbw
      have Hbg := Lib.hid hbg
      have Hsz := Lib.hid hfr.size
      clear hat hBx hres hbw hbg hblk hcn hfr
      go_wp2_with (with_reducible refine wpList_store_fr (op := ⟨none, .store 36 (.tmp 6) (.tmp 66), _, _, _, _⟩) rfl _ _ _ rfl (w.heap.size + 1 + 1) 36 [.slice none 0 0, .slice none 0 0, .int .i64 0, .slice none 0 0, .int .i64 0, .int .i64 0, .int .i64 0, .bool false] [.slice a1 R.1.sure.length d1, .slice a2 R.1.loose.length d2, .int .i64 R.1.left, .slice a3 R.1.choice.kept.length d3, .int .i64 R.1.choice.torn, .int .i64 R.1.choice.half, .int .i64 (R.1.changes : Int), .bool R.1.off] rfl rfl Hres.out rfl (by kernel_rfl) (by simp [Value.oneCell']) ?_; intro w9 hblk9 hfr9)
      have z0 := hblk9.cell 0
      have z1 := hblk9.cell 1
      have z2 := hblk9.cell 2
      have z3 := hblk9.cell 3
      have z4 := hblk9.cell 4
      have z5 := hblk9.cell 5
      have z6 := hblk9.cell 6
      have z7 := hblk9.cell 7
      simp at z0 z1 z2 z3 z4 z5 z6 z7
      refine bodyPost_ret (v := .tuple #[.agg #[.slice a1 R.1.sure.length d1, .slice a2 R.1.loose.length d2, .int .i64 R.1.left, .slice a3 R.1.choice.kept.length d3, .int .i64 R.1.choice.torn, .int .i64 R.1.choice.half, .int .i64 (R.1.changes : Int), .bool R.1.off], .bool true]) (by simp [results, Try.results14, go_sem, z0, z1, z2, z3, z4, z5, z6, z7]) rfl ?_
      obtain ⟨hd9, hF9⟩ := step_end Hd4.out HF4.out (by omega) hres0 Hbw.out Hbg.out hfr9
      have hkeep : ∀ q, (((fun q => ¬ G q ∧ q < w.heap.size ∧ ok q) q ∨ w4.heap.size ≤ q) ∧ q < w5.heap.size) → q < U.heap.size → (¬ G' q ∧ (q < w.heap.size → ok q)) ∧ w9.heap[q]? = U.heap[q]? := fun q hq hlt => by
        have hws := HWs.out
        refine ⟨?_, ((hfr9.block q (Nat.lt_of_lt_of_le hlt Hsz.out) (fun (e : q = w.heap.size + 1 + 1) => ?_)).2).trans (Hat.out q hlt ?_)⟩
        · rcases hq.1 with h | h
          · exact ⟨(HF4.out.block q h.2.1 h.1).1, fun _ => h.2.2⟩
          · exact ⟨fun hg => by have := (Hd4.out.low q hg).2; omega, fun h => by omega⟩
        · rcases hq.1 with h | h
          · have := h.2.1; omega
          · omega
        · rcases hq.1 with h | h
          · have := h.2.1; omega
          · omega
      rw [← HR.out]
      exact ⟨_, rfl, G', hd9, ⟨a1, d1, a2, d2, a3, d3, rfl, L1.out.move hkeep, L2.out.move hkeep, L3.out.move hkeep⟩, hF9⟩
end Go.Proofs.Ytffmnhjkfeoofaa
