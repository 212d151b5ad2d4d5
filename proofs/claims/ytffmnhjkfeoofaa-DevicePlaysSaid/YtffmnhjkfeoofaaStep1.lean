/-
  wardshiplaw03.step: Barrier.
-/
import Derived.Test.YtffmnhjkfeoofaaStepKit
namespace Go.Proofs.Ytffmnhjkfeoofaa
open Go.RowKit
set_option maxRecDepth 100000

set_option maxHeartbeats 4000000 in
theorem step_barrier (base : Nat) (G : Nat → Prop) (g : Nat) (D : Dev) (v : Value) (o : OpM) (Ak : Option Addr) (nk : Nat) (ok : Nat → Prop) (w : World) (hd : DevAt w base G g D) (hv : IsDev w (fun q => ¬ G q ∧ ok q) v D) (hk : IsL (kInt .i64) w (fun q => ¬ G q ∧ ok q) (.slice Ak o.choice.kept.length nk) o.choice.kept) (hfew : D.loose.length ≤ 1000000 ∧ D.changes ≤ 1000000) (hkind : (IntKind.u64.wrap o.kind).tmod 6 = 1) :
    Calls Try.prog 14 #[.pointer (some ⟨g, 0, none⟩), v, .agg #[.int .i64 o.kind, .int .i64 o.at_, .int .u8 (o.c.toNat : Int), str o.s, .bool o.long, .slice Ak o.choice.kept.length nk, .int .i64 o.choice.torn, .int .i64 o.choice.half]] w fun e w' => ∃ v', e = .returned (.tuple #[v', .bool true]) ∧ ∃ G', DevAt w' base G' g D.barrier.1 ∧ IsDev w' (fun q => ¬ G' q ∧ (q < w.heap.size → ok q)) v' D.barrier.1 ∧ Fr G G' w w' := by
  obtain ⟨hlo, hch⟩ := hfew
  obtain ⟨A1, c1, A2, c2, A3, c3, rfl, h1, h2, h3⟩ := hv
  have G1 := Lib.hid (h1.move (w' := w) (ok' := (fun q => ¬ G q ∧ q < w.heap.size ∧ ok q)) (fun k h hl => ⟨⟨h.1, hl, h.2⟩, rfl⟩))
  have G2 := Lib.hid (h2.move (w' := w) (ok' := (fun q => ¬ G q ∧ q < w.heap.size ∧ ok q)) (fun k h hl => ⟨⟨h.1, hl, h.2⟩, rfl⟩))
  have G3 := Lib.hid (h3.move (w' := w) (ok' := (fun q => ¬ G q ∧ q < w.heap.size ∧ ok q)) (fun k h hl => ⟨⟨h.1, hl, h.2⟩, rfl⟩))
  have Gk := Lib.hid (hk.move (w' := w) (ok' := (fun q => ¬ G q ∧ q < w.heap.size ∧ ok q)) (fun k h hl => ⟨⟨h.1, hl, h.2⟩, rfl⟩))
  have hwf := hd.wf
  have hlen := hd.lens
  have hlow := hd.low
  have hleft := hd.left_le
  have hbA : Below w.heap.size w (((w.alloc (.cells #[.slice A1 D.sure.length c1, .slice A2 D.loose.length c2, .int .i64 D.left, .slice A3 D.choice.kept.length c3, .int .i64 D.choice.torn, .int .i64 D.choice.half, .int .i64 (D.changes : Int), .bool D.off] 36)).alloc (.cells #[.int .i64 o.kind, .int .i64 o.at_, .int .u8 (o.c.toNat : Int), str o.s, .bool o.long, .slice Ak o.choice.kept.length nk, .int .i64 o.choice.torn, .int .i64 o.choice.half] 39)).alloc (.cells #[.slice none 0 0, .slice none 0 0, .int .i64 0, .slice none 0 0, .int .i64 0, .int .i64 0, .int .i64 0, .bool false] 36)) := ((((Below.refl _ _).alloc (Nat.le_refl _) _).alloc (by simp) _).alloc (by simp; omega) _)
  have hB4 : Blk (((w.alloc (.cells #[.slice A1 D.sure.length c1, .slice A2 D.loose.length c2, .int .i64 D.left, .slice A3 D.choice.kept.length c3, .int .i64 D.choice.torn, .int .i64 D.choice.half, .int .i64 (D.changes : Int), .bool D.off] 36)).alloc (.cells #[.int .i64 o.kind, .int .i64 o.at_, .int .u8 (o.c.toNat : Int), str o.s, .bool o.long, .slice Ak o.choice.kept.length nk, .int .i64 o.choice.torn, .int .i64 o.choice.half] 39)).alloc (.cells #[.slice none 0 0, .slice none 0 0, .int .i64 0, .slice none 0 0, .int .i64 0, .int .i64 0, .int .i64 0, .bool false] 36)) w.heap.size 36 #[.slice A1 D.sure.length c1, .slice A2 D.loose.length c2, .int .i64 D.left, .slice A3 D.choice.kept.length c3, .int .i64 D.choice.torn, .int .i64 D.choice.half, .int .i64 (D.changes : Int), .bool D.off] := ((Blk.new w _ _).alloc _).alloc _
  have hB5 : Blk (((w.alloc (.cells #[.slice A1 D.sure.length c1, .slice A2 D.loose.length c2, .int .i64 D.left, .slice A3 D.choice.kept.length c3, .int .i64 D.choice.torn, .int .i64 D.choice.half, .int .i64 (D.changes : Int), .bool D.off] 36)).alloc (.cells #[.int .i64 o.kind, .int .i64 o.at_, .int .u8 (o.c.toNat : Int), str o.s, .bool o.long, .slice Ak o.choice.kept.length nk, .int .i64 o.choice.torn, .int .i64 o.choice.half] 39)).alloc (.cells #[.slice none 0 0, .slice none 0 0, .int .i64 0, .slice none 0 0, .int .i64 0, .int .i64 0, .int .i64 0, .bool false] 36)) (w.heap.size + 1) 39 #[.int .i64 o.kind, .int .i64 o.at_, .int .u8 (o.c.toNat : Int), str o.s, .bool o.long, .slice Ak o.choice.kept.length nk, .int .i64 o.choice.torn, .int .i64 o.choice.half] := by
    have := (Blk.new (w.alloc (.cells #[.slice A1 D.sure.length c1, .slice A2 D.loose.length c2, .int .i64 D.left, .slice A3 D.choice.kept.length c3, .int .i64 D.choice.torn, .int .i64 D.choice.half, .int .i64 (D.changes : Int), .bool D.off] 36)) 39 #[.int .i64 o.kind, .int .i64 o.at_, .int .u8 (o.c.toNat : Int), str o.s, .bool o.long, .slice Ak o.choice.kept.length nk, .int .i64 o.choice.torn, .int .i64 o.choice.half]).alloc (.cells #[.slice none 0 0, .slice none 0 0, .int .i64 0, .slice none 0 0, .int .i64 0, .int .i64 0, .int .i64 0, .bool false] 36)
    simpa using this
  have hB6 : Blk (((w.alloc (.cells #[.slice A1 D.sure.length c1, .slice A2 D.loose.length c2, .int .i64 D.left, .slice A3 D.choice.kept.length c3, .int .i64 D.choice.torn, .int .i64 D.choice.half, .int .i64 (D.changes : Int), .bool D.off] 36)).alloc (.cells #[.int .i64 o.kind, .int .i64 o.at_, .int .u8 (o.c.toNat : Int), str o.s, .bool o.long, .slice Ak o.choice.kept.length nk, .int .i64 o.choice.torn, .int .i64 o.choice.half] 39)).alloc (.cells #[.slice none 0 0, .slice none 0 0, .int .i64 0, .slice none 0 0, .int .i64 0, .int .i64 0, .int .i64 0, .bool false] 36)) (w.heap.size + 1 + 1) 36 #[.slice none 0 0, .slice none 0 0, .int .i64 0, .slice none 0 0, .int .i64 0, .int .i64 0, .int .i64 0, .bool false] := by
    have := Blk.new ((w.alloc (.cells #[.slice A1 D.sure.length c1, .slice A2 D.loose.length c2, .int .i64 D.left, .slice A3 D.choice.kept.length c3, .int .i64 D.choice.torn, .int .i64 D.choice.half, .int .i64 (D.changes : Int), .bool D.off] 36)).alloc (.cells #[.int .i64 o.kind, .int .i64 o.at_, .int .u8 (o.c.toNat : Int), str o.s, .bool o.long, .slice Ak o.choice.kept.length nk, .int .i64 o.choice.torn, .int .i64 o.choice.half] 39)) 36 #[.slice none 0 0, .slice none 0 0, .int .i64 0, .slice none 0 0, .int .i64 0, .int .i64 0, .int .i64 0, .bool false]
    simpa using this
  obtain ⟨W, hW⟩ : ∃ W, W = ((w.alloc (.cells #[.slice A1 D.sure.length c1, .slice A2 D.loose.length c2, .int .i64 D.left, .slice A3 D.choice.kept.length c3, .int .i64 D.choice.torn, .int .i64 D.choice.half, .int .i64 (D.changes : Int), .bool D.off] 36)).alloc (.cells #[.int .i64 o.kind, .int .i64 o.at_, .int .u8 (o.c.toNat : Int), str o.s, .bool o.long, .slice Ak o.choice.kept.length nk, .int .i64 o.choice.torn, .int .i64 o.choice.half] 39)).alloc (.cells #[.slice none 0 0, .slice none 0 0, .int .i64 0, .slice none 0 0, .int .i64 0, .int .i64 0, .int .i64 0, .bool false] 36) := ⟨_, rfl⟩
  have hWs : W.heap.size = w.heap.size + 3 := by rw [hW]; simp
  rw [← hW] at hbA hB4 hB5 hB6
  have hdW := hd.grow hbA
  have hno : ∀ q, w.heap.size ≤ q → ¬ G q := fun q hq h => by have := (hlow q h).2; omega
  have HW := Lib.hid hW
  have HbA := Lib.hid hbA
  have HB4 := Lib.hid hB4
  have HB5 := Lib.hid hB5
  have HB6 := Lib.hid hB6
  have HdW := Lib.hid hdW
  have Hwf := Lib.hid hwf
  have Hlow := Lib.hid hlow
  have Hno := Lib.hid hno
  have Hlen := Lib.hid hlen
  have HWs := Lib.hid hWs
  clear h1 h2 h3 hk hd hwf hlow hbA hB4 hB5 hB6 hW hdW hno hlen hWs
  obtain ⟨R, hR⟩ : ∃ R : Dev × Int, R = D.barrier := ⟨_, rfl⟩
  have HR := Lib.hid hR
  clear hR
  go_enter Try.func14, Try.ntmps14
  go_wp2_with fail
  rw [← HW.out]
  refine (barrier_any base G g D W HdW.out (by omega) (by omega)).mono ?_
  rintro e w4 ⟨rfl, hd4, hf4⟩
  rw [← HR.out] at hd4 ⊢
  have hB4w := HB4.out.keep (hf4.block _ HB4.out.lt (Hno.out _ (Nat.le_refl _))).2
  have hB5w := HB5.out.keep (hf4.block _ HB5.out.lt (Hno.out _ (by omega))).2
  have hB6w := HB6.out.keep (hf4.block _ HB6.out.lt (Hno.out _ (by omega))).2
  have y0 := hB4w.cell 0
  have y1 := hB4w.cell 1
  have y2 := hB4w.cell 2
  have y3 := hB4w.cell 3
  have y4 := hB4w.cell 4
  have y5 := hB4w.cell 5
  have y6 := hB4w.cell 6
  have y7 := hB4w.cell 7
  have p1 := hB5w.cell 1
  have p5 := hB5w.cell 5
  have p6 := hB5w.cell 6
  have p7 := hB5w.cell 7
  simp at y0 y1 y2 y3 y4 y5 y6 y7 p1 p5 p6 p7
  have hmv : ∀ q, (fun q => ¬ G q ∧ q < w.heap.size ∧ ok q) q → q < W.heap.size → (fun q => ¬ G q ∧ q < w.heap.size ∧ ok q) q ∧ w4.heap[q]? = W.heap[q]? := fun q hq hlt => ⟨hq, (hf4.block q hlt hq.1).2⟩
  have K1 := Lib.hid ((G1.out.grow HbA.out).move hmv)
  have K2 := Lib.hid ((G2.out.grow HbA.out).move hmv)
  have K3 := Lib.hid ((G3.out.grow HbA.out).move hmv)
  have Kk := Lib.hid ((Gk.out.grow HbA.out).move hmv)
  have hF4 := (Fr.of_below (F := G) HbA.out).trans hf4
  have hsz4 := hf4.size
  have HB4w := Lib.hid hB4w
  have HB5w := Lib.hid hB5w
  have HB6w := Lib.hid hB6w
  have Hd4 := Lib.hid hd4
  have HF4 := Lib.hid hF4
  have hs4 : w.heap.size + 3 ≤ w4.heap.size := by have := HWs.out; omega
  have hl4 : w.heap.size < w4.heap.size := by omega
  have hl5 : w.heap.size + 1 < w4.heap.size := by omega
  clear hB4w hB5w hB6w hmv hF4 hf4 hd4 G1 G2 G3 Gk
  go_wp2_with fail
  refine (refbarrier_any (fun q => ¬ G q ∧ q < w.heap.size ∧ ok q) _ D w4 ⟨A1, c1, A2, c2, A3, c3, rfl, K1.out, K2.out, K3.out⟩ Hwf.out (by have := Hlen.out; omega) (by omega) (by omega) hleft).mono ?_
  rintro e w5 ⟨v5, rfl, hdev5, hb5⟩
  rw [← HR.out] at hdev5 ⊢
  obtain ⟨a1, d1, a2, d2, a3, d3, rfl, k1, k2, k3⟩ := hdev5
  have hbu : Below w4.heap.size w4 (w5.alloc (.cells #[.slice a1 R.1.sure.length d1, .slice a2 R.1.loose.length d2, .int .i64 R.1.left, .slice a3 R.1.choice.kept.length d3, .int .i64 R.1.choice.torn, .int .i64 R.1.choice.half, .int .i64 (R.1.changes : Int), .bool R.1.off] 36)) := hb5.alloc hb5.size _
  have hbu5 : Below w5.heap.size w5 (w5.alloc (.cells #[.slice a1 R.1.sure.length d1, .slice a2 R.1.loose.length d2, .int .i64 R.1.left, .slice a3 R.1.choice.kept.length d3, .int .i64 R.1.choice.torn, .int .i64 R.1.choice.half, .int .i64 (R.1.changes : Int), .bool R.1.off] 36)) := (Below.refl _ _).alloc (Nat.le_refl _) _
  have k1u := k1.grow hbu5
  have k2u := k2.grow hbu5
  have k3u := k3.grow hbu5
  have hres := HB6w.out.grow hbu
  have Hbu := Lib.hid hbu
  have Hres := Lib.hid hres
  have L1 := Lib.hid k1u
  have L2 := Lib.hid k2u
  have L3 := Lib.hid k3u
  clear hbu hbu5 k1u k2u k3u hres k1 k2 k3 hb5
  go_wp2_with (with_reducible refine wpList_store_fr (op := ⟨none, .store 36 (.tmp 6) (.tmp 79), _, _, _, _⟩) rfl _ _ _ rfl (w.heap.size + 1 + 1) 36 [.slice none 0 0, .slice none 0 0, .int .i64 0, .slice none 0 0, .int .i64 0, .int .i64 0, .int .i64 0, .bool false] [.slice a1 R.1.sure.length d1, .slice a2 R.1.loose.length d2, .int .i64 R.1.left, .slice a3 R.1.choice.kept.length d3, .int .i64 R.1.choice.torn, .int .i64 R.1.choice.half, .int .i64 (R.1.changes : Int), .bool R.1.off] rfl rfl Hres.out rfl (by kernel_rfl) (by simp [Value.oneCell']) ?_; intro w9 hblk9 hfr9)
  have z0 := hblk9.cell 0
  have z1 := hblk9.cell 1
  have z2 := hblk9.cell 2
  have z3 := hblk9.cell 3
  have z4 := hblk9.cell 4
  have z5 := hblk9.cell 5
  have z6 := hblk9.cell 6
  have z7 := hblk9.cell 7
  simp at z0 z1 z2 z3 z4 z5 z6 z7
  refine bodyPost_ret (v := .tuple #[.agg #[.slice a1 R.1.sure.length d1, .slice a2 R.1.loose.length d2, .int .i64 R.1.left, .slice a3 R.1.choice.kept.length d3, .int .i64 R.1.choice.torn, .int .i64 R.1.choice.half, .int .i64 (R.1.changes : Int), .bool R.1.off], .bool true]) (by simp [results, Try.results14, go_sem, z0, z1, z2, z3, z4, z5, z6, z7]) rfl ?_
  obtain ⟨hd9, hF9⟩ := step_end Hd4.out HF4.out (by omega) (Hno.out (w.heap.size + 1 + 1) (by omega)) (Hbu.out.mono (by omega)) (fun q _ hlt => Hbu.out.block q hlt) hfr9
  have hkeep : ∀ q, ((fun q => ¬ G q ∧ q < w.heap.size ∧ ok q) q ∨ w4.heap.size ≤ q) → q < (w5.alloc (.cells #[.slice a1 R.1.sure.length d1, .slice a2 R.1.loose.length d2, .int .i64 R.1.left, .slice a3 R.1.choice.kept.length d3, .int .i64 R.1.choice.torn, .int .i64 R.1.choice.half, .int .i64 (R.1.changes : Int), .bool R.1.off] 36)).heap.size → (¬ G q ∧ (q < w.heap.size → ok q)) ∧ w9.heap[q]? = (w5.alloc (.cells #[.slice a1 R.1.sure.length d1, .slice a2 R.1.loose.length d2, .int .i64 R.1.left, .slice a3 R.1.choice.kept.length d3, .int .i64 R.1.choice.torn, .int .i64 R.1.choice.half, .int .i64 (R.1.changes : Int), .bool R.1.off] 36)).heap[q]? := fun q hq hlt => ⟨by rcases hq with h | h; exact ⟨h.1, fun _ => h.2.2⟩; exact ⟨Hno.out q (by omega), fun h => by omega⟩, (hfr9.block q hlt (fun (e : q = w.heap.size + 1 + 1) => by rcases hq with h | h; have := h.2.1; omega; omega)).2⟩
  rw [← HR.out]
  exact ⟨_, rfl, G, hd9, ⟨a1, d1, a2, d2, a3, d3, rfl, L1.out.move hkeep, L2.out.move hkeep, L3.out.move hkeep⟩, hF9⟩
end Go.Proofs.Ytffmnhjkfeoofaa
