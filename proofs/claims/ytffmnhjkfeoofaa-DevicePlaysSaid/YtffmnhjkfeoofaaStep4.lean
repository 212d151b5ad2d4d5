/-
  wardshiplaw03.step: On.
-/
import Derived.Test.YtffmnhjkfeoofaaStepKit
namespace Go.Proofs.Ytffmnhjkfeoofaa
open Go.RowKit
set_option maxRecDepth 100000

set_option maxHeartbeats 4000000 in
theorem step_on (base : Nat) (G : Nat → Prop) (g : Nat) (D : Dev) (v : Value) (o : OpM) (Ak : Option Addr) (nk : Nat) (ok : Nat → Prop) (w : World) (hd : DevAt w base G g D) (hv : IsDev w (fun q => ¬ G q ∧ ok q) v D) (hk : IsL (kInt .i64) w (fun q => ¬ G q ∧ ok q) (.slice Ak o.choice.kept.length nk) o.choice.kept) (hfew : D.loose.length ≤ 1000000 ∧ D.changes ≤ 1000000) (hkind : (IntKind.u64.wrap o.kind).tmod 6 = 4) :
    Calls Try.prog 14 #[.pointer (some ⟨g, 0, none⟩), v, .agg #[.int .i64 o.kind, .int .i64 o.at_, .int .u8 (o.c.toNat : Int), str o.s, .bool o.long, .slice Ak o.choice.kept.length nk, .int .i64 o.choice.torn, .int .i64 o.choice.half]] w fun e w' => ∃ v', e = .returned (.tuple #[v', .bool true]) ∧ ∃ G', DevAt w' base G' g ({ D with off := false } : Dev) ∧ IsDev w' (fun q => ¬ G' q ∧ (q < w.heap.size → ok q)) v' ({ D with off := false } : Dev) ∧ Fr G G' w w' := by
  obtain ⟨hlo, hch⟩ := hfew
  obtain ⟨A1, c1, A2, c2, A3, c3, rfl, h1, h2, h3⟩ := hv
  have G1 := Lib.hid (h1.move (w' := w) (ok' := (fun q => ¬ G q ∧ q < w.heap.size ∧ ok q)) (fun k h hl => ⟨⟨h.1, hl, h.2⟩, rfl⟩))
  have G2 := Lib.hid (h2.move (w' := w) (ok' := (fun q => ¬ G q ∧ q < w.heap.size ∧ ok q)) (fun k h hl => ⟨⟨h.1, hl, h.2⟩, rfl⟩))
  have G3 := Lib.hid (h3.move (w' := w) (ok' := (fun q => ¬ G q ∧ q < w.heap.size ∧ ok q)) (fun k h hl => ⟨⟨h.1, hl, h.2⟩, rfl⟩))
  have Gk := Lib.hid (hk.move (w' := w) (ok' := (fun q => ¬ G q ∧ q < w.heap.size ∧ ok q)) (fun k h hl => ⟨⟨h.1, hl, h.2⟩, rfl⟩))
  have hwf := hd.wf
  have hlen := hd.lens
  have hlow := hd.low
  have hleft := hd.left_le
  have hbA : Below w.heap.size w (((w.alloc (.cells #[.slice A1 D.sure.length c1, .slice A2 D.loose.length c2, .int .i64 D.left, .slice A3 D.choice.kept.length c3, .int .i64 D.choice.torn, .int .i64 D.choice.half, .int .i64 (D.changes : Int), .bool false] 36)).alloc (.cells #[.int .i64 o.kind, .int .i64 o.at_, .int .u8 (o.c.toNat : Int), str o.s, .bool o.long, .slice Ak o.choice.kept.length nk, .int .i64 o.choice.torn, .int .i64 o.choice.half] 39)).alloc (.cells #[.slice none 0 0, .slice none 0 0, .int .i64 0, .slice none 0 0, .int .i64 0, .int .i64 0, .int .i64 0, .bool false] 36)) := ((((Below.refl _ _).alloc (Nat.le_refl _) _).alloc (by simp) _).alloc (by simp; omega) _)
  have hB4 : Blk (((w.alloc (.cells #[.slice A1 D.sure.length c1, .slice A2 D.loose.length c2, .int .i64 D.left, .slice A3 D.choice.kept.length c3, .int .i64 D.choice.torn, .int .i64 D.choice.half, .int .i64 (D.changes : Int), .bool false] 36)).alloc (.cells #[.int .i64 o.kind, .int .i64 o.at_, .int .u8 (o.c.toNat : Int), str o.s, .bool o.long, .slice Ak o.choice.kept.length nk, .int .i64 o.choice.torn, .int .i64 o.choice.half] 39)).alloc (.cells #[.slice none 0 0, .slice none 0 0, .int .i64 0, .slice none 0 0, .int .i64 0, .int .i64 0, .int .i64 0, .bool false] 36)) w.heap.size 36 #[.slice A1 D.sure.length c1, .slice A2 D.loose.length c2, .int .i64 D.left, .slice A3 D.choice.kept.length c3, .int .i64 D.choice.torn, .int .i64 D.choice.half, .int .i64 (D.changes : Int), .bool false] := ((Blk.new w _ _).alloc _).alloc _
  have hB5 : Blk (((w.alloc (.cells #[.slice A1 D.sure.length c1, .slice A2 D.loose.length c2, .int .i64 D.left, .slice A3 D.choice.kept.length c3, .int .i64 D.choice.torn, .int .i64 D.choice.half, .int .i64 (D.changes : Int), .bool false] 36)).alloc (.cells #[.int .i64 o.kind, .int .i64 o.at_, .int .u8 (o.c.toNat : Int), str o.s, .bool o.long, .slice Ak o.choice.kept.length nk, .int .i64 o.choice.torn, .int .i64 o.choice.half] 39)).alloc (.cells #[.slice none 0 0, .slice none 0 0, .int .i64 0, .slice none 0 0, .int .i64 0, .int .i64 0, .int .i64 0, .bool false] 36)) (w.heap.size + 1) 39 #[.int .i64 o.kind, .int .i64 o.at_, .int .u8 (o.c.toNat : Int), str o.s, .bool o.long, .slice Ak o.choice.kept.length nk, .int .i64 o.choice.torn, .int .i64 o.choice.half] := by
    have := (Blk.new (w.alloc (.cells #[.slice A1 D.sure.length c1, .slice A2 D.loose.length c2, .int .i64 D.left, .slice A3 D.choice.kept.length c3, .int .i64 D.choice.torn, .int .i64 D.choice.half, .int .i64 (D.changes : Int), .bool false] 36)) 39 #[.int .i64 o.kind, .int .i64 o.at_, .int .u8 (o.c.toNat : Int), str o.s, .bool o.long, .slice Ak o.choice.kept.length nk, .int .i64 o.choice.torn, .int .i64 o.choice.half]).alloc (.cells #[.slice none 0 0, .slice none 0 0, .int .i64 0, .slice none 0 0, .int .i64 0, .int .i64 0, .int .i64 0, .bool false] 36)
    simpa using this
  have hB6 : Blk (((w.alloc (.cells #[.slice A1 D.sure.length c1, .slice A2 D.loose.length c2, .int .i64 D.left, .slice A3 D.choice.kept.length c3, .int .i64 D.choice.torn, .int .i64 D.choice.half, .int .i64 (D.changes : Int), .bool false] 36)).alloc (.cells #[.int .i64 o.kind, .int .i64 o.at_, .int .u8 (o.c.toNat : Int), str o.s, .bool o.long, .slice Ak o.choice.kept.length nk, .int .i64 o.choice.torn, .int .i64 o.choice.half] 39)).alloc (.cells #[.slice none 0 0, .slice none 0 0, .int .i64 0, .slice none 0 0, .int .i64 0, .int .i64 0, .int .i64 0, .bool false] 36)) (w.heap.size + 1 + 1) 36 #[.slice none 0 0, .slice none 0 0, .int .i64 0, .slice none 0 0, .int .i64 0, .int .i64 0, .int .i64 0, .bool false] := by
    have := Blk.new ((w.alloc (.cells #[.slice A1 D.sure.length c1, .slice A2 D.loose.length c2, .int .i64 D.left, .slice A3 D.choice.kept.length c3, .int .i64 D.choice.torn, .int .i64 D.choice.half, .int .i64 (D.changes : Int), .bool false] 36)).alloc (.cells #[.int .i64 o.kind, .int .i64 o.at_, .int .u8 (o.c.toNat : Int), str o.s, .bool o.long, .slice Ak o.choice.kept.length nk, .int .i64 o.choice.torn, .int .i64 o.choice.half] 39)) 36 #[.slice none 0 0, .slice none 0 0, .int .i64 0, .slice none 0 0, .int .i64 0, .int .i64 0, .int .i64 0, .bool false]
    simpa using this
  obtain ⟨W, hW⟩ : ∃ W, W = ((w.alloc (.cells #[.slice A1 D.sure.length c1, .slice A2 D.loose.length c2, .int .i64 D.left, .slice A3 D.choice.kept.length c3, .int .i64 D.choice.torn, .int .i64 D.choice.half, .int .i64 (D.changes : Int), .bool false] 36)).alloc (.cells #[.int .i64 o.kind, .int .i64 o.at_, .int .u8 (o.c.toNat : Int), str o.s, .bool o.long, .slice Ak o.choice.kept.length nk, .int .i64 o.choice.torn, .int .i64 o.choice.half] 39)).alloc (.cells #[.slice none 0 0, .slice none 0 0, .int .i64 0, .slice none 0 0, .int .i64 0, .int .i64 0, .int .i64 0, .bool false] 36) := ⟨_, rfl⟩
  have hWs : W.heap.size = w.heap.size + 3 := by rw [hW]; simp
  rw [← hW] at hbA hB4 hB5 hB6
  have hdW := hd.grow hbA
  have hno : ∀ q, w.heap.size ≤ q → ¬ G q := fun q hq h => by have := (hlow q h).2; omega
  have HW := Lib.hid hW
  have HbA := Lib.hid hbA
  have HB4 := Lib.hid hB4
  have HB5 := Lib.hid hB5
  have HB6 := Lib.hid hB6
  have HdW := Lib.hid hdW
  have Hwf := Lib.hid hwf
  have Hlow := Lib.hid hlow
  have Hno := Lib.hid hno
  have Hlen := Lib.hid hlen
  have HWs := Lib.hid hWs
  clear h1 h2 h3 hk hd hwf hlow hbA hB4 hB5 hB6 hW hdW hno hlen hWs
  go_enter Try.func14, Try.ntmps14
  go_wp2_with fail
  rw [← HW.out]
  have x0 := HB4.out.cell 0
  have x1 := HB4.out.cell 1
  have x2 := HB4.out.cell 2
  have x3 := HB4.out.cell 3
  have x4 := HB4.out.cell 4
  have x5 := HB4.out.cell 5
  have x6 := HB4.out.cell 6
  have x7 := HB4.out.cell 7
  simp at x0 x1 x2 x3 x4 x5 x6 x7
  go_region_with ((go_at_call 18; refine (on_any base G g D W.drew (HdW.out.grow ((Below.refl _ _).drew))).mono ?_; rintro e w4 ⟨rfl, hd4, hf4'⟩; have hf4 : Fr G G W w4 := (Fr.of_below ((Below.refl _ _).drew) G).trans hf4'; have hB4w := HB4.out.keep (hf4.block _ HB4.out.lt (Hno.out _ (Nat.le_refl _))).2; have hB6w := HB6.out.keep (hf4.block _ HB6.out.lt (Hno.out _ (by omega))).2; have y0 := hB4w.cell 0; have y1 := hB4w.cell 1; have y2 := hB4w.cell 2; have y3 := hB4w.cell 3; have y4 := hB4w.cell 4; have y5 := hB4w.cell 5; have y6 := hB4w.cell 6; have y7 := hB4w.cell 7; have r0 := hB6w.cell 0; have r1 := hB6w.cell 1; have r2 := hB6w.cell 2; have r3 := hB6w.cell 3; have r4 := hB6w.cell 4; have r5 := hB6w.cell 5; have r6 := hB6w.cell 6; have r7 := hB6w.cell 7; have s0 := hB6w.frozen 0; have s1 := hB6w.frozen 1; have s2 := hB6w.frozen 2; have s3 := hB6w.frozen 3; have s4 := hB6w.frozen 4; have s5 := hB6w.frozen 5; have s6 := hB6w.frozen 6; have s7 := hB6w.frozen 7; simp at y0 y1 y2 y3 y4 y5 y6 y7 r0 r1 r2 r3 r4 r5 r6 r7; have Hf4 := Lib.hid hf4; have Hd4 := Lib.hid hd4; clear hB4w hB6w hf4 hd4 hf4'))
  all_goals
    go_wp2
    refine bodyPost_ret (v := .tuple #[.agg #[.slice A1 D.sure.length c1, .slice A2 D.loose.length c2, .int .i64 D.left, .slice A3 D.choice.kept.length c3, .int .i64 D.choice.torn, .int .i64 D.choice.half, .int .i64 (D.changes : Int), .bool false], .bool true]) (by simp [results, Try.results14, go_sem, *]) rfl ?_
    have hF4 := (Fr.of_below (F := G) HbA.out).trans Hf4.out
    have hs4 : w.heap.size + 3 ≤ w4.heap.size := by have := HWs.out; have := Hf4.out.size; omega
    have hend := fun (w9 : World) (h9 : Fr (· = w.heap.size + 1 + 1) (· = w.heap.size + 1 + 1) w4 w9) => step_end Hd4.out hF4 (by omega) (Hno.out (w.heap.size + 1 + 1) (by omega)) (Below.refl w.heap.size w4) (fun q _ hlt => rfl) h9
    have hmv := fun (w9 : World) (h9 : Fr (· = w.heap.size + 1 + 1) (· = w.heap.size + 1 + 1) w4 w9) => show ∀ q, (fun q => ¬ G q ∧ q < w.heap.size ∧ ok q) q → q < W.heap.size → (¬ G q ∧ (q < w.heap.size → ok q)) ∧ w9.heap[q]? = W.heap[q]? from fun q hq hlt => ⟨⟨hq.1, fun _ => hq.2.2⟩, ((h9.block q (Nat.lt_of_lt_of_le hlt Hf4.out.size) (fun (e : q = w.heap.size + 1 + 1) => by have := hq.2.1; omega)).2).trans (Hf4.out.block q hlt hq.1).2⟩
    have h9 := fun (v0 v1 v2 v3 v4 v5 v6 v7 : Value) => ((((((((Fr.refl (· = w.heap.size + 1 + 1) w4).setCell (p := ⟨w.heap.size + 1 + 1, 0, none⟩) rfl v0).setCell (p := ⟨w.heap.size + 1 + 1, 1, none⟩) rfl v1).setCell (p := ⟨w.heap.size + 1 + 1, 2, none⟩) rfl v2).setCell (p := ⟨w.heap.size + 1 + 1, 3, none⟩) rfl v3).setCell (p := ⟨w.heap.size + 1 + 1, 4, none⟩) rfl v4).setCell (p := ⟨w.heap.size + 1 + 1, 5, none⟩) rfl v5).setCell (p := ⟨w.heap.size + 1 + 1, 6, none⟩) rfl v6).setCell (p := ⟨w.heap.size + 1 + 1, 7, none⟩) rfl v7
    have hdv := fun (w9 : World) (h9 : Fr (· = w.heap.size + 1 + 1) (· = w.heap.size + 1 + 1) w4 w9) => show IsDev w9 (fun q => ¬ G q ∧ (q < w.heap.size → ok q)) (.agg #[.slice A1 D.sure.length c1, .slice A2 D.loose.length c2, .int .i64 D.left, .slice A3 D.choice.kept.length c3, .int .i64 D.choice.torn, .int .i64 D.choice.half, .int .i64 (D.changes : Int), .bool false]) ({ D with off := false } : Dev) from ⟨A1, c1, A2, c2, A3, c3, rfl, (G1.out.grow HbA.out).move (hmv w9 h9), (G2.out.grow HbA.out).move (hmv w9 h9), (G3.out.grow HbA.out).move (hmv w9 h9)⟩
    exact ⟨_, rfl, G, (hend _ (h9 _ _ _ _ _ _ _ _)).1, hdv _ (h9 _ _ _ _ _ _ _ _), (hend _ (h9 _ _ _ _ _ _ _ _)).2⟩
end Go.Proofs.Ytffmnhjkfeoofaa
