/-
  wardshipref03: Plan.
-/
import Derived.Test.YtffmnhjkfeoofaaDevStore
import Derived.Test.YtffmnhjkfeoofaaRefDev
import Derived.Test.YtffmnhjkfeoofaaDevOpen
namespace Go.Proofs.Ytffmnhjkfeoofaa
open Go.RowKit
set_option maxRecDepth 100000

set_option maxHeartbeats 1000000 in
theorem refplan_any (ok : Nat → Prop) (v : Value) (D : Dev) (after : Int) (vc : Value) (c : Choice) (w : World) (hv : IsDev w ok v D) (hc : IsC w ok vc c) :
    Calls Try.prog 43 #[v, .int .i64 after, vc] w fun e w' => ∃ v', e = .returned v' ∧ IsDev w' ok v' (D.plan after c) ∧ Below w.heap.size w w' := by
  obtain ⟨A1, c1, A2, c2, A3, c3, rfl, h1, h2, h3⟩ := hv
  obtain ⟨vk, rfl, hL⟩ := hc
  obtain ⟨Ac, nc, _, hvk, _, _, _, _⟩ := id hL
  subst hvk
  have H1 := Lib.hid h1
  have H2 := Lib.hid h2
  have HL := Lib.hid hL
  clear h1 h2 h3 hL
  go_enter Try.func43, Try.ntmps43
  go_wp2
  go_region
  go_wp2
  have hb0 : Below w.heap.size w (((w.alloc (.cells #[.slice A1 D.sure.length c1, .slice A2 D.loose.length c2, .int .i64 (max after (-1)), .slice Ac c.kept.length nc, .int .i64 c.torn, .int .i64 c.half, .int .i64 (D.changes : Int), .bool D.off] 36)).alloc (.cells #[.slice Ac c.kept.length nc, .int .i64 c.torn, .int .i64 c.half] 34)).alloc (.cells #[.slice A1 D.sure.length c1, .slice A2 D.loose.length c2, .int .i64 (max after (-1)), .slice Ac c.kept.length nc, .int .i64 c.torn, .int .i64 c.half, .int .i64 (D.changes : Int), .bool D.off] 36)).drew := by
    exact ((((Below.refl _ _).alloc (Nat.le_refl _) _).alloc (by simp) _).alloc (by simp; omega) _).drew
  refine bodyPost_ret (v := .agg #[.slice A1 D.sure.length c1, .slice A2 D.loose.length c2, .int .i64 (max after (-1)), .slice Ac c.kept.length nc, .int .i64 c.torn, .int .i64 c.half, .int .i64 (D.changes : Int), .bool D.off]) (by simp [results, Try.results43, go_sem]) rfl ?_
  exact ⟨_, rfl, ⟨A1, c1, A2, c2, Ac, nc, rfl, H1.out.grow hb0, H2.out.grow hb0, HL.out.grow hb0⟩, hb0⟩
end Go.Proofs.Ytffmnhjkfeoofaa
