/-
  wardshiplaw03.step: Plan.
-/
import Derived.Test.YtffmnhjkfeoofaaStepKit
import Derived.StillTailTactics
namespace Go.Proofs.Ytffmnhjkfeoofaa
open Go.RowKit
set_option maxRecDepth 100000

theorem plan_meet {W w3 : World} {a : Nat} {v3 : Value} {t h : Int} {kept : List Int} (hb3 : Below W.heap.size W w3) (hbx : Blk w3 a 34 #[.slice none 0 0, .int .i64 0, .int .i64 0]) (ha : W.heap.size ≤ a) (hown : OwnL (kInt .i64) w3 W.heap.size 3 v3 kept) (hne : v3.ownBlock ≠ some a) :
    Blk (((w3.setCell ⟨a, 0, none⟩ v3).setCell ⟨a, 1, none⟩ (.int .i64 t)).setCell ⟨a, 2, none⟩ (.int .i64 h)) a 34 #[v3, .int .i64 t, .int .i64 h] ∧ OwnL (kInt .i64) (((w3.setCell ⟨a, 0, none⟩ v3).setCell ⟨a, 1, none⟩ (.int .i64 t)).setCell ⟨a, 2, none⟩ (.int .i64 h)) W.heap.size 3 v3 kept ∧ Below W.heap.size W (((w3.setCell ⟨a, 0, none⟩ v3).setCell ⟨a, 1, none⟩ (.int .i64 t)).setCell ⟨a, 2, none⟩ (.int .i64 h)) := by
  refine ⟨?_, ?_, ((hb3.setCell ha _).setCell ha _).setCell ha _⟩
  · have := ((hbx.set_ 0 v3).set_ 1 (.int .i64 t)).set_ 2 (.int .i64 h)
    simpa using this
  · obtain ⟨xs, ho, hm⟩ := hown
    refine ⟨xs, ho.keep fun q hq => ?_, hm.flat (kInt_flat _)⟩
    have hqa : q ≠ a := fun e => hne (e ▸ hq)
    rw [Below.heap_setCell _ _ _ _ (by simpa using hqa), Below.heap_setCell _ _ _ _ (by simpa using hqa), Below.heap_setCell _ _ _ _ (by simpa using hqa)]

set_option maxHeartbeats 4000000 in
theorem step_plan (base : Nat) (G : Nat → Prop) (g : Nat) (D : Dev) (v : Value) (o : OpM) (Ak : Option Addr) (nk : Nat) (ok : Nat → Prop) (w : World) (hd : DevAt w base G g D) (hv : IsDev w (fun q => ¬ G q ∧ ok q) v D) (hk : IsL (kInt .i64) w (fun q => ¬ G q ∧ ok q) (.slice Ak o.choice.kept.length nk) o.choice.kept) (hfew : D.loose.length ≤ 1000000 ∧ D.changes ≤ 1000000) (hat : -9223372036854775808 ≤ o.at_ ∧ o.at_ ≤ 9223372036854775807) (hkl : o.choice.kept.length ≤ 70) (hkind : (IntKind.u64.wrap o.kind).tmod 6 = 5) :
    Calls Try.prog 14 #[.pointer (some ⟨g, 0, none⟩), v, .agg #[.int .i64 o.kind, .int .i64 o.at_, .int .u8 (o.c.toNat : Int), str o.s, .bool o.long, .slice Ak o.choice.kept.length nk, .int .i64 o.choice.torn, .int .i64 o.choice.half]] w fun e w' => ∃ v', e = .returned (.tuple #[v', .bool true]) ∧ ∃ G', DevAt w' base G' g (D.plan o.at_ o.choice) ∧ IsDev w' (fun q => ¬ G' q ∧ (q < w.heap.size → ok q)) v' (D.plan o.at_ o.choice) ∧ Fr G G' w w' := by
  obtain ⟨hlo, hch⟩ := hfew
  obtain ⟨A1, c1, A2, c2, A3, c3, rfl, h1, h2, h3⟩ := hv
  have G1 := Lib.hid (h1.move (w' := w) (ok' := (fun q => ¬ G q ∧ q < w.heap.size ∧ ok q)) (fun k h hl => ⟨⟨h.1, hl, h.2⟩, rfl⟩))
  have G2 := Lib.hid (h2.move (w' := w) (ok' := (fun q => ¬ G q ∧ q < w.heap.size ∧ ok q)) (fun k h hl => ⟨⟨h.1, hl, h.2⟩, rfl⟩))
  have G3 := Lib.hid (h3.move (w' := w) (ok' := (fun q => ¬ G q ∧ q < w.heap.size ∧ ok q)) (fun k h hl => ⟨⟨h.1, hl, h.2⟩, rfl⟩))
  have Gk := Lib.hid (hk.move (w' := w) (ok' := (fun q => ¬ G q ∧ q < w.heap.size ∧ ok q)) (fun k h hl => ⟨⟨h.1, hl, h.2⟩, rfl⟩))
  have hwf := hd.wf
  have hlen := hd.lens
  have hlow := hd.low
  have hleft := hd.left_le
  have hbA : Below w.heap.size w (((w.alloc (.cells #[.slice A1 D.sure.length c1, .slice A2 D.loose.length c2, .int .i64 D.left, .slice A3 D.choice.kept.length c3, .int .i64 D.choice.torn, .int .i64 D.choice.half, .int .i64 (D.changes : Int), .bool D.off] 36)).alloc (.cells #[.int .i64 o.kind, .int .i64 o.at_, .int .u8 (o.c.toNat : Int), str o.s, .bool o.long, .slice Ak o.choice.kept.length nk, .int .i64 o.choice.torn, .int .i64 o.choice.half] 39)).alloc (.cells #[.slice none 0 0, .slice none 0 0, .int .i64 0, .slice none 0 0, .int .i64 0, .int .i64 0, .int .i64 0, .bool false] 36)) := ((((Below.refl _ _).alloc (Nat.le_refl _) _).alloc (by simp) _).alloc (by simp; omega) _)
  have hB4 : Blk (((w.alloc (.cells #[.slice A1 D.sure.length c1, .slice A2 D.loose.length c2, .int .i64 D.left, .slice A3 D.choice.kept.length c3, .int .i64 D.choice.torn, .int .i64 D.choice.half, .int .i64 (D.changes : Int), .bool D.off] 36)).alloc (.cells #[.int .i64 o.kind, .int .i64 o.at_, .int .u8 (o.c.toNat : Int), str o.s, .bool o.long, .slice Ak o.choice.kept.length nk, .int .i64 o.choice.torn, .int .i64 o.choice.half] 39)).alloc (.cells #[.slice none 0 0, .slice none 0 0, .int .i64 0, .slice none 0 0, .int .i64 0, .int .i64 0, .int .i64 0, .bool false] 36)) w.heap.size 36 #[.slice A1 D.sure.length c1, .slice A2 D.loose.length c2, .int .i64 D.left, .slice A3 D.choice.kept.length c3, .int .i64 D.choice.torn, .int .i64 D.choice.half, .int .i64 (D.changes : Int), .bool D.off] := ((Blk.new w _ _).alloc _).alloc _
  have hB5 : Blk (((w.alloc (.cells #[.slice A1 D.sure.length c1, .slice A2 D.loose.length c2, .int .i64 D.left, .slice A3 D.choice.kept.length c3, .int .i64 D.choice.torn, .int .i64 D.choice.half, .int .i64 (D.changes : Int), .bool D.off] 36)).alloc (.cells #[.int .i64 o.kind, .int .i64 o.at_, .int .u8 (o.c.toNat : Int), str o.s, .bool o.long, .slice Ak o.choice.kept.length nk, .int .i64 o.choice.torn, .int .i64 o.choice.half] 39)).alloc (.cells #[.slice none 0 0, .slice none 0 0, .int .i64 0, .slice none 0 0, .int .i64 0, .int .i64 0, .int .i64 0, .bool false] 36)) (w.heap.size + 1) 39 #[.int .i64 o.kind, .int .i64 o.at_, .int .u8 (o.c.toNat : Int), str o.s, .bool o.long, .slice Ak o.choice.kept.length nk, .int .i64 o.choice.torn, .int .i64 o.choice.half] := by
    have := (Blk.new (w.alloc (.cells #[.slice A1 D.sure.length c1, .slice A2 D.loose.length c2, .int .i64 D.left, .slice A3 D.choice.kept.length c3, .int .i64 D.choice.torn, .int .i64 D.choice.half, .int .i64 (D.changes : Int), .bool D.off] 36)) 39 #[.int .i64 o.kind, .int .i64 o.at_, .int .u8 (o.c.toNat : Int), str o.s, .bool o.long, .slice Ak o.choice.kept.length nk, .int .i64 o.choice.torn, .int .i64 o.choice.half]).alloc (.cells #[.slice none 0 0, .slice none 0 0, .int .i64 0, .slice none 0 0, .int .i64 0, .int .i64 0, .int .i64 0, .bool false] 36)
    simpa using this
  have hB6 : Blk (((w.alloc (.cells #[.slice A1 D.sure.length c1, .slice A2 D.loose.length c2, .int .i64 D.left, .slice A3 D.choice.kept.length c3, .int .i64 D.choice.torn, .int .i64 D.choice.half, .int .i64 (D.changes : Int), .bool D.off] 36)).alloc (.cells #[.int .i64 o.kind, .int .i64 o.at_, .int .u8 (o.c.toNat : Int), str o.s, .bool o.long, .slice Ak o.choice.kept.length nk, .int .i64 o.choice.torn, .int .i64 o.choice.half] 39)).alloc (.cells #[.slice none 0 0, .slice none 0 0, .int .i64 0, .slice none 0 0, .int .i64 0, .int .i64 0, .int .i64 0, .bool false] 36)) (w.heap.size + 1 + 1) 36 #[.slice none 0 0, .slice none 0 0, .int .i64 0, .slice none 0 0, .int .i64 0, .int .i64 0, .int .i64 0, .bool false] := by
    have := Blk.new ((w.alloc (.cells #[.slice A1 D.sure.length c1, .slice A2 D.loose.length c2, .int .i64 D.left, .slice A3 D.choice.kept.length c3, .int .i64 D.choice.torn, .int .i64 D.choice.half, .int .i64 (D.changes : Int), .bool D.off] 36)).alloc (.cells #[.int .i64 o.kind, .int .i64 o.at_, .int .u8 (o.c.toNat : Int), str o.s, .bool o.long, .slice Ak o.choice.kept.length nk, .int .i64 o.choice.torn, .int .i64 o.choice.half] 39)) 36 #[.slice none 0 0, .slice none 0 0, .int .i64 0, .slice none 0 0, .int .i64 0, .int .i64 0, .int .i64 0, .bool false]
    simpa using this
  obtain ⟨W, hW⟩ : ∃ W, W = ((w.alloc (.cells #[.slice A1 D.sure.length c1, .slice A2 D.loose.length c2, .int .i64 D.left, .slice A3 D.choice.kept.length c3, .int .i64 D.choice.torn, .int .i64 D.choice.half, .int .i64 (D.changes : Int), .bool D.off] 36)).alloc (.cells #[.int .i64 o.kind, .int .i64 o.at_, .int .u8 (o.c.toNat : Int), str o.s, .bool o.long, .slice Ak o.choice.kept.length nk, .int .i64 o.choice.torn, .int .i64 o.choice.half] 39)).alloc (.cells #[.slice none 0 0, .slice none 0 0, .int .i64 0, .slice none 0 0, .int .i64 0, .int .i64 0, .int .i64 0, .bool false] 36) := ⟨_, rfl⟩
  have hWs : W.heap.size = w.heap.size + 3 := by rw [hW]; simp
  rw [← hW] at hbA hB4 hB5 hB6
  have hdW := hd.grow hbA
  have hno : ∀ q, w.heap.size ≤ q → ¬ G q := fun q hq h => by have := (hlow q h).2; omega
  have HW := Lib.hid hW
  have HbA := Lib.hid hbA
  have HB4 := Lib.hid hB4
  have HB5 := Lib.hid hB5
  have HB6 := Lib.hid hB6
  have HdW := Lib.hid hdW
  have Hwf := Lib.hid hwf
  have Hlow := Lib.hid hlow
  have Hno := Lib.hid hno
  have Hlen := Lib.hid hlen
  have HWs := Lib.hid hWs
  clear h1 h2 h3 hk hd hwf hlow hbA hB4 hB5 hB6 hW hdW hno hlen hWs
  have x5 := HB5.out.cell 5
  have x6 := HB5.out.cell 6
  have x7 := HB5.out.cell 7
  simp at x5 x6 x7
  obtain ⟨_, _, dk, ek, hck, hmk, hrk, hmany⟩ := (Gk.out.grow HbA.out)
  cases ek
  have hdk : dk.length = o.choice.kept.length * 1 := hmany.length
  have hone : ∀ u ∈ dk, u.oneCell' = true := fun u hu => by
    obtain ⟨css, rfl, hl, hr⟩ := hmany
    obtain ⟨cs, hcs, hu⟩ := List.mem_flatten.1 hu
    obtain ⟨k, hk, rfl⟩ := List.getElem_of_mem hcs
    obtain ⟨e, _⟩ := hr k hk (by omega)
    rw [e] at hu
    simp at hu
    subst hu
    rfl
  have Hrk := Lib.hid hrk
  have Hmany := Lib.hid hmany
  have Hone := Lib.hid hone
  clear hrk hmany hone hck hmk
  go_enter Try.func14, Try.ntmps14
  go_upto_region 37 with (fail)
  rw [← HW.out]
  go_cut [22] (fun p wx => ∃ (a : Nat) (vk : Value), p = .pointer (some ⟨a, 0, none⟩) ∧ w.heap.size + 3 ≤ a ∧ Blk wx a 34 #[vk, .int .i64 o.choice.torn, .int .i64 o.choice.half] ∧ OwnL (kInt .i64) wx W.heap.size 3 vk o.choice.kept ∧ vk.ownBlock ≠ some a ∧ Below W.heap.size W wx)
  case first =>
    have x5d : W.drew.cell? ⟨w.heap.size + 1, 5, none⟩ = _ := x5
    have x6d : W.drew.cell? ⟨w.heap.size + 1, 6, none⟩ = _ := x6
    have x7d : W.drew.cell? ⟨w.heap.size + 1, 7, none⟩ = _ := x7
    go_region_held3 (fun u => Below W.heap.size W u ∧ u.cell? ⟨w.heap.size + 1, 5, none⟩ = some (.slice Ak o.choice.kept.length nk) ∧ u.cell? ⟨w.heap.size + 1, 6, none⟩ = some (.int .i64 o.choice.torn) ∧ u.cell? ⟨w.heap.size + 1, 7, none⟩ = some (.int .i64 o.choice.half))
      (first | (with_reducible exact ⟨hm.2.2, cell_then hm.2.2 x5, cell_then hm.2.2 x6, cell_then hm.2.2 x7⟩) | (with_reducible exact ⟨hb3, c5, c6, c7⟩) | (with_reducible exact ⟨hb3.alloc hb3.size _, cell_then (hb3.alloc hb3.size _) x5, cell_then (hb3.alloc hb3.size _) x6, cell_then (hb3.alloc hb3.size _) x7⟩) | (with_reducible exact ⟨(Below.refl _ _).drew, x5d, x6d, x7d⟩) | (go_split_ands; exact ⟨Below.alloc (by assumption) (Below.size (by assumption)) _, cell_then ((Below.refl _ _).alloc (Nat.le_refl _) _) (by assumption), cell_then ((Below.refl _ _).alloc (Nat.le_refl _) _) (by assumption), cell_then ((Below.refl _ _).alloc (Nat.le_refl _) _) (by assumption)⟩))
      (first
        | (refine step_appK _ elemI rfl (.tmp 152) (.tmp 155) rfl (W.heap.size) 0 _ [] rfl (by exact (OwnK.empty W 3 1).drew) (fun q => ¬ G q ∧ q < w.heap.size ∧ ok q) Ak o.choice.kept.length nk dk hdk rfl (Hrk.out.grow (And.left (by assumption))) Hone.out (by omega) (by omega) (by simp <;> omega) ?_; intro v3 w3 hown3 hg3' hat3'; have hg3 : World.grownBy _ w3 (some (W.heap.size)) := hg3'; have hat3 : v3.ownBlock = some (W.heap.size) ∨ v3.ownBlock = some _ := hat3'; clear hg3' hat3'; have hown3' : OwnL (kInt .i64) w3 W.heap.size 3 v3 o.choice.kept := ⟨dk, by { have h0 := hown3.mono (show W.heap.size ≤ _ by omega); simp only [Nat.zero_add, List.nil_append] at h0; exact h0 }, Hmany.out.flat (kInt_flat _)⟩; have hb3 : Below W.heap.size W w3 := Below.trans (And.left (by assumption)) (below_of_grown hg3 (by simp <;> omega) (fun q hq => by have := Option.some.inj hq; omega)); have c5 := cell_then hb3 x5; have c6 := cell_then hb3 x6; have c7 := cell_then hb3 x7; simp only [Nat.zero_add] at hown3; obtain ⟨A3', n3, rfl, _, _, _⟩ := hown3.form; have Hown3 := Lib.hid hown3'; clear hown3 hown3' hg3 hat3)
        | (refine step_appK _ elemI rfl (.tmp 152) (.tmp 155) rfl (W.heap.size) 0 _ [] rfl (by exact ((OwnK.empty W 3 1).alloc _).drew) (fun q => ¬ G q ∧ q < w.heap.size ∧ ok q) Ak o.choice.kept.length nk dk hdk rfl (Hrk.out.grow (And.left (by assumption))) Hone.out (by omega) (by omega) (by simp <;> omega) ?_; intro v3 w3 hown3 hg3' hat3'; have hg3 : World.grownBy _ w3 (some (W.heap.size)) := hg3'; have hat3 : v3.ownBlock = some (W.heap.size) ∨ v3.ownBlock = some _ := hat3'; clear hg3' hat3'; have hown3' : OwnL (kInt .i64) w3 W.heap.size 3 v3 o.choice.kept := ⟨dk, by { have h0 := hown3.mono (show W.heap.size ≤ _ by omega); simp only [Nat.zero_add, List.nil_append] at h0; exact h0 }, Hmany.out.flat (kInt_flat _)⟩; have hb3 : Below W.heap.size W w3 := Below.trans (And.left (by assumption)) (below_of_grown hg3 (by simp <;> omega) (fun q hq => by have := Option.some.inj hq; omega)); have c5 := cell_then hb3 x5; have c6 := cell_then hb3 x6; have c7 := cell_then hb3 x7; have ha : W.heap.size ≤ W.heap.size + 1 := (by omega); have hbx : Blk w3 (W.heap.size + 1) 34 #[.slice none 0 0, .int .i64 0, .int .i64 0] := by { have h0 := ((Blk.new (W.alloc (.cells #[] 3)) 34 #[.slice none 0 0, .int .i64 0, .int .i64 0]).drew).grown hg3 (by simp); simpa using h0 }; have hne : v3.ownBlock ≠ some (W.heap.size + 1) := by { rcases hat3 with h | h <;> rw [h] <;> simp <;> omega }; have hm := plan_meet (t := o.choice.torn) (h := o.choice.half) hb3 hbx ha hown3' hne; have d0 := hbx.cell 0; have d1 := hbx.cell 1; have d2 := hbx.cell 2; have f0 := hbx.frozen 0; have f1 := hbx.frozen 1; have f2 := hbx.frozen 2; simp at d0 d1 d2; have Hne := Lib.hid hne; clear hbx hne; simp only [Nat.zero_add] at hown3; obtain ⟨A3', n3, rfl, _, _, _⟩ := hown3.form; have Hown3 := Lib.hid hown3'; clear hown3 hown3' hg3 hat3)
        | (refine step_appK _ elemI rfl (.tmp 152) (.tmp 155) rfl (W.heap.size + 1) 0 _ [] rfl (by { have h0 := (OwnK.empty (W.alloc (.cells #[.slice none 0 0, .int .i64 0, .int .i64 0] 34)) 3 1).drew; rw [show (W.alloc (.cells #[.slice none 0 0, .int .i64 0, .int .i64 0] 34)).heap.size = W.heap.size + 1 by simp] at h0; exact h0 }) (fun q => ¬ G q ∧ q < w.heap.size ∧ ok q) Ak o.choice.kept.length nk dk hdk rfl (Hrk.out.grow (And.left (by assumption))) Hone.out (by omega) (by omega) (by simp <;> omega) ?_; intro v3 w3 hown3 hg3' hat3'; have hg3 : World.grownBy _ w3 (some (W.heap.size + 1)) := hg3'; have hat3 : v3.ownBlock = some (W.heap.size + 1) ∨ v3.ownBlock = some _ := hat3'; clear hg3' hat3'; have hown3' : OwnL (kInt .i64) w3 W.heap.size 3 v3 o.choice.kept := ⟨dk, by { have h0 := hown3.mono (show W.heap.size ≤ _ by omega); simp only [Nat.zero_add, List.nil_append] at h0; exact h0 }, Hmany.out.flat (kInt_flat _)⟩; have hb3 : Below W.heap.size W w3 := Below.trans (And.left (by assumption)) (below_of_grown hg3 (by simp <;> omega) (fun q hq => by have := Option.some.inj hq; omega)); have c5 := cell_then hb3 x5; have c6 := cell_then hb3 x6; have c7 := cell_then hb3 x7; have ha : W.heap.size ≤ W.heap.size := (by omega); have hbx : Blk w3 (W.heap.size) 34 #[.slice none 0 0, .int .i64 0, .int .i64 0] := (((Blk.new W 34 #[.slice none 0 0, .int .i64 0, .int .i64 0]).alloc (.cells #[] 3)).drew).grown hg3 (by simp); have hne : v3.ownBlock ≠ some (W.heap.size) := by { rcases hat3 with h | h <;> rw [h] <;> simp <;> omega }; have hm := plan_meet (t := o.choice.torn) (h := o.choice.half) hb3 hbx ha hown3' hne; have d0 := hbx.cell 0; have d1 := hbx.cell 1; have d2 := hbx.cell 2; have f0 := hbx.frozen 0; have f1 := hbx.frozen 1; have f2 := hbx.frozen 2; simp at d0 d1 d2; have Hne := Lib.hid hne; clear hbx hne; simp only [Nat.zero_add] at hown3; obtain ⟨A3', n3, rfl, _, _, _⟩ := hown3.form; have Hown3 := Lib.hid hown3'; clear hown3 hown3' hg3 hat3))
    all_goals go_wp2_with fail
    all_goals go_meet
    all_goals have hws := HWs.out
    all_goals first
      | exact ⟨W.heap.size + 1, _, rfl, by omega, hm.1, hm.2.1, Hne.out, hm.2.2⟩
      | exact ⟨W.heap.size, _, rfl, by omega, hm.1, hm.2.1, Hne.out, hm.2.2⟩
      | exact ⟨w3.heap.size, _, rfl, by have := hb3.size; omega, Blk.new _ _ _, Hown3.out.grow (kInt_flat _) ((Below.refl _ _).alloc (Nat.le_refl _) _), fun e => by have := (Hown3.out.lt _ e).2; omega, hb3.alloc hb3.size _⟩
  case rest =>
    obtain ⟨a, vk, rfl, ha, hbk, hown, hne, hbW⟩ := hcut
    obtain ⟨w2, rfl⟩ : ∃ x, x = wc := ⟨wc, rfl⟩
    obtain ⟨Av, nv, _, hvk, _, _, _, _⟩ := hown.isL
    subst hvk
    have c0 := hbk.cell 0
    have c1' := hbk.cell 1
    have c2' := hbk.cell 2
    simp at c0 c1' c2'
    have hB52 := HB5.out.grow hbW
    have q1 := hB52.cell 1
    simp at q1
    have hd2 := HdW.out.grow hbW
    have hgW : g < W.heap.size := by have := HdW.out.low g HdW.out.base_le.2; omega
    have Hown := Lib.hid hown
    have Hbk := Lib.hid hbk
    have HbW := Lib.hid hbW
    have Hd2 := Lib.hid hd2
    clear hown hbk hbW hB52 hd2
    go_wp2_with fail
    refine (plan_any base G g D _ o.at_ _ o.choice w2 Hd2.out Hown.out.isL (fun q hq => by have := (Hown.out.lt q hq).1; omega) (by omega) Hd2.out.size hat).mono ?_
    rintro e w4 ⟨rfl, G', hd4, hf4'⟩
    obtain ⟨R, hR⟩ : ∃ R : Dev, R = D.plan o.at_ o.choice := ⟨_, rfl⟩
    rw [← hR] at hd4
    have HR := Lib.hid hR
    have hf4 := (Fr.of_below HbW.out G).trans hf4'
    have hGa := hf4'.block a Hbk.out.lt (Hno.out a (by omega))
    have hbk4 := Hbk.out.keep hGa.2
    have hGo : ∀ q, Value.ownBlock (.slice Av o.choice.kept.length nv) = some q → ¬ G' q ∧ w4.heap[q]? = w2.heap[q]? := fun q hq => hf4'.block q (Hown.out.lt q hq).2 (Hno.out q (by have := (Hown.out.lt q hq).1; have := HWs.out; omega))
    obtain ⟨xs0, hox, _⟩ := Hown.out
    have hox4 := hox.keep (fun q hq => (hGo q hq).2)
    have hres0 : ¬ G' (w.heap.size + 1 + 1) := (hf4.block _ HB6.out.lt (Hno.out _ (by omega))).1
    have Hox4 := Lib.hid hox4
    have HGo := Lib.hid hGo
    have Hbk4 := Lib.hid hbk4
    have k0 := hbk4.cell 0
    simp at k0
    clear hR hf4' hox hox4 hGo hbk4
    have hB4w := HB4.out.keep (hf4.block _ HB4.out.lt (Hno.out _ (Nat.le_refl _))).2
    have hB5w := HB5.out.keep (hf4.block _ HB5.out.lt (Hno.out _ (by omega))).2
    have hB6w := HB6.out.keep (hf4.block _ HB6.out.lt (Hno.out _ (by omega))).2
    have y0 := hB4w.cell 0
    have y1 := hB4w.cell 1
    have y2 := hB4w.cell 2
    have y3 := hB4w.cell 3
    have y4 := hB4w.cell 4
    have y5 := hB4w.cell 5
    have y6 := hB4w.cell 6
    have y7 := hB4w.cell 7
    have p1 := hB5w.cell 1
    have p5 := hB5w.cell 5
    have p6 := hB5w.cell 6
    have p7 := hB5w.cell 7
    simp at y0 y1 y2 y3 y4 y5 y6 y7 p1 p5 p6 p7
    have hmv : ∀ q, (fun q => ¬ G q ∧ q < w.heap.size ∧ ok q) q → q < W.heap.size → (fun q => ¬ G q ∧ q < w.heap.size ∧ ok q) q ∧ w4.heap[q]? = W.heap[q]? := fun q hq hlt => ⟨hq, (hf4.block q hlt hq.1).2⟩
    have K1 := Lib.hid ((G1.out.grow HbA.out).move hmv)
    have K2 := Lib.hid ((G2.out.grow HbA.out).move hmv)
    have K3 := Lib.hid ((G3.out.grow HbA.out).move hmv)
    have Kk := Lib.hid ((Gk.out.grow HbA.out).move hmv)
    have hF4 := (Fr.of_below (F := G) HbA.out).trans hf4
    have hsz4 := hf4.size
    have HB4w := Lib.hid hB4w
    have HB5w := Lib.hid hB5w
    have HB6w := Lib.hid hB6w
    have Hd4 := Lib.hid hd4
    have HF4 := Lib.hid hF4
    have hs4 : w.heap.size + 3 ≤ w4.heap.size := by have := HWs.out; omega
    have hl4 : w.heap.size < w4.heap.size := by omega
    have hl5 : w.heap.size + 1 < w4.heap.size := by omega
    clear hB4w hB5w hB6w hmv hF4 hf4 hd4 G1 G2 G3 Gk
    go_wp2_with fail
    go_loopw [172] (fun i wr => ∃ (k : Nat) (xs : List Value), k ≤ o.choice.kept.length ∧ i = .int .i64 (k : Int) ∧ OwnK wr W.heap.size 3 1 (.slice Av o.choice.kept.length nv) o.choice.kept.length xs ∧ (∀ q, q < w4.heap.size → Value.ownBlock (.slice Av o.choice.kept.length nv) ≠ some q → wr.heap[q]? = w4.heap[q]?) ∧ Below W.heap.size w4 wr) (fun i _ => o.choice.kept.length - (intOf i).toNat)
    case atStart => exact ⟨0, xs0, by omega, rfl, Hox4.out, fun _ _ _ => rfl, Below.refl _ _⟩
    case round =>
      obtain ⟨k, xs, hk, rfl, hox, hkp, hbw⟩ := hrel
      have hba : Blk wr a 34 _ := Hbk4.out.keep (hkp a Hbk4.out.lt hne)
      have l0 := hba.cell 0
      simp at l0
      have Hkp := Lib.hid hkp
      have Hbw := Lib.hid hbw
      have Hox := Lib.hid hox
      clear hkp hbw hba hox
      by_cases hlt : k < o.choice.kept.length
      · obtain ⟨gk, capk, cuk, hvk, hgk, hblk, hck, hcm, hcu⟩ := Hox.out.addr (by omega)
        cases hvk
        have hxl := Hox.out.1
        have hcell := hblk.cell k
        obtain ⟨u0, hu0⟩ : ∃ u0, cuk[k]? = some u0 := ⟨_, hcu k (by omega)⟩
        rw [hu0] at hcell
        have hfz := hblk.frozen k
        have Hset := Lib.hid (Hox.out.set_ k (.int .i64 0))
        clear hblk hcu hxl hu0
        go_wp2
        go_roundw
        case rel =>
          refine ⟨k + 1, _, by omega, by go_num, Hset.out, fun q hq hn => ?_, Hbw.out.setCell hgk _⟩
          rw [Below.heap_setCell _ _ _ _ (fun (e : q = gk) => hn (by rw [e]; rfl))]
          exact Hkp.out q hq hn
        case measure => simp [intOf]; omega
      · obtain rfl : k = o.choice.kept.length := by omega
        obtain ⟨wa, rfl⟩ : ∃ x, x = wr := ⟨wr, rfl⟩
        have hws := HWs.out
        have hno2 : ∀ q, q < w.heap.size + 3 → Value.ownBlock (.slice Av o.choice.kept.length nv) ≠ some q := fun q hq e => by have := (Hox.out.lt q e).1; omega
        have hBx := HB4w.out.keep (Hkp.out _ HB4w.out.lt (hno2 _ (by omega)))
        have hB5a := HB5w.out.keep (Hkp.out _ HB5w.out.lt (hno2 _ (by omega)))
        have hres := HB6w.out.keep (Hkp.out _ HB6w.out.lt (hno2 _ (by omega)))
        have hv0 := hBx.cell 0
        have hv1 := hBx.cell 1
        have hv2 := hBx.cell 2
        have hv3 := hBx.cell 3
        have hv4 := hBx.cell 4
        have hv5 := hBx.cell 5
        have hv6 := hBx.cell 6
        have hv7 := hBx.cell 7
        have o1 := hB5a.cell 1
        have o5 := hB5a.cell 5
        have o6 := hB5a.cell 6
        have o7 := hB5a.cell 7
        simp at hv0 hv1 hv2 hv3 hv4 hv5 hv6 hv7 o1 o5 o6 o7
        have hmv : ∀ q, (fun q => ¬ G q ∧ q < w.heap.size ∧ ok q) q → q < w4.heap.size → (fun q => ¬ G q ∧ q < w.heap.size ∧ ok q) q ∧ wa.heap[q]? = w4.heap[q]? := fun q hq hlt => ⟨hq, Hkp.out q hlt (hno2 q (by have := hq.2.1; omega))⟩
        have M1 := Lib.hid (K1.out.move hmv)
        have M2 := Lib.hid (K2.out.move hmv)
        have M3 := Lib.hid (K3.out.move hmv)
        have Mk := Lib.hid (Kk.out.move hmv)
        have Hres := Lib.hid hres
        clear hBx hB5a hres hmv
        go_wp2_with fail
        refine (refplan_any (fun q => ¬ G q ∧ q < w.heap.size ∧ ok q) _ D o.at_ _ o.choice wa ⟨A1, c1, A2, c2, A3, c3, rfl, M1.out, M2.out, M3.out⟩ ⟨_, rfl, Mk.out⟩).mono ?_
        rintro e w5 ⟨v5, rfl, hdev5, hb5⟩
        rw [← HR.out] at hdev5
        obtain ⟨a1, d1, a2, d2, a3, d3, rfl, k1, k2, k3⟩ := hdev5
        have hres5 := Hres.out.grow hb5
        have hbu : Below w.heap.size w4 w5 := (Hbw.out.mono (by omega)).trans (hb5.mono (by have := Hbw.out.size; omega))
        have hbg : ∀ q, G' q → q < w4.heap.size → w5.heap[q]? = w4.heap[q]? := fun q hq hlt => (hb5.block q (Nat.lt_of_lt_of_le hlt Hbw.out.size)).trans (Hkp.out q hlt (fun e => (HGo.out q e).1 hq))
        have Hres5 := Lib.hid hres5
        have Hbu := Lib.hid hbu
        have Hbg := Lib.hid hbg
        have L1 := Lib.hid k1
        have L2 := Lib.hid k2
        have L3 := Lib.hid k3
        clear hres5 hbu hbg k1 k2 k3
        go_wp2_with (with_reducible refine wpList_store_fr (op := ⟨none, .store 36 (.tmp 6) (.tmp 185), _, _, _, _⟩) rfl _ _ _ rfl (w.heap.size + 1 + 1) 36 [.slice none 0 0, .slice none 0 0, .int .i64 0, .slice none 0 0, .int .i64 0, .int .i64 0, .int .i64 0, .bool false] [.slice a1 R.sure.length d1, .slice a2 R.loose.length d2, .int .i64 R.left, .slice a3 R.choice.kept.length d3, .int .i64 R.choice.torn, .int .i64 R.choice.half, .int .i64 (R.changes : Int), .bool R.off] rfl rfl Hres5.out rfl (by kernel_rfl) (by simp [Value.oneCell']) ?_; intro w9 hblk9 hfr9)
        have z0 := hblk9.cell 0
        have z1 := hblk9.cell 1
        have z2 := hblk9.cell 2
        have z3 := hblk9.cell 3
        have z4 := hblk9.cell 4
        have z5 := hblk9.cell 5
        have z6 := hblk9.cell 6
        have z7 := hblk9.cell 7
        simp at z0 z1 z2 z3 z4 z5 z6 z7
        refine bodyPost_ret (v := .tuple #[.agg #[.slice a1 R.sure.length d1, .slice a2 R.loose.length d2, .int .i64 R.left, .slice a3 R.choice.kept.length d3, .int .i64 R.choice.torn, .int .i64 R.choice.half, .int .i64 (R.changes : Int), .bool R.off], .bool true]) (by simp [results, Try.results14, go_sem, z0, z1, z2, z3, z4, z5, z6, z7]) rfl ?_
        obtain ⟨hd9, hF9⟩ := step_end Hd4.out HF4.out (by omega) hres0 Hbu.out Hbg.out hfr9
        have hkeep : ∀ q, (fun q => ¬ G q ∧ q < w.heap.size ∧ ok q) q → q < w5.heap.size → (¬ G' q ∧ (q < w.heap.size → ok q)) ∧ w9.heap[q]? = w5.heap[q]? := fun q hq hlt => ⟨⟨(HF4.out.block q hq.2.1 hq.1).1, fun _ => hq.2.2⟩, (hfr9.block q hlt (fun (e : q = w.heap.size + 1 + 1) => by have := hq.2.1; omega)).2⟩
        rw [← HR.out]
        exact ⟨_, rfl, G', hd9, ⟨a1, d1, a2, d2, a3, d3, rfl, L1.out.move hkeep, L2.out.move hkeep, L3.out.move hkeep⟩, hF9⟩
end Go.Proofs.Ytffmnhjkfeoofaa
