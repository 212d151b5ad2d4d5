/-
  On, change, Plan.
-/
import Derived.Test.YtiaabgmmmekpnaaDevCut
namespace Go.Proofs.Ytiaabgmmmekpnaa
open Go.RowKit
set_option maxRecDepth 100000

theorem on_nil (w : World) : Calls Try.prog 10 #[.pointer none] w fun e w' => e = .returned (.bool false) ∧ w = w' := by
  go_enter Try.func10, Try.ntmps10
  go_wp2
  go_ret
  exact ⟨rfl, rfl⟩

section
variable {w w' : World} {base : Nat} {F : Nat → Prop} {g gs gl n : Nat} {vl vp : Value} {D : Dev}
/-- The head block is written anew: off and changes. -/
theorem DevIn.head (h : DevIn w base F g gs gl vl vp n D) (o : Bool) (ch : Nat) (hb : Blk w' g 60 #[.slice (some ⟨gs, 0, none⟩) n n, .slice (some ⟨gl, 0, none⟩) n n, vl, vp, .bool o, .int .i64 (ch : Int)])
    (hk : ∀ k, k ≠ g → w'.heap[k]? = w.heap[k]?) (hs : w.heap.size ≤ w'.heap.size) : DevIn w' base F g gs gl vl vp n { D with off := o, changes := ch } := by
  have hgs : gs ≠ g := h.sure.ne_ h.blk (by decide)
  have hgl : gl ≠ g := h.last.ne_ h.blk (by decide)
  refine ⟨hb, h.sure.keep (hk _ hgs), h.last.keep (hk _ hgl), h.ne, h.loose.keep fun k hk' => hk _ ?_, ?_, h.fg, h.fs, h.fl, h.fv, fun k hk' => ⟨(h.low k hk').1, Nat.lt_of_lt_of_le (h.low k hk').2 hs⟩, h.len, ⟨h.wf.sure, h.wf.loose, h.wf.left⟩⟩
  · intro e
    rw [e] at hk'
    rcases h.loose.2 with ⟨h1, _⟩ | ⟨g', cap, cur, h1, _, h2, _⟩
    · rw [h1] at hk'; cases hk'
    · rw [h1] at hk'
      cases hk'
      exact Blk.ne_ (t := 102) (t' := 60) h2 h.blk (by decide) rfl
  · rcases h.plan with h1 | ⟨h0, h1, gp, vk, e, hf, hb', hfk, hblk, xs, ho, hm⟩
    · exact .inl h1
    · refine .inr ⟨h0, h1, gp, vk, e, hf, hb', hfk, hblk.keep (hk _ (hblk.ne_ h.blk (by decide))), xs, ho.keep fun k hk' => hk _ ?_, hm.flat (kInt_flat _)⟩
      intro e
      rw [e] at hk'
      rcases ho.2 with ⟨h1, _⟩ | ⟨g', cap, cur, h1, _, h2, _⟩
      · rw [h1] at hk'; cases hk'
      · rw [h1] at hk'
        cases hk'
        exact Blk.ne_ (t := 3) (t' := 60) h2 h.blk (by decide) rfl
/-- The plan is written anew, in its block. -/
theorem DevIn.replan {gp : Nat} {cs : Array Value} (h : DevIn w base F g gs gl vl vp n D) (hb : Blk w gp 107 cs) (left : Int) (c : Choice) (hp : PlanAt w' base F vp left c) (hl : -1 ≤ left) (hk : ∀ k, k ≠ gp → w'.heap[k]? = w.heap[k]?) (hs : w.heap.size ≤ w'.heap.size) :
    DevIn w' base F g gs gl vl vp n { D with left := left, choice := c } := by
  have hgp : g ≠ gp := h.blk.ne_ hb (by decide)
  have hgs : gs ≠ gp := h.sure.ne_ hb (by decide)
  have hgl : gl ≠ gp := h.last.ne_ hb (by decide)
  refine ⟨h.blk.keep (hk _ hgp), h.sure.keep (hk _ hgs), h.last.keep (hk _ hgl), h.ne, h.loose.keep fun k hk' => hk _ ?_, hp, h.fg, h.fs, h.fl, h.fv, fun k hk' => ⟨(h.low k hk').1, Nat.lt_of_lt_of_le (h.low k hk').2 hs⟩, h.len, ⟨h.wf.sure, h.wf.loose, hl⟩⟩
  intro e
  rw [e] at hk'
  rcases h.loose.2 with ⟨h1, _⟩ | ⟨g', cap, cur, h1, _, h2, _⟩
  · rw [h1] at hk'; cases hk'
  · rw [h1] at hk'
    cases hk'
    exact Blk.ne_ (t := 102) (t' := 107) h2 hb (by decide) rfl
end

/-- Only rows of plans and of numbers matter to a plan. -/
theorem PlanAt.types {w w' : World} {base : Nat} {F : Nat → Prop} {vp : Value} {left : Int} {c : Choice} (h : PlanAt w base F vp left c) (hk : ∀ k t cs, Blk w k t cs → t = 107 ∨ t = 3 → w'.heap[k]? = w.heap[k]?) : PlanAt w' base F vp left c := by
  rcases h with h1 | ⟨h0, h1, gp, vk, e, hf, hb', hfk, hblk, xs, ho, hm⟩
  · exact .inl h1
  · refine .inr ⟨h0, h1, gp, vk, e, hf, hb', hfk, hblk.keep (hk _ _ _ hblk (.inl rfl)), xs, ho.keep fun k hk' => ?_, hm.flat (kInt_flat _)⟩
    rcases ho.2 with ⟨h1, _⟩ | ⟨g', cap, cur, h1, _, h2, _⟩
    · rw [h1] at hk'; cases hk'
    · rw [h1] at hk'
      cases hk'
      exact hk _ _ _ h2 (.inr rfl)
theorem OwnK.types {w w' : World} {base : Nat} {e : TypeId} {k n : Nat} {v : Value} {xs : List Value} (h : OwnK w base e k v n xs) (hk : ∀ j cs, Blk w j e cs → w'.heap[j]? = w.heap[j]?) : OwnK w' base e k v n xs := h.keep fun j hj => by
  rcases h.2 with ⟨h1, _⟩ | ⟨g', cap, cur, h1, _, h2, _⟩
  · rw [h1] at hj; cases hj
  · rw [h1] at hj
    cases hj
    exact hk _ _ h2

theorem on_any (base : Nat) (F : Nat → Prop) (g : Nat) (D : Dev) (w : World) (h : DevAt w base F g D) : Calls Try.prog 10 #[.pointer (some ⟨g, 0, none⟩)] w fun e w' => e = .returned (.bool D.off) ∧ DevAt w' base F g { D with off := false } ∧ Fr F F w w' := by
  obtain ⟨gs, gl, vl, vp, n, hin, hn⟩ := h
  obtain ⟨_, _, _, _, hc4, _⟩ := hin.cells
  have hf4 := hin.blk.frozen 4
  have Hin := Lib.hid hin
  clear hin
  cases hoff : D.off with
  | true =>
    rw [hoff] at hc4
    have Hoff := Lib.hid hoff
    clear hoff
    go_enter Try.func10, Try.ntmps10
    go_wp2
    go_ret
    refine ⟨rfl, ⟨gs, gl, vl, vp, n, ?_, hn⟩, (Fr.refl _ _).setCell Hin.out.fg _⟩
    refine Hin.out.head false D.changes ?_ (fun k hk => Below.heap_setCell _ _ _ _ hk) (by simp [World.setCell])
    simpa using Hin.out.blk.set_ 4 (.bool false)
  | false =>
    rw [hoff] at hc4
    have Hoff := Lib.hid hoff
    clear hoff
    go_enter Try.func10, Try.ntmps10
    go_wp2
    go_ret
    refine ⟨rfl, ⟨gs, gl, vl, vp, n, ?_, hn⟩, Fr.refl _ _⟩
    have : ({ D with off := false } : Dev) = D := by rw [← Hoff.out]
    rw [this]
    exact Hin.out

set_option maxHeartbeats 400000 in
theorem change_any (base : Nat) (F : Nat → Prop) (g : Nat) (D : Dev) (w : World) (h : DevAt w base F g D) (hc : D.changes ≤ 1099511627776) (hl : D.loose.length ≤ 1099511627776) :
    Calls Try.prog 72 #[.pointer (some ⟨g, 0, none⟩)] w fun e w' => e = .returned (.int .i64 D.change.2) ∧ DevAt w' base F g D.change.1 ∧ Fr F F w w' := by
  obtain ⟨gs, gl, vl, vp, n, hin, hn⟩ := h
  obtain ⟨hc0, hc1, hc2, hc3, hc4, hc5⟩ := hin.cells
  have hf5 := hin.blk.frozen 5
  have hf3 := hin.blk.frozen 3
  obtain ⟨D1, hD1⟩ : ∃ D1 : Dev, D1 = { D with changes := D.changes + 1 } := ⟨_, rfl⟩
  obtain ⟨W, hW⟩ : ∃ W, W = w.setCell ⟨g, 5, none⟩ (.int .i64 ((D.changes : Int) + 1)) := ⟨_, rfl⟩
  have hin1 : DevIn W base F g gs gl vl vp n D1 := by
    rw [hW, hD1]
    refine hin.head D.off (D.changes + 1) ?_ (fun k hk => Below.heap_setCell _ _ _ _ hk) (by simp [World.setCell])
    simpa using hin.blk.set_ 5 (.int .i64 ((D.changes : Int) + 1))
  have hfr1 : Fr F F w W := by rw [hW]; exact (Fr.refl _ _).setCell hin.fg _
  rcases hin1.plan with ⟨hleft, hvp⟩ | ⟨hl0, hl1, gp, vk, hvp, hfp, hbp, hfk, hblkp, hown⟩
  · have hch : D.change = ({ D with changes := D.changes + 1, left := if 0 < D.left then D.left - 1 else D.left }, 0) := by
      unfold Dev.change
      rw [hD1] at hleft
      rw [if_neg (by have : D.left = -1 := hleft; omega)]
    have hch2 : D.change = (D1, 0) := by
      rw [hch, hD1]
      rw [hD1] at hleft
      have : D.left = -1 := hleft
      rw [if_neg (by omega)]
    have Hch := Lib.hid hch2
    have Hin1 := Lib.hid hin1
    have HW := Lib.hid hW
    have Hfr1 := Lib.hid hfr1
    subst hvp
    clear hch hch2 hin hin1 hleft hD1 hW hfr1
    go_enter Try.func72, Try.ntmps72
    go_wp2
    go_ret
    rw [Hch.out, ← HW.out]
    exact ⟨rfl, ⟨gs, gl, vl, _, n, Hin1.out, hn⟩, Hfr1.out⟩
  · subst hvp
    have hpg : gp ≠ g := hblkp.ne_ hin1.blk (by decide)
    have hp0 := hblkp.cell 0
    have hp1 := hblkp.cell 1
    have hp2 := hblkp.cell 2
    have hp3 := hblkp.cell 3
    have hpf := hblkp.frozen 0
    simp at hp0 hp1 hp2 hp3
    have hD1l : D1.left = D.left := by rw [hD1]
    have hD1c : D1.choice = D.choice := by rw [hD1]
    have hD1o : D1.loose = D.loose := by rw [hD1]
    obtain ⟨hc0', hc1', hc2', hc3', hc4', hc5'⟩ := hin1.cells
    have Hin1 := Lib.hid hin1
    have HW := Lib.hid hW
    have Hfr1 := Lib.hid hfr1
    have Hblkp := Lib.hid hblkp
    have Hown := Lib.hid hown
    have HD1 := Lib.hid hD1
    have HD1o := Lib.hid hD1o
    have HD1c := Lib.hid hD1c
    have HD1l := Lib.hid hD1l
    have hpre : ∀ u : World, u.cell? ⟨gp, 0, none⟩ = W.cell? ⟨gp, 0, none⟩ → True := fun _ _ => trivial
    clear hin hin1 hD1 hfr1 hD1l hD1c hD1o hblkp hown hpre
    by_cases hz : 0 < D1.left
    · have hch : D.change = ({ D1 with left := D1.left - 1 }, 0) := by
        have h1 := HD1.out
        have h2 := HD1l.out
        unfold Dev.change
        rw [if_neg (by omega), if_pos (by omega), h1]
      have Hch := Lib.hid hch
      rw [hW] at hp0 hp1 hp2 hp3 hpf
      clear hch hW hc0' hc1' hc2' hc3' hc4' hc5'
      go_enter Try.func72, Try.ntmps72
      go_wp2
      go_ret
      rw [Hch.out, ← HW.out]
      refine ⟨rfl, ⟨gs, gl, vl, .pointer (some ⟨gp, 0, none⟩), n, ?_, hn⟩, Hfr1.out.setCell hfp _⟩
      have hb' : Blk (W.setCell ⟨gp, 0, none⟩ (.int .i64 (D1.left - 1))) gp 107 #[.int .i64 (D1.left - 1), vk, .int .i64 D1.choice.torn, .int .i64 D1.choice.half] := by simpa using Hblkp.out.set_ 0 (.int .i64 (D1.left - 1))
      refine Hin1.out.replan Hblkp.out (D1.left - 1) D1.choice (.inr ⟨by omega, by omega, gp, vk, rfl, hfp, hbp, hfk, hb', ?_⟩) (by omega) (fun k hk => Below.heap_setCell _ _ _ _ hk) (by simp [World.setCell])
      obtain ⟨xs, ho, hm⟩ := Hown.out
      refine ⟨xs, ho.keep fun k hk => Below.heap_setCell _ _ _ _ ?_, hm.flat (kInt_flat _)⟩
      intro e
      have e' : k = gp := e
      rw [e'] at hk
      rcases ho.2 with ⟨h1, _⟩ | ⟨g', cap, cur, h1, _, h2, _⟩
      · rw [h1] at hk; cases hk
      · rw [h1] at hk
        cases hk
        exact Blk.ne_ (t := 3) (t' := 107) h2 Hblkp.out (by decide) rfl
    · have hz0 : D1.left = 0 := by omega
      have hch : D.change = (D1.cut D1.choice, 6) := by
        have h1 := HD1.out
        have h2 := HD1l.out
        have h3 := HD1c.out
        unfold Dev.change
        rw [if_pos (by omega), h3, h1]
      have Hch := Lib.hid hch
      have HDev := Lib.hid (show DevAt W base F g D1 from ⟨gs, gl, vl, _, n, Hin1.out, hn⟩)
      have hl2 : D1.loose.length ≤ 1099511627776 := by rw [HD1o.out]; exact hl
      have hvk := Hown.out.isL
      have Hvk := Lib.hid hvk
      rw [hz0] at hp0
      have Hz0 := Lib.hid hz0
      rw [hW] at hp0 hp1 hp2 hp3 hpf
      clear hch hW hc0' hc1' hc2' hc3' hc4' hc5' hvk hz0 hz
      go_enter Try.func72, Try.ntmps72
      go_wp2_with fail
      rw [← HW.out]
      refine (cut_any base F g D1 _ vk D1.choice _ HDev.out Hvk.out hl2).mono ?_
      rintro e w2 ⟨rfl, hdev, hfr⟩
      go_wp2
      go_ret
      rw [Hch.out]
      exact ⟨rfl, hdev, Hfr1.out.trans hfr⟩

theorem plan_nil (a : Int) (x y z : Value) (w : World) : Calls Try.prog 26 #[.pointer none, .int .i64 a, .agg #[x, y, z]] w fun e w' => e = .returned (.tuple #[]) ∧ Below w.heap.size w w' := by
  go_enter Try.func26, Try.ntmps26
  go_wp2
  refine bodyPost_ret (results_none rfl _ _ _) rfl ?_
  exact ⟨rfl, (Below.refl _ _).alloc (Nat.le_refl _) _⟩

/-- F and all that is new. -/
def Up (F : Nat → Prop) (w w' : World) : Nat → Prop := fun k => F k ∨ (w.heap.size ≤ k ∧ k < w'.heap.size)
theorem Fr.up {F : Nat → Prop} {w w' : World} (h : Fr F F w w') : Fr F (Up F w w') w w' := h.more fun k hk => by rcases hk with h | h; exact .inl h; exact .inr h.1
section
variable {w w' : World} {base : Nat} {F F' : Nat → Prop} {g gs gl n : Nat} {vl vp : Value} {D : Dev}
/-- Its set may be greater. -/
theorem DevIn.wide (h : DevIn w base F g gs gl vl vp n D) (hF : ∀ k, F k → F' k) (hl : ∀ k, F' k → base ≤ k ∧ k < w.heap.size) : DevIn w base F' g gs gl vl vp n D :=
  ⟨h.blk, h.sure, h.last, h.ne, h.loose, h.plan.keep hF (fun _ _ => rfl), hF _ h.fg, hF _ h.fs, hF _ h.fl, fun k hk => hF _ (h.fv k hk), hl, h.len, h.wf⟩
end
theorem Up.low {w w' : World} {base : Nat} {F : Nat → Prop} (hF : ∀ k, F k → base ≤ k ∧ k < w.heap.size) (hb : base ≤ w.heap.size) (hs : w.heap.size ≤ w'.heap.size) : ∀ k, Up F w w' k → base ≤ k ∧ k < w'.heap.size := fun k hk => by
  rcases hk with h | h
  · have := hF k h; omega
  · omega

set_option maxHeartbeats 400000 in
theorem plan_any (base : Nat) (F : Nat → Prop) (g : Nat) (D : Dev) (ok : Nat → Prop) (a : Int) (vk : Value) (c : Choice) (w : World) (h : DevAt w base F g D) (hv : IsL (kInt .i64) w ok vk c.kept) (hok : ∀ k, ok k → k ≠ g) (hl : c.kept.length ≤ 1099511627776) (hb : base ≤ w.heap.size) (ha : -9223372036854775808 ≤ a ∧ a ≤ 9223372036854775807) :
    Calls Try.prog 26 #[.pointer (some ⟨g, 0, none⟩), .int .i64 a, .agg #[vk, .int .i64 c.torn, .int .i64 c.half]] w fun e w' => e = .returned (.tuple #[]) ∧ ∃ F', DevAt w' base F' g (D.plan a c) ∧ Fr F F' w w' := by
  obtain ⟨gs, gl, vl, vp, n, hin, hn⟩ := h
  obtain ⟨hc0, hc1, hc2, hc3, hc4, hc5⟩ := hin.cells
  have hf3 := hin.blk.frozen 3
  have hgw : g < w.heap.size := hin.blk.lt
  obtain ⟨W, hW⟩ : ∃ W, W = w.setCell ⟨g, 3, none⟩ (.pointer none) := ⟨_, rfl⟩
  have hB1 : Blk W g 60 #[.slice (some ⟨gs, 0, none⟩) n n, .slice (some ⟨gl, 0, none⟩) n n, vl, .pointer none, .bool D.off, .int .i64 (D.changes : Int)] := by
    rw [hW]; simpa using hin.blk.set_ 3 (.pointer none)
  have hk1 : ∀ k, k ≠ g → W.heap[k]? = w.heap[k]? := fun k hk => by rw [hW]; exact Below.heap_setCell _ _ _ _ hk
  have hs1 : W.heap.size = w.heap.size := by rw [hW]; simp [World.setCell]
  have hin1 : DevIn W base F g gs gl vl (.pointer none) n { D with left := -1, choice := c } := by
    have hgs : gs ≠ g := hin.sure.ne_ hin.blk (by decide)
    have hgl : gl ≠ g := hin.last.ne_ hin.blk (by decide)
    refine ⟨hB1, hin.sure.keep (hk1 _ hgs), hin.last.keep (hk1 _ hgl), hin.ne, hin.loose.keep fun k hk' => hk1 _ ?_, .inl ⟨rfl, rfl⟩, hin.fg, hin.fs, hin.fl, hin.fv, fun k hk' => ⟨(hin.low k hk').1, by rw [hs1]; exact (hin.low k hk').2⟩, hin.len, ⟨hin.wf.sure, hin.wf.loose, by show (-1 : Int) ≤ -1; omega⟩⟩
    intro e
    rw [e] at hk'
    rcases hin.loose.2 with ⟨h1, _⟩ | ⟨g', cap, cur, h1, _, h2, _⟩
    · rw [h1] at hk'; cases hk'
    · rw [h1] at hk'
      cases hk'
      exact Blk.ne_ (t := 102) (t' := 60) h2 hin.blk (by decide) rfl
  obtain ⟨W1, hW1⟩ : ∃ W1, W1 = W.alloc (.cells #[vk, .int .i64 c.torn, .int .i64 c.half] 34) := ⟨_, rfl⟩
  have hba : Below W.heap.size W W1 := by rw [hW1]; exact (Below.refl _ _).alloc (Nat.le_refl _) _
  have hin2 := hin1.keep (w' := W1) (fun k hk => hba.block k (hin1.low k hk).2) hba.size
  have hfr2 : Fr F F w W1 := (show Fr F F w W by rw [hW]; exact (Fr.refl _ _).setCell hin.fg _).trans (Fr.of_below hba F)
  have hv2 : IsL (kInt .i64) W1 ok vk c.kept := (hv.frame fun k hk _ => hk1 k (hok k hk)).grow hba
  have hbox2 : Blk W1 w.heap.size 34 #[vk, .int .i64 c.torn, .int .i64 c.half] := by rw [hW1, ← hs1]; exact Blk.new _ _ _
  have hWs : W1.heap.size = w.heap.size + 1 := by rw [hW1, ← hs1]; simp
  have Hin2 := Lib.hid hin2
  have Hfr2 := Lib.hid hfr2
  have Hv2 := Lib.hid hv2
  have Hbox2 := Lib.hid hbox2
  have HW1 := Lib.hid hW1
  by_cases h0 : 0 ≤ a
  · have Hs1 := Lib.hid hWs
    have HW := Lib.hid hW
    have HIN := Lib.hid hin
    clear hin hin1 hin2 hfr2 hv2 hv hbox2 hW1 hB1 hk1 hs1 hWs hba hW
    go_enter Try.func26, Try.ntmps26
    go_wp2_with fail
    rw [← HW.out, ← HW1.out]
    refine (clonei_any _ _ _ _ Hv2.out hl).mono ?_
    rintro e w2 ⟨v', rfl, hov, hb2⟩
    have hsz2 := hb2.size
    have hin3 := Hin2.out.keep (w' := w2) (fun k hk => hb2.block k (Hin2.out.low k hk).2) hb2.size
    obtain ⟨hd0, hd1, hd2, hd3, hd4, hd5⟩ := hin3.cells
    have hdf := hin3.blk.frozen 3
    have hbox3 := Hbox2.out.grow hb2
    have he0 := hbox3.cell 0
    have he1 := hbox3.cell 1
    have he2 := hbox3.cell 2
    have hef := hbox3.frozen 0
    simp at he0 he1 he2
    have hgb : g ≠ w.heap.size := by omega
    have Hin3 := Lib.hid hin3
    have Hov := Lib.hid hov
    have Hb2 := Lib.hid hb2
    have Hbox3 := Lib.hid hbox3
    obtain ⟨A', c', _, rfl, _, _, _⟩ := hov.isL
    have hg2 : g < w2.heap.size := hin3.blk.lt
    obtain ⟨X, hX⟩ : ∃ X, X = w2.setCell ⟨w.heap.size, 0, none⟩ (.slice A' c.kept.length c') := ⟨_, rfl⟩
    have hkX : ∀ k, k ≠ w.heap.size → X.heap[k]? = w2.heap[k]? := fun k hk => by rw [hX]; exact Below.heap_setCell _ _ _ _ hk
    have hsX : X.heap.size = w2.heap.size := by rw [hX]; simp [World.setCell]
    have hblkX : Blk X g 60 #[.slice (some ⟨gs, 0, none⟩) n n, .slice (some ⟨gl, 0, none⟩) n n, vl, .pointer none, .bool D.off, .int .i64 (D.changes : Int)] := hin3.blk.keep (hkX _ hgb)
    obtain ⟨Y, hY⟩ : ∃ Y, Y = X.alloc (.cells #[.int .i64 a, .slice A' c.kept.length c', .int .i64 c.torn, .int .i64 c.half] 107) := ⟨_, rfl⟩
    have hblkY : Blk Y g 60 #[.slice (some ⟨gs, 0, none⟩) n n, .slice (some ⟨gl, 0, none⟩) n n, vl, .pointer none, .bool D.off, .int .i64 (D.changes : Int)] := by rw [hY]; exact hblkX.alloc _
    have hcy : Y.cell? ⟨g, 3, none⟩ = some (.pointer none) := by rw [hblkY.cell]; rfl
    have hfy := hblkY.frozen 3
    have hblkP : Blk Y w2.heap.size 107 #[.int .i64 a, .slice A' c.kept.length c', .int .i64 c.torn, .int .i64 c.half] := by rw [hY, ← hsX]; exact Blk.new _ _ _
    have hXY := (Below.refl X.heap.size X).alloc (Nat.le_refl _) (.cells #[.int .i64 a, .slice A' c.kept.length c', .int .i64 c.torn, .int .i64 c.half] 107)
    rw [← hY] at hXY
    have HXY := Lib.hid hXY
    have HsX := Lib.hid hsX
    have HkX := Lib.hid hkX
    have HblkY := Lib.hid hblkY
    have HblkP := Lib.hid hblkP
    have HX := Lib.hid hX
    have HY := Lib.hid hY
    rw [hY, hX] at hcy hfy
    have hgb' : ¬ w.heap.size = g := fun e => hgb e.symm
    clear hin3 hov hb2 hbox3 hc0 hc1 hc2 hc3 hc4 hc5 hf3 hX hkX hsX hblkX hY hblkY hblkP hXY
    go_wp2
    go_end0
    have hplan : D.plan a c = { D with left := a, choice := c } := by
      unfold Dev.plan
      rw [show max a (-1) = a by omega]
    rw [hplan]
    obtain ⟨Z, hZ⟩ : ∃ Z, Z = (w2.setCell ⟨w.heap.size, 0, none⟩ (.slice A' c.kept.length c')).setCell ⟨g, 3, none⟩ (.pointer (some ⟨w2.heap.size, 0, none⟩)) := ⟨_, rfl⟩
    obtain ⟨V, hV⟩ : ∃ V, V = Z.alloc (.cells #[.int .i64 a, .slice A' c.kept.length c', .int .i64 c.torn, .int .i64 c.half] 107) := ⟨_, rfl⟩
    rw [← hZ, ← hV]
    have hZs : Z.heap.size = w2.heap.size := by rw [hZ]; simp [World.setCell]
    have hVs : V.heap.size = w2.heap.size + 1 := by rw [hV, ← hZs]; simp
    have hk : ∀ k, k ≠ g → k ≠ w.heap.size → k < w2.heap.size → V.heap[k]? = w2.heap[k]? := fun k h1 h2 h3 => by
      rw [hV, Below.heap_alloc _ _ _ (by omega), hZ, Below.heap_setCell _ _ _ _ h1, Below.heap_setCell _ _ _ _ h2]
    have hin := HIN.out
    have hin3 := Hin3.out
    have hs1 := Hs1.out
    have hb2 := Hb2.out
    have hVblk : Blk V g 60 #[.slice (some ⟨gs, 0, none⟩) n n, .slice (some ⟨gl, 0, none⟩) n n, vl, .pointer (some ⟨w2.heap.size, 0, none⟩), .bool D.off, .int .i64 (D.changes : Int)] := by
      rw [hV, hZ]
      refine Blk.alloc ?_ _
      have := (hin3.blk.far (p := ⟨w.heap.size, 0, none⟩) hgb (.slice A' c.kept.length c')).set_ 3 (.pointer (some ⟨w2.heap.size, 0, none⟩))
      simpa using this
    have hVp : Blk V w2.heap.size 107 #[.int .i64 a, .slice A' c.kept.length c', .int .i64 c.torn, .int .i64 c.half] := by rw [hV, ← hZs]; exact Blk.new _ _ _
    have hold : ∀ k, F k → k ≠ g → V.heap[k]? = w2.heap[k]? := fun k hF hne => by
      have := (hin.low k hF).2
      exact hk k hne (by omega) (by omega)
    have hfr : Fr F F w V := by
      have h1 := Hfr2.out.trans (Fr.of_below hb2 F)
      refine ⟨?_, ?_, ?_, by omega, fun k hk1 hk2 => ⟨hk2, ?_⟩⟩
      · rw [hV, hZ]; exact h1.os
      · rw [hV, hZ]; exact h1.tape
      · rw [hV, hZ]; exact h1.output
      · rw [hk k (fun e => hk2 (e ▸ hin.fg)) (by omega) (by omega)]
        exact (h1.block k hk1 hk2).2
    have hgs : gs ≠ g := hin.sure.ne_ hin.blk (by decide)
    have hgl : gl ≠ g := hin.last.ne_ hin.blk (by decide)
    have hov := Hov.out
    have hovl := hov.lt
    refine ⟨rfl, Up F w V, ⟨gs, gl, vl, _, n, ⟨hVblk, hin3.sure.keep (hold _ hin.fs hgs), hin3.last.keep (hold _ hin.fl hgl), hin.ne, hin3.loose.keep fun k hk' => hold k (hin.fv k hk') ?_, .inr ⟨h0, ha.2, w2.heap.size, _, rfl, .inr ⟨by omega, by omega⟩, by omega, fun k hk' => .inr ⟨by have := (hovl k hk').1; omega, by have := (hovl k hk').2; omega⟩, hVp, ?_⟩, .inl hin.fg, .inl hin.fs, .inl hin.fl, fun k hk' => .inl (hin.fv k hk'), Up.low hin.low hb (by omega), hin.len, ⟨hin.wf.sure, hin.wf.loose, ?_⟩⟩, hn⟩, hfr.up⟩
    · intro e
      rw [e] at hk'
      rcases hin.loose.2 with ⟨h1, _⟩ | ⟨g', cap, cur, h1, _, h2, _⟩
      · rw [h1] at hk'; cases hk'
      · rw [h1] at hk'
        cases hk'
        exact Blk.ne_ (t := 102) (t' := 60) h2 hin.blk (by decide) rfl
    · obtain ⟨xs, ho, hm⟩ := hov
      refine ⟨xs, (ho.keep fun k hk' => ?_).mono (by omega), hm.flat (kInt_flat _)⟩
      have := hovl k hk'
      exact hk k (by omega) (by omega) (by omega)
    · show (-1 : Int) ≤ a
      omega
  · have hplan : D.plan a c = { D with left := -1, choice := c } := by
      unfold Dev.plan
      rw [show max a (-1) = -1 by omega]
    have Hplan := Lib.hid hplan
    have HW := Lib.hid hW
    clear hin hin1 hin2 hfr2 hv2 hv hbox2 hW1 hB1 hk1 hs1 hWs hba hW hplan
    go_enter Try.func26, Try.ntmps26
    go_wp2
    go_end0
    rw [← HW.out, ← HW1.out, Hplan.out]
    exact ⟨rfl, F, ⟨gs, gl, vl, _, n, Hin2.out, hn⟩, Hfr2.out⟩
end Go.Proofs.Ytiaabgmmmekpnaa
