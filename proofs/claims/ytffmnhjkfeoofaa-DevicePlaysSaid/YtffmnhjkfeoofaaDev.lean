/-
  The device in memory: where its parts lie, and the calls that read it.
-/
import Derived.Test.YtffmnhjkfeoofaaFrame
import Derived.Test.YtffmnhjkfeoofaaDevMath
import Derived.Test.YtffmnhjkfeoofaaClone
import Derived.WalkSpells
namespace Go.Proofs.Ytffmnhjkfeoofaa
open Go.RowKit
set_option maxRecDepth 100000

def secC (s : List UInt8) : List Value := s.map u8
def wrC (x : Nat × List UInt8) : List Value := .int .i64 (x.1 : Int) :: x.2.map u8
theorem secC_oneCell (s : List UInt8) : ∀ u ∈ secC s, u.oneCell' = true := u8_oneCell s
theorem wrC_oneCell (x : Nat × List UInt8) : ∀ u ∈ wrC x, u.oneCell' = true := by
  intro u hu
  rcases List.mem_cons.1 hu with rfl | h
  · rfl
  · exact u8_oneCell _ u h
theorem many_wr_oneCell (L : List (Nat × List UInt8)) : ∀ u ∈ many wrC L, u.oneCell' = true := by
  intro u hu
  obtain ⟨l, hl, hu⟩ := List.mem_flatten.1 hu
  obtain ⟨x, _, rfl⟩ := List.mem_map.1 hl
  exact wrC_oneCell x u hu

/-- The plan of a cut, if there is one. -/
def PlanAt (w : World) (base : Nat) (F : Nat → Prop) (vp : Value) (left : Int) (c : Choice) : Prop :=
  (left = -1 ∧ vp = .pointer none) ∨
  (0 ≤ left ∧ left ≤ 9223372036854775807 ∧ ∃ gp vk, vp = .pointer (some ⟨gp, 0, none⟩) ∧ F gp ∧ base ≤ gp ∧ (∀ k, vk.ownBlock = some k → F k) ∧
    Blk w gp 112 #[.int .i64 left, vk, .int .i64 c.torn, .int .i64 c.half] ∧ OwnL (kInt .i64) w base 3 vk c.kept)
/-- Where the parts of a device lie. -/
structure DevIn (w : World) (base : Nat) (F : Nat → Prop) (g gs gl : Nat) (vl vp : Value) (n : Nat) (D : Dev) : Prop where
  blk : Blk w g 81 #[.slice (some ⟨gs, 0, none⟩) n n, .slice (some ⟨gl, 0, none⟩) n n, vl, vp, .bool D.off, .int .i64 (D.changes : Int)]
  sure : Blk w gs 91 (many secC D.sure).toArray
  last : Blk w gl 91 (many secC (applyW D.sure D.loose)).toArray
  ne : gs ≠ gl
  loose : OwnK w base 115 257 vl D.loose.length (many wrC D.loose)
  plan : PlanAt w base F vp D.left D.choice
  fg : F g
  fs : F gs
  fl : F gl
  fv : ∀ k, vl.ownBlock = some k → F k
  low : ∀ k, F k → base ≤ k ∧ k < w.heap.size
  len : D.sure.length = n
  wf : D.Wf
/-- A device at a pointer. -/
def DevAt (w : World) (base : Nat) (F : Nat → Prop) (g : Nat) (D : Dev) : Prop := ∃ gs gl vl vp n, DevIn w base F g gs gl vl vp n D ∧ 0 < n ∧ n ≤ 4096

section
variable {w w' : World} {base : Nat} {F F' : Nat → Prop} {g gs gl n : Nat} {vl vp : Value} {D : Dev}
theorem DevIn.secs (h : DevIn w base F g gs gl vl vp n D) : ∀ x ∈ D.sure, (secC x).length = 256 := fun x hx => by unfold secC; rw [List.length_map]; exact h.wf.sure x hx
theorem applied (h : D.Wf) : ∀ x ∈ applyW D.sure D.loose, x.length = 256 := applyW_wf _ _ h.sure fun x hx => (h.loose x hx).2
theorem DevIn.lasts (h : DevIn w base F g gs gl vl vp n D) : ∀ x ∈ applyW D.sure D.loose, (secC x).length = 256 := fun x hx => by unfold secC; rw [List.length_map]; exact applied h.wf x hx
theorem DevIn.wrs (h : DevIn w base F g gs gl vl vp n D) : ∀ x ∈ D.loose, (wrC x).length = 257 := fun x hx => by unfold wrC; rw [List.length_cons, List.length_map, (h.wf.loose x hx).2]
theorem applied_len (h : D.sure.length = n) : (applyW D.sure D.loose).length = n := (applyW_length _ _).trans h
/-- All that it is made of stays. -/
theorem PlanAt.keep {left : Int} {c : Choice} (h : PlanAt w base F vp left c) (hF : ∀ k, F k → F' k) (hk : ∀ k, F k → w'.heap[k]? = w.heap[k]?) : PlanAt w' base F' vp left c := by
  rcases h with h | ⟨h0, h1, gp, vk, e, hf, hb, hfk, hblk, hown⟩
  · exact .inl h
  · refine .inr ⟨h0, h1, gp, vk, e, hF _ hf, hb, fun k h => hF _ (hfk k h), hblk.keep (hk _ hf), ?_⟩
    obtain ⟨xs, ho, hm⟩ := hown
    exact ⟨xs, ho.keep fun k h => hk _ (hfk k h), hm.flat (kInt_flat _)⟩
theorem DevIn.keep (h : DevIn w base F g gs gl vl vp n D) (hk : ∀ k, F k → w'.heap[k]? = w.heap[k]?) (hs : w.heap.size ≤ w'.heap.size) : DevIn w' base F g gs gl vl vp n D :=
  ⟨h.blk.keep (hk _ h.fg), h.sure.keep (hk _ h.fs), h.last.keep (hk _ h.fl), h.ne, h.loose.keep fun k hk' => hk _ (h.fv k hk'), h.plan.keep (fun _ h => h) hk, h.fg, h.fs, h.fl, h.fv, fun k hk' => ⟨(h.low k hk').1, Nat.lt_of_lt_of_le (h.low k hk').2 hs⟩, h.len, h.wf⟩
theorem DevAt.keep (h : DevAt w base F g D) (hk : ∀ k, F k → w'.heap[k]? = w.heap[k]?) (hs : w.heap.size ≤ w'.heap.size) : DevAt w' base F g D := by
  obtain ⟨gs, gl, vl, vp, n, h, hn⟩ := h
  exact ⟨gs, gl, vl, vp, n, h.keep hk hs, hn⟩
theorem DevAt.low (h : DevAt w base F g D) : ∀ k, F k → base ≤ k ∧ k < w.heap.size := by
  obtain ⟨gs, gl, vl, vp, n, h, hn⟩ := h
  exact h.low
theorem DevAt.wf (h : DevAt w base F g D) : D.Wf := by
  obtain ⟨gs, gl, vl, vp, n, h, hn⟩ := h
  exact h.wf
theorem DevAt.lens (h : DevAt w base F g D) : 0 < D.sure.length ∧ D.sure.length ≤ 4096 := by
  obtain ⟨gs, gl, vl, vp, n, h, hn⟩ := h
  rw [h.len]
  exact hn
theorem DevAt.grow (h : DevAt w base F g D) (hb : Below w.heap.size w w') : DevAt w' base F g D := h.keep (fun k hk => hb.block k (h.low k hk).2) hb.size
theorem DevAt.mono {base' : Nat} (h : DevAt w base F g D) (hb : base' ≤ base) : DevAt w base' F g D := by
  obtain ⟨gs, gl, vl, vp, n, h, hn⟩ := h
  refine ⟨gs, gl, vl, vp, n, ⟨h.blk, h.sure, h.last, h.ne, h.loose.mono hb, ?_, h.fg, h.fs, h.fl, h.fv, fun k hk => ⟨Nat.le_trans hb (h.low k hk).1, (h.low k hk).2⟩, h.len, h.wf⟩, hn⟩
  rcases h.plan with h | ⟨h0, h1, gp, vk, e, hf, hg, hfk, hblk, hown⟩
  · exact .inl h
  · exact .inr ⟨h0, h1, gp, vk, e, hf, by omega, hfk, hblk, hown.mono hb⟩
end

/-! ### The calls that only read -/
theorem off_nil (w : World) : Calls Try.prog 15 #[.pointer none] w fun e w' => e = .returned (.bool true) ∧ w = w' := by
  go_enter Try.func15, Try.ntmps15
  go_wp2
  go_ret
  exact ⟨rfl, rfl⟩
theorem off_cell (g : Nat) (b : Bool) (w : World) (h : w.cell? ⟨g, 4, none⟩ = some (.bool b)) : Calls Try.prog 15 #[.pointer (some ⟨g, 0, none⟩)] w fun e w' => e = .returned (.bool b) ∧ w = w' := by
  go_enter Try.func15, Try.ntmps15
  go_wp2
  go_ret
  exact ⟨rfl, rfl⟩
section
variable {w : World} {base : Nat} {F : Nat → Prop} {g gs gl n : Nat} {vl vp : Value} {D : Dev}
theorem DevIn.cells (h : DevIn w base F g gs gl vl vp n D) :
    w.cell? ⟨g, 0, none⟩ = some (.slice (some ⟨gs, 0, none⟩) n n) ∧ w.cell? ⟨g, 1, none⟩ = some (.slice (some ⟨gl, 0, none⟩) n n) ∧ w.cell? ⟨g, 2, none⟩ = some vl ∧ w.cell? ⟨g, 3, none⟩ = some vp ∧ w.cell? ⟨g, 4, none⟩ = some (.bool D.off) ∧ w.cell? ⟨g, 5, none⟩ = some (.int .i64 (D.changes : Int)) := by
  refine ⟨?_, ?_, ?_, ?_, ?_, ?_⟩ <;> rw [h.blk.cell] <;> rfl
end
theorem off_any (base : Nat) (F : Nat → Prop) (g : Nat) (D : Dev) (w : World) (h : DevAt w base F g D) : Calls Try.prog 15 #[.pointer (some ⟨g, 0, none⟩)] w fun e w' => e = .returned (.bool D.off) ∧ w = w' := by
  obtain ⟨gs, gl, vl, vp, n, h, hn⟩ := h
  exact off_cell g D.off w h.cells.2.2.2.2.1
theorem size_nil (w : World) : Calls Try.prog 12 #[.pointer none] w fun e w' => e = .returned (.int .i64 0) ∧ w = w' := by
  go_enter Try.func12, Try.ntmps12
  go_wp2
  go_ret
  exact ⟨rfl, rfl⟩
theorem size_any (base : Nat) (F : Nat → Prop) (g : Nat) (D : Dev) (w : World) (h : DevAt w base F g D) : Calls Try.prog 12 #[.pointer (some ⟨g, 0, none⟩)] w fun e w' => e = .returned (.int .i64 (D.sure.length : Int)) ∧ w = w' := by
  obtain ⟨gs, gl, vl, vp, n, h, hn⟩ := h
  obtain ⟨_, h1, _⟩ := h.cells
  have hl := Lib.hid h.len
  clear h
  go_enter Try.func12, Try.ntmps12
  go_wp2
  go_ret
  exact ⟨by rw [hl.out]; rfl, rfl⟩
theorem loose_nil (w : World) : Calls Try.prog 16 #[.pointer none] w fun e w' => e = .returned (.int .i64 0) ∧ w = w' := by
  go_enter Try.func16, Try.ntmps16
  go_wp2
  go_ret
  exact ⟨rfl, rfl⟩
theorem loose_any (base : Nat) (F : Nat → Prop) (g : Nat) (D : Dev) (w : World) (h : DevAt w base F g D) : Calls Try.prog 16 #[.pointer (some ⟨g, 0, none⟩)] w fun e w' => e = .returned (.int .i64 (D.loose.length : Int)) ∧ w = w' := by
  obtain ⟨gs, gl, vl, vp, n, h, hn⟩ := h
  obtain ⟨_, _, h1, _⟩ := h.cells
  obtain ⟨A, c, rfl, _⟩ := h.loose.form
  clear h
  go_enter Try.func16, Try.ntmps16
  go_wp2
  go_ret
  exact ⟨rfl, rfl⟩
theorem changes_nil (w : World) : Calls Try.prog 17 #[.pointer none] w fun e w' => e = .returned (.int .i64 0) ∧ w = w' := by
  go_enter Try.func17, Try.ntmps17
  go_wp2
  go_ret
  exact ⟨rfl, rfl⟩
theorem changes_any (base : Nat) (F : Nat → Prop) (g : Nat) (D : Dev) (w : World) (h : DevAt w base F g D) : Calls Try.prog 17 #[.pointer (some ⟨g, 0, none⟩)] w fun e w' => e = .returned (.int .i64 (D.changes : Int)) ∧ w = w' := by
  obtain ⟨gs, gl, vl, vp, n, h, hn⟩ := h
  obtain ⟨_, _, _, _, _, h1⟩ := h.cells
  clear h
  go_enter Try.func17, Try.ntmps17
  go_wp2
  go_ret
  exact ⟨rfl, rfl⟩
theorem find_nil (i : Int) (w : World) : Calls Try.prog 44 #[.pointer none, .int .i64 i] w fun e w' => e = .returned (.int .i64 6) ∧ w = w' := by
  go_enter Try.func44, Try.ntmps44
  go_wp2_with fail
  refine (off_nil _).mono ?_
  rintro e w' ⟨rfl, rfl⟩
  go_wp2_with fail
  go_ret
  exact ⟨rfl, rfl⟩
theorem find_any (base : Nat) (F : Nat → Prop) (g : Nat) (D : Dev) (i : Int) (w : World) (h : DevAt w base F g D) : Calls Try.prog 44 #[.pointer (some ⟨g, 0, none⟩), .int .i64 i] w fun e w' => e = .returned (.int .i64 (D.why i)) ∧ w = w' := by
  have H := Lib.hid h
  obtain ⟨gs, gl, vl, vp, n, h, hn⟩ := h
  obtain ⟨_, h1, _⟩ := h.cells
  have Hl := Lib.hid h.len
  have Hwhy := Lib.hid (show D.why i = if D.off then 6 else if i < 0 ∨ (D.sure.length : Int) ≤ i then 2 else 0 from rfl)
  clear h
  go_enter Try.func44, Try.ntmps44
  go_wp2_with fail
  refine (off_any _ _ _ D _ H.out).mono ?_
  rintro e w' ⟨rfl, rfl⟩
  cases hoff : D.off with
  | true =>
    rw [hoff] at Hwhy
    go_wp2_with fail
    go_ret
    exact ⟨by rw [Hwhy.out]; rfl, rfl⟩
  | false =>
    rw [hoff] at Hwhy
    go_wp2_with fail
    all_goals go_ret
    all_goals refine ⟨?_, rfl⟩
    all_goals have hl := Hl.out
    all_goals rw [Hwhy.out, if_neg (by decide)]
    all_goals first | (rw [if_pos (by omega)]; rfl) | (rw [if_neg (by omega)]; rfl)

theorem now_eq (D : Dev) (i : Nat) (h : i < D.sure.length) : D.now i = (applyW D.sure D.loose).getD i [] := (applyW_at _ _ i h).symm
/-- How a Read ends. -/
def ReadPost (D : Dev) (i : Int) (w : World) (e : Ending) (w' : World) : Prop :=
  (D.why i ≠ 0 ∧ e = .returned (.tuple #[.slice none 0 0, .int .i64 (D.why i)]) ∧ w = w') ∨
  (D.why i = 0 ∧ ∃ v, e = .returned (.tuple #[v, .int .i64 0]) ∧ Own1 w' w.heap.size 5 v ((D.now i.toNat).map u8) ∧ Below w.heap.size w w')
theorem read_nil (i : Int) (w : World) : Calls Try.prog 19 #[.pointer none, .int .i64 i] w fun e w' => e = .returned (.tuple #[.slice none 0 0, .int .i64 6]) ∧ w = w' := by
  go_enter Try.func19, Try.ntmps19
  go_wp2_with fail
  refine (find_nil _ _).mono ?_
  rintro e w' ⟨rfl, rfl⟩
  go_wp2_with fail
  go_ret2
  exact ⟨rfl, rfl⟩
set_option maxHeartbeats 400000 in
theorem read_any (base : Nat) (F : Nat → Prop) (g : Nat) (D : Dev) (i : Int) (w : World) (h : DevAt w base F g D) : Calls Try.prog 19 #[.pointer (some ⟨g, 0, none⟩), .int .i64 i] w (ReadPost D i w) := by
  have H := Lib.hid h
  obtain ⟨gs, gl, vl, vp, n, h, hn⟩ := h
  obtain ⟨_, h1, _⟩ := h.cells
  have Hin := Lib.hid h
  clear h
  by_cases hy : D.why i = 0
  · obtain ⟨hoff, h0, hlt⟩ : D.off = false ∧ 0 ≤ i ∧ i < D.sure.length := by
      unfold Dev.why at hy
      cases ho : D.off
      · rw [ho] at hy
        simp only [Bool.false_eq_true, if_false] at hy
        split at hy
        · cases hy
        · exact ⟨rfl, by omega, by omega⟩
      · rw [ho] at hy; cases hy
    obtain ⟨k, rfl⟩ := Int.eq_ofNat_of_zero_le h0
    have hkn : (k : Int) < (n : Int) := by have := Hin.out.len; omega
    have hks : k < D.sure.length := by have := Hin.out.len; omega
    have hka : k < (applyW D.sure D.loose).length := by rw [applyW_length]; exact hks
    have hcl := Hin.out.last.range (k * 256) _ (many_at secC 256 _ Hin.out.lasts k hka)
    have hnow : (applyW D.sure D.loose)[k] = D.now k := by rw [now_eq D k hks, List.getD_eq_getElem?_getD, List.getElem?_eq_getElem hka]; rfl
    rw [hnow] at hcl
    have hl256 : (D.now k).length = 256 := now_length Hin.out.wf k hks
    have hB : IsB w (fun _ => True) (.slice (some ⟨gl, k * 256, none⟩) 256 256) (D.now k) := ⟨_, 256, by rw [hl256], by omega, by unfold maxLen; omega, rd_of_range trivial hcl⟩
    have HB := Lib.hid hB
    have Hnl : (D.now k).length ≤ 1099511627776 := by omega
    have Hy := Lib.hid hy
    clear hy h0 hlt hoff hks hka hcl hnow hl256 hB
    go_enter Try.func19, Try.ntmps19
    go_wp2_with fail
    refine (find_any _ _ _ D _ _ H.out).mono ?_
    rintro e w' ⟨rfl, rfl⟩
    rw [Hy.out]
    go_wp2_with fail
    refine (clone_any _ _ _ _ HB.out Hnl).mono ?_
    rintro e w1 ⟨v', rfl, ho, hb⟩
    go_wp2_with fail
    go_ret2
    exact .inr ⟨Hy.out, v', rfl, ho, hb⟩
  · have Hy := Lib.hid hy
    have hne : (D.why (i : Int) != 0) = true := by simpa using hy
    clear hy
    go_enter Try.func19, Try.ntmps19
    go_wp2_with fail
    refine (find_any _ _ _ D _ _ H.out).mono ?_
    rintro e w' ⟨rfl, rfl⟩
    go_wp2_with fail
    go_ret2
    exact .inl ⟨Hy.out, rfl, rfl⟩
end Go.Proofs.Ytffmnhjkfeoofaa
