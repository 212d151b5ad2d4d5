/-
  wardshiplaw03.full.
-/
import Derived.Test.YtffmnhjkfeoofaaDevKit
namespace Go.Proofs.Ytffmnhjkfeoofaa
open Go.RowKit
set_option maxRecDepth 100000

/-- A sector of a byte, and what is at its beginning. -/
def fullB (c : UInt8) (l : List UInt8) : List UInt8 := l.take 256 ++ List.replicate (256 - (l.take 256).length) c
theorem fullB_length (c : UInt8) (l : List UInt8) : (fullB c l).length = 256 := by
  unfold fullB
  rw [List.length_append, List.length_replicate, List.length_take]
  omega

section
variable {P : Program} {w : World}
theorem run_copy_str (dT sT ty elem : TypeId) (g o dLen dCap : Nat) (l : List UInt8) (cur : List Value) (t : TypeId)
    (hu : P.underlying dT = some (.slice elem)) (hs : (P.info? elem).map (·.size) = some 1) (hg : Blk w g t cur.toArray) (hfit : o + (l.take dLen).length ≤ cur.length) :
    (Builtin.copy_ #[dT, sT] ty #[.slice (some ⟨g, o, none⟩) dLen dCap, str l]).run P w = .ok (goInt ((l.take dLen).length : Nat)) (w.setRow g (splice cur o ((l.take dLen).map u8)).toArray) := by
  have hst := run_storeCells_at P g o t ((l.take dLen).map u8) 0 cur.toArray w hg (by rw [List.length_map]; simpa using hfit) (u8_oneCell _)
  have hlen : (⟨l.toArray⟩ : ByteArray).size = l.length := by simp [ByteArray.size]
  have htk : List.take (Nat.min l.length dLen) (List.map (fun b : UInt8 => Value.int IntKind.u8 (b.toNat : Int)) l) = (l.take dLen).map u8 := by
    rw [List.map_take]
    show List.take (min l.length dLen) (l.map u8) = _
    rcases Nat.le_total l.length dLen with h | h
    · rw [Nat.min_eq_left h, List.take_of_length_le (by simp), List.take_of_length_le (by simpa using h)]
    · rw [Nat.min_eq_right h]
  rw [List.length_map] at hst
  simp only [Nat.add_zero] at hst
  cases hq : P.info? elem with
  | none => simp [hq] at hs
  | some i =>
    simp [Builtin.copy_, run_underlying hu, Builtin.lenOf, Builtin.firstCells, sizeOf, typeInfo, hq, hlen]
    rw [htk, hst]
    simp [Result.andThen, splice, Nat.min_comm]
theorem wpList_copy_str {ops : Array Oper} {o : Oper} {a : Act} {rest : List Oper} {Q : Exit → Act → World → Prop} (hgd : o.guard = none) (d s : Operand) (dT sT : TypeId)
    (ho : o.op = .call { callee := .builtin .copy, args := #[d, s], argTypes := #[dT, sT] }) (elem : TypeId) (hu : P.underlying dT = some (.slice elem)) (hsz : (P.info? elem).map (·.size) = some 1)
    (g off dLen dCap : Nat) (l : List UInt8) (hd : a.eval d = .slice (some ⟨g, off, none⟩) dLen dCap) (hs : a.eval s = str l)
    (cur : List Value) (t : TypeId) (hg : Blk w g t cur.toArray) (hfit : off + (l.take dLen).length ≤ cur.length)
    (h : ∀ w', Blk w' g t (splice cur off ((l.take dLen).map u8)).toArray → Fr (· = g) (· = g) w w' → wpList P ops Q rest (a.put o.dst (goInt ((l.take dLen).length : Nat))) w') : wpList P ops Q (o :: rest) a w :=
  wpList_plain hgd fun _ hK => by
    have hrun := run_copy_str (P := P) dT sT o.type elem g off dLen dCap l cur t hu hsz hg hfit
    unfold Oper.wp
    simp [execOp, ho, resolve, invoke, builtin, hd, hs, hrun, Result.andThen]
    refine hK _ _ ?_
    have := h _ (show _ = _ by simpa using setRow_heap w g _ _ t _ hg) (Fr.setRow _ _ _)
    simpa using this
end
theorem run_bytes256 (u : World) : (Instr.makeSlice 42 (.int .i64 256) (.int .i64 256)).run Try.prog u = .ok (.slice (some ⟨u.heap.size, 0, none⟩) 256 256) (u.alloc (.cells (Array.replicate 256 (.int .u8 0)) 5)) := by
  have hr := run_make_row' (P := Try.prog) 42 5 (.int .u8 0) 1 Try.underlying42 info_byte rfl .i64 .i64 256 (by omega) (by omega) u
  rw [show (#[Value.int .u8 0] : Array Value) = Array.replicate 1 (.int .u8 0) from rfl, madeCells_rep _ 1 _ (by decide)] at hr
  exact hr

theorem Blk.setBytes {w : World} {g : Nat} {t : TypeId} {l : List UInt8} (h : Blk w g t (l.map u8).toArray) (k : Nat) (x : UInt8) : Blk (w.setCell ⟨g, k, none⟩ (u8 x)) g t ((l.set k x).map u8).toArray := by
  have := h.set_ k (u8 x)
  rwa [List.setIfInBounds_toArray, ← List.map_set] at this

theorem zeros_u8 (c : UInt8) (n : Nat) : ((List.replicate 0 c ++ List.replicate n (0 : UInt8)).map u8).toArray = Array.replicate n (.int .u8 0) := by
  rw [List.replicate_zero, List.nil_append, List.map_replicate]
  simp [u8]

set_option maxHeartbeats 400000 in
theorem full_any (c : UInt8) (l : List UInt8) (w : World) :
    Calls Try.prog 37 #[u8 c, str l] w fun e w' => ∃ g, e = .returned (.slice (some ⟨g, 0, none⟩) 256 256) ∧ w.heap.size ≤ g ∧ Blk w' g 5 ((fullB c l).map u8).toArray ∧ Below w.heap.size w w' := by
  have hmk := run_bytes256
  obtain ⟨Z, hZ⟩ : ∃ Z : Array Value, Z = Array.replicate 256 (.int .u8 0) := ⟨_, rfl⟩
  rw [← hZ] at hmk
  have HZ := Lib.hid hZ
  have hba : Below w.heap.size w (w.alloc (.cells Z 5)) := (Below.refl _ _).alloc (Nat.le_refl _) _
  have hblk0 : Blk (w.alloc (.cells Z 5)) w.heap.size 5 ((List.replicate 0 c ++ List.replicate 256 (0 : UInt8)).map u8).toArray := by
    have := Blk.new w 5 Z
    rw [HZ.out] at this ⊢
    rw [zeros_u8 c 256]
    exact this
  have Hba := Lib.hid hba
  have Hblk0 := Lib.hid hblk0
  clear hZ hba hblk0
  unfold u8
  go_enter Try.func37, Try.ntmps37
  go_wp2_with fail
  go_loopw [10] (fun i wr => ∃ k : Nat, k ≤ 256 ∧ i = .int .i64 (k : Int) ∧ Blk wr w.heap.size 5 ((List.replicate k c ++ List.replicate (256 - k) (0 : UInt8)).map u8).toArray ∧ Below w.heap.size w wr) (fun i _ => 256 - (intOf i).toNat)
  case atStart => exact ⟨0, by omega, rfl, Hblk0.out, Hba.out⟩
  case round =>
    obtain ⟨k, hk, rfl, hblk, hb⟩ := hrel
    by_cases hlt : k < 256
    · have hset := hblk.setBytes k c
      have hlen : (List.replicate k c ++ List.replicate (256 - k) (0 : UInt8)).length = 256 := by simp; omega
      have hcw := hblk.cell k
      have hfz := hblk.frozen k
      rw [Array.getElem?_eq_getElem (by simp; omega)] at hcw
      have heq : (List.replicate k c ++ List.replicate (256 - k) (0 : UInt8)).set k c = List.replicate (k + 1) c ++ List.replicate (256 - (k + 1)) (0 : UInt8) := by
        rw [List.set_append_right _ _ (by simp)]
        simp only [List.length_replicate, Nat.sub_self]
        obtain ⟨m, hm⟩ : ∃ m, 256 - k = m + 1 := ⟨255 - k, by omega⟩
        rw [hm, List.replicate_succ, List.set_cons_zero, show 256 - (k + 1) = m by omega, List.replicate_succ' (n := k), List.append_assoc]
        rfl
      rw [heq] at hset
      unfold u8 at hset
      have Hset := Lib.hid hset
      have Hb := Lib.hid hb
      clear hset heq hlen hblk hb
      go_wp2
      go_roundw
      case rel => exact ⟨k + 1, by omega, by go_num, Hset.out, Hb.out.setCell (Nat.le_refl _) _⟩
      case measure => simp [intOf]; omega
    · obtain rfl : k = 256 := by omega
      have hblk' : Blk wr w.heap.size 5 (((List.replicate 256 c).map u8)).toArray := by
        have := hblk
        rw [Nat.sub_self, show List.replicate 0 (0 : UInt8) = [] from rfl, List.append_nil] at this
        exact this
      have hfit : 0 + (l.take 256).length ≤ ((List.replicate 256 c).map u8).length := by rw [List.length_map, List.length_replicate, List.length_take]; omega
      have hspl : splice ((List.replicate 256 c).map u8) 0 ((l.take 256).map u8) = (fullB c l).map u8 := by
        unfold splice fullB
        rw [List.take_zero, List.nil_append, List.map_append, List.length_map, Nat.zero_add, ← List.map_drop, List.drop_replicate]
      have Hblk := Lib.hid hblk'
      have Hfit := Lib.hid hfit
      have Hspl := Lib.hid hspl
      have Hb := Lib.hid hb
      clear hblk hblk' hfit hspl hb
      go_wp2_with (with_reducible refine wpList_copy_str rfl (.tmp 18) (.tmp 19) 42 9 rfl 5 Try.underlying42 size_u8 w.heap.size 0 256 256 l rfl rfl _ 5 Hblk.out Hfit.out ?_; intro w5 hblk5 hfr5)
      go_ret
      refine ⟨_, rfl, Nat.le_refl _, (show Blk w5 w.heap.size 5 ((fullB c l).map u8).toArray by rw [← Hspl.out]; exact hblk5), Hb.out.trans (hfr5.below (fun k (hk : k = w.heap.size) => by omega) Hb.out.size)⟩
end Go.Proofs.Ytffmnhjkfeoofaa
