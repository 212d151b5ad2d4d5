/-
  What the laws of the device share: texts of zeros, devices whose power stays, indexes.
-/
import Derived.Test.YtffmnhjkfeoofaaDevMore
import Derived.Test.YtffmnhjkfeoofaaDevFits
import Derived.StillTailTactics
import Derived.BigQuiet
namespace Go.Proofs.Ytffmnhjkfeoofaa
open Go.RowKit
set_option maxRecDepth 100000

theorem fits_out {n : Int} {L : List OpM} (h : fitsB n L = true) : 1 ≤ n ∧ n ≤ 10 ∧ L.length ≤ 60 ∧ ∀ o ∈ L, o.s.length ≤ 300 ∧ o.choice.kept.length ≤ 70 := by
  unfold fitsB opFits at h
  simp only [Bool.and_eq_true, decide_eq_true_eq, List.all_eq_true] at h
  exact ⟨h.1.1.1, h.1.1.2, h.1.2, fun o ho => h.2 o ho⟩
theorem run_strs (n : Nat) (h : n ≤ 1099511627776) (u : World) : (Instr.makeSlice 30 (.int .i64 (n : Int)) (.int .i64 (n : Int))).run Try.prog u = .ok (.slice (some ⟨u.heap.size, 0, none⟩) n n) (u.alloc (.cells (Array.replicate n (str [])) 9)) := by
  have hr := run_make_row' (P := Try.prog) 30 9 (.string ⟨#[]⟩) 16 Try.underlying30 (by kernel_rfl) rfl .i64 .i64 n (by omega) (by omega) u
  rw [show (#[Value.string ⟨#[]⟩] : Array Value) = Array.replicate 1 (.string ⟨#[]⟩) from rfl, madeCells_rep _ 1 _ (by decide)] at hr
  exact hr
def zeroTxt : List UInt8 := List.replicate 256 0
/-- make([]byte, 256), and its text. -/
theorem conv_zeros (u : World) : (convert 42 9 (.slice (some ⟨u.heap.size, 0, none⟩) 256 256)).run Try.prog (u.alloc (.cells (Array.replicate 256 (.int .u8 0)) 5)) = .ok (str zeroTxt) (u.alloc (.cells (Array.replicate 256 (.int .u8 0)) 5)) := by
  have hl : zeroTxt.length = 256 := by unfold zeroTxt; simp
  refine conv_is (ok := fun _ => True) ⟨some ⟨u.heap.size, 0, none⟩, 256, by rw [hl], by rw [hl]; omega, by unfold maxLen; omega, ?_⟩
  have := (Blk.new u 5 (Array.replicate 256 (.int .u8 0))).rd (fun _ => True) trivial
  rw [show zeroTxt.map u8 = (Array.replicate 256 (Value.int .u8 0)).toList by unfold zeroTxt; rw [List.map_replicate]; simp [u8]]
  exact this
theorem Blk.setStr {w : World} {g : Nat} {t : TypeId} {L : List (List UInt8)} (h : Blk w g t (L.map str).toArray) (k : Nat) (x : List UInt8) : Blk (w.setCell ⟨g, k, none⟩ (str x)) g t ((L.set k x).map str).toArray := by
  have := h.set_ k (str x)
  rwa [List.setIfInBounds_toArray, ← List.map_set] at this

/-- No power is cut. -/
structure PlainDev (n : Nat) (D : Dev) : Prop where
  off : D.off = false
  left : D.left = -1
  len : D.sure.length = n
theorem plain_new (n : Nat) : PlainDev n (newD n) := ⟨rfl, rfl, List.length_replicate⟩
theorem plain_change {n : Nat} {D : Dev} (h : PlainDev n D) : D.change = ({ D with changes := D.changes + 1 }, 0) := by
  unfold Dev.change
  rw [if_neg (by rw [h.left]; decide), if_neg (by rw [h.left]; decide)]
theorem plain_put {n : Nat} {D : Dev} (h : PlainDev n D) (k : Nat) (b : List UInt8) (hk : k < n) (hb : b.length = 256) : D.put (k : Int) b = ({ D with loose := D.loose ++ [(k, b)], changes := D.changes + 1 }, 0) := by
  unfold Dev.put Dev.why
  rw [h.off, h.len]
  simp [hb]
  rw [if_neg (by omega)]
  have := plain_change (n := n) (D := { D with loose := D.loose ++ [(k, b)] }) ⟨h.off, h.left, h.len⟩
  rw [h.off] at this
  exact this
theorem plain_barrier {n : Nat} {D : Dev} (h : PlainDev n D) : D.barrier = ({ D with sure := applyW D.sure D.loose, loose := [], changes := D.changes + 1 }, 0) := by
  unfold Dev.barrier
  rw [if_neg (by rw [h.off]; decide), plain_change h]
  rfl
theorem mod_idx (a : Int) (k : Nat) (h : 0 < k) (hk : k ≤ 1099511627776) : ∃ j : Nat, j < k ∧ wrap64 ((IntKind.u64.wrap a).tmod (k : Int)) = (j : Int) := by
  have h0 : 0 ≤ IntKind.u64.wrap a := by simp only [IntKind.wrap_u64]; exact Int.emod_nonneg _ (by decide)
  have h1 : 0 ≤ IntKind.u64.wrap a % (k : Int) := Int.emod_nonneg _ (by omega)
  have h2 : IntKind.u64.wrap a % (k : Int) < (k : Int) := Int.emod_lt_of_pos _ (by omega)
  rw [Int.tmod_eq_emod_of_nonneg h0]
  obtain ⟨m, hm⟩ := Int.eq_ofNat_of_zero_le h1
  exact ⟨m, by omega, by rw [hm]; unfold wrap64; omega⟩
theorem fullB_take (c : UInt8) (s : List UInt8) : fullB c (s.take 256) = fullB c s := by
  unfold fullB
  rw [List.take_take, Nat.min_self]

theorem cut_text (s : List UInt8) : (⟨s.toArray⟩ : ByteArray).extract 0 (min (s.length : Int) 256).toNat = ⟨(s.take 256).toArray⟩ := by
  have : (min (s.length : Int) 256).toNat = min s.length 256 := by omega
  rw [this]
  apply ByteArray.ext
  rw [ByteArray.data_extract]
  apply Array.ext'
  rw [Array.toList_extract]
  simp [Nat.min_comm]
theorem full_cut (c : UInt8) (s : List UInt8) (w : World) : Calls Try.prog 37 #[.int .u8 (c.toNat : Int), .string ((⟨s.toArray⟩ : ByteArray).extract 0 (min (s.length : Int) 256).toNat)] w fun e w' => ∃ g, e = .returned (.slice (some ⟨g, 0, none⟩) 256 256) ∧ w.heap.size ≤ g ∧ Blk w' g 5 ((fullB c s).map u8).toArray ∧ Below w.heap.size w w' := by
  rw [cut_text, ← fullB_take c s]
  exact full_any c (s.take 256) w
end Go.Proofs.Ytffmnhjkfeoofaa
