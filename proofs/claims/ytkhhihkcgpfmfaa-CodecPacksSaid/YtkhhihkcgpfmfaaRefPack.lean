/-
  The reference's Field and Pack: fields as they lie, as a text.
-/
import Derived.Test.YtkhhihkcgpfmfaaBytes
import Derived.Test.YtkhhihkcgpfmfaaPackMath
import Derived.Lib.Hide
namespace Go.Proofs.Ytkhhihkcgpfmfaa
open Go.RowKit
set_option maxRecDepth 100000

theorem conv_new (w : World) (l : List UInt8) (cs : List Value) (n c : Nat) (hcs : cs = l.map u8) (hn : n = l.length) :
    (convert 23 9 (.slice (some ⟨w.heap.size, 0, none⟩) n c)).run Try.prog (w.alloc (.cells cs.toArray 5)) = .ok (str l) (w.alloc (.cells cs.toArray 5)) := by
  subst hcs
  subst hn
  exact run_bytes_str _ _ _ Try.underlying23 Try.underlying5 Try.underlying9 ((Blk.new w 5 (l.map u8).toArray).rd (fun _ => True) trivial)

theorem reffield_any (f : List UInt8) (w : World) (hf : f.length ≤ 65535) :
    Calls Try.prog 22 #[str f] w fun e w' => e = .returned (.tuple #[str (fieldB f), .bool true]) ∧ Below w.heap.size w w' := by
  by_cases h : f.length < 255
  · have hl2 : lenB f.length = [UInt8.ofNat (f.length % 256)] := by rw [lenB, if_pos h, Nat.mod_eq_of_lt (by omega)]
    have hv : fieldB f = [UInt8.ofNat (f.length % 256)] ++ f := by rw [fieldB, hl2]
    have hcv := conv_new w [UInt8.ofNat (f.length % 256)] [.int .u8 (f.length : Int)] 1 1 (by rw [List.map_singleton, u8_ofNat, Int.emod_eq_of_lt (by omega) (by omega)]) rfl
    have hadd : ∀ u : World, (Op.stringOp .add ⟨[UInt8.ofNat (f.length % 256)].toArray⟩ ⟨f.toArray⟩).run Try.prog u = .ok (str (fieldB f)) u := fun u => by
      rw [run_str_add u _ _ (by simp only [List.length_singleton]; omega), hv]
    clear hv hl2
    go_enter Try.func22, Try.ntmps22
    go_wp2_with fail
    go_ret2
    exact ⟨rfl, (Below.refl _ _).alloc (Nat.le_refl _) _⟩
  · have hl2 : lenB f.length = [255, UInt8.ofNat (f.length / 256 % 256), UInt8.ofNat (f.length % 256)] := by rw [lenB, if_neg h]
    have hv : fieldB f = [255, UInt8.ofNat (f.length / 256 % 256), UInt8.ofNat (f.length % 256)] ++ f := by rw [fieldB, hl2]
    have hcv := conv_new w [255, UInt8.ofNat (f.length / 256 % 256), UInt8.ofNat (f.length % 256)] [.int .u8 255, .int .u8 ((f.length : Int) / 256), .int .u8 ((f.length : Int) % 256)] 3 3
      (by rw [List.map_cons, List.map_cons, List.map_singleton, u8_ofNat, u8_ofNat, show ((f.length / 256 : Nat) : Int) % 256 = (f.length : Int) / 256 from by omega]; rfl) rfl
    have hadd : ∀ u : World, (Op.stringOp .add ⟨[255, UInt8.ofNat (f.length / 256 % 256), UInt8.ofNat (f.length % 256)].toArray⟩ ⟨f.toArray⟩).run Try.prog u = .ok (str (fieldB f)) u := fun u => by
      rw [run_str_add u _ _ (by simp only [List.length_cons, List.length_nil]; omega), hv]
    clear hv hl2
    go_enter Try.func22, Try.ntmps22
    go_wp2_with fail
    go_ret2
    exact ⟨rfl, (Below.refl _ _).alloc (Nat.le_refl _) _⟩

theorem refpack_any (ok : Nat → Prop) (A : Option Addr) (c : Nat) (L : List (List UInt8)) (w : World) (hr : Rd w ok A (L.map str)) (hn : L.length ≤ 1099511627776) (hsum : (packB L).length ≤ 1099511627776) (hall : ∀ f ∈ L, f.length ≤ 65535) :
    Calls Try.prog 16 #[.slice A L.length c] w fun e w' => e = .returned (.tuple #[str (packB L), .int .i64 0]) ∧ Below w.heap.size w w' := by
  have Hr := Lib.hid hr
  have Hsum := Lib.hid hsum
  have Hall := Lib.hid hall
  clear hr hsum hall
  go_enter Try.func16, Try.ntmps16
  go_wp2
  go_loopw [4, 5] (fun v i wr => ∃ k : Nat, k ≤ L.length ∧ i = .int .i64 (k : Int) ∧ v = str (packB (L.take k)) ∧ Below w.heap.size w wr) (fun _ i _ => L.length - (intOf i).toNat)
  case atStart => exact ⟨0, by omega, rfl, rfl, Below.refl _ _⟩
  case round =>
    obtain ⟨k, hk, rfl, rfl, hbel⟩ := hrel
    by_cases hlt : k < L.length
    · obtain ⟨b, off, rfl, _, had, hel⟩ := Hr.out.at' (by intro e; have := congrArg List.length e; simp at this; subst this; simp at hlt)
      have hcell := (hbel.cell (p := ⟨b, off + k, none⟩) had).trans (hel k (by simpa using hlt))
      rw [List.getElem_map] at hcell
      clear hel
      have hlen := Hall.out _ (List.getElem_mem hlt)
      have hadd : ∀ u : World, (Op.stringOp .add ⟨(packB (L.take k)).toArray⟩ ⟨(fieldB L[k]).toArray⟩).run Try.prog u = .ok (str (packB (L.take (k + 1)))) u := fun u => by
        rw [run_str_add u _ _ (by have := packB_take_le L (k + 1); have := Hsum.out; rw [packB_take_succ L k hlt, List.length_append] at *; omega), packB_take_succ L k hlt]
      go_wp2_with (go_at_call 22; refine (reffield_any L[k] _ hlen).mono ?_; rintro e w1 ⟨rfl, hb1⟩)
      go_roundw
      case rel => exact ⟨k + 1, by omega, by go_num, rfl, hbel.trans (hb1.mono hbel.size)⟩
      case measure => simp [intOf]; omega
    · obtain rfl : k = L.length := by omega
      rw [List.take_length]
      go_wp2
      go_ret2
      exact ⟨rfl, hbel⟩
end Go.Proofs.Ytkhhihkcgpfmfaa
