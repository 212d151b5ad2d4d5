/-
  The reference's Field: a field as it lies, as a text.
-/
import Derived.Test.YtjobkmcbindhmaaBytes
import Derived.Test.YtjobkmcbindhmaaCodMath
import Derived.Lib.Hide
namespace Go.Proofs.Ytjobkmcbindhmaa
open Go.RowKit
set_option maxRecDepth 100000

theorem conv_new (w : World) (l : List UInt8) (cs : List Value) (n c : Nat) (hcs : cs = l.map u8) (hn : n = l.length) :
    (convert 48 9 (.slice (some ⟨w.heap.size, 0, none⟩) n c)).run Try.prog (w.alloc (.cells cs.toArray 5)) = .ok (str l) (w.alloc (.cells cs.toArray 5)) := by
  subst hcs
  subst hn
  exact run_bytes_str _ _ _ Try.underlying48 Try.underlying5 Try.underlying9 ((Blk.new w 5 (l.map u8).toArray).rd (fun _ => True) trivial)

theorem reffield_any (f : List UInt8) (w : World) (hf : f.length ≤ 65535) :
    Calls Try.prog 50 #[str f] w fun e w' => e = .returned (.tuple #[str (fieldB f), .bool true]) ∧ Below w.heap.size w w' := by
  by_cases h : f.length < 255
  · have hl2 : lenB f.length = [UInt8.ofNat (f.length % 256)] := by rw [lenB, if_pos h, Nat.mod_eq_of_lt (by omega)]
    have hv : fieldB f = [UInt8.ofNat (f.length % 256)] ++ f := by rw [fieldB, hl2]
    have hcv := conv_new w [UInt8.ofNat (f.length % 256)] [.int .u8 (f.length : Int)] 1 1 (by rw [List.map_singleton, u8_ofNat, Int.emod_eq_of_lt (by omega) (by omega)]) rfl
    have hadd : ∀ u : World, (Op.stringOp .add ⟨[UInt8.ofNat (f.length % 256)].toArray⟩ ⟨f.toArray⟩).run Try.prog u = .ok (str (fieldB f)) u := fun u => by
      rw [run_str_add u _ _ (by simp only [List.length_singleton]; omega), hv]
    clear hv hl2
    go_enter Try.func50, Try.ntmps50
    go_wp2_with fail
    go_ret2
    exact ⟨rfl, (Below.refl _ _).alloc (Nat.le_refl _) _⟩
  · have hl2 : lenB f.length = [255, UInt8.ofNat (f.length / 256 % 256), UInt8.ofNat (f.length % 256)] := by rw [lenB, if_neg h]
    have hv : fieldB f = [255, UInt8.ofNat (f.length / 256 % 256), UInt8.ofNat (f.length % 256)] ++ f := by rw [fieldB, hl2]
    have hcv := conv_new w [255, UInt8.ofNat (f.length / 256 % 256), UInt8.ofNat (f.length % 256)] [.int .u8 255, .int .u8 ((f.length : Int) / 256), .int .u8 ((f.length : Int) % 256)] 3 3
      (by rw [List.map_cons, List.map_cons, List.map_singleton, u8_ofNat, u8_ofNat, show ((f.length / 256 : Nat) : Int) % 256 = (f.length : Int) / 256 from by omega]; rfl) rfl
    have hadd : ∀ u : World, (Op.stringOp .add ⟨[255, UInt8.ofNat (f.length / 256 % 256), UInt8.ofNat (f.length % 256)].toArray⟩ ⟨f.toArray⟩).run Try.prog u = .ok (str (fieldB f)) u := fun u => by
      rw [run_str_add u _ _ (by simp only [List.length_cons, List.length_nil]; omega), hv]
    clear hv hl2
    go_enter Try.func50, Try.ntmps50
    go_wp2_with fail
    go_ret2
    exact ⟨rfl, (Below.refl _ _).alloc (Nat.le_refl _) _⟩

end Go.Proofs.Ytjobkmcbindhmaa
