/-
  What the statements of layer 2 lean on: Open of sealed bytes; bytes as a text.
-/
import Derived.Test.YthlkcdlnjlncfaaOpen
namespace Go.Proofs.Ythlkcdlnjlncfaa
open Go.RowKit

theorem conv_str {w : World} {ok : Nat → Prop} {v : Value} {l : List UInt8} (h : IsB w ok v l) : (convert 22 9 v).run Try.prog w = .ok (str l) w := by
  obtain ⟨A, c, rfl, _, _, hr⟩ := h
  exact run_bytes_str _ _ _ Try.underlying22 Try.underlying5 Try.underlying9 hr

theorem open_sealed (ok : Nat → Prop) (v0 : Value) (b : List UInt8) (w : World) (hv : IsB w ok v0 (b ++ sumB b)) (hl : b.length ≤ 1099511627000) :
    Calls Try.prog 15 #[v0] w fun e w' => ∃ v, e = .returned (.tuple #[v, .int .i64 0]) ∧ Own1 w' w.heap.size 5 v (b.map u8) ∧ Below w.heap.size w w' := by
  have h1 : (b ++ sumB b).length = b.length + 4 := by rw [List.length_append, sumB_length]
  refine (open_any ok v0 (b ++ sumB b) w hv (by omega)).mono ?_
  rintro e w' ⟨h, hb⟩
  rw [if_neg (by omega), if_pos (sealedB_seal b), h1, Nat.add_sub_cancel, List.take_left' rfl] at h
  obtain ⟨v, h2, h3⟩ := h
  exact ⟨v, h2, h3, hb⟩

theorem open_broken (ok : Nat → Prop) (v0 : Value) (l : List UInt8) (w : World) (hv : IsB w ok v0 l) (h4 : 4 ≤ l.length) (hl : l.length ≤ 1099511627000) (hs : sealedB l = false) :
    Calls Try.prog 15 #[v0] w fun e w' => e = .returned (.tuple #[.slice none 0 0, .int .i64 9]) ∧ Below w.heap.size w w' := by
  refine (open_any ok v0 l w hv (by omega)).mono ?_
  rintro e w' ⟨h, hb⟩
  rw [if_neg (by omega), if_neg (by rw [hs]; decide)] at h
  exact ⟨h, hb⟩
end Go.Proofs.Ythlkcdlnjlncfaa
