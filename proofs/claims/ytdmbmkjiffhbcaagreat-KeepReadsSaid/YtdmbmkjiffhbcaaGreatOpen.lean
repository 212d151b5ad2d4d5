/-
  sum.Open: the bytes ahead of the checksum that they end with.
-/
import Derived.Test.YtdmbmkjiffhbcaaGreatSumAll
namespace Go.Proofs.YtdmbmkjiffhbcaaGreat
open Go.RowKit

/-- What Open answers. -/
def OpenPost (l : List UInt8) (w : World) (e : Ending) (w' : World) : Prop :=
  (if l.length < 4 then e = .returned (.tuple #[.slice none 0 0, .int .i64 8])
    else if sealedB l = true then ∃ v, e = .returned (.tuple #[v, .int .i64 0]) ∧ Own1 w' w.heap.size 5 v ((l.take (l.length - 4)).map u8)
    else e = .returned (.tuple #[.slice none 0 0, .int .i64 9])) ∧ Below w.heap.size w w'

set_option maxHeartbeats 2000000 in
set_option maxRecDepth 100000 in
theorem open_any (ok : Nat → Prop) (v0 : Value) (l : List UInt8) (w : World) (hv : IsB w ok v0 l) (hl : l.length ≤ 1099511627776) :
    Calls Tryz.prog 61 #[v0] w (OpenPost l w) := by
  obtain ⟨A, c, rfl, hc, hm, hr⟩ := hv
  by_cases hs : l.length < 4
  · clear hr hm
    go_enter Tryz.func61, Tryz.ntmps61
    go_wp2
    go_ret2
    exact ⟨by rw [if_pos hs]; rfl, Below.refl _ _⟩
  · have Hr := Lib.hid hr
    have Hm := Lib.hid hm
    clear hr hm
    have hT : ∀ u, Below w.heap.size w u → IsB u ok (.slice A (l.length - 4) c) (l.take (l.length - 4)) := fun u hu =>
      ⟨A, c, by rw [List.length_take, Nat.min_eq_left (Nat.sub_le _ _)], by rw [List.length_take]; omega, Hm.out, by rw [List.map_take]; exact (Hr.out.grow hu).take⟩
    have hD : ∀ u, Below w.heap.size w u → IsB u ok (.slice (A.map (fun x => x.add (l.length - 4))) (l.length - (l.length - 4)) (c - (l.length - 4))) (l.drop (l.length - 4)) := fun u hu => by
      refine ⟨_, _, by rw [List.length_drop], by rw [List.length_drop]; omega, Nat.le_trans (Nat.sub_le _ _) Hm.out, ?_⟩
      have h := (Hr.out.grow hu).drop (k := l.length - 4) (cap := c) (by rw [List.length_map]; exact hc)
      rw [if_neg (by omega), ← List.map_drop] at h
      exact h
    have ht : (l.take (l.length - 4)).length ≤ 1099511627776 := by rw [List.length_take]; omega
    by_cases hsd : sealedB l = true
    · have Hsd := Lib.hid (show (l.drop (l.length - 4) == sumB (l.take (l.length - 4))) = true from hsd)
      have Hs := Lib.hid hsd
      have Hl := Lib.hid hs
      clear hsd
      go_enter Tryz.func61, Tryz.ntmps61
      go_wp2_with fail
      go_region_held (fun u => Below w.heap.size w u) (first | assumption | exact below_then_drew (Below.refl _ _) | exact below_call (by assumption) hbx) (first | (go_at_call 84; refine (sumbytes_any ok _ (l.take (l.length - 4)) _ (hT _ (by assumption))).mono ?_; rintro e w2 ⟨x, rfl, hx, hbx⟩; have hx2 := hx.isB; clear hx) | (go_at_call 77; refine (equal_any ok _ _ _ _ _ _ (hD _ (by assumption)) hx2).mono ?_; rintro e w3 ⟨rfl, rfl⟩; rw [Hsd.out]))
      all_goals go_wp2_with (go_at_call 41; refine (clone_any ok _ (l.take (l.length - 4)) _ (hT _ (by assumption)) ht).mono ?_; rintro e w4 ⟨y, rfl, hy, hby⟩; have hb4 := below_call (by assumption) hby; have hy2 := hy.mono (Below.size (by assumption)); clear hy)
      all_goals go_ret2
      all_goals exact ⟨by rw [if_neg Hl.out, if_pos Hs.out]; exact ⟨_, rfl, hy2⟩, hb4⟩
    · have hsd : sealedB l = false := by simpa using hsd
      have Hsd := Lib.hid (show (l.drop (l.length - 4) == sumB (l.take (l.length - 4))) = false from hsd)
      have Hs := Lib.hid hsd
      have Hl := Lib.hid hs
      clear hsd
      go_enter Tryz.func61, Tryz.ntmps61
      go_wp2_with fail
      go_region_held (fun u => Below w.heap.size w u) (first | assumption | exact below_then_drew (Below.refl _ _) | exact below_call (by assumption) hbx) (first | (go_at_call 84; refine (sumbytes_any ok _ (l.take (l.length - 4)) _ (hT _ (by assumption))).mono ?_; rintro e w2 ⟨x, rfl, hx, hbx⟩; have hx2 := hx.isB; clear hx) | (go_at_call 77; refine (equal_any ok _ _ _ _ _ _ (hD _ (by assumption)) hx2).mono ?_; rintro e w3 ⟨rfl, rfl⟩; rw [Hsd.out]))
      all_goals go_wp2
      all_goals go_ret2
      all_goals exact ⟨by rw [if_neg Hl.out, if_neg (by rw [Hs.out]; decide)]; rfl, by assumption⟩
end Go.Proofs.YtdmbmkjiffhbcaaGreat
