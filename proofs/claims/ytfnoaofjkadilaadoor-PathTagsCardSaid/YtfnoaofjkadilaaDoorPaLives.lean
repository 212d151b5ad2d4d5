/-
  The laws of paths: lives.
-/
import Derived.Test.YtfnoaofjkadilaaDoorPaSplit
import Derived.Test.YtfnoaofjkadilaaDoorPaTag
namespace Go.Proofs.YtfnoaofjkadilaaDoor
open Go.RowKit
set_option maxRecDepth 100000

theorem rd_new (w : World) (T : TypeId) (L : List (List UInt8)) : Rd (w.alloc (.cells (L.map str).toArray T)) (fun _ => True) (some ⟨w.heap.size, 0, none⟩) (L.map str) := by
  have := (Blk.new w T (L.map str).toArray).rd (fun _ => True) trivial
  simpa using this
def lvL : List (List UInt8) := [[97], [98, 126, 49, 46, 50, 48]]
theorem lv_tag : tagT [98] 1 20 = [98, 126, 49, 46, 50, 48] := by
  unfold tagT tagB
  rw [Lib.decDigits_one (by omega), Lib.decDigits_two (by omega) (by omega)]
  rfl
theorem lv_parts : ∀ p, p ∈ lvL → partB p = true := fun p hp => by
  rcases List.mem_cons.1 hp with rfl | hp
  · rw [part_plain (by intro b hb; rw [List.mem_singleton.1 hb]; decide)]
    decide
  · rw [List.mem_singleton.1 hp, ← lv_tag, part_tag _ (by omega) (by omega)]
    decide
theorem lv_split : splitV [47, 97, 47, 98, 126, 49, 46, 50, 48] = some lvL := path_split (L := lvL) (by decide) (by decide) lv_parts
theorem lv_split1 : splitV [47, 97, 47, 98] = some [[97], [98]] := path_split (L := [[97], [98]]) (by decide) (by decide) fun p hp => by
  rcases List.mem_cons.1 hp with rfl | hp
  · exact lv_parts _ (by unfold lvL; simp)
  · rw [List.mem_singleton.1 hp, part_plain (by intro b hb; rw [List.mem_singleton.1 hb]; decide)]
    decide
theorem lv_split2 : splitV [47, 97] = some [[97]] := path_split (L := [[97]]) (by decide) (by decide) fun p hp => by
  rw [List.mem_singleton.1 hp]
  exact lv_parts _ (by unfold lvL; simp)
theorem lv_within : withinV [47, 97, 47, 98] [47, 97] = true := by rw [within_some lv_split1 lv_split2]; rfl
set_option maxHeartbeats 1000000 in
theorem lives_any (w : World) (he : Env w) : Calls Tryd.prog 8 #[] w fun e w' => e = .returned (.bool true) ∧ Below w.heap.size w w' := by
  have h1 : Calls Tryd.prog 10 #[.string ⟨#[47, 97, 47, 98, 126, 49, 46, 50, 48]⟩] w (SplitPost [47, 97, 47, 98, 126, 49, 46, 50, 48] w) := psplit_any [47, 97, 47, 98, 126, 49, 46, 50, 48] w he
  have h3 : ∀ z, Env z → Calls Tryd.prog 20 #[.string ⟨#[47, 97, 47, 98]⟩, .string ⟨#[47, 97]⟩] z fun e w' => e = .returned (.bool (withinV [47, 97, 47, 98] [47, 97])) ∧ Below z.heap.size z w' := fun z hz => pwithin_any [47, 97, 47, 98] [47, 97] z hz
  rw [lv_within] at h3
  have H1 := Lib.hid h1
  have H3 := Lib.hid h3
  have He := Lib.hid he
  clear h1 h3 he
  go_enter Tryd.func8, Tryd.ntmps8
  go_wp2_with fail
  refine H1.out.mono ?_
  rintro e w1 ⟨hb1, hcase⟩
  rcases hcase with ⟨L, A, c, hL, hLc, hcm, rfl, hrd⟩ | ⟨hL, rfl⟩
  · rw [lv_split] at hL
    obtain rfl := Option.some.inj hL
    obtain ⟨b, off, rfl, hc⟩ := cells_at (Below.refl _ w1) hrd (by unfold lvL; simp)
    have c1 : w1.cell? ⟨b, off + 1, none⟩ = some (.string ⟨#[98, 126, 49, 46, 50, 48]⟩) := hc 1 (by decide)
    have hj : Calls Tryd.prog 15 #[.slice (some ⟨b, off, none⟩) 2 c] w1 fun e w' => e = .returned (.string ⟨#[47, 97, 47, 98, 126, 49, 46, 50, 48]⟩) ∧ Below w1.heap.size w1 w' :=
      pjoin_any (fun _ => True) (some ⟨b, off, none⟩) c lvL hLc (by decide) (fun p hp => by
        rcases List.mem_cons.1 hp with rfl | hp
        · decide
        · rw [List.mem_singleton.1 hp]; decide) w1 hrd
    have Hj := Lib.hid hj
    have hlen : lvL.length = 2 := rfl
    rw [hlen] at hLc ⊢
    clear hj hL hc hrd hlen
    go_wp2_with fail
    refine Hj.out.mono ?_
    rintro e w2 ⟨rfl, hb2⟩
    have hb02 := below_call hb1 hb2
    go_wp2_with fail
    refine (H3.out _ (He.out.grow hb02)).mono ?_
    rintro e w3 ⟨rfl, hb3⟩
    go_wp2_with fail
    go_ret
    exact ⟨rfl, below_call hb02 hb3⟩
  · rw [lv_split] at hL
    cases hL
theorem short_two {s p : List UInt8} (h : shortB [s, p] = true) : s.length ≤ 200 ∧ p.length ≤ 200 := by
  unfold shortB at h
  simp at h
  omega
theorem short_three {a b c : List UInt8} (h : shortB [a, b, c] = true) : a.length ≤ 200 ∧ b.length ≤ 200 ∧ c.length ≤ 200 := by
  unfold shortB at h
  simp at h
  omega
end Go.Proofs.YtfnoaofjkadilaaDoor
