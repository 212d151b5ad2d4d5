/-
  The walk of PathWithin.
-/
import Derived.Test.YtfnoaofjkadilaaDoorPaLives
namespace Go.Proofs.YtfnoaofjkadilaaDoor
open Go.RowKit
set_option maxRecDepth 100000

theorem splitErr_some {s : List UInt8} {L : List (List UInt8)} (h : splitV s = some L) : (splitV s).isSome = true := by rw [h]; rfl
theorem splitErr_none {s : List UInt8} (h : splitV s = none) : (splitV s).isSome = false := by rw [h]; rfl
set_option maxHeartbeats 2000000 in
theorem pathwithin_walk (a b c : List UInt8) (w : World) (_ha : a.length ≤ 9223372036854775807) (_hb : b.length ≤ 9223372036854775807) (_hc : c.length ≤ 9223372036854775807) (he : Env w) :
    Calls Tryd.prog 6 #[.string ⟨a.toArray⟩, .string ⟨b.toArray⟩, .string ⟨c.toArray⟩] w fun e w' => e = .returned (.bool true) ∧ Below w.heap.size w w' := by
  have He := Lib.hid he
  clear he _ha _hb _hc
  go_enter Tryd.func6, Tryd.ntmps6
  go_wp2_with fail
  refine (lives_any w He.out).mono ?_
  rintro e w1 ⟨rfl, hb1⟩
  have hsh := short_any (fun _ => True) (some ⟨w1.heap.size, 0, none⟩) 3 [a, b, c] (w1.alloc (.cells #[.string ⟨a.toArray⟩, .string ⟨b.toArray⟩, .string ⟨c.toArray⟩] 9)) (rd_new w1 9 [a, b, c])
  obtain ⟨B, hB⟩ : ∃ B, B = shortB [a, b, c] := ⟨_, rfl⟩
  rw [← hB] at hsh
  have hb1a : Below w.heap.size w (w1.alloc (.cells #[.string ⟨a.toArray⟩, .string ⟨b.toArray⟩, .string ⟨c.toArray⟩] 9)) := hb1.alloc hb1.size _
  have Hsh := Lib.hid hsh
  clear hsh
  go_wp2_with fail
  refine Hsh.out.mono ?_
  rintro e w2 ⟨rfl, rfl⟩
  cases B with
  | false =>
    clear hB
    go_wp2_with fail
    refine (lives_any _ (He.out.grow hb1a)).mono ?_
    rintro e w3 ⟨rfl, hb3⟩
    go_wp2_with fail
    go_ret
    exact ⟨rfl, below_call hb1a hb3⟩
  | true =>
    obtain ⟨ha, hb, hc⟩ := short_three hB.symm
    clear hB Hsh
    have htr := fun h1 h2 => within_trans (a := a) (b := b) (c := c) h1 h2
    have hrefl := within_refl a
    have hroot := within_root a
    have pab := fun z hz => pwithin_any a b z hz
    have pbc := fun z hz => pwithin_any b c z hz
    have pac := fun z hz => pwithin_any a c z hz
    have paa := fun z hz => pwithin_any a a z hz
    have par : ∀ z, Env z → Calls Tryd.prog 20 #[.string ⟨a.toArray⟩, .string ⟨#[47]⟩] z fun e w' => e = .returned (.bool (withinV a [47])) ∧ Below z.heap.size z w' := fun z hz => pwithin_any a [47] z hz
    have rab := fun z => refwithin_any a b z
    have rbc := fun z => refwithin_any b c z
    rw [hrefl] at paa
    rw [hroot] at par
    generalize withinV a b = AB at pab rab htr
    generalize withinV b c = BC at pbc rbc htr
    generalize withinV a c = AC at pac htr
    have Htr := Lib.hid htr
    have Pab := Lib.hid pab
    have Pbc := Lib.hid pbc
    have Pac := Lib.hid pac
    have Paa := Lib.hid paa
    have Par := Lib.hid par
    have Rab := Lib.hid rab
    have Rbc := Lib.hid rbc
    clear htr pab pbc pac paa par rab rbc hrefl hroot
    go_wp2_with fail
    refine (Pab.out _ (He.out.grow hb1a)).mono ?_
    rintro e w3 ⟨rfl, hb3⟩
    have hb03 := below_call hb1a hb3
    go_wp2_with fail
    refine (Rab.out _).mono ?_
    rintro e w4 ⟨rfl, hb4⟩
    have hb04 := below_call hb03 hb4
    have ne1 : (AB != AB) = false := by cases AB <;> rfl
    go_wp2_with fail
    refine (Pbc.out _ (He.out.grow hb04)).mono ?_
    rintro e w5 ⟨rfl, hb5⟩
    have hb05 := below_call hb04 hb5
    go_wp2_with fail
    refine (Rbc.out _).mono ?_
    rintro e w6 ⟨rfl, hb6⟩
    have hb06 := below_call hb05 hb6
    have ne2 : (BC != BC) = false := by cases BC <;> rfl
    go_wp2_with fail
    refine (psplit_any a _ (He.out.grow hb06)).mono ?_
    rintro e w7 ⟨hb7, hcase⟩
    have hb07 := below_call hb06 hb7
    obtain ⟨S, V, C, hS, hcode, rfl⟩ : ∃ S V, ∃ C : Int, S = (splitV a).isSome ∧ (C == 0) = S ∧ e = .returned (.tuple #[V, .int .i64 C]) := by
      rcases hcase with ⟨X, A, cc, hX, _, _, rfl, _⟩ | ⟨hX, rfl⟩
      · exact ⟨true, _, 0, (splitErr_some hX).symm, rfl, rfl⟩
      · exact ⟨false, _, 20, (splitErr_none hX).symm, rfl, rfl⟩
    rw [← hS] at Paa Par
    clear hcase hS
    go_wp2_with fail
    refine (Pab.out _ (He.out.grow hb07)).mono ?_
    rintro e w8 ⟨rfl, hb8⟩
    have hb08 := below_call hb07 hb8
    cases AB with
    | false =>
      have eqS : (S == S) = true := by cases S <;> rfl
      go_wp2_with fail
      refine (Paa.out _ (He.out.grow hb08)).mono ?_
      rintro e w12 ⟨rfl, hb12⟩
      have hb012 := below_call hb08 hb12
      go_wp2_with fail
      refine (Par.out _ (He.out.grow hb012)).mono ?_
      rintro e w13 ⟨rfl, hb13⟩
      have hb013 := below_call hb012 hb13
      go_wp2_with fail
      go_ret
      exact ⟨by first | rfl | simpa using hcode | simp [hcode], hb013⟩
    | true =>
      go_wp2_with fail
      refine (Pbc.out _ (He.out.grow hb08)).mono ?_
      rintro e w9 ⟨rfl, hb9⟩
      have hb09 := below_call hb08 hb9
      cases BC with
      | false =>
        have eqS : (S == S) = true := by cases S <;> rfl
        go_wp2_with fail
        refine (Paa.out _ (He.out.grow hb09)).mono ?_
        rintro e w12 ⟨rfl, hb12⟩
        have hb012 := below_call hb09 hb12
        go_wp2_with fail
        refine (Par.out _ (He.out.grow hb012)).mono ?_
        rintro e w13 ⟨rfl, hb13⟩
        have hb013 := below_call hb012 hb13
        go_wp2_with fail
        go_ret
        exact ⟨by first | rfl | simpa using hcode | simp [hcode], hb013⟩
      | true =>
        have hac := Htr.out (by trivial) (by trivial)
        subst hac
        go_wp2_with fail
        refine (Pac.out _ (He.out.grow hb09)).mono ?_
        rintro e w10 ⟨rfl, hb10⟩
        have hb010 := below_call hb09 hb10
        have eqS : (S == S) = true := by cases S <;> rfl
        go_wp2_with fail
        refine (Paa.out _ (He.out.grow hb010)).mono ?_
        rintro e w12 ⟨rfl, hb12⟩
        have hb012 := below_call hb010 hb12
        go_wp2_with fail
        refine (Par.out _ (He.out.grow hb012)).mono ?_
        rintro e w13 ⟨rfl, hb13⟩
        have hb013 := below_call hb012 hb13
        go_wp2_with fail
        go_ret
        exact ⟨by first | rfl | simpa using hcode | simp [hcode], hb013⟩
end Go.Proofs.YtfnoaofjkadilaaDoor
