/-
  The walk of VersionAdds.
-/
import Derived.Test.YtnbaaccodgohoaaVeLives
import Derived.Test.YtnbaaccodgohoaaVeHeads
import Derived.Test.YtnbaaccodgohoaaVeFits
import Derived.Test.YtnbaaccodgohoaaVeData
import Derived.Test.YtnbaaccodgohoaaVeRefAdd
import Derived.Test.YtnbaaccodgohoaaVeGood
import Derived.Test.YtnbaaccodgohoaaVeRef
import Derived.Test.YtnbaaccodgohoaaVeRef4
import Derived.Test.YtnbaaccodgohoaaVeAdd
import Derived.Test.YtnbaaccodgohoaaVeGone
namespace Go.Proofs.Ytnbaaccodgohoaa
open Go.RowKit
set_option maxRecDepth 100000

def adG (u8 u10 ow v : Value) (e1 e2 : Int) (D1 : List UInt8) (LH : List Ver) (C : Array Value) (p : Bool) (s : Nat) (u : Value) (x : World) : Prop := match s with | 66 => u = u8 | 67 => u = u10 | 68 => u = .bool true | 69 => u = .bool true | 70 => u = .int .i64 e1 | 71 => u = .int .i64 e1 | 72 => u = .bool true | 73 => u = .bool true | 74 => u = .bool true | 75 => u = str D1 | 76 => u = str D1 | 77 => u = .bool true | 78 => u = .bool true | 79 => u = .bool true | 80 => u = .int .i64 e2 | 81 => u = .int .i64 e2 | 82 => u = .bool true | 83 => u = .bool true | 84 => u = .bool true | 85 => u = ow | 86 => u = v | 87 => u = .bool true | 88 => u = .bool true | 89 => u = .bool true | 90 => u = v | 91 => IsL kVer x (fun _ => True) u LH | 92 => u = v | 93 => IsL kVer x (fun _ => True) u LH | 94 => u = .bool true | 95 => u = .bool true | 96 => u = .bool true | 97 => u = .agg C | 98 => u = .bool p | 99 => u = .agg C | 100 => u = .bool p | 101 => u = .bool true | 102 => u = .bool true | 6 => u = .bool true | _ => True

set_option maxHeartbeats 4000000 in
theorem versionadds_walk (v : Value) (L : List Ver) (vB : Value) (bs : List (Int × Nat)) (X : Ver) (w : World) (hL : IsL kVer w (fun _ => True) v L) (hB : IsL kId w (fun _ => True) vB bs) (hX : VerOk X) :
    Calls Try.prog 4 #[v, vB, .agg (verC X)] w fun e w' => e = .returned (.bool true) ∧ Below w.heap.size w w' := by
  have Hl := Lib.hid fun z => lives11_any z
  have hm : maxLen ≤ 9223372036854775807 := by decide
  obtain ⟨C, hC⟩ : ∃ C, C = verC X := ⟨_, rfl⟩
  have HC := Lib.hid hC
  obtain ⟨wb, hwb⟩ : ∃ wb, wb = w.alloc (.cells (verC X) 39) := ⟨_, rfl⟩
  have hbox : Blk wb w.heap.size 39 (verC X) := by rw [hwb]; exact Blk.new _ _ _
  have hbel : Below w.heap.size w wb := by rw [hwb]; exact (Below.refl _ _).alloc (Nat.le_refl _) _
  have Hdat := Lib.hid (show ∀ z, Below wb.heap.size wb z → z.cell? ⟨w.heap.size, 2, none⟩ = some (str X.data) from fun z hz => by have := (hbox.grow hz).ver.data; rw [Nat.zero_add] at this; exact this)
  have HRI := Lib.hid (show ∀ z, Below wb.heap.size wb z → z.rangeAt w.heap.size 0 (idC X.rep X.seq).toList from fun z hz => (hbox.grow hz).ver.id)
  rw [← hC] at hbox hwb ⊢
  have Hbox := Lib.hid hbox
  have Hbel := Lib.hid hbel
  have HW := Lib.hid hwb
  have HL := Lib.hid (hL.grow hbel)
  have HB := Lib.hid (hB.grow hbel)
  have HX := Lib.hid hX
  obtain ⟨AB, cB, hvb, hcB1, hcB2, _⟩ := id_at hB
  obtain ⟨m, hmm⟩ : ∃ m, m = bs.length := ⟨_, rfl⟩
  rw [← hmm] at hvb hcB1
  subst hvb
  have Hm := Lib.hid hmm
  clear hbox hbel hwb hL hB hX hC hmm
  go_enter Try.func4, Try.ntmps4
  go_upto_region 1 with fail
  rw [← HW.out]
  have short : m ≤ 20 ∧ X.data.length ≤ 300 ∨ ¬ (m ≤ 20 ∧ X.data.length ≤ 300) := Classical.em _
  by_cases h1 : 20 < m
  · have h1' : decide ((20 : Int) < (m : Int)) = true := decide_eq_true (by omega)
    clear short
    go_wp2_with (first | (go_at_call 8; go_must (refine (Hl.out _).mono ?_; rintro e1 w1 ⟨rfl, hb1⟩)) | (go_at_call 13; go_must (refine (fits11_any _ _ _ _ (HL.out.grow hb1)).mono ?_; rintro e2 w2 ⟨⟨q, rfl, hq⟩, hb2⟩; have Hb2 := Lib.hid (below_call hb1 hb2); clear hb1 hb2 hq; cases q)))
    all_goals go_ret
    all_goals exact ⟨rfl, below_call (below_call Hbel.out Hb2.out) hb1⟩
  · have h1' : decide ((20 : Int) < (m : Int)) = false := decide_eq_false (by omega)
    by_cases h2 : 300 < X.data.length
    · have h2' : decide ((300 : Int) < (X.data.length : Int)) = true := decide_eq_true (by omega)
      clear short
      go_wp2_with (first | (go_at_call 8; go_must (refine (Hl.out _).mono ?_; rintro e1 w1 ⟨rfl, hb1⟩)) | (go_at_call 13; go_must (refine (fits11_any _ _ _ _ (HL.out.grow hb1)).mono ?_; rintro e2 w2 ⟨⟨q, rfl, hq⟩, hb2⟩; have zd := Hdat.out w2 (below_call hb1 hb2); have Hb2 := Lib.hid (below_call hb1 hb2); clear hb1 hb2 hq; cases q)))
      all_goals go_ret
      all_goals exact ⟨rfl, below_call (below_call Hbel.out Hb2.out) hb1⟩
    · have h2' : decide ((300 : Int) < (X.data.length : Int)) = false := decide_eq_false (by omega)
      have Hxd := Lib.hid (show X.data.length ≤ 300 by omega)
      clear short h2
      go_upto_region 3 with (first | (go_at_call 8; go_must (refine (Hl.out _).mono ?_; rintro e1 w1 ⟨rfl, hb1⟩)) | (go_at_call 13; go_must (refine (fits11_any _ _ _ _ (HL.out.grow hb1)).mono ?_; rintro e2 w2 ⟨⟨q, rfl, hq⟩, hb2⟩; have zd := Hdat.out w2 (below_call hb1 hb2); have Hb2 := Lib.hid (below_call hb1 hb2); have Hq := Lib.hid hq; clear hb1 hb2 hq; cases q)))
      · go_ret
        exact ⟨rfl, below_call (below_call Hbel.out Hb2.out) hb1⟩
      obtain ⟨hsv, hlv, hdv⟩ := Hq.out (by trivial)
      have hdv' : ∀ x ∈ L, x.data.length ≤ 1000 := fun x hx => Nat.le_trans (hdv x hx) (by omega)
      have hl2 := HL.out.grow Hb2.out
      have HL2 := Lib.hid hl2
      obtain ⟨A, c, ds, rfl, hc, hcm, hr, hmany⟩ := hl2
      obtain ⟨hds, hvok⟩ := ver_cells hmany
      have hds' : ds = versC L := hds
      have h1c : ∀ u ∈ ds, u.oneCell' = true := by rw [hds']; exact versC_each L
      have hdl : ds.length = L.length * 11 := by rw [hds', versC_length]
      have hba : Below w2.heap.size w2 (w2.alloc (.cells #[] 39)) := (Below.refl _ _).alloc (Nat.le_refl _) _
      have Hr := Lib.hid hr
      have Hds := Lib.hid hds'
      have Hvok := Lib.hid hvok
      have Hdl := Lib.hid hdl
      clear hr hmany hds hds' hvok hdl zd
      go_upto_region 4 with (at_builtin; go_must (refine wpList_appK _ elemV rfl (.tmp 35) (.tmp 36) rfl w2.heap.size 0 _ [] rfl (OwnK.empty w2 _ _) (fun _ => True) A L.length c ds Hdl.out rfl (Hr.out.grow hba) h1c (by omega) (by omega) hba.size ?_; intro ow w3 hown1 hg1 _; have hb3 := hba.trans ((OwnK.empty w2 39 11).below_of hg1 hba.size (Nat.le_refl _)); clear hg1; simp only [Nat.zero_add, List.nil_append] at hown1))
      have Hown3 := Lib.hid (show OwnV w3 w2.heap.size ow L from ⟨by rw [← Hds.out]; exact hown1, Hvok.out⟩)
      have Hb3 := Lib.hid (below_call Hb2.out hb3)
      have Hb23 := Lib.hid hb3
      clear hown1 hb3 h1c hba
      obtain ⟨v, hv⟩ : ∃ v, v = Value.slice A L.length c := ⟨_, rfl⟩
      rw [← hv] at HL2 ⊢
      clear hv
      have HL2' := Lib.hid HL2.out
      obtain ⟨R1, hR⟩ : ∃ R, R = (addV L bs X).1 := ⟨_, rfl⟩
      obtain ⟨e1, he1⟩ : ∃ e, e = (addV L bs X).2 := ⟨_, rfl⟩
      obtain ⟨D1, hD1⟩ : ∃ D, D = (dataV L X.rep X.seq).1 := ⟨_, rfl⟩
      obtain ⟨e2, he2⟩ : ∃ e, e = (dataV L X.rep X.seq).2 := ⟨_, rfl⟩
      obtain ⟨IC, hIC⟩ : ∃ I, I = idC X.rep X.seq := ⟨_, rfl⟩
      obtain ⟨LH, hLH⟩ : ∃ M, M = L.filter headV := ⟨_, rfl⟩
      obtain ⟨p, hp⟩ : ∃ p, p = headV X := ⟨_, rfl⟩
      obtain ⟨vB, hvB⟩ : ∃ u, u = Value.slice AB m cB := ⟨_, rfl⟩
      rw [← hIC] at HRI
      have HinfI := Lib.hid (show (Try.prog.info? 35).map (·.size) = some IC.toList.length by rw [hIC]; exact id_info)
      have HinfL := Lib.hid (show (Try.prog.info? 39).map (·.size) = some C.toList.length by rw [HC.out]; exact ver_info)
      have HRC := Lib.hid (show ∀ z, Below wb.heap.size wb z → z.rangeAt w.heap.size 0 C.toList from fun z hz => (Hbox.out.grow hz).range 0 C.toList fun j u hu => by rw [Nat.zero_add, ← Array.getElem?_toList]; exact hu)
      have HL3 := Lib.hid (HL2.out.grow Hb23.out)
      have HBz := Lib.hid (HB.out.grow Hb3.out)
      rw [← hvB] at HBz ⊢
      clear hvB
      have Hm' := Lib.hid (show ∀ x ∈ L, x.data.length ≤ 1000 from hdv')
      have HA1 := Lib.hid (show ∀ z : World, Below w3.heap.size w3 z → Calls Try.prog 14 #[ow, vB, .agg C] z fun e w' => (∃ u, e = .returned (.tuple #[u, .int .i64 e1]) ∧ OwnV w' z.heap.size u R1) ∧ Below z.heap.size z w' from fun z hz => by
        rw [HC.out, he1, hR]
        exact add_any _ _ _ _ L bs X z (Hown3.out.isL.grow hz) (HBz.out.grow hz) (by omega) hdv' (by have := Hxd.out; omega) hsv HX.out)
      have HA2 := Lib.hid (show ∀ z : World, Below w3.heap.size w3 z → Calls Try.prog 15 #[v, vB, .agg C] z fun e w' => (∃ u, e = .returned (.tuple #[u, .int .i64 e1]) ∧ OwnV w' z.heap.size u R1) ∧ Below z.heap.size z w' from fun z hz => by
        rw [HC.out, he1, hR]
        exact refadd_any _ _ _ _ L bs X z (HL3.out.grow hz) (HBz.out.grow hz) (by omega) hsv HX.out)
      have HD3 := Lib.hid (show ∀ z : World, Below w3.heap.size w3 z → Calls Try.prog 16 #[v, .agg IC] z fun e w' => e = .returned (.tuple #[str D1, .int .i64 e2]) ∧ Below z.heap.size z w' from fun z hz => by
        rw [hIC, hD1, he2]
        exact data_any _ _ L X.rep X.seq z (HL3.out.grow hz) (by omega) hdv' hsv)
      have HD4 := Lib.hid (show ∀ z : World, Below w3.heap.size w3 z → Calls Try.prog 17 #[v, .agg IC] z fun e w' => e = .returned (.tuple #[str D1, .int .i64 e2]) ∧ Below z.heap.size z w' from fun z hz => by
        rw [hIC, hD1, he2]
        exact refdata_any _ _ L X.rep X.seq z (HL3.out.grow hz))
      have HH3 := Lib.hid (show ∀ z : World, Below w3.heap.size w3 z → Calls Try.prog 19 #[v] z fun e w' => (∃ u, e = .returned u ∧ OwnV w' z.heap.size u LH) ∧ Below z.heap.size z w' from fun z hz => by
        rw [hLH]
        exact heads_any _ v L z (HL3.out.grow hz) hdv' (by omega))
      have HH4 := Lib.hid (show ∀ z : World, Below w3.heap.size w3 z → Calls Try.prog 20 #[v] z fun e w' => (∃ u, e = .returned u ∧ OwnV w' z.heap.size u LH) ∧ Below z.heap.size z w' from fun z hz => by
        rw [hLH]
        exact refheads_any _ v L z (HL3.out.grow hz) (by omega))
      have HD1 := Lib.hid (show ∀ z : World, Calls Try.prog 21 #[.agg C] z fun e w' => e = .returned (.bool p) ∧ Below z.heap.size z w' from fun z => by rw [HC.out, hp]; exact head_any X z)
      have HD2 := Lib.hid (show ∀ z : World, Calls Try.prog 22 #[.agg C] z fun e w' => e = .returned (.bool p) ∧ Below z.heap.size z w' from fun z => by rw [HC.out, hp]; exact refhead_any X z)
      clear hsv hlv hdv hdv' hR he1 hD1 he2 hIC hLH hp
      have R3 := Lib.hid (HRC.out _ Hb3.out)
      go_upto_region 5 with (first | (refine wpList_load_mid (op := ⟨some 41, _, _, _, _, _⟩) rfl 39 (.tmp 5) rfl w.heap.size 0 rfl _ _ R3.out Try.underlying39 rfl HinfL.out ?_) | (go_at_call 14; go_must (refine (HA1.out _ (Below.refl _ _)).mono ?_; rintro e3 w4 ⟨⟨u8, rfl, hown8⟩, hb4⟩)))
      have Hb4 := Lib.hid (below_call Hb3.out hb4)
      have Hb34 := Lib.hid hb4
      have H84 := Lib.hid (hown8.isL)
      have R4 := Lib.hid (HRC.out _ Hb4.out)
      clear hb4 hown8
      go_upto_region 6 with (first | (refine wpList_load_mid (op := ⟨some 48, _, _, _, _, _⟩) rfl 39 (.tmp 5) rfl w.heap.size 0 rfl _ _ R4.out Try.underlying39 rfl HinfL.out ?_) | (go_at_call 15; go_must (refine (HA2.out _ Hb34.out).mono ?_; rintro e4 w5 ⟨⟨u10, rfl, hown10⟩, hb5⟩)))
      have Hb5 := Lib.hid (below_call Hb4.out hb5)
      have Hb35 := Lib.hid (below_call Hb34.out hb5)
      have H85 := Lib.hid (H84.out.grow hb5)
      have H10a := Lib.hid (hown10.isL)
      have R5 := Lib.hid (HRI.out _ Hb5.out)
      clear hb5 hown10
      go_upto_region 7 with (first | (refine wpList_load_mid (op := ⟨some 55, _, _, _, _, _⟩) rfl 35 (.tmp 54) rfl w.heap.size 0 rfl _ _ R5.out Try.underlying35 rfl HinfI.out ?_) | (go_at_call 16; go_must (refine (HD3.out _ Hb35.out).mono ?_; rintro e5 w6 ⟨rfl, hb6⟩)))
      have Hb6 := Lib.hid (below_call Hb5.out hb6)
      have Hb36 := Lib.hid (below_call Hb35.out hb6)
      have H86 := Lib.hid (H85.out.grow hb6)
      have H10b := Lib.hid (H10a.out.grow hb6)
      have R6 := Lib.hid (HRI.out _ Hb6.out)
      clear hb6
      go_upto_region 8 with (first | (refine wpList_load_mid (op := ⟨some 62, _, _, _, _, _⟩) rfl 35 (.tmp 61) rfl w.heap.size 0 rfl _ _ R6.out Try.underlying35 rfl HinfI.out ?_) | (go_at_call 17; go_must (refine (HD4.out _ Hb36.out).mono ?_; rintro e6 w7 ⟨rfl, hb7⟩)))
      have Hb7 := Lib.hid (below_call Hb6.out hb7)
      have Hb37 := Lib.hid (below_call Hb36.out hb7)
      have H8 := Lib.hid (H86.out.grow hb7)
      have H10 := Lib.hid (H10b.out.grow hb7)
      clear hb7
      have Hw := Lib.hid (Hown3.out.isL.grow Hb37.out)
      have HLF := Lib.hid (HL3.out.grow Hb37.out)
      have HbxF := Lib.hid (Hbox.out.grow Hb7.out)
      have HH1 := Lib.hid (show ∀ z : World, Below w7.heap.size w7 z → Calls Try.prog 19 #[v] z fun e w' => (∃ u, e = .returned u ∧ OwnV w' z.heap.size u LH) ∧ Below z.heap.size z w' from fun z hz => HH3.out z (below_call Hb37.out hz))
      have HH2 := Lib.hid (show ∀ z : World, Below w7.heap.size w7 z → Calls Try.prog 20 #[v] z fun e w' => (∃ u, e = .returned u ∧ OwnV w' z.heap.size u LH) ∧ Below z.heap.size z w' from fun z hz => HH4.out z (below_call Hb37.out hz))
      refine wp_region_goodg (adG u8 u10 ow v e1 e2 D1 LH C p) 103 (by kernel_rfl) (by kernel_rfl) (by kernel_rfl) (by kernel_rfl) rfl ?_ ?_ ?_
      · intro t v x x' h hb hb'
        unfold adG at *
        split at h <;> first | exact h | exact h.grow hb'
      · intro i o hi a x hbx hsame hpre K hK
        have hlt : i < 38 := (Array.getElem?_eq_some_iff.1 hi).1
        rcases (show i = 0 ∨ i = 1 ∨ i = 2 ∨ i = 3 ∨ i = 4 ∨ i = 5 ∨ i = 6 ∨ i = 7 ∨ i = 8 ∨ i = 9 ∨ i = 10 ∨ i = 11 ∨ i = 12 ∨ i = 13 ∨ i = 14 ∨ i = 15 ∨ i = 16 ∨ i = 17 ∨ i = 18 ∨ i = 19 ∨ i = 20 ∨ i = 21 ∨ i = 22 ∨ i = 23 ∨ i = 24 ∨ i = 25 ∨ i = 26 ∨ i = 27 ∨ i = 28 ∨ i = 29 ∨ i = 30 ∨ i = 31 ∨ i = 32 ∨ i = 33 ∨ i = 34 ∨ i = 35 ∨ i = 36 ∨ i = 37 by omega) with rfl | rfl | rfl | rfl | rfl | rfl | rfl | rfl | rfl | rfl | rfl | rfl | rfl | rfl | rfl | rfl | rfl | rfl | rfl | rfl | rfl | rfl | rfl | rfl | rfl | rfl | rfl | rfl | rfl | rfl | rfl | rfl | rfl | rfl | rfl | rfl | rfl | rfl
        all_goals (have ho := Option.some.inj hi; subst ho; clear hi hlt)
        · have q8 : a.tmps[8]?.getD undef = u8 := hsame 8 (by decide +kernel)
          refine step_plain rfl ?_
          have hk := Lib.hid (show ∀ v7 x', adG u8 u10 ow v e1 e2 D1 LH C p 66 v7 x' → Below x.heap.size x x' → K (a.put (some 66) v7) x' from hK)
          have Hbx := Lib.hid hbx
          clear hsame hpre hK hbx
          go_simp
          exact hk.out _ _ rfl (Below.refl _ _)
        · have q10 : a.tmps[10]?.getD undef = u10 := hsame 10 (by decide +kernel)
          refine step_plain rfl ?_
          have hk := Lib.hid (show ∀ v7 x', adG u8 u10 ow v e1 e2 D1 LH C p 67 v7 x' → Below x.heap.size x x' → K (a.put (some 67) v7) x' from hK)
          have Hbx := Lib.hid hbx
          clear hsame hpre hK hbx
          go_simp
          exact hk.out _ _ rfl (Below.refl _ _)
        · have q66 : a.tmps[66]?.getD undef = u8 := hpre ⟨0, .data⟩ (by simp) rfl (by decide)
          have q67 : a.tmps[67]?.getD undef = u10 := hpre ⟨1, .data⟩ (by simp) rfl (by decide)
          refine step_plain rfl ?_
          have hk := Lib.hid (show ∀ v7 x', adG u8 u10 ow v e1 e2 D1 LH C p 68 v7 x' → Below x.heap.size x x' → K (a.put (some 68) v7) x' from hK)
          have Hbx := Lib.hid hbx
          clear hsame hpre hK hbx
          go_simp
          refine (refsame_any _ _ u8 u10 R1 x (H8.out.grow Hbx.out) (H10.out.grow Hbx.out)).mono ?_
          rintro e7 w7 ⟨rfl, hb7⟩
          go_simp
          exact hk.out _ _ rfl hb7
        · have q68 : a.tmps[68]?.getD undef = .bool true := hpre ⟨2, .data⟩ (by simp) rfl (by decide)
          refine step_plain rfl ?_
          have hk := Lib.hid (show ∀ v7 x', adG u8 u10 ow v e1 e2 D1 LH C p 69 v7 x' → Below x.heap.size x x' → K (a.put (some 69) v7) x' from hK)
          have Hbx := Lib.hid hbx
          clear hsame hpre hK hbx
          go_simp
          exact hk.out _ _ rfl (Below.refl _ _)
        · have q9 : a.tmps[9]?.getD undef = .int .i64 e1 := hsame 9 (by decide +kernel)
          have w69 : a.tmps[69]?.getD undef = .bool true := hpre ⟨3, .guard⟩ (by simp) rfl (by decide)
          refine step_wanted (wanted_of (j := 3) (t := 69) (b := true) rfl rfl w69) ?_
          have hk := Lib.hid (show ∀ v7 x', adG u8 u10 ow v e1 e2 D1 LH C p 70 v7 x' → Below x.heap.size x x' → K (a.put (some 70) v7) x' from hK)
          have Hbx := Lib.hid hbx
          clear hsame hpre hK hbx w69
          go_simp
          exact hk.out _ _ rfl (Below.refl _ _)
        · have q11 : a.tmps[11]?.getD undef = .int .i64 e1 := hsame 11 (by decide +kernel)
          have w69 : a.tmps[69]?.getD undef = .bool true := hpre ⟨3, .guard⟩ (by simp) rfl (by decide)
          refine step_wanted (wanted_of (j := 3) (t := 69) (b := true) rfl rfl w69) ?_
          have hk := Lib.hid (show ∀ v7 x', adG u8 u10 ow v e1 e2 D1 LH C p 71 v7 x' → Below x.heap.size x x' → K (a.put (some 71) v7) x' from hK)
          have Hbx := Lib.hid hbx
          clear hsame hpre hK hbx w69
          go_simp
          exact hk.out _ _ rfl (Below.refl _ _)
        · have q70 : a.tmps[70]?.getD undef = .int .i64 e1 := hpre ⟨4, .data⟩ (by simp) rfl (by decide)
          have q71 : a.tmps[71]?.getD undef = .int .i64 e1 := hpre ⟨5, .data⟩ (by simp) rfl (by decide)
          have w69 : a.tmps[69]?.getD undef = .bool true := hpre ⟨3, .guard⟩ (by simp) rfl (by decide)
          refine step_wanted (wanted_of (j := 3) (t := 69) (b := true) rfl rfl w69) ?_
          have hk := Lib.hid (show ∀ v7 x', adG u8 u10 ow v e1 e2 D1 LH C p 72 v7 x' → Below x.heap.size x x' → K (a.put (some 72) v7) x' from hK)
          have Hbx := Lib.hid hbx
          clear hsame hpre hK hbx w69
          go_simp
          exact hk.out _ _ rfl (Below.refl _ _)
        · have q69 : a.tmps[69]?.getD undef = .bool true := hpre ⟨3, .data⟩ (by simp) rfl (by decide)
          have q72 : a.tmps[72]?.getD undef = .bool true := hpre ⟨6, .data⟩ (by simp) rfl (by decide)
          refine step_plain rfl ?_
          have hk := Lib.hid (show ∀ v7 x', adG u8 u10 ow v e1 e2 D1 LH C p 73 v7 x' → Below x.heap.size x x' → K (a.put (some 73) v7) x' from hK)
          have Hbx := Lib.hid hbx
          clear hsame hpre hK hbx
          go_simp
          exact hk.out _ _ rfl (Below.refl _ _)
        · have q73 : a.tmps[73]?.getD undef = .bool true := hpre ⟨7, .data⟩ (by simp) rfl (by decide)
          refine step_plain rfl ?_
          have hk := Lib.hid (show ∀ v7 x', adG u8 u10 ow v e1 e2 D1 LH C p 74 v7 x' → Below x.heap.size x x' → K (a.put (some 74) v7) x' from hK)
          have Hbx := Lib.hid hbx
          clear hsame hpre hK hbx
          go_simp
          exact hk.out _ _ rfl (Below.refl _ _)
        · have q12 : a.tmps[12]?.getD undef = str D1 := hsame 12 (by decide +kernel)
          have w74 : a.tmps[74]?.getD undef = .bool true := hpre ⟨8, .guard⟩ (by simp) rfl (by decide)
          refine step_wanted (wanted_of (j := 8) (t := 74) (b := true) rfl rfl w74) ?_
          have hk := Lib.hid (show ∀ v7 x', adG u8 u10 ow v e1 e2 D1 LH C p 75 v7 x' → Below x.heap.size x x' → K (a.put (some 75) v7) x' from hK)
          have Hbx := Lib.hid hbx
          clear hsame hpre hK hbx w74
          go_simp
          exact hk.out _ _ rfl (Below.refl _ _)
        · have q14 : a.tmps[14]?.getD undef = str D1 := hsame 14 (by decide +kernel)
          have w74 : a.tmps[74]?.getD undef = .bool true := hpre ⟨8, .guard⟩ (by simp) rfl (by decide)
          refine step_wanted (wanted_of (j := 8) (t := 74) (b := true) rfl rfl w74) ?_
          have hk := Lib.hid (show ∀ v7 x', adG u8 u10 ow v e1 e2 D1 LH C p 76 v7 x' → Below x.heap.size x x' → K (a.put (some 76) v7) x' from hK)
          have Hbx := Lib.hid hbx
          clear hsame hpre hK hbx w74
          go_simp
          exact hk.out _ _ rfl (Below.refl _ _)
        · have q75 : a.tmps[75]?.getD undef = str D1 := hpre ⟨9, .data⟩ (by simp) rfl (by decide)
          have q76 : a.tmps[76]?.getD undef = str D1 := hpre ⟨10, .data⟩ (by simp) rfl (by decide)
          have w74 : a.tmps[74]?.getD undef = .bool true := hpre ⟨8, .guard⟩ (by simp) rfl (by decide)
          refine step_wanted (wanted_of (j := 8) (t := 74) (b := true) rfl rfl w74) ?_
          have hk := Lib.hid (show ∀ v7 x', adG u8 u10 ow v e1 e2 D1 LH C p 77 v7 x' → Below x.heap.size x x' → K (a.put (some 77) v7) x' from hK)
          have Hbx := Lib.hid hbx
          clear hsame hpre hK hbx w74
          go_simp
          exact hk.out _ _ rfl (Below.refl _ _)
        · have q74 : a.tmps[74]?.getD undef = .bool true := hpre ⟨8, .data⟩ (by simp) rfl (by decide)
          have q77 : a.tmps[77]?.getD undef = .bool true := hpre ⟨11, .data⟩ (by simp) rfl (by decide)
          refine step_plain rfl ?_
          have hk := Lib.hid (show ∀ v7 x', adG u8 u10 ow v e1 e2 D1 LH C p 78 v7 x' → Below x.heap.size x x' → K (a.put (some 78) v7) x' from hK)
          have Hbx := Lib.hid hbx
          clear hsame hpre hK hbx
          go_simp
          exact hk.out _ _ rfl (Below.refl _ _)
        · have q78 : a.tmps[78]?.getD undef = .bool true := hpre ⟨12, .data⟩ (by simp) rfl (by decide)
          refine step_plain rfl ?_
          have hk := Lib.hid (show ∀ v7 x', adG u8 u10 ow v e1 e2 D1 LH C p 79 v7 x' → Below x.heap.size x x' → K (a.put (some 79) v7) x' from hK)
          have Hbx := Lib.hid hbx
          clear hsame hpre hK hbx
          go_simp
          exact hk.out _ _ rfl (Below.refl _ _)
        · have q13 : a.tmps[13]?.getD undef = .int .i64 e2 := hsame 13 (by decide +kernel)
          have w79 : a.tmps[79]?.getD undef = .bool true := hpre ⟨13, .guard⟩ (by simp) rfl (by decide)
          refine step_wanted (wanted_of (j := 13) (t := 79) (b := true) rfl rfl w79) ?_
          have hk := Lib.hid (show ∀ v7 x', adG u8 u10 ow v e1 e2 D1 LH C p 80 v7 x' → Below x.heap.size x x' → K (a.put (some 80) v7) x' from hK)
          have Hbx := Lib.hid hbx
          clear hsame hpre hK hbx w79
          go_simp
          exact hk.out _ _ rfl (Below.refl _ _)
        · have q15 : a.tmps[15]?.getD undef = .int .i64 e2 := hsame 15 (by decide +kernel)
          have w79 : a.tmps[79]?.getD undef = .bool true := hpre ⟨13, .guard⟩ (by simp) rfl (by decide)
          refine step_wanted (wanted_of (j := 13) (t := 79) (b := true) rfl rfl w79) ?_
          have hk := Lib.hid (show ∀ v7 x', adG u8 u10 ow v e1 e2 D1 LH C p 81 v7 x' → Below x.heap.size x x' → K (a.put (some 81) v7) x' from hK)
          have Hbx := Lib.hid hbx
          clear hsame hpre hK hbx w79
          go_simp
          exact hk.out _ _ rfl (Below.refl _ _)
        · have q80 : a.tmps[80]?.getD undef = .int .i64 e2 := hpre ⟨14, .data⟩ (by simp) rfl (by decide)
          have q81 : a.tmps[81]?.getD undef = .int .i64 e2 := hpre ⟨15, .data⟩ (by simp) rfl (by decide)
          have w79 : a.tmps[79]?.getD undef = .bool true := hpre ⟨13, .guard⟩ (by simp) rfl (by decide)
          refine step_wanted (wanted_of (j := 13) (t := 79) (b := true) rfl rfl w79) ?_
          have hk := Lib.hid (show ∀ v7 x', adG u8 u10 ow v e1 e2 D1 LH C p 82 v7 x' → Below x.heap.size x x' → K (a.put (some 82) v7) x' from hK)
          have Hbx := Lib.hid hbx
          clear hsame hpre hK hbx w79
          go_simp
          exact hk.out _ _ rfl (Below.refl _ _)
        · have q79 : a.tmps[79]?.getD undef = .bool true := hpre ⟨13, .data⟩ (by simp) rfl (by decide)
          have q82 : a.tmps[82]?.getD undef = .bool true := hpre ⟨16, .data⟩ (by simp) rfl (by decide)
          refine step_plain rfl ?_
          have hk := Lib.hid (show ∀ v7 x', adG u8 u10 ow v e1 e2 D1 LH C p 83 v7 x' → Below x.heap.size x x' → K (a.put (some 83) v7) x' from hK)
          have Hbx := Lib.hid hbx
          clear hsame hpre hK hbx
          go_simp
          exact hk.out _ _ rfl (Below.refl _ _)
        · have q83 : a.tmps[83]?.getD undef = .bool true := hpre ⟨17, .data⟩ (by simp) rfl (by decide)
          refine step_plain rfl ?_
          have hk := Lib.hid (show ∀ v7 x', adG u8 u10 ow v e1 e2 D1 LH C p 84 v7 x' → Below x.heap.size x x' → K (a.put (some 84) v7) x' from hK)
          have Hbx := Lib.hid hbx
          clear hsame hpre hK hbx
          go_simp
          exact hk.out _ _ rfl (Below.refl _ _)
        · have q7 : a.tmps[7]?.getD undef = ow := hsame 7 (by decide +kernel)
          have w84 : a.tmps[84]?.getD undef = .bool true := hpre ⟨18, .guard⟩ (by simp) rfl (by decide)
          refine step_wanted (wanted_of (j := 18) (t := 84) (b := true) rfl rfl w84) ?_
          have hk := Lib.hid (show ∀ v7 x', adG u8 u10 ow v e1 e2 D1 LH C p 85 v7 x' → Below x.heap.size x x' → K (a.put (some 85) v7) x' from hK)
          have Hbx := Lib.hid hbx
          clear hsame hpre hK hbx w84
          go_simp
          exact hk.out _ _ rfl (Below.refl _ _)
        · have q0 : a.tmps[0]?.getD undef = v := hsame 0 (by decide +kernel)
          have w84 : a.tmps[84]?.getD undef = .bool true := hpre ⟨18, .guard⟩ (by simp) rfl (by decide)
          refine step_wanted (wanted_of (j := 18) (t := 84) (b := true) rfl rfl w84) ?_
          have hk := Lib.hid (show ∀ v7 x', adG u8 u10 ow v e1 e2 D1 LH C p 86 v7 x' → Below x.heap.size x x' → K (a.put (some 86) v7) x' from hK)
          have Hbx := Lib.hid hbx
          clear hsame hpre hK hbx w84
          go_simp
          exact hk.out _ _ rfl (Below.refl _ _)
        · have q85 : a.tmps[85]?.getD undef = ow := hpre ⟨19, .data⟩ (by simp) rfl (by decide)
          have q86 : a.tmps[86]?.getD undef = v := hpre ⟨20, .data⟩ (by simp) rfl (by decide)
          have w84 : a.tmps[84]?.getD undef = .bool true := hpre ⟨18, .guard⟩ (by simp) rfl (by decide)
          refine step_wanted (wanted_of (j := 18) (t := 84) (b := true) rfl rfl w84) ?_
          have hk := Lib.hid (show ∀ v7 x', adG u8 u10 ow v e1 e2 D1 LH C p 87 v7 x' → Below x.heap.size x x' → K (a.put (some 87) v7) x' from hK)
          have Hbx := Lib.hid hbx
          clear hsame hpre hK hbx w84
          go_simp
          refine (refsame_any _ _ ow v L x (Hw.out.grow Hbx.out) (HLF.out.grow Hbx.out)).mono ?_
          rintro e7 w7 ⟨rfl, hb7⟩
          go_simp
          exact hk.out _ _ rfl hb7
        · have q84 : a.tmps[84]?.getD undef = .bool true := hpre ⟨18, .data⟩ (by simp) rfl (by decide)
          have q87 : a.tmps[87]?.getD undef = .bool true := hpre ⟨21, .data⟩ (by simp) rfl (by decide)
          refine step_plain rfl ?_
          have hk := Lib.hid (show ∀ v7 x', adG u8 u10 ow v e1 e2 D1 LH C p 88 v7 x' → Below x.heap.size x x' → K (a.put (some 88) v7) x' from hK)
          have Hbx := Lib.hid hbx
          clear hsame hpre hK hbx
          go_simp
          exact hk.out _ _ rfl (Below.refl _ _)
        · have q88 : a.tmps[88]?.getD undef = .bool true := hpre ⟨22, .data⟩ (by simp) rfl (by decide)
          refine step_plain rfl ?_
          have hk := Lib.hid (show ∀ v7 x', adG u8 u10 ow v e1 e2 D1 LH C p 89 v7 x' → Below x.heap.size x x' → K (a.put (some 89) v7) x' from hK)
          have Hbx := Lib.hid hbx
          clear hsame hpre hK hbx
          go_simp
          exact hk.out _ _ rfl (Below.refl _ _)
        · have q0 : a.tmps[0]?.getD undef = v := hsame 0 (by decide +kernel)
          have w89 : a.tmps[89]?.getD undef = .bool true := hpre ⟨23, .guard⟩ (by simp) rfl (by decide)
          refine step_wanted (wanted_of (j := 23) (t := 89) (b := true) rfl rfl w89) ?_
          have hk := Lib.hid (show ∀ v7 x', adG u8 u10 ow v e1 e2 D1 LH C p 90 v7 x' → Below x.heap.size x x' → K (a.put (some 90) v7) x' from hK)
          have Hbx := Lib.hid hbx
          clear hsame hpre hK hbx w89
          go_simp
          exact hk.out _ _ rfl (Below.refl _ _)
        · have q90 : a.tmps[90]?.getD undef = v := hpre ⟨24, .data⟩ (by simp) rfl (by decide)
          have w89 : a.tmps[89]?.getD undef = .bool true := hpre ⟨23, .guard⟩ (by simp) rfl (by decide)
          refine step_wanted (wanted_of (j := 23) (t := 89) (b := true) rfl rfl w89) ?_
          have hk := Lib.hid (show ∀ v7 x', adG u8 u10 ow v e1 e2 D1 LH C p 91 v7 x' → Below x.heap.size x x' → K (a.put (some 91) v7) x' from hK)
          have Hbx := Lib.hid hbx
          clear hsame hpre hK hbx w89
          go_simp
          refine (HH1.out x Hbx.out).mono ?_
          rintro e7 w7 ⟨⟨u7, rfl, hown7⟩, hb7⟩
          go_simp
          exact hk.out _ _ (hown7.isL.weaken fun _ _ => trivial) hb7
        · have q0 : a.tmps[0]?.getD undef = v := hsame 0 (by decide +kernel)
          have w89 : a.tmps[89]?.getD undef = .bool true := hpre ⟨23, .guard⟩ (by simp) rfl (by decide)
          refine step_wanted (wanted_of (j := 23) (t := 89) (b := true) rfl rfl w89) ?_
          have hk := Lib.hid (show ∀ v7 x', adG u8 u10 ow v e1 e2 D1 LH C p 92 v7 x' → Below x.heap.size x x' → K (a.put (some 92) v7) x' from hK)
          have Hbx := Lib.hid hbx
          clear hsame hpre hK hbx w89
          go_simp
          exact hk.out _ _ rfl (Below.refl _ _)
        · have q92 : a.tmps[92]?.getD undef = v := hpre ⟨26, .data⟩ (by simp) rfl (by decide)
          have w89 : a.tmps[89]?.getD undef = .bool true := hpre ⟨23, .guard⟩ (by simp) rfl (by decide)
          refine step_wanted (wanted_of (j := 23) (t := 89) (b := true) rfl rfl w89) ?_
          have hk := Lib.hid (show ∀ v7 x', adG u8 u10 ow v e1 e2 D1 LH C p 93 v7 x' → Below x.heap.size x x' → K (a.put (some 93) v7) x' from hK)
          have Hbx := Lib.hid hbx
          clear hsame hpre hK hbx w89
          go_simp
          refine (HH2.out x Hbx.out).mono ?_
          rintro e7 w7 ⟨⟨u7, rfl, hown7⟩, hb7⟩
          go_simp
          exact hk.out _ _ (hown7.isL.weaken fun _ _ => trivial) hb7
        · have q91 : adG u8 u10 ow v e1 e2 D1 LH C p 91 (a.tmps[91]?.getD undef) x := hpre ⟨25, .data⟩ (by simp) rfl (by decide)
          have q93 : adG u8 u10 ow v e1 e2 D1 LH C p 93 (a.tmps[93]?.getD undef) x := hpre ⟨27, .data⟩ (by simp) rfl (by decide)
          have w89 : a.tmps[89]?.getD undef = .bool true := hpre ⟨23, .guard⟩ (by simp) rfl (by decide)
          refine step_wanted (wanted_of (j := 23) (t := 89) (b := true) rfl rfl w89) ?_
          have hk := Lib.hid (show ∀ v7 x', adG u8 u10 ow v e1 e2 D1 LH C p 94 v7 x' → Below x.heap.size x x' → K (a.put (some 94) v7) x' from hK)
          have Hbx := Lib.hid hbx
          clear hsame hpre hK hbx w89
          have q91b : IsL kVer x (fun _ => True) (a.tmps[91]?.getD undef) LH := q91
          have q93b : IsL kVer x (fun _ => True) (a.tmps[93]?.getD undef) LH := q93
          obtain ⟨u91, hu91⟩ : ∃ u, u = a.tmps[91]?.getD undef := ⟨_, rfl⟩
          obtain ⟨u93, hu93⟩ : ∃ u, u = a.tmps[93]?.getD undef := ⟨_, rfl⟩
          rw [← hu91] at q91b
          rw [← hu93] at q93b
          have q91c : a.tmps[91]?.getD undef = u91 := hu91.symm
          have q93c : a.tmps[93]?.getD undef = u93 := hu93.symm
          clear q91 q93 hu91 hu93
          go_simp
          refine (refsame_any _ _ u91 u93 LH x q91b q93b).mono ?_
          rintro e7 w7 ⟨rfl, hb7⟩
          go_simp
          exact hk.out _ _ rfl hb7
        · have q89 : a.tmps[89]?.getD undef = .bool true := hpre ⟨23, .data⟩ (by simp) rfl (by decide)
          have q94 : a.tmps[94]?.getD undef = .bool true := hpre ⟨28, .data⟩ (by simp) rfl (by decide)
          refine step_plain rfl ?_
          have hk := Lib.hid (show ∀ v7 x', adG u8 u10 ow v e1 e2 D1 LH C p 95 v7 x' → Below x.heap.size x x' → K (a.put (some 95) v7) x' from hK)
          have Hbx := Lib.hid hbx
          clear hsame hpre hK hbx
          go_simp
          exact hk.out _ _ rfl (Below.refl _ _)
        · have q95 : a.tmps[95]?.getD undef = .bool true := hpre ⟨29, .data⟩ (by simp) rfl (by decide)
          refine step_plain rfl ?_
          have hk := Lib.hid (show ∀ v7 x', adG u8 u10 ow v e1 e2 D1 LH C p 96 v7 x' → Below x.heap.size x x' → K (a.put (some 96) v7) x' from hK)
          have Hbx := Lib.hid hbx
          clear hsame hpre hK hbx
          go_simp
          exact hk.out _ _ rfl (Below.refl _ _)
        · have q5 : a.tmps[5]?.getD undef = .pointer (some ⟨w.heap.size, 0, none⟩) := hsame 5 (by decide +kernel)
          have w96 : a.tmps[96]?.getD undef = .bool true := hpre ⟨30, .guard⟩ (by simp) rfl (by decide)
          refine step_wanted (wanted_of (j := 30) (t := 96) (b := true) rfl rfl w96) ?_
          have hk := Lib.hid (show ∀ v7 x', adG u8 u10 ow v e1 e2 D1 LH C p 97 v7 x' → Below x.heap.size x x' → K (a.put (some 97) v7) x' from hK)
          have Hbx := Lib.hid hbx
          clear hsame hpre hK hbx w96
          refine wp_load_mid 39 (.tmp 5) rfl w.heap.size 0 (eval_at q5) C.toList _ ((HbxF.out.grow Hbx.out).range 0 C.toList fun j u hu => by rw [Nat.zero_add, ← Array.getElem?_toList]; exact hu) Try.underlying39 rfl HinfL.out ?_
          exact hk.out _ _ rfl (Below.refl _ _)
        · have q97 : a.tmps[97]?.getD undef = .agg C := hpre ⟨31, .data⟩ (by simp) rfl (by decide)
          have w96 : a.tmps[96]?.getD undef = .bool true := hpre ⟨30, .guard⟩ (by simp) rfl (by decide)
          refine step_wanted (wanted_of (j := 30) (t := 96) (b := true) rfl rfl w96) ?_
          have hk := Lib.hid (show ∀ v7 x', adG u8 u10 ow v e1 e2 D1 LH C p 98 v7 x' → Below x.heap.size x x' → K (a.put (some 98) v7) x' from hK)
          have Hbx := Lib.hid hbx
          clear hsame hpre hK hbx w96
          go_simp
          refine (HD1.out x).mono ?_
          rintro e7 w7 ⟨rfl, hb7⟩
          go_simp
          exact hk.out _ _ rfl hb7
        · have q5 : a.tmps[5]?.getD undef = .pointer (some ⟨w.heap.size, 0, none⟩) := hsame 5 (by decide +kernel)
          have w96 : a.tmps[96]?.getD undef = .bool true := hpre ⟨30, .guard⟩ (by simp) rfl (by decide)
          refine step_wanted (wanted_of (j := 30) (t := 96) (b := true) rfl rfl w96) ?_
          have hk := Lib.hid (show ∀ v7 x', adG u8 u10 ow v e1 e2 D1 LH C p 99 v7 x' → Below x.heap.size x x' → K (a.put (some 99) v7) x' from hK)
          have Hbx := Lib.hid hbx
          clear hsame hpre hK hbx w96
          refine wp_load_mid 39 (.tmp 5) rfl w.heap.size 0 (eval_at q5) C.toList _ ((HbxF.out.grow Hbx.out).range 0 C.toList fun j u hu => by rw [Nat.zero_add, ← Array.getElem?_toList]; exact hu) Try.underlying39 rfl HinfL.out ?_
          exact hk.out _ _ rfl (Below.refl _ _)
        · have q99 : a.tmps[99]?.getD undef = .agg C := hpre ⟨33, .data⟩ (by simp) rfl (by decide)
          have w96 : a.tmps[96]?.getD undef = .bool true := hpre ⟨30, .guard⟩ (by simp) rfl (by decide)
          refine step_wanted (wanted_of (j := 30) (t := 96) (b := true) rfl rfl w96) ?_
          have hk := Lib.hid (show ∀ v7 x', adG u8 u10 ow v e1 e2 D1 LH C p 100 v7 x' → Below x.heap.size x x' → K (a.put (some 100) v7) x' from hK)
          have Hbx := Lib.hid hbx
          clear hsame hpre hK hbx w96
          go_simp
          refine (HD2.out x).mono ?_
          rintro e7 w7 ⟨rfl, hb7⟩
          go_simp
          exact hk.out _ _ rfl hb7
        · have q98 : a.tmps[98]?.getD undef = .bool p := hpre ⟨32, .data⟩ (by simp) rfl (by decide)
          have q100 : a.tmps[100]?.getD undef = .bool p := hpre ⟨34, .data⟩ (by simp) rfl (by decide)
          have w96 : a.tmps[96]?.getD undef = .bool true := hpre ⟨30, .guard⟩ (by simp) rfl (by decide)
          refine step_wanted (wanted_of (j := 30) (t := 96) (b := true) rfl rfl w96) ?_
          have hk := Lib.hid (show ∀ v7 x', adG u8 u10 ow v e1 e2 D1 LH C p 101 v7 x' → Below x.heap.size x x' → K (a.put (some 101) v7) x' from hK)
          have Hbx := Lib.hid hbx
          clear hsame hpre hK hbx w96
          cases p <;> go_simp <;> exact hk.out _ _ rfl (Below.refl _ _)
        · have q96 : a.tmps[96]?.getD undef = .bool true := hpre ⟨30, .data⟩ (by simp) rfl (by decide)
          have q101 : a.tmps[101]?.getD undef = .bool true := hpre ⟨35, .data⟩ (by simp) rfl (by decide)
          refine step_plain rfl ?_
          have hk := Lib.hid (show ∀ v7 x', adG u8 u10 ow v e1 e2 D1 LH C p 102 v7 x' → Below x.heap.size x x' → K (a.put (some 102) v7) x' from hK)
          have Hbx := Lib.hid hbx
          clear hsame hpre hK hbx
          go_simp
          exact hk.out _ _ rfl (Below.refl _ _)
        · have q102 : a.tmps[102]?.getD undef = .bool true := hpre ⟨36, .data⟩ (by simp) rfl (by decide)
          refine step_plain rfl ?_
          have hk := Lib.hid (show ∀ v7 x', adG u8 u10 ow v e1 e2 D1 LH C p 6 v7 x' → Below x.heap.size x x' → K (a.put (some 6) v7) x' from hK)
          have Hbx := Lib.hid hbx
          clear hsame hpre hK hbx
          go_simp
          exact hk.out _ _ rfl (Below.refl _ _)
      · intro a x hbx hsame hG hsz hde
        have q6 : a.tmps[6]?.getD undef = .bool true := hG 37 (by decide)
        have hde' : a.defers = [] := hde
        have Hbx := Lib.hid hbx
        clear hbx hsame hG
        go_wp2_with fail
        exact bodyPost_ret (results_tmp Try.results4 _ _ _) hde' ⟨by rw [Array.getD_eq_getD_getElem?, q6], below_call (below_call Hbel.out Hb7.out) Hbx.out⟩
end Go.Proofs.Ytnbaaccodgohoaa
