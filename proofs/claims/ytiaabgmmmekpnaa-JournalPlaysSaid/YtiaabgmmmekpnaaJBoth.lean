/-
  The law's pair of journals as cells.
  The law's pair is opened: both sides answer the same.
  The law's pair gets its power again.
  The law's pair: both sides tell the same of themselves.
  The law's pair as mathematics: what stands from step to step.
-/
import Derived.Test.YtiaabgmmmekpnaaJRefCalls
import Derived.Test.YtiaabgmmmekpnaaJKit
import Derived.Test.YtiaabgmmmekpnaaJOpen
import Derived.Test.YtiaabgmmmekpnaaRefSmall
import Derived.Test.YtiaabgmmmekpnaaDevChange
import Derived.Test.YtiaabgmmmekpnaaGrow
import Derived.BigQuiet
namespace Go.Proofs.Ytiaabgmmmekpnaa
open Go.RowKit
set_option maxRecDepth 100000

/-- The pair: the program's device, its journal, the document's. -/
def bc (vd vj : Value) (X : Array Value) : Array Value := ([vd, vj] ++ X.toList).toArray
section
variable {vd vj : Value} {X X' C C' : Array Value} {r : RJ} {w : World} {g : Nat} {t : TypeId}
theorem bc_size (hX : X.size = 13) : (bc vd vj X).size = 15 := by unfold bc; simp [hX]
theorem bc_d : (bc vd vj X)[0]? = some vd := rfl
theorem bc_j : (bc vd vj X)[1]? = some vj := rfl
theorem bc_tail (i : Nat) : (bc vd vj X)[2 + i]? = X[i]? := by
  unfold bc
  rw [List.getElem?_toArray, List.getElem?_append_right (by simp)]
  simp
theorem bc_range (h : Blk w g t (bc vd vj X)) : w.rangeAt g 2 X.toList := Blk.range h 2 X.toList (by
  show (([vd, vj] ++ X.toList).drop 2).take X.toList.length = X.toList
  rw [show ([vd, vj] ++ X.toList).drop 2 = X.toList from rfl, List.take_length])
theorem bc_rangeD (h : Blk w g t (bc vd vj (jc C r))) : w.rangeAt g 2 C.toList := Blk.range h 2 C.toList (by
  show (([vd, vj] ++ (jc C r).toList).drop 2).take C.toList.length = C.toList
  rw [show ([vd, vj] ++ (jc C r).toList).drop 2 = (jc C r).toList from rfl]
  exact List.take_left)
theorem bc_there (hX : X.size = 13) (h : Blk w g t (bc vd vj X)) : w.there g 2 13 := Blk.there h 2 13 (by simp [hX])
theorem bc_thereD (hX : X.size = 13) (h : Blk w g t (bc vd vj X)) : w.there g 2 8 := Blk.there h 2 8 (by simp [hX])
theorem bc_put (hX : X.size = 13) (hX' : X'.size = 13) (h : Blk w g t (bc vd vj X)) : Blk (w.setCells g 2 X'.toList) g t (bc vd vj X') := by
  have := Blk.setCells X'.toList 2 w _ h (by simp [hX, hX'])
  have e : splice ([vd, vj] ++ X.toList) 2 X'.toList = [vd, vj] ++ X'.toList := by
    unfold splice
    rw [List.drop_of_length_le (by simp [hX, hX'])]
    simp
  rw [e] at this
  exact this
theorem bc_putD (hC : C.size = 8) (hC' : C'.size = 8) (h : Blk w g t (bc vd vj (jc C r))) : Blk (w.setCells g 2 C'.toList) g t (bc vd vj (jc C' r)) := by
  have := Blk.setCells C'.toList 2 w _ h (by simp [jc, hC, hC'])
  have e : splice ([vd, vj] ++ (jc C r).toList) 2 C'.toList = [vd, vj] ++ (jc C' r).toList := by
    unfold splice jc
    rw [List.drop_append, List.drop_append]
    simp [hC, hC']
  rw [e] at this
  exact this
theorem bc_setj (u : Value) : (bc vd vj X).setIfInBounds 1 u = bc vd u X := rfl
theorem bc_setx (i : Nat) (u : Value) : (bc vd vj X).setIfInBounds (2 + i) u = bc vd vj (X.setIfInBounds i u) := by
  unfold bc
  rw [List.setIfInBounds_toArray, List.set_append_right _ _ (by simp)]
  simp
end
theorem both_info : (Try.prog.info? 43).map (·.size) = some 15 := by kernel_rfl

/-- Both sides where they lie: the device of both, the program's journal, the document's. -/
structure Sides (w : World) (base : Nat) (G : Nat → Prop) (g b : Nat) (vj : Value) (D : Dev) (C : Array Value) (r : RJ) (ok : Nat → Prop) : Prop where
  dev : DevAt w base G g D
  blk : Blk w b 43 (bc (.pointer (some ⟨g, 0, none⟩)) vj (jc C r))
  ref : IsDev w ok (.agg C) D
  apart : ∀ k, ok k → ¬ G k ∧ k ≠ b ∧ 0 ≤ k ∧ k < w.heap.size
  gb : ¬ G b
  low : base ≤ b
end Go.Proofs.Ytiaabgmmmekpnaa

namespace Go.Proofs.Ytiaabgmmmekpnaa
open Go.RowKit
set_option maxRecDepth 100000

/-- What stands while the pair takes its two journals. -/
def boI (F : Nat → Value) (b g6 : Nat) (PG PJ VJ : Value) (X X0 : Array Value) (Y : World) (d : Nat → Bool) (a : Act) (x : World) : Prop :=
  ∃ (v28 v29 v30 v31 v32 v33 v34 v35 : Value), a = ⟨#[.pointer (some ⟨b, 0, none⟩), (F 1), (F 2), PJ, (F 4), (F 5), .pointer (some ⟨g6, 0, none⟩), (F 7), (F 8), (F 9), (F 10), (F 11), (F 12), (F 13), (F 14), (F 15), (F 16), (F 17), (F 18), (F 19), (F 20), (F 21), (F 22), (F 23), (F 24), (F 25), (F 26), (F 27), v28, v29, v30, v31, v32, v33, v34, v35, (F 36), (F 37), (F 38), (F 39), (F 40), (F 41), (F 42), (F 43), (F 44), (F 45), (F 46), (F 47), (F 48), (F 49), (F 50), (F 51), (F 52), (F 53), (F 54), (F 55), (F 56), (F 57), (F 58), (F 59), (F 60)], []⟩ ∧ Fr (· = b) (· = b) Y x ∧
    (d 0 = true → v28 = .pointer (some ⟨b, 0, none⟩)) ∧
    (d 1 = true → v29 = .pointer (some ⟨b, 0, none⟩)) ∧
    (d 2 = true → v30 = PJ) ∧
    (d 3 = true → v31 = .agg X) ∧
    (d 4 = true → v32 = .pointer (some ⟨b, 0, none⟩)) ∧
    (d 5 = true → v33 = .pointer (some ⟨b, 1, none⟩)) ∧
    (d 7 = true → v34 = .pointer (some ⟨b, 0, none⟩)) ∧
    (d 8 = true → v35 = .pointer (some ⟨b, 2, none⟩)) ∧
    (Blk x b 43 (bc PG (if d 6 = true then PJ else VJ) (if d 9 = true then X else X0)))
theorem boI_many {k n : Nat} (h : k < n) (hn : n = 10) : k = 0 ∨ k = 1 ∨ k = 2 ∨ k = 3 ∨ k = 4 ∨ k = 5 ∨ k = 6 ∨ k = 7 ∨ k = 8 ∨ k = 9 := by omega
theorem wp_frame61 {P : Program} {Q : Exit → Act → World → Prop} {c : Code} {a : Act} {w : World} (hs : a.tmps.size = 61) (hd : a.defers = []) (h : ∀ F : Nat → Value, F = (fun i => a.tmps.getD i undef) → c.wp P Q ⟨#[F 0, F 1, F 2, F 3, F 4, F 5, F 6, F 7, F 8, F 9, F 10, F 11, F 12, F 13, F 14, F 15, F 16, F 17, F 18, F 19, F 20, F 21, F 22, F 23, F 24, F 25, F 26, F 27, F 28, F 29, F 30, F 31, F 32, F 33, F 34, F 35, F 36, F 37, F 38, F 39, F 40, F 41, F 42, F 43, F 44, F 45, F 46, F 47, F 48, F 49, F 50, F 51, F 52, F 53, F 54, F 55, F 56, F 57, F 58, F 59, F 60], []⟩ w) : c.wp P Q a w := by
  have h' := h _ rfl
  obtain ⟨A, de⟩ := a
  cases hd
  have e : A = #[A.getD 0 undef, A.getD 1 undef, A.getD 2 undef, A.getD 3 undef, A.getD 4 undef, A.getD 5 undef, A.getD 6 undef, A.getD 7 undef, A.getD 8 undef, A.getD 9 undef, A.getD 10 undef, A.getD 11 undef, A.getD 12 undef, A.getD 13 undef, A.getD 14 undef, A.getD 15 undef, A.getD 16 undef, A.getD 17 undef, A.getD 18 undef, A.getD 19 undef, A.getD 20 undef, A.getD 21 undef, A.getD 22 undef, A.getD 23 undef, A.getD 24 undef, A.getD 25 undef, A.getD 26 undef, A.getD 27 undef, A.getD 28 undef, A.getD 29 undef, A.getD 30 undef, A.getD 31 undef, A.getD 32 undef, A.getD 33 undef, A.getD 34 undef, A.getD 35 undef, A.getD 36 undef, A.getD 37 undef, A.getD 38 undef, A.getD 39 undef, A.getD 40 undef, A.getD 41 undef, A.getD 42 undef, A.getD 43 undef, A.getD 44 undef, A.getD 45 undef, A.getD 46 undef, A.getD 47 undef, A.getD 48 undef, A.getD 49 undef, A.getD 50 undef, A.getD 51 undef, A.getD 52 undef, A.getD 53 undef, A.getD 54 undef, A.getD 55 undef, A.getD 56 undef, A.getD 57 undef, A.getD 58 undef, A.getD 59 undef, A.getD 60 undef] := by
    apply Array.ext
    · exact hs
    · intro i h1 h2
      have hs' : A.size = 61 := hs
      have h3 : i < 61 := by omega
      have key : ∀ k : Nat, (hk : k < A.size) → A.getD k undef = A[k] := fun k hk => by simp [Array.getD, hk]
      rcases (by omega : i = 0 ∨ i = 1 ∨ i = 2 ∨ i = 3 ∨ i = 4 ∨ i = 5 ∨ i = 6 ∨ i = 7 ∨ i = 8 ∨ i = 9 ∨ i = 10 ∨ i = 11 ∨ i = 12 ∨ i = 13 ∨ i = 14 ∨ i = 15 ∨ i = 16 ∨ i = 17 ∨ i = 18 ∨ i = 19 ∨ i = 20 ∨ i = 21 ∨ i = 22 ∨ i = 23 ∨ i = 24 ∨ i = 25 ∨ i = 26 ∨ i = 27 ∨ i = 28 ∨ i = 29 ∨ i = 30 ∨ i = 31 ∨ i = 32 ∨ i = 33 ∨ i = 34 ∨ i = 35 ∨ i = 36 ∨ i = 37 ∨ i = 38 ∨ i = 39 ∨ i = 40 ∨ i = 41 ∨ i = 42 ∨ i = 43 ∨ i = 44 ∨ i = 45 ∨ i = 46 ∨ i = 47 ∨ i = 48 ∨ i = 49 ∨ i = 50 ∨ i = 51 ∨ i = 52 ∨ i = 53 ∨ i = 54 ∨ i = 55 ∨ i = 56 ∨ i = 57 ∨ i = 58 ∨ i = 59 ∨ i = 60) with rfl | rfl | rfl | rfl | rfl | rfl | rfl | rfl | rfl | rfl | rfl | rfl | rfl | rfl | rfl | rfl | rfl | rfl | rfl | rfl | rfl | rfl | rfl | rfl | rfl | rfl | rfl | rfl | rfl | rfl | rfl | rfl | rfl | rfl | rfl | rfl | rfl | rfl | rfl | rfl | rfl | rfl | rfl | rfl | rfl | rfl | rfl | rfl | rfl | rfl | rfl | rfl | rfl | rfl | rfl | rfl | rfl | rfl | rfl | rfl | rfl <;> exact (key _ h1).symm
  rw [e]
  exact h'
theorem boI_start (F : Nat → Value) (b g6 : Nat) (PG PJ VJ : Value) (X X0 : Array Value) (Y : World) (a : Act) (x : World) (ha : ∃ v28 v29 v30 v31 v32 v33 v34 v35, a = ⟨#[.pointer (some ⟨b, 0, none⟩), (F 1), (F 2), PJ, (F 4), (F 5), .pointer (some ⟨g6, 0, none⟩), (F 7), (F 8), (F 9), (F 10), (F 11), (F 12), (F 13), (F 14), (F 15), (F 16), (F 17), (F 18), (F 19), (F 20), (F 21), (F 22), (F 23), (F 24), (F 25), (F 26), (F 27), v28, v29, v30, v31, v32, v33, v34, v35, (F 36), (F 37), (F 38), (F 39), (F 40), (F 41), (F 42), (F 43), (F 44), (F 45), (F 46), (F 47), (F 48), (F 49), (F 50), (F 51), (F 52), (F 53), (F 54), (F 55), (F 56), (F 57), (F 58), (F 59), (F 60)], []⟩) (hb : Fr (· = b) (· = b) Y x) (hB : Blk x b 43 (bc PG VJ X0)) : boI F b g6 PG PJ VJ X X0 Y (fun _ => false) a x := by
  obtain ⟨v28, v29, v30, v31, v32, v33, v34, v35, rfl⟩ := ha
  exact ⟨v28, v29, v30, v31, v32, v33, v34, v35, rfl, hb, (fun q => by cases q), (fun q => by cases q), (fun q => by cases q), (fun q => by cases q), (fun q => by cases q), (fun q => by cases q), (fun q => by cases q), (fun q => by cases q), hB⟩

set_option maxHeartbeats 4000000 in
theorem bothopen_any (base : Nat) (G : Nat → Prop) (g b : Nat) (vj : Value) (D : Dev) (C : Array Value) (r : RJ) (ok : Nat → Prop) (w : World) (hs : Sides w base G g b vj D C r ok) (hoff : D.off = false) (hfew : D.Few 500000) (h6 : 6 ≤ D.sure.length)
    (D' : Dev) (J : JM) (L : List (List UInt8)) (r' : RJ) (hM : openM D = ((D', 0), (J, L))) (hR : openR D = ((D', r'), (L, 0))) (hL : L.length ≤ 1099511627776) :
    Calls Try.prog 8 #[.pointer (some ⟨b, 0, none⟩)] w fun e w' => e = .returned (.bool true) ∧ ∃ G' j C' ok', Sides w' base G' g b (.pointer (some ⟨j, 0, none⟩)) D' C' r' ok' ∧ JAt w' j g J ∧ ¬ G' j ∧ j ≠ b ∧ base ≤ j ∧ (∀ k, ok' k → k ≠ j) ∧ Fr (fun k => G k ∨ k = b) (fun k => G' k ∨ k = b) w w' := by
  obtain ⟨hdev, hblk, href, hap, hgb, hlow⟩ := hs
  have hjo := jopen_any base G g D w (hfew.mono (by omega)) hdev
  have hwf := hdev.wf
  have hlen := hdev.lens
  have hleft := hdev.left_le
  have hCs := href.size
  have q0 : w.cell? ⟨b, 0, none⟩ = some (.pointer (some ⟨g, 0, none⟩)) := by rw [hblk.cell]; rfl
  have hsz0 := hblk.lt
  have hd8 : (Try.prog.info? 36).map (·.size) = some C.toList.length := by rw [Array.length_toList, hCs.1]; exact dev_info
  have Hd8 := Lib.hid hd8
  have Hdev := Lib.hid hdev
  have Hblk := Lib.hid hblk
  have Href := Lib.hid href
  have Hap := Lib.hid hap
  have Hgb := Lib.hid hgb
  have Hwf := Lib.hid hwf
  have HCs := Lib.hid hCs
  have Hjo := Lib.hid hjo
  have HM := Lib.hid hM
  have HR := Lib.hid hR
  have Hfew := Lib.hid hfew
  have Hoff := Lib.hid hoff
  have hbs := hdev.size
  clear hdev hblk href hap hgb hwf hCs hjo hM hR hfew hoff hd8
  go_enter Try.func8, Try.ntmps8
  go_wp2_with fail
  refine Hjo.out.mono ?_
  rintro e w1 ⟨vp, x, rfl, G', hd1, hf1, hor⟩
  rw [HM.out] at hd1 hor ⊢
  obtain ⟨_, j, B, rfl, hj1, hB1, hGB, hown, hBj⟩ := hor.resolve_left (fun h => h.1 rfl)
  have hb1 := hf1.blk Hblk.out Hgb.out
  have hr1 : IsDev w1 ok (.agg C) D := Href.out.frame (fun k hk hl => (hf1.block k hl (Hap.out k hk).1).2)
  have hro := refopen_any ok (.agg C) D w1 hr1 Hwf.out h6 hlen.2 Hfew.out hleft Hoff.out
  rw [HR.out] at hro
  have hs1 := hf1.size
  have hj1l := Blk.lt hj1
  have Hd1 := Lib.hid hd1
  have Hf1 := Lib.hid hf1
  have Hj1 := Lib.hid hj1
  have HGB := Lib.hid hGB
  have Hown := Lib.hid hown
  have Hb1 := Lib.hid hb1
  have Hro := Lib.hid hro
  clear hd1 hf1 hor hj1 hGB hown hb1 hr1 hro q0
  go_wp2_with (refine wpList_load_mid rfl 36 (.tmp 22) rfl b 2 rfl C.toList _ (bc_rangeD Hb1.out.2) Try.underlying36 rfl Hd8.out ?_)
  refine Hro.out.mono ?_
  rintro e w2 ⟨v', A, c, rfl, hrj, hrd, hb2⟩
  obtain ⟨C', rfl, hdr⟩ := hrj.cells
  have hC' := hdr.size
  obtain ⟨X, hX⟩ : ∃ X, X = jc C' r' := ⟨_, rfl⟩
  have hXs : X.size = 13 ∧ X.all (·.oneCell') = true ∧ (jc C r).size = 13 := by rw [hX]; exact ⟨jc_size hC'.1, jc_one hC'.2, jc_size HCs.out.1⟩
  rw [← hX]
  have hs2 := hb2.size
  obtain ⟨w3, hw3⟩ : ∃ w3, w3 = (w2.alloc (.cells #[.slice none 0 0, .slice none 0 0, .int .i64 0, .slice none 0 0, .int .i64 0, .int .i64 0, .int .i64 0, .bool false, .int .u64 0, .int .i64 0, .string ⟨#[]⟩, .int .i64 0, .bool false] 40)).setRow w2.heap.size X := ⟨_, rfl⟩
  have a0 : Blk (w2.alloc (.cells #[.slice none 0 0, .slice none 0 0, .int .i64 0, .slice none 0 0, .int .i64 0, .int .i64 0, .int .i64 0, .bool false, .int .u64 0, .int .i64 0, .string ⟨#[]⟩, .int .i64 0, .bool false] 40)) w2.heap.size 40 (jc zeroD rj0) := Blk.new w2 _ _
  have a6 : Blk w3 w2.heap.size 40 X := by rw [hw3]; exact a0.setRow_ _
  have a3 : Below w1.heap.size w1 w3 := by rw [hw3]; exact below_setRow (hb2.alloc hs2 _) hs2 _
  have ab : Blk w3 b 43 (bc (.pointer (some ⟨g, 0, none⟩)) vj (jc C r)) := Hb1.out.2.grow a3
  have a4 : IsDev w3 (fun k => (ok k ∨ w1.heap.size ≤ k) ∧ k < w2.heap.size) (.agg C') D' := by
    rw [hw3]
    exact hdr.move (fun k hk hl => ⟨⟨hk, hl⟩, (setRow_other _ _ _ _ (by omega)).trans (Below.heap_alloc _ _ _ hl)⟩)
  have a7 : Rd w3 (fun k => w1.heap.size ≤ k) A (L.map str) := by
    rw [hw3]
    exact hrd.frame (fun k _ hl => (setRow_other _ _ _ _ (by omega)).trans (Below.heap_alloc _ _ _ hl))
  have hg6 : ¬ w2.heap.size = b := by omega
  have hj9 : (Try.prog.info? 40).map (·.size) = some X.size := by rw [hXs.1]; exact jn_info
  have ho9 : (jc zeroD rj0).size = X.size := by rw [hXs.1]; rfl
  have A0 := Lib.hid a0
  have H6 := Lib.hid a6
  have A3 := Lib.hid a3
  have AB := Lib.hid ab
  have A4 := Lib.hid a4
  have A7 := Lib.hid a7
  have Hg6 := Lib.hid hg6
  have HXs := Lib.hid hXs
  have HX := Lib.hid hX
  have HW3 := Lib.hid hw3
  have Hj9 := Lib.hid hj9
  have Ho9 := Lib.hid ho9
  clear a0 a6 a3 ab a4 a7 hg6 hXs hX hw3 hj9 ho9 hrj hrd hdr hC' hb2
  go_upto_region 3 with (refine wpList_store_row rfl 40 (.tmp 6) (.tmp 25) rfl w2.heap.size X rfl rfl 40 (jc zeroD rj0) A0.out Hj9.out Ho9.out HXs.out.2.1 ?_; rw [← HW3.out])
  go_cut [] (fun wx => Fr (· = b) (· = b) w3 wx ∧ Blk wx b 43 (bc (.pointer (some ⟨g, 0, none⟩)) (.pointer (some ⟨j, 0, none⟩)) X))
  case first =>
    refine wp_frame61 rfl rfl (fun F hF => ?_)
    apply wp_region_inv (I := boI F b w2.heap.size (.pointer (some ⟨g, 0, none⟩)) (.pointer (some ⟨j, 0, none⟩)) vj X (jc C r) w3)
    case hm => kernel_rfl
    case ho => kernel_rfl
    case h0 => subst hF; exact boI_start _ b w2.heap.size (.pointer (some ⟨g, 0, none⟩)) (.pointer (some ⟨j, 0, none⟩)) vj X (jc C r) w3 _ _ ⟨_, _, _, _, _, _, _, _, rfl⟩ (Fr.refl _ _).drew AB.out
    case hstep =>
      clear hF
      intro i' o hi d a x hd hpre hI K hK
      obtain ⟨v28, v29, v30, v31, v32, v33, v34, v35, rfl, hb, h0, h1, h2, h3, h4, h5, h7, h8, hB⟩ := hI
      have hlt := (Array.getElem?_eq_some_iff.1 hi).1
      rcases boI_many hlt rfl with rfl | rfl | rfl | rfl | rfl | rfl | rfl | rfl | rfl | rfl
      all_goals (have ho := Option.some.inj hi; subst ho; clear hi hlt)
      · go_simp
        exact hK _ _ ⟨_, v29, v30, v31, v32, v33, v34, v35, rfl, hb, fun _ => rfl, h1, h2, h3, h4, h5, h7, h8, hB⟩
      · go_simp
        exact hK _ _ ⟨v28, _, v30, v31, v32, v33, v34, v35, rfl, hb, h0, fun _ => rfl, h2, h3, h4, h5, h7, h8, hB⟩
      · go_simp
        exact hK _ _ ⟨v28, v29, _, v31, v32, v33, v34, v35, rfl, hb, h0, h1, fun _ => rfl, h3, h4, h5, h7, h8, hB⟩
      · refine step_plain rfl (wp_load_row 40 (.tmp 6) rfl w2.heap.size rfl 40 X (0, 0) _ (hb.blk H6.out Hg6.out).2 Try.underlying40 rfl (by rw [HXs.out.1]; exact jn_info) (hK _ _ ?_))
        exact ⟨v28, v29, v30, _, v32, v33, v34, v35, rfl, hb, h0, h1, h2, fun _ => rfl, h4, h5, h7, h8, hB⟩
      · obtain rfl := h0 (hpre { on := 0, ground := Ground.data } (by simp) rfl)
        go_simp
        exact hK _ _ ⟨_, v29, v30, v31, _, v33, v34, v35, rfl, hb, h0, h1, h2, h3, fun _ => rfl, h5, h7, h8, hB⟩
      · obtain rfl := h4 (hpre { on := 4, ground := Ground.data } (by simp) rfl)
        go_simp
        exact hK _ _ ⟨v28, v29, v30, v31, _, _, v34, v35, rfl, hb, h0, h1, h2, h3, h4, fun _ => rfl, h7, h8, hB⟩
      · obtain rfl := h5 (hpre { on := 5, ground := Ground.data } (by simp) rfl)
        obtain rfl := h2 (hpre { on := 2, ground := Ground.data } (by simp) rfl)
        have f1 := hB.frozen 1
        have q1 := hB.cell 1
        rw [bc_j] at q1
        rw [hd] at q1 hB
        go_simp
        exact hK _ _ ⟨v28, v29, _, v31, v32, _, v34, v35, rfl, (hb.setCell rfl _), h0, h1, h2, h3, h4, h5, h7, h8, (by have := hB.set_ 1 (.pointer (some ⟨j, 0, none⟩)); rw [bc_setj] at this; exact this)⟩
      · obtain rfl := h1 (hpre { on := 1, ground := Ground.data } (by simp) rfl)
        go_simp
        exact hK _ _ ⟨v28, _, v30, v31, v32, v33, _, v35, rfl, hb, h0, h1, h2, h3, h4, h5, fun _ => rfl, h8, hB⟩
      · obtain rfl := h7 (hpre { on := 7, ground := Ground.data } (by simp) rfl)
        go_simp
        exact hK _ _ ⟨v28, v29, v30, v31, v32, v33, _, _, rfl, hb, h0, h1, h2, h3, h4, h5, h7, fun _ => rfl, hB⟩
      · obtain rfl := h8 (hpre { on := 8, ground := Ground.data } (by simp) rfl)
        obtain rfl := h3 (hpre { on := 3, ground := Ground.data } (by simp) rfl)
        rw [hd] at hB
        refine step_plain rfl (wp_store_mid 40 (.tmp 35) (.tmp 31) rfl b 2 X rfl rfl (by rw [HXs.out.1]; exact bc_there HXs.out.2.2 hB) (by rw [HXs.out.1]; exact jn_info) HXs.out.2.1 (hK _ _ ?_))
        exact ⟨v28, v29, v30, _, v32, v33, v34, _, rfl, (hb.setCells rfl _ _), h0, h1, h2, h3, h4, h5, h7, h8, (bc_put HXs.out.2.2 HXs.out.1 hB)⟩
    case hend =>
      intro d a x hall hI
      obtain ⟨v28, v29, v30, v31, v32, v33, v34, v35, rfl, hb, h0, h1, h2, h3, h4, h5, h7, h8, hB⟩ := hI
      rw [if_pos (hall 6 (by decide)), if_pos (hall 9 (by decide))] at hB
      have HB9 := Lib.hid hB
      clear h0 h1 h2 h3 h4 h5 h7 h8 hB hall
      subst hF
      dsimp only
      go_wp2_with fail
      go_meet
      exact ⟨hb, HB9.out⟩
  case rest =>
    obtain ⟨hfx, hbx⟩ := hcut
    have hx1 : IsBB wc (fun k => B ≤ k) x L := ((Hown.out.isBB').grow A3.out).frame (fun k hk hl => (hfx.block k hl (fun e => by omega)).2)
    have hx2 : Rd wc (fun k => w1.heap.size ≤ k) A (L.map str) := A7.out.frame (fun k hk hl => (hfx.block k hl (fun e => by omega)).2)
    have hsm := samej_any _ _ x A c L L wc hx1 hx2 hL
    have Hsm := Lib.hid hsm
    have Hfx := Lib.hid hfx
    have Hbx := Lib.hid hbx
    clear hx1 hx2 hsm hfx hbx
    go_wp2_with fail
    refine Hsm.out.mono ?_
    rintro e w5 ⟨rfl, hb5⟩
    rw [beq_self_eq_true]
    go_wp2
    go_ret
    have hfx := Hfx.out
    have hws : w3.heap.size = w2.heap.size + 1 := by rw [HW3.out, setRow_size, World.size_alloc]
    have hwc := hfx.size
    have hb5s := hb5.size
    have hlw := Hd1.out.low
    have hne : ∀ k, (ok k ∨ w1.heap.size ≤ k) ∧ k < w2.heap.size → ¬ G' k ∧ k ≠ b ∧ 0 ≤ k ∧ k < w5.heap.size ∧ k ≠ j := fun k hk => by
      rcases hk.1 with h | h
      · have h1 := Hap.out k h
        exact ⟨(Hf1.out.block k h1.2.2.2 h1.1).1, h1.2.1, h1.2.2.1, by omega, by omega⟩
      · exact ⟨fun q => by have := (hlw k q).2; omega, by omega, by omega, by omega, by omega⟩
    refine ⟨rfl, G', j, C', (fun k => (ok k ∨ w1.heap.size ≤ k) ∧ k < w2.heap.size), ⟨?_, ?_, ?_, ?_, Hb1.out.1, hlow⟩, ?_, ?_, by omega, by omega, fun k hk => (hne k hk).2.2.2.2, ?_⟩
    · exact (((Hd1.out.grow A3.out).keep (fun k hk => (hfx.block k (by have := (hlw k hk).2; have := A3.out.size; omega) (fun e => by subst e; exact Hb1.out.1 hk)).2) hwc).grow hb5)
    · rw [← HX.out]
      exact Hbx.out.grow hb5
    · exact (A4.out.frame (fun k hk hl => (hfx.block k hl (fun e => (hne k hk).2.1 e)).2)).frame (fun k _ hl => hb5.block k hl)
    · exact fun k hk => ⟨(hne k hk).1, (hne k hk).2.1, (hne k hk).2.2.1, (hne k hk).2.2.2.1⟩
    · exact ((Hj1.out.grow A3.out).keep (hfx.block j (by have := A3.out.size; omega) (fun e => by omega)).2).grow hb5
    · exact fun q => by have := HGB.out j q; omega
    · exact (Hf1.out.or_ b).trans (((Fr.of_below A3.out _).trans (hfx.less (fun k e => Or.inr e))).trans (Fr.of_below hb5 _))
end Go.Proofs.Ytiaabgmmmekpnaa

namespace Go.Proofs.Ytiaabgmmmekpnaa
open Go.RowKit
set_option maxRecDepth 100000

theorem IsDev.on {w : World} {ok : Nat → Prop} {C : Array Value} {D : Dev} (h : IsDev w ok (.agg C) D) : IsDev w ok (.agg (C.setIfInBounds 7 (.bool false))) { D with off := false } := by
  obtain ⟨A1, c1, A2, c2, A3, c3, e, h⟩ := h
  cases e
  exact ⟨A1, c1, A2, c2, A3, c3, rfl, h⟩
theorem jc_setD {C : Array Value} {r : RJ} (hC : C.size = 8) (i : Nat) (hi : i < 8) (u : Value) : (jc C r).setIfInBounds i u = jc (C.setIfInBounds i u) r := by
  unfold jc
  rw [List.setIfInBounds_toArray, List.set_append_left _ _ (by simpa [hC] using hi)]
  simp

set_option maxHeartbeats 1000000 in
theorem bothon_any (base : Nat) (G : Nat → Prop) (g b : Nat) (vj : Value) (D : Dev) (C : Array Value) (r : RJ) (ok : Nat → Prop) (w : World) (hs : Sides w base G g b vj D C r ok) (hfew : D.Few 500000) (h6 : 6 ≤ D.sure.length)
    (D' : Dev) (J : JM) (L : List (List UInt8)) (r' : RJ) (hM : openM { D with off := false } = ((D', 0), (J, L))) (hR : openR { D with off := false } = ((D', r'), (L, 0))) (hL : L.length ≤ 1099511627776) :
    Calls Try.prog 25 #[.pointer (some ⟨b, 0, none⟩)] w fun e w' => e = .returned (.bool true) ∧ ∃ G' j C' ok', Sides w' base G' g b (.pointer (some ⟨j, 0, none⟩)) D' C' r' ok' ∧ JAt w' j g J ∧ ¬ G' j ∧ j ≠ b ∧ base ≤ j ∧ (∀ k, ok' k → k ≠ j) ∧ Fr (fun k => G k ∨ k = b) (fun k => G' k ∨ k = b) w w' := by
  obtain ⟨hdev, hblk, href, hap, hgb, hlow⟩ := hs
  have hon := on_any base G g D w hdev
  have hCs := href.size
  have q0 : w.cell? ⟨b, 0, none⟩ = some (.pointer (some ⟨g, 0, none⟩)) := by rw [hblk.cell]; rfl
  have Hblk := Lib.hid hblk
  have Href := Lib.hid href
  have Hap := Lib.hid hap
  have Hgb := Lib.hid hgb
  have Hon := Lib.hid hon
  have HM := Lib.hid hM
  have HR := Lib.hid hR
  have HCs := Lib.hid hCs
  clear hdev hblk href hap hgb hon hM hR hCs
  go_enter Try.func25, Try.ntmps25
  go_wp2_with fail
  refine Hon.out.mono ?_
  rintro e w1 ⟨rfl, hd1, hf1⟩
  have hb1 := (hf1.blk Hblk.out Hgb.out).2
  have hr1 : IsDev w1 ok (.agg C) D := Href.out.frame (fun k hk hl => (hf1.block k hl (Hap.out k hk).1).2)
  have q9 : ∃ u, w1.cell? ⟨b, 9, none⟩ = some u := by
    have h := hb1.cell 9
    rw [show (9 : Nat) = 2 + 7 from rfl, bc_tail] at h
    have h13 := jc_size (r := r) HCs.out.1
    rw [Array.getElem?_eq_getElem (by omega)] at h
    exact ⟨_, h⟩
  obtain ⟨u9, q9⟩ := q9
  have f9 := hb1.frozen 9
  obtain ⟨w2, hw2⟩ : ∃ w2, w2 = w1.setCell ⟨b, 9, none⟩ (.bool false) := ⟨_, rfl⟩
  have s2 : Sides w2 base G g b vj { D with off := false } (C.setIfInBounds 7 (.bool false)) r ok := by
    refine ⟨?_, ?_, ?_, ?_, Hgb.out, hlow⟩
    · rw [hw2]; exact hd1.setFar Hgb.out _
    · have := hb1.set_ 9 (.bool false)
      rw [show (9 : Nat) = 2 + 7 from rfl, bc_setx, jc_setD HCs.out.1 7 (by omega)] at this
      rw [hw2]
      exact this
    · exact (hr1.on).frame (fun k hk _ => by rw [hw2]; exact heap_setCell_other _ _ _ _ (Hap.out k hk).2.1)
    · intro k hk
      have h := Hap.out k hk
      have := hf1.size
      refine ⟨h.1, h.2.1, h.2.2.1, ?_⟩
      have h2 : w1.heap.size ≤ w2.heap.size := by rw [hw2]; exact ((Fr.refl (· = b) w1).setCell (p := ⟨b, 9, none⟩) rfl (.bool false)).size
      omega
  have hfr : Fr (fun k => G k ∨ k = b) (fun k => G k ∨ k = b) w w2 := by rw [hw2]; exact (hf1.or_ b).setCell (Or.inr rfl) _
  have hop := bothopen_any base G g b vj { D with off := false } _ r ok w2 s2 rfl hfew h6 D' J L r' HM.out HR.out hL
  have Hop := Lib.hid hop
  have Hfr := Lib.hid hfr
  have HW2 := Lib.hid hw2
  clear hop s2 hfr hw2 hd1 hf1 hb1 hr1
  go_wp2_with fail
  rw [← HW2.out]
  refine Hop.out.mono ?_
  rintro e w3 ⟨rfl, G', j, C', ok', hs3, hj3, hgj, hjb, hbj, hokj, hf3⟩
  go_wp2
  go_ret
  exact ⟨rfl, G', j, C', ok', hs3, hj3, hgj, hjb, hbj, hokj, Hfr.out.trans hf3⟩
end Go.Proofs.Ytiaabgmmmekpnaa

namespace Go.Proofs.Ytiaabgmmmekpnaa
open Go.RowKit
set_option maxRecDepth 100000

theorem same_below {P : Program} {f : FuncId} {args : Array Value} {w : World} {v : Value} (h : Calls P f args w fun e w' => e = .returned v ∧ w = w') : Calls P f args w fun e w' => e = .returned v ∧ Below w.heap.size w w' :=
  h.mono fun _ _ ⟨he, hw⟩ => ⟨he, hw ▸ Below.refl _ _⟩

theorem quiet_load_mid {P : Program} {C : World → Prop} {K : Act → Prop} {a : Act} {o : Oper} (ty : TypeId) (x : Operand) (ho : o.op = .load ty x) (b off : Nat) (hx : a.eval x = .pointer (some ⟨b, off, none⟩)) (cs : Array Value) (d : TypeDesc) (hC : ∀ w, C w → w.rangeAt b off cs.toList)
    (hu : P.underlying ty = some d) (hd : d.isRow = true) (hi : (P.info? ty).map (·.size) = some cs.toList.length) (hk : K (a.put o.dst (.agg cs))) : o.quiet P a C K :=
  ⟨_, fun w hw => by
    unfold Oper.quietAt execOp
    simp only [ho, hx, Instr.loadAt, Instr.sureAddr, Sem.run_bind, Sem.run_pure, Result.andThen_ok, run_loadVar_mid w b off ty cs.toList d (hC w hw) hu hd hi]
    exact ⟨rfl, by simp⟩, hk⟩
set_option maxHeartbeats 4000000 in
theorem bothlike_any (base : Nat) (G : Nat → Prop) (g b j : Nat) (D : Dev) (C : Array Value) (r : RJ) (ok : Nat → Prop) (J : JM) (w : World) (hs : Sides w base G g b (.pointer (some ⟨j, 0, none⟩)) D C r ok) (hj : JAt w j g J) (hu : J.used ≤ sideN D * 256) (h6 : 6 ≤ D.sure.length)
    (e1 : r.data.length = J.used) (e2 : r.len = J.count) (e3 : r.broken = J.broken) :
    Calls Try.prog 28 #[.pointer (some ⟨b, 0, none⟩)] w fun e w' => e = .returned (.bool true) ∧ Below w.heap.size w w' := by
  obtain ⟨hdev, hblk, href, hap, hgb, hlow⟩ := hs
  have hCs := href.size
  have hlen := hdev.lens
  have hsn := sideN_le D hlen.2
  obtain ⟨RM, hRM⟩ : ∃ RM : Int, RM = ((sideN D * 256 : Nat) : Int) := ⟨_, rfl⟩
  obtain ⟨RV, hRV⟩ : ∃ RV : Int, RV = ((sideN D * 256 - J.used : Nat) : Int) := ⟨_, rfl⟩
  have hsub : RM - (r.data.length : Int) = RV := by rw [hRM, hRV, e1]; omega
  have hb1 : 0 ≤ RV := by omega
  have hb2 : RV ≤ 1000000000 := by omega
  obtain ⟨bk, hbk⟩ : ∃ bk, bk = r.broken := ⟨_, rfl⟩
  have k1 : ∀ y : Ext w, Calls Try.prog 15 #[.pointer (some ⟨j, 0, none⟩)] y.now fun e w' => e = .returned (.int .i64 RV) ∧ Below y.now.heap.size y.now w' := fun y => by
    rw [hRV]
    exact jroom_any base G y.now j g D J (hj.grow y.out) (hdev.grow y.out) hu
  have k2 : ∀ y : Ext w, Calls Try.prog 40 #[.agg C] y.now fun e w' => e = .returned (.int .i64 RM) ∧ Below y.now.heap.size y.now w' := fun y => by
    rw [hRM]
    exact refroom_any ok _ D y.now (href.frame (fun k _ hk => y.out.block k hk)) (by omega) hlen.2
  have k3 : ∀ y : Ext w, Calls Try.prog 16 #[.pointer (some ⟨j, 0, none⟩)] y.now fun e w' => e = .returned (.int .i64 (r.len : Int)) ∧ Below y.now.heap.size y.now w' := fun y => by
    rw [e2]
    exact same_below (jlen_any y.now j g J (hj.grow y.out))
  have k4 : ∀ y : Ext w, Calls Try.prog 51 #[.pointer (some ⟨j, 0, none⟩)] y.now fun e w' => e = .returned (.bool bk) ∧ Below y.now.heap.size y.now w' := fun y => by
    rw [hbk, e3]
    exact same_below (jbroken_any y.now j g J (hj.grow y.out))
  have k5 : ∀ y : Ext w, Calls Try.prog 52 #[.pointer (some ⟨g, 0, none⟩)] y.now fun e w' => e = .returned (.int .i64 (D.changes : Int)) ∧ Below y.now.heap.size y.now w' := fun y =>
    same_below (changes_any base G g D y.now (hdev.grow y.out))
  have hlt := hblk.lt
  have kc : ∀ (y : Ext w) (i : Nat), y.now.cell? ⟨b, i, none⟩ = (bc (.pointer (some ⟨g, 0, none⟩)) (.pointer (some ⟨j, 0, none⟩)) (jc C r))[i]? := fun y i => by rw [(hblk.grow y.out).cell]
  have c0 : ∀ y : Ext w, y.now.cell? ⟨b, 0, none⟩ = some (.pointer (some ⟨g, 0, none⟩)) := fun y => kc y 0
  have c1 : ∀ y : Ext w, y.now.cell? ⟨b, 1, none⟩ = some (.pointer (some ⟨j, 0, none⟩)) := fun y => kc y 1
  have c12 : ∀ y : Ext w, y.now.cell? ⟨b, 12, none⟩ = some (str r.data) := fun y => by
    rw [kc y 12, show (12 : Nat) = 2 + (8 + 2) from rfl, bc_tail, jc_tail hCs.1]; rfl
  have c13 : ∀ y : Ext w, y.now.cell? ⟨b, 13, none⟩ = some (.int .i64 (r.len : Int)) := fun y => by
    rw [kc y 13, show (13 : Nat) = 2 + (8 + 3) from rfl, bc_tail, jc_tail hCs.1]; rfl
  have c14 : ∀ y : Ext w, y.now.cell? ⟨b, 14, none⟩ = some (.bool bk) := fun y => by
    rw [hbk, kc y 14, show (14 : Nat) = 2 + (8 + 4) from rfl, bc_tail, jc_tail hCs.1]; rfl
  have c8 : ∀ y : Ext w, y.now.cell? ⟨b, 8, none⟩ = some (.int .i64 (D.changes : Int)) := fun y => by
    rw [kc y 8, show (8 : Nat) = 2 + 6 from rfl, bc_tail]
    obtain ⟨A1, d1, A2, d2, A3, d3, e, _⟩ := href
    cases e
    rfl
  have kr : ∀ w', (∃ x : Ext w, w' = x.now) → w'.rangeAt b 2 C.toList := fun w' ⟨y, hy⟩ => by rw [hy]; exact bc_rangeD (hblk.grow y.out)
  have hd8 : (Try.prog.info? 36).map (·.size) = some C.toList.length := by rw [Array.length_toList, hCs.1]; exact dev_info
  have Kr := Lib.hid kr
  have Hd8 := Lib.hid hd8
  clear kr hd8
  have q1 : w.cell? ⟨b, 1, none⟩ = some (.pointer (some ⟨j, 0, none⟩)) := c1 ⟨w, Below.refl _ _⟩
  clear hdev hblk href hap hgb hRM hRV e1 e2 e3 hj hu hbk hlow kc hCs hsn hlen
  cases bk with
  | false =>
    go_enter Try.func28, Try.ntmps28
    go_upto_region 3 with fail
    refine wp_region_grow (by kernel_rfl) (by kernel_rfl) ?_
    repeat (first | (go_big_quiet_want; refine quiet_load_mid 36 (.tmp 16) rfl b 2 rfl C _ Kr.out Try.underlying36 rfl Hd8.out ?_; go_simp; go_big_quiet_on) | go_big_quiet_step ((first | (go_at_call 15; exact calls_grow (k1 _)) | (go_at_call 40; exact calls_grow (k2 _)) | (go_at_call 16; exact calls_grow (k3 _)) | (go_at_call 51; exact calls_grow (k4 _)) | (go_at_call 52; exact calls_grow (k5 _)))) | quiet_step ((first | (go_at_call 15; exact calls_grow (k1 _)) | (go_at_call 40; exact calls_grow (k2 _)) | (go_at_call 16; exact calls_grow (k3 _)) | (go_at_call 51; exact calls_grow (k4 _)) | (go_at_call 52; exact calls_grow (k5 _)))))
    refine wpQuiet_nil ?_
    rintro w6 ⟨⟨_, hb6⟩, rfl⟩
    go_wp2
    go_ret
    exact ⟨rfl, hb6⟩
  | true =>
    go_enter Try.func28, Try.ntmps28
    go_upto_region 3 with fail
    refine wp_region_grow (by kernel_rfl) (by kernel_rfl) ?_
    repeat (first | (go_big_quiet_want; refine quiet_load_mid 36 (.tmp 16) rfl b 2 rfl C _ Kr.out Try.underlying36 rfl Hd8.out ?_; go_simp; go_big_quiet_on) | go_big_quiet_step ((first | (go_at_call 15; exact calls_grow (k1 _)) | (go_at_call 40; exact calls_grow (k2 _)) | (go_at_call 16; exact calls_grow (k3 _)) | (go_at_call 51; exact calls_grow (k4 _)) | (go_at_call 52; exact calls_grow (k5 _)))) | quiet_step ((first | (go_at_call 15; exact calls_grow (k1 _)) | (go_at_call 40; exact calls_grow (k2 _)) | (go_at_call 16; exact calls_grow (k3 _)) | (go_at_call 51; exact calls_grow (k4 _)) | (go_at_call 52; exact calls_grow (k5 _)))))
    refine wpQuiet_nil ?_
    rintro w6 ⟨⟨_, hb6⟩, rfl⟩
    go_wp2
    go_ret
    exact ⟨rfl, hb6⟩
end Go.Proofs.Ytiaabgmmmekpnaa

namespace Go.Proofs.Ytiaabgmmmekpnaa
open Go.RowKit
set_option maxRecDepth 100000

theorem openR_cont {D : Dev} {n s u : Nat} {L : List (List UInt8)} (h : Cont D n s u (recsB L)) (hl : fewLong L) : openR D = ((D, ⟨n, s, recsB L, L.length, false⟩), (L, 0)) := by
  have hnum := h.num
  have hr : recsOf (recsB L) = (L, 0) := recsOf_recsB L hl
  unfold openR
  rw [h.cur, if_neg (by dsimp only; omega)]
  dsimp only
  rw [h.use_, hr]
  rfl
/-- What stands from step to step. -/
structure LInv (D : Dev) (J : JM) (r : RJ) : Prop where
  cont : ∃ n s u L, Cont D n s u (recsB L) ∧ fewLong L
  data : r.data.length = J.used
  len : r.len = J.count
  broken : r.broken = J.broken
  used : J.used ≤ sideN D * 256
  number : r.number = J.number
  side : r.side = J.side
  num : J.number ≤ 4611686018427387904
  sd : J.side ≤ 1
  cnt : J.count ≤ 1000000
  live : J.broken = false → ∃ L, JInv D J L ∧ r.data = recsB L ∧ r.number = J.number ∧ r.side = J.side
theorem LInv.alike {D : Dev} {J : JM} {r : RJ} (h : LInv D J r) (hb : J.broken = false) : Alike D J r := by
  obtain ⟨L, hi, hd, hn, hs⟩ := h.live hb
  exact ⟨hn, hs, h.data, by rw [hd, hi.cont.use_], h.len, h.broken⟩
theorem LInv.next {D : Dev} {J : JM} {r : RJ} (h : LInv D J r) {a : (JM × Dev) × Int} {b : (Dev × RJ) × Int} (hB : Both a b) (hlen : a.1.2.sure.length = D.sure.length)
    (hc : (a.1 = (J, D) ∧ b.1.2.data = r.data) ∨ (∃ L', JInv a.1.2 a.1.1 L' ∧ b.1.2.data = recsB L') ∨ (a.1.1.broken = true ∧ (a.1.1 = J ∨ a.1.1 = { J with broken := true }) ∧ b.1.2.data = r.data ∧ ∃ n s u L', Cont a.1.2 n s u (recsB L') ∧ fewLong L')) : LInv a.1.2 a.1.1 b.1.2 := by
  have hsd : sideN a.1.2 = sideN D := sideN_same hlen
  rcases hc with ⟨h1, h2⟩ | ⟨L', hi, hd⟩ | ⟨hb, hu, hd, hC⟩
  · have e1 : a.1.1 = J := by rw [h1]
    have e2 : a.1.2 = D := by rw [h1]
    refine ⟨by rw [e2]; exact h.cont, by rw [h2, e1]; exact h.data, hB.len, hB.broken, by rw [e1, e2]; exact h.used, hB.number, hB.side, by rw [e1]; exact h.num, by rw [e1]; exact h.sd, by rw [e1]; exact h.cnt, fun hb => ?_⟩
    obtain ⟨L, i1, i2, _, _⟩ := h.live (by rw [← e1]; exact hb)
    exact ⟨L, by rw [e1, e2]; exact i1, by rw [h2]; exact i2, hB.number, hB.side⟩
  · obtain ⟨o1, o2, o3⟩ := hi.cont.ok
    have h1 := recsB_count L'
    have h2 := hi.used
    have h3 := hi.count
    have h4 := sideN_le a.1.2 hi.cont.small
    exact ⟨⟨_, _, _, L', hi.cont, hi.long⟩, by rw [hd, hi.used], hB.len, hB.broken, o3, hB.number, hB.side, o1, o2, by omega, fun _ => ⟨L', hi, hd, hB.number, hB.side⟩⟩
  · have hu : a.1.1.used = J.used ∧ a.1.1.number = J.number ∧ a.1.1.side = J.side ∧ a.1.1.count = J.count := by
      rcases hu with e | e <;> rw [e] <;> exact ⟨rfl, rfl, rfl, rfl⟩
    exact ⟨hC, by rw [hd, hu.1]; exact h.data, hB.len, hB.broken, by rw [hu.1, hsd]; exact h.used, hB.number, hB.side, by rw [hu.2.1]; exact h.num, by rw [hu.2.2.1]; exact h.sd, by rw [hu.2.2.2]; exact h.cnt, fun hb' => by rw [hb] at hb'; cases hb'⟩
theorem putJ_used {J : JM} {D : Dev} {n s u c : Nat} {L : List (List UInt8)} (h : (putJ J D n s u c L).2 ≠ 0) : (putJ J D n s u c L).1.1 = J ∨ (putJ J D n s u c L).1.1 = { J with broken := true } := by
  unfold putJ at h ⊢
  split
  · exact .inl rfl
  · split
    · exact .inl rfl
    · split
      · exact .inr rfl
      · rename_i h1 h2 h3
        rw [if_neg h1, if_neg h2, if_neg h3] at h
        exact absurd rfl h
theorem addJ_used {J : JM} {D : Dev} {L : List (List UInt8)} (h : (addJ J D L).2 ≠ 0) : (addJ J D L).1.1 = J ∨ (addJ J D L).1.1 = { J with broken := true } := by
  unfold addJ at h ⊢
  split
  · exact .inl rfl
  · split
    · exact .inl rfl
    · split
      · exact .inl rfl
      · rename_i h1 h2 h3
        rw [if_neg h1, if_neg h2, if_neg h3] at h
        exact putJ_used h
theorem repJ_used {J : JM} {D : Dev} {L : List (List UInt8)} (h : (repJ J D L).2 ≠ 0) : (repJ J D L).1.1 = J ∨ (repJ J D L).1.1 = { J with broken := true } := by
  unfold repJ at h ⊢
  split
  · exact .inl rfl
  · split
    · exact .inl rfl
    · rename_i h1 h2
      rw [if_neg h1, if_neg h2] at h
      exact putJ_used h
theorem add_linv {D : Dev} {J : JM} {r : RJ} (h : LInv D J r) (M : List (List UInt8)) : ((addR D r M).2 = (addJ J D M).2 ∧ (addR D r M).1.1 = (addJ J D M).1.2) ∧ LInv (addJ J D M).1.2 (addJ J D M).1.1 (addR D r M).1.2 := by
  cases hb : J.broken with
  | true =>
    have e1 : addJ J D M = ((J, D), 3) := by unfold addJ; rw [if_pos hb]
    have e2 : addR D r M = ((D, r), 3) := by unfold addR; rw [if_pos (h.broken.trans hb)]
    rw [e1, e2]
    exact ⟨⟨rfl, rfl⟩, h⟩
  | false =>
    obtain ⟨L, hi, hd, hnn, hss⟩ := h.live hb
    obtain ⟨o1, o2, o3⟩ := hi.cont.ok
    obtain ⟨hB, hdat⟩ := addR_both hi.cont.wf (h.alike hb) o2 o3 hi.cont.big M
    refine ⟨⟨hB.err, hB.dev⟩, h.next hB (addJ_length _ _ _) ?_⟩
    by_cases hM : fewLong M
    · by_cases hn : J.number + 1 ≤ 4611686018427387904
      · rcases add_inv hi hn M hM with ⟨_, e⟩ | ⟨_, e, hj, _⟩ | ⟨_, _, e, hbr, _, n, s, u, B, hC, hBB⟩
        · refine .inl ⟨by rw [e], ?_⟩
          rw [hdat, if_neg (by rw [hB.err, e]; simp)]
        · refine .inr (.inl ⟨L ++ M, hj, ?_⟩)
          rw [hdat, if_pos (by rw [hB.err, e]), hd, recsB_append]
        · refine .inr (.inr ⟨hbr, addJ_used (by rw [e]; decide), ?_, ?_⟩)
          · rw [hdat, if_neg (by rw [hB.err, e]; simp)]
          · rcases hBB with e2 | e2
            · exact ⟨n, s, u, L, by rw [← e2]; exact hC, hi.long⟩
            · exact ⟨n, s, u, L ++ M, by rw [← e2]; exact hC, fewLong_append hi.long hM⟩
      · have hmx : J.number = 4611686018427387904 := by omega
        by_cases h0 : M = []
        · subst h0
          have e : addJ J D [] = ((J, D), 0) := by unfold addJ; rw [if_neg (by rw [hb]; decide), if_neg (fun q => q hM), if_pos rfl]
          refine .inl ⟨by rw [e], ?_⟩
          rw [hdat, if_pos (by rw [hB.err, e])]
          simp [recsB]
        · have e : addJ J D M = ((J, D), 5) := by unfold addJ putJ; rw [if_neg (by rw [hb]; decide), if_neg (fun q => q hM), if_neg h0, if_pos hmx]
          refine .inl ⟨by rw [e], ?_⟩
          rw [hdat, if_neg (by rw [hB.err, e]; simp)]
    · have e : addJ J D M = ((J, D), 4) := by unfold addJ; rw [if_neg (by rw [hb]; decide), if_pos hM]
      refine .inl ⟨by rw [e], ?_⟩
      rw [hdat, if_neg (by rw [hB.err, e]; simp)]
theorem rep_linv {D : Dev} {J : JM} {r : RJ} (h : LInv D J r) (M : List (List UInt8)) : ((replR D r M).2 = (repJ J D M).2 ∧ (replR D r M).1.1 = (repJ J D M).1.2) ∧ LInv (repJ J D M).1.2 (repJ J D M).1.1 (replR D r M).1.2 := by
  cases hb : J.broken with
  | true =>
    have e1 : repJ J D M = ((J, D), 3) := by unfold repJ; rw [if_pos hb]
    have e2 : replR D r M = ((D, r), 3) := by unfold replR; rw [if_pos (h.broken.trans hb)]
    rw [e1, e2]
    exact ⟨⟨rfl, rfl⟩, h⟩
  | false =>
    obtain ⟨L, hi, hd, hnn, hss⟩ := h.live hb
    obtain ⟨o1, o2, o3⟩ := hi.cont.ok
    obtain ⟨hB, hdat⟩ := replR_both hi.cont.wf (h.alike hb) o2 hi.cont.big M
    refine ⟨⟨hB.err, hB.dev⟩, h.next hB (repJ_length _ _ _) ?_⟩
    by_cases hM : fewLong M
    · by_cases hn : J.number + 1 ≤ 4611686018427387904
      · rcases rep_inv hi hn M hM with ⟨_, e⟩ | ⟨_, e, hj, _⟩ | ⟨_, _, e, hbr, _, n, s, u, B, hC, hBB⟩
        · refine .inl ⟨by rw [e], ?_⟩
          rw [hdat, if_neg (by rw [hB.err, e]; simp)]
        · refine .inr (.inl ⟨M, hj, ?_⟩)
          rw [hdat, if_pos (by rw [hB.err, e])]
        · refine .inr (.inr ⟨hbr, repJ_used (by rw [e]; decide), ?_, ?_⟩)
          · rw [hdat, if_neg (by rw [hB.err, e]; simp)]
          · rcases hBB with e2 | e2
            · exact ⟨n, s, u, L, by rw [← e2]; exact hC, hi.long⟩
            · exact ⟨n, s, u, M, by rw [← e2]; exact hC, hM⟩
      · have hmx : J.number = 4611686018427387904 := by omega
        have e : repJ J D M = ((J, D), 5) := by unfold repJ putJ; rw [if_neg (by rw [hb]; decide), if_neg (fun q => q hM), if_pos hmx]
        refine .inl ⟨by rw [e], ?_⟩
        rw [hdat, if_neg (by rw [hB.err, e]; simp)]
    · have e : repJ J D M = ((J, D), 4) := by unfold repJ; rw [if_neg (by rw [hb]; decide), if_pos hM]
      refine .inl ⟨by rw [e], ?_⟩
      rw [hdat, if_neg (by rw [hB.err, e]; simp)]
theorem Cont.cut_ {D : Dev} {n s u : Nat} {B : List UInt8} (h : Cont D n s u B) (c : Choice) : Cont (D.cut c) n s u B := by
  have hs : (D.cut c).sure = D.sure ∧ (D.cut c).loose = [] := by
    unfold Dev.cut
    split
    · exact ⟨rfl, h.loose⟩
    · rw [h.loose]; exact ⟨rfl, rfl⟩
  exact h.same (cut_wf h.wf c) hs.2 (by rw [hs.1]; exact SameUse.refl _ _ _)
theorem Cont.plan_ {D : Dev} {n s u : Nat} {B : List UInt8} (h : Cont D n s u B) (a : Int) (c : Choice) : Cont (D.plan a c) n s u B := h.same (plan_wf h.wf a c) h.loose (SameUse.refl _ _ _)
theorem Cont.on_ {D : Dev} {n s u : Nat} {B : List UInt8} (h : Cont D n s u B) : Cont { D with off := false } n s u B := h.same (on_wf h.wf) h.loose (SameUse.refl _ _ _)
/-- Opened: both find the same. -/
theorem on_linv {D : Dev} (h : ∃ n s u L, Cont D n s u (recsB L) ∧ fewLong L) : ∃ J L r', openM { D with off := false } = (({ D with off := false }, 0), (J, L)) ∧ openR { D with off := false } = (({ D with off := false }, r'), (L, 0)) ∧ LInv { D with off := false } J r' ∧ L.length ≤ 1099511627776 := by
  obtain ⟨n, s, u, L, hC, hl⟩ := h
  obtain ⟨e1, hi⟩ := open_cont hC.on_ rfl hl
  have e2 := openR_cont hC.on_ hl
  have hc := recsB_count L
  have hu := hi.used
  have h3 := hi.cont.ok.2.2
  have hsm := sideN_le { D with off := false } hC.on_.small
  exact ⟨_, L, _, e1, e2, ⟨⟨n, s, u, L, hC.on_, hl⟩, hi.used.symm, rfl, rfl, h3, rfl, rfl, hC.ok.1, hC.ok.2.1, by show L.length ≤ 1000000; have h9 : u = (recsB L).length := hu; have h8 : u ≤ sideN { D with off := false } * 256 := h3; omega, fun _ => ⟨L, hi, rfl, rfl, rfl⟩⟩, by omega⟩
theorem plan_linv {D : Dev} {J : JM} {r : RJ} (h : LInv D J r) (a : Int) (c : Choice) : LInv (D.plan a c) J r := by
  obtain ⟨n, s, u, L, hC, hl⟩ := h.cont
  refine ⟨⟨n, s, u, L, hC.plan_ a c, hl⟩, h.data, h.len, h.broken, h.used, h.number, h.side, h.num, h.sd, h.cnt, fun hb => ?_⟩
  obtain ⟨L', hi, h2, h3, h4⟩ := h.live hb
  exact ⟨L', ⟨hi.cont.plan_ a c, hi.off, hi.used, hi.count, hi.brk, hi.long⟩, h2, h3, h4⟩
/-- A new device is opened: both lay the first tally. -/
theorem new_linv (m : Nat) (h6 : 6 ≤ m) (hm : m ≤ 4096) : ∃ D' r', openM (newD m) = ((D', 0), (⟨1, 0, 0, 0, false⟩, [])) ∧ openR (newD m) = ((D', r'), ([], 0)) ∧ LInv D' ⟨1, 0, 0, 0, false⟩ r' ∧ D'.sure.length = m ∧ D'.Few 2 := by
  obtain ⟨D', ho, hi, _, hl, hch, hlo⟩ := open_new m h6 hm
  have hnow : ∀ i, i < m → (newD m).now i = List.replicate 256 0 := fun i hi => by
    rw [now_plain (newD m) rfl]
    show (List.replicate m (List.replicate 256 (0 : UInt8))).getD i [] = _
    rw [List.getD_eq_getElem?_getD, List.getElem?_replicate, if_pos hi]
    rfl
  have hz : ∀ size, asTally (List.replicate 256 0) size = (0, 0, 0) := fun size => by
    unfold asTally
    rw [if_pos (.inl (by decide))]
  have hcur : curT (newD m) = (0, 0, 0) := by
    have e : ∀ k, k ≤ 2 → curK (newD m) k = (0, 0, 0) := by
      intro k
      induction k with
      | zero => exact fun _ => rfl
      | succ k ih =>
        intro hk
        show (if (curK (newD m) k).1 < (asTally ((newD m).now k) (sideN (newD m) * 256)).1 then asTally ((newD m).now k) (sideN (newD m) * 256) else curK (newD m) k) = _
        rw [hnow k (by omega), hz, ih (by omega), if_neg (by decide)]
    exact e 2 (Nat.le_refl _)
  have hlen : (newD m).sure.length = m := List.length_replicate
  have hM := ho
  unfold openM at hM
  rw [if_neg (by omega), if_neg (show ¬ (newD m).off = true from (by decide : ¬ (false = true))), hcur, if_pos rfl] at hM
  by_cases ht : (tellD (newD m) 1 0 0).2 ≠ 0
  · rw [if_pos ht] at hM
    have h01 : (0 : Nat) = 1 := congrArg (fun x => x.2.1.number) hM
    exact absurd h01 (by decide)
  · rw [if_neg ht] at hM
    have hD : (tellD (newD m) 1 0 0).1 = D' := congrArg (fun x => x.1.1) hM
    have hR : openR (newD m) = ((D', ⟨1, 0, [], 0, false⟩), ([], 0)) := by
      unfold openR tellR
      rw [hcur, if_pos rfl, if_neg (by exact ht)]
      rw [← hD]
      rfl
    exact ⟨D', _, ho, hR, ⟨⟨1, 0, 0, [], hi.cont, hi.long⟩, rfl, rfl, rfl, Nat.zero_le _, rfl, rfl, by decide, by decide, by decide, fun _ => ⟨[], hi, rfl, rfl, rfl⟩⟩, hl, ⟨by rw [hlo]; exact Nat.zero_le _, by rw [hch]; exact Nat.le_refl _⟩⟩
end Go.Proofs.Ytiaabgmmmekpnaa
