/-
  The document's Add.
  The document's Replace.
  The document's Open.
-/
import Derived.Test.YtiaabgmmmekpnaaJRefLays
import Derived.Test.YtiaabgmmmekpnaaRefSmall
namespace Go.Proofs.Ytiaabgmmmekpnaa
open Go.RowKit
set_option maxRecDepth 100000

theorem tellR_len (D : Dev) (r : RJ) (n s : Nat) (data : List UInt8) : (tellR D r n s data).1.2.len = r.len := by
  unfold tellR
  split <;> rfl
theorem layR_len (D : Dev) (r : RJ) (s t : Nat) (all : List UInt8) : (layR D r s t all).1.2.len = r.len := by
  unfold layR
  split
  · rfl
  · split
    · rfl
    · split
      · rfl
      · exact tellR_len _ _ _ _ _
/-- What stands while add lays its records, whatever has been done of it. -/
def addI (F : Nat → Value) (B : Nat) (SL : Value) (C0 : Array Value) (r : RJ) (RB : List UInt8) (LR : (Dev × RJ) × Int) (ok : Nat → Prop) (Y : World) (d : Nat → Bool) (a : Act) (x : World) : Prop :=
  ∃ (v7 v8 v21 v22 v23 v24 v25 v26 v27 v28 v29 v30 v31 v32 v33 v34 v35 : Value) (g : Nat) (C8 : Array Value) (okP : Nat → Prop), a = ⟨#[(F 0), SL, .pointer (some ⟨B, 0, none⟩), (F 3), (F 4), (F 5), (F 6), v7, v8, (F 9), (F 10), (F 11), (F 12), (F 13), (F 14), (F 15), (F 16), (F 17), (F 18), (F 19), (F 20), v21, v22, v23, v24, v25, v26, v27, v28, v29, v30, v31, v32, v33, v34, v35, (F 36), (F 37), (F 38), (F 39), (F 40), (F 41), (F 42), (F 43), (F 44), (F 45)], []⟩ ∧ Below Y.heap.size Y x ∧
    (d 0 = true → v22 = .agg (jc C0 r)) ∧
    (d 1 = true → v23 = .pointer (some ⟨B, 9, none⟩)) ∧
    (d 2 = true → v24 = .int .i64 (r.side : Int)) ∧
    (d 3 = true → v25 = .pointer (some ⟨B, 10, none⟩)) ∧
    (d 4 = true → v26 = str r.data) ∧
    (d 5 = true → v27 = .int .i64 (r.data.length : Int)) ∧
    (d 6 = true → v28 = .pointer (some ⟨B, 10, none⟩)) ∧
    (d 7 = true → v29 = str r.data) ∧
    (d 8 = true → v30 = SL) ∧
    (d 9 = true → v31 = str RB) ∧
    (d 10 = true → v32 = str (r.data ++ RB)) ∧
    (d 11 = true → v33 = .tuple #[.agg (jc C8 LR.1.2), .int .i64 LR.2]) ∧
    (d 11 = true → IsDev x okP (.agg C8) LR.1.1) ∧
    (d 11 = true → ∀ k, okP k → (ok k ∨ Y.heap.size ≤ k) ∧ k < x.heap.size) ∧
    (d 11 = true → d 15 = true → ¬ okP g) ∧
    (d 12 = true → v21 = .tuple #[.agg (jc C8 LR.1.2), .int .i64 LR.2]) ∧
    (d 13 = true → v34 = .agg (jc C8 LR.1.2)) ∧
    (d 14 = true → v35 = .int .i64 LR.2) ∧
    (d 15 = true → v7 = .pointer (some ⟨g, 0, none⟩) ∧ Y.heap.size ≤ g ∧ Blk x g 40 (if d 16 = true then jc C8 LR.1.2 else jc zeroD rj0)) ∧
    (d 17 = true → v8 = .int .i64 LR.2) ∧
    (d 12 = true → d 11 = true) ∧
    (d 13 = true → d 11 = true) ∧
    (d 14 = true → d 11 = true) ∧
    (d 16 = true → d 15 = true) ∧
    (d 16 = true → d 11 = true) ∧
    (d 17 = true → d 11 = true)
theorem add_many {k n : Nat} (h : k < n) (hn : n = 18) : k = 0 ∨ k = 1 ∨ k = 2 ∨ k = 3 ∨ k = 4 ∨ k = 5 ∨ k = 6 ∨ k = 7 ∨ k = 8 ∨ k = 9 ∨ k = 10 ∨ k = 11 ∨ k = 12 ∨ k = 13 ∨ k = 14 ∨ k = 15 ∨ k = 16 ∨ k = 17 := by omega
theorem wp_frame46 {P : Program} {Q : Exit → Act → World → Prop} {c : Code} {a : Act} {w : World} (hs : a.tmps.size = 46) (hd : a.defers = []) (h : ∀ F : Nat → Value, F = (fun i => a.tmps.getD i undef) → c.wp P Q ⟨#[F 0, F 1, F 2, F 3, F 4, F 5, F 6, F 7, F 8, F 9, F 10, F 11, F 12, F 13, F 14, F 15, F 16, F 17, F 18, F 19, F 20, F 21, F 22, F 23, F 24, F 25, F 26, F 27, F 28, F 29, F 30, F 31, F 32, F 33, F 34, F 35, F 36, F 37, F 38, F 39, F 40, F 41, F 42, F 43, F 44, F 45], []⟩ w) : c.wp P Q a w := by
  have h' := h _ rfl
  obtain ⟨A, de⟩ := a
  cases hd
  have e : A = #[A.getD 0 undef, A.getD 1 undef, A.getD 2 undef, A.getD 3 undef, A.getD 4 undef, A.getD 5 undef, A.getD 6 undef, A.getD 7 undef, A.getD 8 undef, A.getD 9 undef, A.getD 10 undef, A.getD 11 undef, A.getD 12 undef, A.getD 13 undef, A.getD 14 undef, A.getD 15 undef, A.getD 16 undef, A.getD 17 undef, A.getD 18 undef, A.getD 19 undef, A.getD 20 undef, A.getD 21 undef, A.getD 22 undef, A.getD 23 undef, A.getD 24 undef, A.getD 25 undef, A.getD 26 undef, A.getD 27 undef, A.getD 28 undef, A.getD 29 undef, A.getD 30 undef, A.getD 31 undef, A.getD 32 undef, A.getD 33 undef, A.getD 34 undef, A.getD 35 undef, A.getD 36 undef, A.getD 37 undef, A.getD 38 undef, A.getD 39 undef, A.getD 40 undef, A.getD 41 undef, A.getD 42 undef, A.getD 43 undef, A.getD 44 undef, A.getD 45 undef] := by
    apply Array.ext
    · exact hs
    · intro i h1 h2
      have hs' : A.size = 46 := hs
      have h3 : i < 46 := by omega
      have key : ∀ k : Nat, (hk : k < A.size) → A.getD k undef = A[k] := fun k hk => by simp [Array.getD, hk]
      rcases (by omega : i = 0 ∨ i = 1 ∨ i = 2 ∨ i = 3 ∨ i = 4 ∨ i = 5 ∨ i = 6 ∨ i = 7 ∨ i = 8 ∨ i = 9 ∨ i = 10 ∨ i = 11 ∨ i = 12 ∨ i = 13 ∨ i = 14 ∨ i = 15 ∨ i = 16 ∨ i = 17 ∨ i = 18 ∨ i = 19 ∨ i = 20 ∨ i = 21 ∨ i = 22 ∨ i = 23 ∨ i = 24 ∨ i = 25 ∨ i = 26 ∨ i = 27 ∨ i = 28 ∨ i = 29 ∨ i = 30 ∨ i = 31 ∨ i = 32 ∨ i = 33 ∨ i = 34 ∨ i = 35 ∨ i = 36 ∨ i = 37 ∨ i = 38 ∨ i = 39 ∨ i = 40 ∨ i = 41 ∨ i = 42 ∨ i = 43 ∨ i = 44 ∨ i = 45) with rfl | rfl | rfl | rfl | rfl | rfl | rfl | rfl | rfl | rfl | rfl | rfl | rfl | rfl | rfl | rfl | rfl | rfl | rfl | rfl | rfl | rfl | rfl | rfl | rfl | rfl | rfl | rfl | rfl | rfl | rfl | rfl | rfl | rfl | rfl | rfl | rfl | rfl | rfl | rfl | rfl | rfl | rfl | rfl | rfl | rfl <;> exact (key _ h1).symm
  rw [e]
  exact h'
theorem addI_start (F : Nat → Value) (B : Nat) (SL : Value) (C0 : Array Value) (r : RJ) (RB : List UInt8) (LR : (Dev × RJ) × Int) (ok : Nat → Prop) (Y : World) (a : Act) (x : World) (ha : ∃ v7 v8 v21 v22 v23 v24 v25 v26 v27 v28 v29 v30 v31 v32 v33 v34 v35, a = ⟨#[(F 0), SL, .pointer (some ⟨B, 0, none⟩), (F 3), (F 4), (F 5), (F 6), v7, v8, (F 9), (F 10), (F 11), (F 12), (F 13), (F 14), (F 15), (F 16), (F 17), (F 18), (F 19), (F 20), v21, v22, v23, v24, v25, v26, v27, v28, v29, v30, v31, v32, v33, v34, v35, (F 36), (F 37), (F 38), (F 39), (F 40), (F 41), (F 42), (F 43), (F 44), (F 45)], []⟩) (hb : Below Y.heap.size Y x) : addI F B SL C0 r RB LR ok Y (fun _ => false) a x := by
  obtain ⟨v7, v8, v21, v22, v23, v24, v25, v26, v27, v28, v29, v30, v31, v32, v33, v34, v35, rfl⟩ := ha
  exact ⟨v7, v8, v21, v22, v23, v24, v25, v26, v27, v28, v29, v30, v31, v32, v33, v34, v35, 0, #[], fun _ => False, rfl, hb, (fun q => by cases q), (fun q => by cases q), (fun q => by cases q), (fun q => by cases q), (fun q => by cases q), (fun q => by cases q), (fun q => by cases q), (fun q => by cases q), (fun q => by cases q), (fun q => by cases q), (fun q => by cases q), (fun q => by cases q), (fun q => by cases q), (fun q => by cases q), (fun q => by cases q), (fun q => by cases q), (fun q => by cases q), (fun q => by cases q), (fun q => by cases q), (fun q => by cases q), (fun q => by cases q), (fun q => by cases q), (fun q => by cases q), (fun q => by cases q), (fun q => by cases q), (fun q => by cases q)⟩


set_option maxHeartbeats 4000000 in
theorem refadd_any (ok ok2 : Nat → Prop) (v : Value) (D : Dev) (r : RJ) (A : Option Addr) (c : Nat) (L : List (List UInt8)) (w : World) (hv : IsRJ w ok v D r) (hr : Rd w ok2 A (L.map str)) (hwf : D.Wf) (h2 : 2 ≤ D.sure.length) (hl : D.sure.length ≤ 4096) (hfew : D.Few 500000) (hlt : D.left ≤ 9223372036854775807) (hn : r.number ≤ 4611686018427387904) (hs : r.side ≤ 1) (hdl : r.data.length ≤ 600000) (hlen : r.len ≤ 1000000000) (hL : L.length ≤ 1000000000) (hsum : (recsB L).length ≤ 900000000) :
    Calls Try.prog 19 #[v, .slice A L.length c] w fun e w' => ∃ v', e = .returned (.tuple #[v', .int .i64 (addR D r L).2]) ∧ IsRJ w' (fun k => ok k ∨ w.heap.size ≤ k) v' (addR D r L).1.1 (addR D r L).1.2 ∧ Below w.heap.size w w' := by
  obtain ⟨C0, rfl, hdv⟩ := hv.cells
  have hC0 := hdv.size
  obtain ⟨W, hW⟩ : ∃ W, W = ((w.alloc (.cells (jc C0 r) 40)).alloc (.cells (jc zeroD rj0) 40)) := ⟨_, rfl⟩
  have hbW : Below w.heap.size w W := by rw [hW]; exact ((Below.refl _ _).alloc (Nat.le_refl _) _).alloc (by simp) _
  have hB0 : Blk W w.heap.size 40 (jc C0 r) := by rw [hW]; exact (Blk.new w _ _).alloc _
  have hZ0 : Blk W (w.heap.size + 1) 40 (jc zeroD rj0) := by
    have := Blk.new (w.alloc (.cells (jc C0 r) 40)) 40 (jc zeroD rj0)
    rw [World.size_alloc] at this
    rw [hW]; exact this
  have hV : IsDev W (fun k => ok k ∧ k < w.heap.size) (.agg C0) D := hdv.move (fun k hk hk2 => ⟨⟨hk, hk2⟩, hbW.block k hk2⟩)
  have hrd : Rd W ok2 A (L.map str) := hr.grow hbW
  have hmay : ∀ x : World, Below W.heap.size W x → Calls Try.prog 43 #[.agg (jc C0 r), .slice A L.length c] x fun e w' => e = .returned (.int .i64 (if r.broken then 3 else if fewLong L then 0 else 4)) ∧ Below x.heap.size x w' := fun x hx => refmay_any _ ok2 _ D r A c L x (IsRJ.of_cells (hV.frame (fun k _ hk => hx.block k hk)) r) (hrd.grow hx) (by omega)
  obtain ⟨M, hM⟩ : ∃ M : Int, M = if r.broken then 3 else if fewLong L then 0 else 4 := ⟨_, rfl⟩
  rw [← hM] at hmay
  have hj : (Try.prog.info? 40).map (·.size) = some (jc C0 r).size := by rw [jc_size hC0.1]; exact jn_info
  have q9 := hB0.cell 9
  rw [show (9 : Nat) = 8 + 1 from rfl, jc_tail hC0.1] at q9
  have q9' : W.cell? ⟨w.heap.size, 9, none⟩ = some (.int .i64 (r.side : Int)) := q9
  have q10 := hB0.cell 10
  rw [show (10 : Nat) = 8 + 2 from rfl, jc_tail hC0.1] at q10
  have q10' : W.cell? ⟨w.heap.size, 10, none⟩ = some (str r.data) := q10
  have HW := Lib.hid hW
  rw [jc_zero] at HW
  have HbW := Lib.hid hbW
  have HWs := Lib.hid hbW.size
  have HB := Lib.hid hB0
  have HZ := Lib.hid hZ0
  have HV := Lib.hid hV
  have HRd := Lib.hid hrd
  have HMay := Lib.hid hmay
  have HM := Lib.hid hM
  have Hj := Lib.hid hj
  have HQ9 := Lib.hid q9'
  have HQ10 := Lib.hid q10'
  have hC8 := Lib.hid hC0
  have Hwf := Lib.hid hwf
  have Hfew := Lib.hid hfew
  clear hW hbW hB0 hZ0 hV hrd hmay hM hj q9 q9' q10 q10' hC0 hdv hv hr hwf hfew
  by_cases hgo : M = 0 ∧ L ≠ []
  · obtain ⟨hM0, hLn⟩ := hgo
    have hbr : ¬ r.broken = true := fun h => by have := HM.out; rw [if_pos h] at this; omega
    have hfl : fewLong L := by
      by_cases hf : fewLong L
      · exact hf
      · have := HM.out; rw [if_neg hbr, if_neg hf] at this; omega
    have HFl := Lib.hid hfl
    obtain ⟨LR, hLR⟩ : ∃ LR, LR = layR D r r.side r.data.length (r.data ++ recsB L) := ⟨_, rfl⟩
    obtain ⟨RB, hRB⟩ : ∃ RB, RB = recsB L := ⟨_, rfl⟩
    have hRBl : RB.length ≤ 900000000 := by rw [hRB]; exact hsum
    have hlie : ∀ x : World, Rd x ok2 A (L.map str) → Calls Try.prog 45 #[.slice A L.length c] x fun e w' => e = .returned (str RB) ∧ Below x.heap.size x w' := fun x hx => by
      rw [hRB]
      exact reflie_any ok2 A c L x hx (by omega) (by omega) (fun f hf => HFl.out f hf)
    have hlay : ∀ (okx : Nat → Prop) (x : World), IsRJ x okx (.agg (jc C0 r)) D r → Calls Try.prog 44 #[.agg (jc C0 r), .int .i64 (r.side : Int), .int .i64 (r.data.length : Int), str (r.data ++ RB)] x fun e w' => ∃ v', e = .returned (.tuple #[v', .int .i64 LR.2]) ∧ IsRJ w' (fun k => okx k ∨ x.heap.size ≤ k) v' LR.1.1 LR.1.2 ∧ Below x.heap.size x w' := fun okx x hx => by
      rw [hLR, ← hRB]
      exact reflay_any okx _ D r r.side r.data.length (r.data ++ RB) x hx Hwf.out h2 hl Hfew.out hlt hn (by omega) (by omega) (by rw [List.length_append]; omega)
    have hlen8 : LR.1.2.len = r.len := by rw [hLR]; exact layR_len _ _ _ _ _
    have htr0 : addR D r L = if LR.2 ≠ 0 then LR else ((LR.1.1, { LR.1.2 with len := LR.1.2.len + L.length }), 0) := by
      unfold addR
      rw [if_neg hbr, if_neg (fun h => h hfl), if_neg hLn, ← hLR]
    have hadd := fun z : World => run_str_add (P := Try.prog) z r.data RB (by omega)
    have hL0 : ¬ (L.length : Int) = 0 := by
      have : L.length ≠ 0 := fun h => hLn (List.length_eq_zero_iff.1 h)
      omega
    have hL1 : ((L.length : Int) == 0) = false := beq_eq_false_iff_ne.2 hL0
    have HLie := Lib.hid hlie
    have HLay := Lib.hid hlay
    have HLen8 := Lib.hid hlen8
    have HTr0 := Lib.hid htr0
    clear hlie hlay hlen8 htr0 hfl hbr hLR hRB hLn
    go_enter Try.func19, Try.ntmps19
    go_upto_region 1 with (fail)
    rw [← HW.out]
    go_wp2_with (refine wpList_load_row rfl 40 (.tmp 2) rfl w.heap.size rfl 40 (jc C0 r) (0, 0) _ HB.out Try.underlying40 rfl Hj.out ?_)
    refine (HMay.out W (Below.refl _ _)).mono ?_
    rintro e x1 ⟨rfl, hb1⟩
    have HY1 := Lib.hid (HB.out.grow hb1)
    have hbs1 := hb1.size
    have HY2 := Lib.hid (HZ.out.grow hb1)
    have Hb1 := Lib.hid hb1
    clear hb1
    go_upto_region 4 with fail
    go_cut [7, 8] (fun p q wx => ∃ (g : Nat) (C8 : Array Value) (okP : Nat → Prop), p = .pointer (some ⟨g, 0, none⟩) ∧ q = .int .i64 LR.2 ∧ W.heap.size ≤ g ∧ Blk wx g 40 (jc C8 LR.1.2) ∧ IsDev wx okP (.agg C8) LR.1.1 ∧ (∀ k, okP k → ((ok k ∧ k < w.heap.size) ∨ W.heap.size ≤ k) ∧ k < wx.heap.size) ∧ ¬ okP g ∧ Below W.heap.size W wx)
    case first =>
      refine wp_frame46 rfl rfl (fun F hF => ?_)
      apply wp_region_inv (I := addI F w.heap.size (.slice A L.length c) C0 r RB LR (fun k => ok k ∧ k < w.heap.size) W)
      case hm => kernel_rfl
      case ho => kernel_rfl
      case h0 => subst hF; exact addI_start _ w.heap.size (.slice A L.length c) C0 r RB LR (fun k => ok k ∧ k < w.heap.size) W _ _ ⟨_, _, _, _, _, _, _, _, _, _, _, _, _, _, _, _, _, rfl⟩ Hb1.out.drew
      case hstep =>
        clear hF
        intro i' o hi d a x hd hpre hI K hK
        obtain ⟨v7, v8, v21, v22, v23, v24, v25, v26, v27, v28, v29, v30, v31, v32, v33, v34, v35, g, C8, okP, rfl, hb, h0, h1, h2, h3, h4, h5, h6, h7, h8, h9, h10, h11, hD, hok, hno, h12, h13, h14, h15, h17, k12_11, k13_11, k14_11, k16_15, k16_11, k17_11⟩ := hI
        have hlt := (Array.getElem?_eq_some_iff.1 hi).1
        rcases add_many hlt rfl with rfl | rfl | rfl | rfl | rfl | rfl | rfl | rfl | rfl | rfl | rfl | rfl | rfl | rfl | rfl | rfl | rfl | rfl
        all_goals (have ho := Option.some.inj hi; subst ho; clear hi hlt)
        · refine step_plain rfl (wp_load_row 40 (.tmp 2) rfl w.heap.size rfl 40 (jc C0 r) (0, 0) _ (HB.out.grow hb) Try.underlying40 rfl Hj.out (hK _ _ ?_))
          exact ⟨v7, v8, v21, _, v23, v24, v25, v26, v27, v28, v29, v30, v31, v32, v33, v34, v35, g, C8, okP, rfl, hb, fun _ => rfl, h1, h2, h3, h4, h5, h6, h7, h8, h9, h10, h11, hD, hok, hno, h12, h13, h14, h15, h17, k12_11, k13_11, k14_11, k16_15, k16_11, k17_11⟩
        · go_simp
          exact hK _ _ ⟨v7, v8, v21, v22, _, v24, v25, v26, v27, v28, v29, v30, v31, v32, v33, v34, v35, g, C8, okP, rfl, hb, h0, fun _ => rfl, h2, h3, h4, h5, h6, h7, h8, h9, h10, h11, hD, hok, hno, h12, h13, h14, h15, h17, k12_11, k13_11, k14_11, k16_15, k16_11, k17_11⟩
        · obtain rfl := h1 (hpre { on := 1, ground := Ground.data } (by simp) rfl)
          have q := (hb.cell (p := ⟨w.heap.size, 9, none⟩) (blk_lt' HB.out)).trans HQ9.out
          go_simp
          exact hK _ _ ⟨v7, v8, v21, v22, _, _, v25, v26, v27, v28, v29, v30, v31, v32, v33, v34, v35, g, C8, okP, rfl, hb, h0, h1, fun _ => rfl, h3, h4, h5, h6, h7, h8, h9, h10, h11, hD, hok, hno, h12, h13, h14, h15, h17, k12_11, k13_11, k14_11, k16_15, k16_11, k17_11⟩
        · go_simp
          exact hK _ _ ⟨v7, v8, v21, v22, v23, v24, _, v26, v27, v28, v29, v30, v31, v32, v33, v34, v35, g, C8, okP, rfl, hb, h0, h1, h2, fun _ => rfl, h4, h5, h6, h7, h8, h9, h10, h11, hD, hok, hno, h12, h13, h14, h15, h17, k12_11, k13_11, k14_11, k16_15, k16_11, k17_11⟩
        · obtain rfl := h3 (hpre { on := 3, ground := Ground.data } (by simp) rfl)
          have q := (hb.cell (p := ⟨w.heap.size, 10, none⟩) (blk_lt' HB.out)).trans HQ10.out
          go_simp
          exact hK _ _ ⟨v7, v8, v21, v22, v23, v24, _, _, v27, v28, v29, v30, v31, v32, v33, v34, v35, g, C8, okP, rfl, hb, h0, h1, h2, h3, fun _ => rfl, h5, h6, h7, h8, h9, h10, h11, hD, hok, hno, h12, h13, h14, h15, h17, k12_11, k13_11, k14_11, k16_15, k16_11, k17_11⟩
        · obtain rfl := h4 (hpre { on := 4, ground := Ground.data } (by simp) rfl)
          go_simp
          exact hK _ _ ⟨v7, v8, v21, v22, v23, v24, v25, _, _, v28, v29, v30, v31, v32, v33, v34, v35, g, C8, okP, rfl, hb, h0, h1, h2, h3, h4, fun _ => rfl, h6, h7, h8, h9, h10, h11, hD, hok, hno, h12, h13, h14, h15, h17, k12_11, k13_11, k14_11, k16_15, k16_11, k17_11⟩
        · go_simp
          exact hK _ _ ⟨v7, v8, v21, v22, v23, v24, v25, v26, v27, _, v29, v30, v31, v32, v33, v34, v35, g, C8, okP, rfl, hb, h0, h1, h2, h3, h4, h5, fun _ => rfl, h7, h8, h9, h10, h11, hD, hok, hno, h12, h13, h14, h15, h17, k12_11, k13_11, k14_11, k16_15, k16_11, k17_11⟩
        · obtain rfl := h6 (hpre { on := 6, ground := Ground.data } (by simp) rfl)
          have q := (hb.cell (p := ⟨w.heap.size, 10, none⟩) (blk_lt' HB.out)).trans HQ10.out
          go_simp
          exact hK _ _ ⟨v7, v8, v21, v22, v23, v24, v25, v26, v27, _, _, v30, v31, v32, v33, v34, v35, g, C8, okP, rfl, hb, h0, h1, h2, h3, h4, h5, h6, fun _ => rfl, h8, h9, h10, h11, hD, hok, hno, h12, h13, h14, h15, h17, k12_11, k13_11, k14_11, k16_15, k16_11, k17_11⟩
        · go_simp
          exact hK _ _ ⟨v7, v8, v21, v22, v23, v24, v25, v26, v27, v28, v29, _, v31, v32, v33, v34, v35, g, C8, okP, rfl, hb, h0, h1, h2, h3, h4, h5, h6, h7, fun _ => rfl, h9, h10, h11, hD, hok, hno, h12, h13, h14, h15, h17, k12_11, k13_11, k14_11, k16_15, k16_11, k17_11⟩
        · obtain rfl := h8 (hpre { on := 8, ground := Ground.data } (by simp) rfl)
          go_simp
          refine (HLie.out x (HRd.out.grow hb)).mono ?_
          rintro e x2 ⟨rfl, hb2⟩
          have hsame : ∀ k, k < x.heap.size → x2.heap[k]? = x.heap[k]? := fun k hk => hb2.block k hk
          go_simp
          exact hK _ _ ⟨v7, v8, v21, v22, v23, v24, v25, v26, v27, v28, v29, _, _, v32, v33, v34, v35, g, C8, okP, rfl, (below_call hb hb2), h0, h1, h2, h3, h4, h5, h6, h7, h8, fun _ => rfl, h10, h11, fun q => (hD q).frame (fun k _ hk => hsame k hk), fun q k hk => ⟨(hok q k hk).1, Nat.lt_of_lt_of_le (hok q k hk).2 hb2.size⟩, hno, h12, h13, h14, fun q => ⟨(h15 q).1, (h15 q).2.1, (h15 q).2.2.grow hb2⟩, h17, k12_11, k13_11, k14_11, k16_15, k16_11, k17_11⟩
        · obtain rfl := h7 (hpre { on := 7, ground := Ground.data } (by simp) rfl)
          obtain rfl := h9 (hpre { on := 9, ground := Ground.data } (by simp) rfl)
          go_simp
          exact hK _ _ ⟨v7, v8, v21, v22, v23, v24, v25, v26, v27, v28, _, v30, _, _, v33, v34, v35, g, C8, okP, rfl, hb, h0, h1, h2, h3, h4, h5, h6, h7, h8, h9, fun _ => rfl, h11, hD, hok, hno, h12, h13, h14, h15, h17, k12_11, k13_11, k14_11, k16_15, k16_11, k17_11⟩
        · obtain rfl := h0 (hpre { on := 0, ground := Ground.data } (by simp) rfl)
          obtain rfl := h2 (hpre { on := 2, ground := Ground.data } (by simp) rfl)
          obtain rfl := h5 (hpre { on := 5, ground := Ground.data } (by simp) rfl)
          obtain rfl := h10 (hpre { on := 10, ground := Ground.data } (by simp) rfl)
          go_simp
          have hdx : IsDev x (fun k => ok k ∧ k < w.heap.size) (.agg C0) D := HV.out.move (fun k hk hl => ⟨hk, hb.block k hl⟩)
          refine (HLay.out _ x (IsRJ.of_cells hdx r)).mono ?_
          rintro e x2 ⟨v', rfl, hrj, hb2⟩
          obtain ⟨C', rfl, hdev⟩ := hrj.cells
          have hdev2 : IsDev x2 (fun k => ((ok k ∧ k < w.heap.size) ∨ x.heap.size ≤ k) ∧ k < x2.heap.size) (.agg C') LR.1.1 := hdev.move (fun k hk hl => ⟨⟨hk, hl⟩, rfl⟩)
          go_simp
          exact hK _ _ ⟨v7, v8, v21, _, v23, _, v25, v26, _, v28, v29, v30, v31, _, _, v34, v35, g, C', (fun k => ((ok k ∧ k < w.heap.size) ∨ x.heap.size ≤ k) ∧ k < x2.heap.size), rfl, (below_call hb hb2), h0, h1, h2, h3, h4, h5, h6, h7, h8, h9, h10, fun _ => rfl, fun _ => hdev2, fun _ k hk => ⟨hk.1.elim (fun q => Or.inl q) (fun q => Or.inr (Nat.le_trans hb.size q)), hk.2⟩, fun _ q hk => hk.1.elim (fun y => by have := (h15 q).2.1; have := HWs.out; have := y.2; omega) (fun y => by have := blk_lt' (h15 q).2.2; omega), (fun q => by have := k12_11 q; rw [hd] at this; cases this), (fun q => by have := k13_11 q; rw [hd] at this; cases this), (fun q => by have := k14_11 q; rw [hd] at this; cases this), fun q => ⟨(h15 q).1, (h15 q).2.1, (by have h := (h15 q).2.2; rw [if_neg (fun y => by have := k16_11 y; rw [hd] at this; cases this)] at h; rw [if_neg (fun y => by have := k16_11 y; rw [hd] at this; cases this)]; exact h.grow hb2)⟩, (fun q => by have := k17_11 q; rw [hd] at this; cases this), fun _ => rfl, fun _ => rfl, fun _ => rfl, k16_15, fun _ => rfl, fun _ => rfl⟩
        · obtain rfl := h11 (hpre { on := 11, ground := Ground.data } (by simp) rfl)
          go_simp
          exact hK _ _ ⟨v7, v8, _, v22, v23, v24, v25, v26, v27, v28, v29, v30, v31, v32, _, v34, v35, g, C8, okP, rfl, hb, h0, h1, h2, h3, h4, h5, h6, h7, h8, h9, h10, h11, hD, hok, hno, fun _ => rfl, h13, h14, h15, h17, fun _ => (hpre { on := 11, ground := Ground.data } (by simp) rfl), k13_11, k14_11, k16_15, k16_11, k17_11⟩
        · obtain rfl := h12 (hpre { on := 12, ground := Ground.data } (by simp) rfl)
          go_simp
          exact hK _ _ ⟨v7, v8, _, v22, v23, v24, v25, v26, v27, v28, v29, v30, v31, v32, v33, _, v35, g, C8, okP, rfl, hb, h0, h1, h2, h3, h4, h5, h6, h7, h8, h9, h10, h11, hD, hok, hno, h12, fun _ => rfl, h14, h15, h17, k12_11, fun _ => k12_11 (hpre { on := 12, ground := Ground.data } (by simp) rfl), k14_11, k16_15, k16_11, k17_11⟩
        · obtain rfl := h12 (hpre { on := 12, ground := Ground.data } (by simp) rfl)
          go_simp
          exact hK _ _ ⟨v7, v8, _, v22, v23, v24, v25, v26, v27, v28, v29, v30, v31, v32, v33, v34, _, g, C8, okP, rfl, hb, h0, h1, h2, h3, h4, h5, h6, h7, h8, h9, h10, h11, hD, hok, hno, h12, h13, fun _ => rfl, h15, h17, k12_11, k13_11, fun _ => k12_11 (hpre { on := 12, ground := Ground.data } (by simp) rfl), k16_15, k16_11, k17_11⟩
        · go_simp
          exact hK _ _ ⟨.pointer (some ⟨x.heap.size, 0, none⟩), v8, v21, v22, v23, v24, v25, v26, v27, v28, v29, v30, v31, v32, v33, v34, v35, x.heap.size, C8, okP, rfl, (hb.alloc hb.size _), h0, h1, h2, h3, h4, h5, h6, h7, h8, h9, h10, h11, fun q => (hD q).frame (fun k _ hk => Below.heap_alloc _ _ _ hk), fun q k hk => ⟨(hok q k hk).1, by have := (hok q k hk).2; rw [World.size_alloc]; omega⟩, fun q _ hk => by have := (hok q _ hk).2; omega, h12, h13, h14, fun _ => ⟨rfl, hb.size, by rw [if_neg (fun q => by have q2 := k16_15 q; rw [hd] at q2; cases q2)]; exact Blk.new x _ _⟩, h17, k12_11, k13_11, k14_11, fun _ => rfl, k16_11, k17_11⟩
        · have d22 := (hpre { on := 15, ground := Ground.data } (by simp) rfl)
          have d20 := (hpre { on := 13, ground := Ground.data } (by simp) rfl)
          have d18 := k13_11 d20
          obtain rfl := h13 d20
          obtain ⟨rfl, hg, hblk⟩ := h15 d22
          rw [if_neg (by rw [hd]; decide)] at hblk
          have hsz := (hD d18).size
          refine step_plain rfl (wp_store_row 40 (.tmp 7) (.tmp 34) rfl g (jc C8 LR.1.2) rfl rfl 40 (jc zeroD rj0) hblk (by rw [jc_size hsz.1]; exact jn_info) (by rw [jc_size hsz.1]; rfl) (jc_one hsz.2) (hK _ _ ?_))
          exact ⟨_, v8, v21, v22, v23, v24, v25, v26, v27, v28, v29, v30, v31, v32, v33, _, v35, g, C8, okP, rfl, (below_setRow hb hg _), h0, h1, h2, h3, h4, h5, h6, h7, h8, h9, h10, h11, fun q => (hD q).frame (fun k hk _ => setRow_other _ _ _ _ (fun e => hno q d22 (e ▸ hk))), fun q k hk => ⟨(hok q k hk).1, by have := (hok q k hk).2; simpa using this⟩, hno, h12, h13, h14, fun _ => ⟨rfl, hg, hblk.setRow_ _⟩, h17, k12_11, k13_11, k14_11, fun _ => d22, fun _ => d18, k17_11⟩
        · obtain rfl := h14 (hpre { on := 14, ground := Ground.data } (by simp) rfl)
          go_simp
          exact hK _ _ ⟨v7, _, v21, v22, v23, v24, v25, v26, v27, v28, v29, v30, v31, v32, v33, v34, _, g, C8, okP, rfl, hb, h0, h1, h2, h3, h4, h5, h6, h7, h8, h9, h10, h11, hD, hok, hno, h12, h13, h14, h15, fun _ => rfl, k12_11, k13_11, k14_11, k16_15, k16_11, fun _ => k14_11 (hpre { on := 14, ground := Ground.data } (by simp) rfl)⟩
      case hend =>
        intro d a x hall hI
        obtain ⟨v7, v8, v21, v22, v23, v24, v25, v26, v27, v28, v29, v30, v31, v32, v33, v34, v35, g, C8, okP, rfl, hb, h0, h1, h2, h3, h4, h5, h6, h7, h8, h9, h10, h11, hD, hok, hno, h12, h13, h14, h15, h17, k12_11, k13_11, k14_11, k16_15, k16_11, k17_11⟩ := hI
        obtain ⟨rfl, hg, b12⟩ := h15 (hall 15 (by decide))
        rw [if_pos (hall 16 (by decide))] at b12
        obtain rfl := h17 (hall 17 (by decide))
        have dD := hD (hall 11 (by decide))
        have dok := hok (hall 11 (by decide))
        have dno := hno (hall 11 (by decide)) (hall 15 (by decide))
        have B12 := Lib.hid b12
        have DD := Lib.hid dD
        have DK := Lib.hid dok
        have DN := Lib.hid dno
        have Hg := Lib.hid hg
        clear h0 h1 h2 h3 h4 h5 h6 h7 h8 h9 h10 h11 hD hok hno h12 h13 h14 h15 h17 k12_11 k13_11 k14_11 k16_15 k16_11 k17_11 hall b12 dD dok dno hg
        subst hF
        dsimp only
        go_wp2_with fail
        go_meet
        exact ⟨_, _, _, rfl, rfl, Hg.out, B12.out, DD.out, DK.out, DN.out, hb⟩
    case rest =>
      obtain ⟨g, C8, okP, rfl, rfl, hg, hblk, hdev, hokP, hno, hbx⟩ := hcut
      have hW1 := blk_lt' HZ.out
      have c2 := HZ.out.grow hbx
      have c5 := below_call HbW.out hbx
      have cz := hdev.size
      have c6 : ∀ k, okP k → (ok k ∨ w.heap.size ≤ k) ∧ k ≠ w.heap.size + 1 := fun k hk => by
        rcases (hokP k hk).1 with h | h
        · exact ⟨Or.inl h.1, by omega⟩
        · exact ⟨Or.inr (by omega), by omega⟩
      by_cases hE0 : LR.2 = 0
      · rw [hE0]
        have htr := HTr0.out
        rw [if_neg (by rw [hE0]; decide)] at htr
        obtain ⟨r2, hr2⟩ : ∃ r2 : RJ, r2 = { LR.1.2 with len := LR.1.2.len + L.length } := ⟨_, rfl⟩
        rw [← hr2] at htr
        obtain ⟨x5, hx5⟩ : ∃ x5, x5 = wc.setCell ⟨g, 11, none⟩ (.int .i64 ((LR.1.2.len : Int) + (L.length : Int))) := ⟨_, rfl⟩
        have c1 : Blk x5 g 40 (jc C8 r2) := by
          have := hblk.set_ 11 (.int .i64 ((LR.1.2.len + L.length : Nat) : Int))
          rw [jc_st11 cz.1, ← hr2] at this
          rw [hx5]
          exact this
        have c2' : Blk x5 (w.heap.size + 1) 40 (jc zeroD rj0) := by rw [hx5]; exact c2.far (p := ⟨g, 11, none⟩) (by show w.heap.size + 1 ≠ g; omega) _
        have c4 : IsDev x5 okP (.agg C8) LR.1.1 := hdev.frame (fun k hk _ => by rw [hx5]; exact heap_setCell_other _ _ _ _ (fun e => hno ((show k = g from e) ▸ hk)))
        have c5' : Below w.heap.size w x5 := by rw [hx5]; exact c5.setCell (p := ⟨g, 11, none⟩) (by show w.heap.size ≤ g; omega) _
        have q11 := hblk.cell 11
        rw [show (11 : Nat) = 8 + 3 from rfl, jc_tail cz.1] at q11
        have q11' : wc.cell? ⟨g, 11, none⟩ = some (.int .i64 (LR.1.2.len : Int)) := q11
        have f11 := hblk.frozen 11
        have hlb : LR.1.2.len ≤ 1000000000 := by rw [HLen8.out]; omega
        have HX5 := Lib.hid hx5
        clear q11 hx5 hr2 hdev hokP hno hbx hblk c2 c5 hE0
        have c2 := c2'
        have c5 := c5'
        clear c2' c5'
        obtain ⟨x6, hx6⟩ : ∃ x6, x6 = x5.setRow (w.heap.size + 1) (jc C8 r2) := ⟨_, rfl⟩
        have d2 : Blk x6 (w.heap.size + 1) 40 (jc C8 r2) := by rw [hx6]; exact c2.setRow_ _
        have d4 : IsDev x6 (fun k => ok k ∨ w.heap.size ≤ k) (.agg C8) LR.1.1 := by rw [hx6]; exact c4.move (fun k hk _ => ⟨(c6 k hk).1, setRow_other _ _ _ _ (c6 k hk).2⟩)
        have d5 : Below w.heap.size w x6 := by rw [hx6]; exact below_setRow c5 (by omega) _
        have hj6 : (Try.prog.info? 40).map (·.size) = some (jc C8 r2).size := by rw [jc_size cz.1]; exact jn_info
        have ho : (jc zeroD rj0).size = (jc C8 r2).size := by rw [jc_size cz.1]; rfl
        have hone : (jc C8 r2).all (·.oneCell') = true := jc_one cz.2
        have Htr := Lib.hid htr
        have HX6 := Lib.hid hx6
        have C1 := Lib.hid c1
        have C2 := Lib.hid c2
        have D2 := Lib.hid d2
        have D4 := Lib.hid d4
        have D5 := Lib.hid d5
        have Hj6 := Lib.hid hj6
        have Ho := Lib.hid ho
        have Hone := Lib.hid hone
        clear htr hx6 c1 c2 c4 c5 c6 cz d2 d4 d5 hj6 ho hone
        go_wp2_with (first | (rw [← HX5.out]; refine wpList_load_row rfl 40 (.tmp 7) rfl g rfl 40 (jc C8 r2) (0, 0) _ C1.out Try.underlying40 rfl Hj6.out ?_) | (refine wpList_store_row rfl 40 (.tmp 4) (.tmp 44) rfl (w.heap.size + 1) (jc C8 r2) rfl rfl 40 (jc zeroD rj0) C2.out Hj6.out Ho.out Hone.out ?_; rw [← HX6.out]))
        refine bodyPost_ret (v := .tuple #[.agg (jc C8 r2), .int .i64 0]) (results_cell_tmp Try.results19 _ _ (w.heap.size + 1) 40 (jc C8 r2) (0, 0) _ _ rfl rfl D2.out Try.underlying40 rfl Hj6.out) rfl ⟨.agg (jc C8 r2), by rw [Htr.out], ?_, D5.out⟩
        rw [Htr.out]
        exact IsRJ.of_cells D4.out r2
      · have hq0 : (LR.2 == 0) = false := beq_eq_false_iff_ne.2 hE0
        have htr := HTr0.out
        rw [if_pos hE0] at htr
        have htr : addR D r L = ((LR.1.1, LR.1.2), LR.2) := htr
        have c1 := hblk
        have c4 := hdev
        obtain ⟨r2, hr2⟩ : ∃ r2 : RJ, r2 = LR.1.2 := ⟨_, rfl⟩
        rw [← hr2] at htr c1
        clear hr2 hblk hdev hokP hno hbx
        obtain ⟨x6, hx6⟩ : ∃ x6, x6 = wc.setRow (w.heap.size + 1) (jc C8 r2) := ⟨_, rfl⟩
        have d2 : Blk x6 (w.heap.size + 1) 40 (jc C8 r2) := by rw [hx6]; exact c2.setRow_ _
        have d4 : IsDev x6 (fun k => ok k ∨ w.heap.size ≤ k) (.agg C8) LR.1.1 := by rw [hx6]; exact c4.move (fun k hk _ => ⟨(c6 k hk).1, setRow_other _ _ _ _ (c6 k hk).2⟩)
        have d5 : Below w.heap.size w x6 := by rw [hx6]; exact below_setRow c5 (by omega) _
        have hj6 : (Try.prog.info? 40).map (·.size) = some (jc C8 r2).size := by rw [jc_size cz.1]; exact jn_info
        have ho : (jc zeroD rj0).size = (jc C8 r2).size := by rw [jc_size cz.1]; rfl
        have hone : (jc C8 r2).all (·.oneCell') = true := jc_one cz.2
        have Htr := Lib.hid htr
        have HX6 := Lib.hid hx6
        have C1 := Lib.hid c1
        have C2 := Lib.hid c2
        have D2 := Lib.hid d2
        have D4 := Lib.hid d4
        have D5 := Lib.hid d5
        have Hj6 := Lib.hid hj6
        have Ho := Lib.hid ho
        have Hone := Lib.hid hone
        clear htr hx6 c1 c2 c4 c5 c6 cz d2 d4 d5 hj6 ho hone
        go_wp2_with (first | (refine wpList_load_row rfl 40 (.tmp 7) rfl g rfl 40 (jc C8 r2) (0, 0) _ C1.out Try.underlying40 rfl Hj6.out ?_) | (refine wpList_store_row rfl 40 (.tmp 4) (.tmp 44) rfl (w.heap.size + 1) (jc C8 r2) rfl rfl 40 (jc zeroD rj0) C2.out Hj6.out Ho.out Hone.out ?_; rw [← HX6.out]))
        refine bodyPost_ret (v := .tuple #[.agg (jc C8 r2), .int .i64 LR.2]) (results_cell_tmp Try.results19 _ _ (w.heap.size + 1) 40 (jc C8 r2) (0, 0) _ _ rfl rfl D2.out Try.underlying40 rfl Hj6.out) rfl ⟨.agg (jc C8 r2), by rw [Htr.out], ?_, D5.out⟩
        rw [Htr.out]
        exact IsRJ.of_cells D4.out r2
  · have htr : addR D r L = ((D, r), M) := by
      unfold addR
      rw [HM.out]
      by_cases hb : r.broken = true
      · rw [if_pos hb, if_pos hb]
      · rw [if_neg hb, if_neg hb]
        by_cases hf : fewLong L
        · rw [if_pos hf, if_neg (fun h => h hf)]
          rw [if_pos (by
            by_cases e : L = []
            · exact e
            · exact absurd ⟨by rw [HM.out, if_neg hb, if_pos hf], e⟩ hgo)]
        · rw [if_neg hf, if_pos hf]
    have Htr0 := Lib.hid htr
    clear htr
    by_cases hM0 : M = 0
    · have hLe : L = [] := by
        by_cases e : L = []
        · exact e
        · exact absurd ⟨hM0, e⟩ hgo
      have hL0 : (L.length : Int) = 0 := by rw [hLe]; rfl
      have hll := hM0
      have HLe := Lib.hid hLe
      clear hgo hLe
      go_enter Try.func19, Try.ntmps19
      go_upto_region 1 with (fail)
      rw [← HW.out]
      go_wp2_with (refine wpList_load_row rfl 40 (.tmp 2) rfl w.heap.size rfl 40 (jc C0 r) (0, 0) _ HB.out Try.underlying40 rfl Hj.out ?_)
      refine (HMay.out W (Below.refl _ _)).mono ?_
      rintro e x1 ⟨rfl, hb1⟩
      have cz := hC8.out
      have c1 := HB.out.grow hb1
      have c2 := HZ.out.grow hb1
      have c4 : IsDev x1 (fun k => ok k ∧ k < w.heap.size) (.agg C0) D := HV.out.frame (fun k _ hk => hb1.block k hk)
      have c5 := below_call HbW.out hb1
      have c6 : ∀ k, (ok k ∧ k < w.heap.size) → (ok k ∨ w.heap.size ≤ k) ∧ k ≠ w.heap.size + 1 := fun k hk => ⟨Or.inl hk.1, by omega⟩
      have htr := Htr0.out
      rw [hM0] at htr
      obtain ⟨x6, hx6⟩ : ∃ x6, x6 = x1.setRow (w.heap.size + 1) (jc C0 r) := ⟨_, rfl⟩
      have d2 : Blk x6 (w.heap.size + 1) 40 (jc C0 r) := by rw [hx6]; exact c2.setRow_ _
      have d4 : IsDev x6 (fun k => ok k ∨ w.heap.size ≤ k) (.agg C0) D := by rw [hx6]; exact c4.move (fun k hk _ => ⟨(c6 k hk).1, setRow_other _ _ _ _ (c6 k hk).2⟩)
      have d5 : Below w.heap.size w x6 := by rw [hx6]; exact below_setRow c5 (by omega) _
      have hj6 : (Try.prog.info? 40).map (·.size) = some (jc C0 r).size := by rw [jc_size cz.1]; exact jn_info
      have ho : (jc zeroD rj0).size = (jc C0 r).size := by rw [jc_size cz.1]; rfl
      have hone : (jc C0 r).all (·.oneCell') = true := jc_one cz.2
      have Htr := Lib.hid htr
      have HX6 := Lib.hid hx6
      have C1 := Lib.hid c1
      have C2 := Lib.hid c2
      have D2 := Lib.hid d2
      have D4 := Lib.hid d4
      have D5 := Lib.hid d5
      have Hj6 := Lib.hid hj6
      have Ho := Lib.hid ho
      have Hone := Lib.hid hone
      clear htr hx6 c1 c2 c4 c5 c6 cz d2 d4 d5 hj6 ho hone hb1
      go_wp2_with (first | (refine wpList_load_row rfl 40 (.tmp 2) rfl w.heap.size rfl 40 (jc C0 r) (0, 0) _ C1.out Try.underlying40 rfl Hj6.out ?_) | (refine wpList_store_row rfl 40 (.tmp 4) (.tmp 19) rfl (w.heap.size + 1) (jc C0 r) rfl rfl 40 (jc zeroD rj0) C2.out Hj6.out Ho.out Hone.out ?_; rw [← HX6.out]))
      refine bodyPost_ret (v := .tuple #[.agg (jc C0 r), .int .i64 0]) (results_cell_tmp Try.results19 _ _ (w.heap.size + 1) 40 (jc C0 r) (0, 0) _ _ rfl rfl D2.out Try.underlying40 rfl Hj6.out) rfl ⟨.agg (jc C0 r), by rw [Htr.out], ?_, D5.out⟩
      rw [Htr.out]
      exact IsRJ.of_cells D4.out r
    · have hM1 : (M != 0) = true := bne_iff_ne.2 hM0
      clear hgo
      go_enter Try.func19, Try.ntmps19
      go_upto_region 1 with (fail)
      rw [← HW.out]
      go_wp2_with (refine wpList_load_row rfl 40 (.tmp 2) rfl w.heap.size rfl 40 (jc C0 r) (0, 0) _ HB.out Try.underlying40 rfl Hj.out ?_)
      refine (HMay.out W (Below.refl _ _)).mono ?_
      rintro e x1 ⟨rfl, hb1⟩
      have cz := hC8.out
      have c1 := HB.out.grow hb1
      have c2 := HZ.out.grow hb1
      have c4 : IsDev x1 (fun k => ok k ∧ k < w.heap.size) (.agg C0) D := HV.out.frame (fun k _ hk => hb1.block k hk)
      have c5 := below_call HbW.out hb1
      have c6 : ∀ k, (ok k ∧ k < w.heap.size) → (ok k ∨ w.heap.size ≤ k) ∧ k ≠ w.heap.size + 1 := fun k hk => ⟨Or.inl hk.1, by omega⟩
      have htr := Htr0.out
      obtain ⟨x6, hx6⟩ : ∃ x6, x6 = x1.setRow (w.heap.size + 1) (jc C0 r) := ⟨_, rfl⟩
      have d2 : Blk x6 (w.heap.size + 1) 40 (jc C0 r) := by rw [hx6]; exact c2.setRow_ _
      have d4 : IsDev x6 (fun k => ok k ∨ w.heap.size ≤ k) (.agg C0) D := by rw [hx6]; exact c4.move (fun k hk _ => ⟨(c6 k hk).1, setRow_other _ _ _ _ (c6 k hk).2⟩)
      have d5 : Below w.heap.size w x6 := by rw [hx6]; exact below_setRow c5 (by omega) _
      have hj6 : (Try.prog.info? 40).map (·.size) = some (jc C0 r).size := by rw [jc_size cz.1]; exact jn_info
      have ho : (jc zeroD rj0).size = (jc C0 r).size := by rw [jc_size cz.1]; rfl
      have hone : (jc C0 r).all (·.oneCell') = true := jc_one cz.2
      have Htr := Lib.hid htr
      have HX6 := Lib.hid hx6
      have C1 := Lib.hid c1
      have C2 := Lib.hid c2
      have D2 := Lib.hid d2
      have D4 := Lib.hid d4
      have D5 := Lib.hid d5
      have Hj6 := Lib.hid hj6
      have Ho := Lib.hid ho
      have Hone := Lib.hid hone
      clear htr hx6 c1 c2 c4 c5 c6 cz d2 d4 d5 hj6 ho hone hb1
      go_wp2_with (first | (refine wpList_load_row rfl 40 (.tmp 2) rfl w.heap.size rfl 40 (jc C0 r) (0, 0) _ C1.out Try.underlying40 rfl Hj6.out ?_) | (refine wpList_store_row rfl 40 (.tmp 4) (.tmp 19) rfl (w.heap.size + 1) (jc C0 r) rfl rfl 40 (jc zeroD rj0) C2.out Hj6.out Ho.out Hone.out ?_; rw [← HX6.out]))
      refine bodyPost_ret (v := .tuple #[.agg (jc C0 r), .int .i64 M]) (results_cell_tmp Try.results19 _ _ (w.heap.size + 1) 40 (jc C0 r) (0, 0) _ _ rfl rfl D2.out Try.underlying40 rfl Hj6.out) rfl ⟨.agg (jc C0 r), by rw [Htr.out], ?_, D5.out⟩
      rw [Htr.out]
      exact IsRJ.of_cells D4.out r
end Go.Proofs.Ytiaabgmmmekpnaa

namespace Go.Proofs.Ytiaabgmmmekpnaa
open Go.RowKit
set_option maxRecDepth 100000

/-- What stands while repl lays its records, whatever has been done of it. -/
def replI (F : Nat → Value) (B : Nat) (SL : Value) (C0 : Array Value) (r : RJ) (SD : Int) (RB : List UInt8) (LR : (Dev × RJ) × Int) (ok : Nat → Prop) (Y : World) (d : Nat → Bool) (a : Act) (x : World) : Prop :=
  ∃ (v7 v8 v16 v17 v18 v19 v20 v21 v22 v23 v24 v25 : Value) (g : Nat) (C8 : Array Value) (okP : Nat → Prop), a = ⟨#[(F 0), SL, .pointer (some ⟨B, 0, none⟩), (F 3), (F 4), (F 5), (F 6), v7, v8, (F 9), (F 10), (F 11), (F 12), (F 13), (F 14), (F 15), v16, v17, v18, v19, v20, v21, v22, v23, v24, v25, (F 26), (F 27), (F 28), (F 29), (F 30), (F 31), (F 32)], []⟩ ∧ Below Y.heap.size Y x ∧
    (d 0 = true → v17 = .agg (jc C0 r)) ∧
    (d 1 = true → v18 = .pointer (some ⟨B, 9, none⟩)) ∧
    (d 2 = true → v19 = .int .i64 (r.side : Int)) ∧
    (d 3 = true → v20 = .int .i64 SD) ∧
    (d 4 = true → v21 = SL) ∧
    (d 5 = true → v22 = str RB) ∧
    (d 6 = true → v23 = .tuple #[.agg (jc C8 LR.1.2), .int .i64 LR.2]) ∧
    (d 6 = true → IsDev x okP (.agg C8) LR.1.1) ∧
    (d 6 = true → ∀ k, okP k → (ok k ∨ Y.heap.size ≤ k) ∧ k < x.heap.size) ∧
    (d 6 = true → d 10 = true → ¬ okP g) ∧
    (d 7 = true → v16 = .tuple #[.agg (jc C8 LR.1.2), .int .i64 LR.2]) ∧
    (d 8 = true → v24 = .agg (jc C8 LR.1.2)) ∧
    (d 9 = true → v25 = .int .i64 LR.2) ∧
    (d 10 = true → v7 = .pointer (some ⟨g, 0, none⟩) ∧ Y.heap.size ≤ g ∧ Blk x g 40 (if d 11 = true then jc C8 LR.1.2 else jc zeroD rj0)) ∧
    (d 12 = true → v8 = .int .i64 LR.2) ∧
    (d 7 = true → d 6 = true) ∧
    (d 8 = true → d 6 = true) ∧
    (d 9 = true → d 6 = true) ∧
    (d 11 = true → d 10 = true) ∧
    (d 11 = true → d 6 = true) ∧
    (d 12 = true → d 6 = true)
theorem repl_many {k n : Nat} (h : k < n) (hn : n = 13) : k = 0 ∨ k = 1 ∨ k = 2 ∨ k = 3 ∨ k = 4 ∨ k = 5 ∨ k = 6 ∨ k = 7 ∨ k = 8 ∨ k = 9 ∨ k = 10 ∨ k = 11 ∨ k = 12 := by omega
theorem wp_frame33 {P : Program} {Q : Exit → Act → World → Prop} {c : Code} {a : Act} {w : World} (hs : a.tmps.size = 33) (hd : a.defers = []) (h : ∀ F : Nat → Value, F = (fun i => a.tmps.getD i undef) → c.wp P Q ⟨#[F 0, F 1, F 2, F 3, F 4, F 5, F 6, F 7, F 8, F 9, F 10, F 11, F 12, F 13, F 14, F 15, F 16, F 17, F 18, F 19, F 20, F 21, F 22, F 23, F 24, F 25, F 26, F 27, F 28, F 29, F 30, F 31, F 32], []⟩ w) : c.wp P Q a w := by
  have h' := h _ rfl
  obtain ⟨A, de⟩ := a
  cases hd
  have e : A = #[A.getD 0 undef, A.getD 1 undef, A.getD 2 undef, A.getD 3 undef, A.getD 4 undef, A.getD 5 undef, A.getD 6 undef, A.getD 7 undef, A.getD 8 undef, A.getD 9 undef, A.getD 10 undef, A.getD 11 undef, A.getD 12 undef, A.getD 13 undef, A.getD 14 undef, A.getD 15 undef, A.getD 16 undef, A.getD 17 undef, A.getD 18 undef, A.getD 19 undef, A.getD 20 undef, A.getD 21 undef, A.getD 22 undef, A.getD 23 undef, A.getD 24 undef, A.getD 25 undef, A.getD 26 undef, A.getD 27 undef, A.getD 28 undef, A.getD 29 undef, A.getD 30 undef, A.getD 31 undef, A.getD 32 undef] := by
    apply Array.ext
    · exact hs
    · intro i h1 h2
      have hs' : A.size = 33 := hs
      have h3 : i < 33 := by omega
      have key : ∀ k : Nat, (hk : k < A.size) → A.getD k undef = A[k] := fun k hk => by simp [Array.getD, hk]
      rcases (by omega : i = 0 ∨ i = 1 ∨ i = 2 ∨ i = 3 ∨ i = 4 ∨ i = 5 ∨ i = 6 ∨ i = 7 ∨ i = 8 ∨ i = 9 ∨ i = 10 ∨ i = 11 ∨ i = 12 ∨ i = 13 ∨ i = 14 ∨ i = 15 ∨ i = 16 ∨ i = 17 ∨ i = 18 ∨ i = 19 ∨ i = 20 ∨ i = 21 ∨ i = 22 ∨ i = 23 ∨ i = 24 ∨ i = 25 ∨ i = 26 ∨ i = 27 ∨ i = 28 ∨ i = 29 ∨ i = 30 ∨ i = 31 ∨ i = 32) with rfl | rfl | rfl | rfl | rfl | rfl | rfl | rfl | rfl | rfl | rfl | rfl | rfl | rfl | rfl | rfl | rfl | rfl | rfl | rfl | rfl | rfl | rfl | rfl | rfl | rfl | rfl | rfl | rfl | rfl | rfl | rfl | rfl <;> exact (key _ h1).symm
  rw [e]
  exact h'
theorem replI_start (F : Nat → Value) (B : Nat) (SL : Value) (C0 : Array Value) (r : RJ) (SD : Int) (RB : List UInt8) (LR : (Dev × RJ) × Int) (ok : Nat → Prop) (Y : World) (a : Act) (x : World) (ha : ∃ v7 v8 v16 v17 v18 v19 v20 v21 v22 v23 v24 v25, a = ⟨#[(F 0), SL, .pointer (some ⟨B, 0, none⟩), (F 3), (F 4), (F 5), (F 6), v7, v8, (F 9), (F 10), (F 11), (F 12), (F 13), (F 14), (F 15), v16, v17, v18, v19, v20, v21, v22, v23, v24, v25, (F 26), (F 27), (F 28), (F 29), (F 30), (F 31), (F 32)], []⟩) (hb : Below Y.heap.size Y x) : replI F B SL C0 r SD RB LR ok Y (fun _ => false) a x := by
  obtain ⟨v7, v8, v16, v17, v18, v19, v20, v21, v22, v23, v24, v25, rfl⟩ := ha
  exact ⟨v7, v8, v16, v17, v18, v19, v20, v21, v22, v23, v24, v25, 0, #[], fun _ => False, rfl, hb, (fun q => by cases q), (fun q => by cases q), (fun q => by cases q), (fun q => by cases q), (fun q => by cases q), (fun q => by cases q), (fun q => by cases q), (fun q => by cases q), (fun q => by cases q), (fun q => by cases q), (fun q => by cases q), (fun q => by cases q), (fun q => by cases q), (fun q => by cases q), (fun q => by cases q), (fun q => by cases q), (fun q => by cases q), (fun q => by cases q), (fun q => by cases q), (fun q => by cases q), (fun q => by cases q)⟩


set_option maxHeartbeats 4000000 in
theorem refrepl_any (ok ok2 : Nat → Prop) (v : Value) (D : Dev) (r : RJ) (A : Option Addr) (c : Nat) (L : List (List UInt8)) (w : World) (hv : IsRJ w ok v D r) (hr : Rd w ok2 A (L.map str)) (hwf : D.Wf) (h2 : 2 ≤ D.sure.length) (hl : D.sure.length ≤ 4096) (hfew : D.Few 500000) (hlt : D.left ≤ 9223372036854775807) (hn : r.number ≤ 4611686018427387904) (hs : r.side ≤ 1) (hL : L.length ≤ 1000000000) (hsum : (recsB L).length ≤ 900000000) :
    Calls Try.prog 22 #[v, .slice A L.length c] w fun e w' => ∃ v', e = .returned (.tuple #[v', .int .i64 (replR D r L).2]) ∧ IsRJ w' (fun k => ok k ∨ w.heap.size ≤ k) v' (replR D r L).1.1 (replR D r L).1.2 ∧ Below w.heap.size w w' := by
  obtain ⟨C0, rfl, hdv⟩ := hv.cells
  have hC0 := hdv.size
  obtain ⟨W, hW⟩ : ∃ W, W = ((w.alloc (.cells (jc C0 r) 40)).alloc (.cells (jc zeroD rj0) 40)) := ⟨_, rfl⟩
  have hbW : Below w.heap.size w W := by rw [hW]; exact ((Below.refl _ _).alloc (Nat.le_refl _) _).alloc (by simp) _
  have hB0 : Blk W w.heap.size 40 (jc C0 r) := by rw [hW]; exact (Blk.new w _ _).alloc _
  have hZ0 : Blk W (w.heap.size + 1) 40 (jc zeroD rj0) := by
    have := Blk.new (w.alloc (.cells (jc C0 r) 40)) 40 (jc zeroD rj0)
    rw [World.size_alloc] at this
    rw [hW]; exact this
  have hV : IsDev W (fun k => ok k ∧ k < w.heap.size) (.agg C0) D := hdv.move (fun k hk hk2 => ⟨⟨hk, hk2⟩, hbW.block k hk2⟩)
  have hrd : Rd W ok2 A (L.map str) := hr.grow hbW
  have hmay : ∀ x : World, Below W.heap.size W x → Calls Try.prog 43 #[.agg (jc C0 r), .slice A L.length c] x fun e w' => e = .returned (.int .i64 (if r.broken then 3 else if fewLong L then 0 else 4)) ∧ Below x.heap.size x w' := fun x hx => refmay_any _ ok2 _ D r A c L x (IsRJ.of_cells (hV.frame (fun k _ hk => hx.block k hk)) r) (hrd.grow hx) (by omega)
  obtain ⟨M, hM⟩ : ∃ M : Int, M = if r.broken then 3 else if fewLong L then 0 else 4 := ⟨_, rfl⟩
  rw [← hM] at hmay
  have hj : (Try.prog.info? 40).map (·.size) = some (jc C0 r).size := by rw [jc_size hC0.1]; exact jn_info
  have q9 := hB0.cell 9
  rw [show (9 : Nat) = 8 + 1 from rfl, jc_tail hC0.1] at q9
  have q9' : W.cell? ⟨w.heap.size, 9, none⟩ = some (.int .i64 (r.side : Int)) := q9
  have q10 := hB0.cell 10
  rw [show (10 : Nat) = 8 + 2 from rfl, jc_tail hC0.1] at q10
  have q10' : W.cell? ⟨w.heap.size, 10, none⟩ = some (str r.data) := q10
  have HW := Lib.hid hW
  rw [jc_zero] at HW
  have HbW := Lib.hid hbW
  have HWs := Lib.hid hbW.size
  have HB := Lib.hid hB0
  have HZ := Lib.hid hZ0
  have HV := Lib.hid hV
  have HRd := Lib.hid hrd
  have HMay := Lib.hid hmay
  have HM := Lib.hid hM
  have Hj := Lib.hid hj
  have HQ9 := Lib.hid q9'
  have HQ10 := Lib.hid q10'
  have hC8 := Lib.hid hC0
  have Hwf := Lib.hid hwf
  have Hfew := Lib.hid hfew
  clear hW hbW hB0 hZ0 hV hrd hmay hM hj q9 q9' q10 q10' hC0 hdv hv hr hwf hfew
  by_cases hgo : M = 0
  · obtain hM0 := hgo
    have hbr : ¬ r.broken = true := fun h => by have := HM.out; rw [if_pos h] at this; omega
    have hfl : fewLong L := by
      by_cases hf : fewLong L
      · exact hf
      · have := HM.out; rw [if_neg hbr, if_neg hf] at this; omega
    have HFl := Lib.hid hfl
    obtain ⟨LR, hLR⟩ : ∃ LR, LR = layR D r (1 - r.side) 0 (recsB L) := ⟨_, rfl⟩
    obtain ⟨RB, hRB⟩ : ∃ RB, RB = recsB L := ⟨_, rfl⟩
    have hRBl : RB.length ≤ 900000000 := by rw [hRB]; exact hsum
    obtain ⟨SD, hSD⟩ : ∃ SD : Int, SD = ((1 - r.side : Nat) : Int) := ⟨_, rfl⟩
    have hsd : 1 - (r.side : Int) = SD := by omega
    have hsd2 : IntKind.i64.wrap SD = SD := by rw [hSD, IntKind.wrap_i64] <;> omega
    have hlie : ∀ x : World, Rd x ok2 A (L.map str) → Calls Try.prog 45 #[.slice A L.length c] x fun e w' => e = .returned (str RB) ∧ Below x.heap.size x w' := fun x hx => by
      rw [hRB]
      exact reflie_any ok2 A c L x hx (by omega) (by omega) (fun f hf => HFl.out f hf)
    have hlay : ∀ (okx : Nat → Prop) (x : World), IsRJ x okx (.agg (jc C0 r)) D r → Calls Try.prog 44 #[.agg (jc C0 r), .int .i64 SD, .int .i64 0, str RB] x fun e w' => ∃ v', e = .returned (.tuple #[v', .int .i64 LR.2]) ∧ IsRJ w' (fun k => okx k ∨ x.heap.size ≤ k) v' LR.1.1 LR.1.2 ∧ Below x.heap.size x w' := fun okx x hx => by
      rw [hLR, ← hRB, hSD]
      exact reflay_any okx _ D r (1 - r.side) 0 RB x hx Hwf.out h2 hl Hfew.out hlt hn (by omega) (by omega) (by omega)
    have hlen8 : LR.1.2.len = r.len := by rw [hLR]; exact layR_len _ _ _ _ _
    have htr0 : replR D r L = if LR.2 ≠ 0 then LR else ((LR.1.1, { LR.1.2 with len := L.length }), 0) := by
      unfold replR
      rw [if_neg hbr, if_neg (fun h => h hfl), ← hLR]
    have HLie := Lib.hid hlie
    have HLay := Lib.hid hlay
    have HLen8 := Lib.hid hlen8
    have HTr0 := Lib.hid htr0
    clear hlie hlay hlen8 htr0 hfl hbr hLR hRB hSD
    go_enter Try.func22, Try.ntmps22
    go_upto_region 1 with (fail)
    rw [← HW.out]
    go_wp2_with (refine wpList_load_row rfl 40 (.tmp 2) rfl w.heap.size rfl 40 (jc C0 r) (0, 0) _ HB.out Try.underlying40 rfl Hj.out ?_)
    refine (HMay.out W (Below.refl _ _)).mono ?_
    rintro e x1 ⟨rfl, hb1⟩
    have HY1 := Lib.hid (HB.out.grow hb1)
    have hbs1 := hb1.size
    have HY2 := Lib.hid (HZ.out.grow hb1)
    have Hb1 := Lib.hid hb1
    clear hb1
    go_upto_region 4 with fail
    go_cut [7, 8] (fun p q wx => ∃ (g : Nat) (C8 : Array Value) (okP : Nat → Prop), p = .pointer (some ⟨g, 0, none⟩) ∧ q = .int .i64 LR.2 ∧ W.heap.size ≤ g ∧ Blk wx g 40 (jc C8 LR.1.2) ∧ IsDev wx okP (.agg C8) LR.1.1 ∧ (∀ k, okP k → ((ok k ∧ k < w.heap.size) ∨ W.heap.size ≤ k) ∧ k < wx.heap.size) ∧ ¬ okP g ∧ Below W.heap.size W wx)
    case first =>
      refine wp_frame33 rfl rfl (fun F hF => ?_)
      apply wp_region_inv (I := replI F w.heap.size (.slice A L.length c) C0 r SD RB LR (fun k => ok k ∧ k < w.heap.size) W)
      case hm => kernel_rfl
      case ho => kernel_rfl
      case h0 => subst hF; exact replI_start _ w.heap.size (.slice A L.length c) C0 r SD RB LR (fun k => ok k ∧ k < w.heap.size) W _ _ ⟨_, _, _, _, _, _, _, _, _, _, _, _, rfl⟩ Hb1.out.drew
      case hstep =>
        clear hF
        intro i' o hi d a x hd hpre hI K hK
        obtain ⟨v7, v8, v16, v17, v18, v19, v20, v21, v22, v23, v24, v25, g, C8, okP, rfl, hb, h0, h1, h2, h3, h4, h5, h6, hD, hok, hno, h7, h8, h9, h10, h12, k7_6, k8_6, k9_6, k11_10, k11_6, k12_6⟩ := hI
        have hlt := (Array.getElem?_eq_some_iff.1 hi).1
        rcases repl_many hlt rfl with rfl | rfl | rfl | rfl | rfl | rfl | rfl | rfl | rfl | rfl | rfl | rfl | rfl
        all_goals (have ho := Option.some.inj hi; subst ho; clear hi hlt)
        · refine step_plain rfl (wp_load_row 40 (.tmp 2) rfl w.heap.size rfl 40 (jc C0 r) (0, 0) _ (HB.out.grow hb) Try.underlying40 rfl Hj.out (hK _ _ ?_))
          exact ⟨v7, v8, v16, _, v18, v19, v20, v21, v22, v23, v24, v25, g, C8, okP, rfl, hb, fun _ => rfl, h1, h2, h3, h4, h5, h6, hD, hok, hno, h7, h8, h9, h10, h12, k7_6, k8_6, k9_6, k11_10, k11_6, k12_6⟩
        · go_simp
          exact hK _ _ ⟨v7, v8, v16, v17, _, v19, v20, v21, v22, v23, v24, v25, g, C8, okP, rfl, hb, h0, fun _ => rfl, h2, h3, h4, h5, h6, hD, hok, hno, h7, h8, h9, h10, h12, k7_6, k8_6, k9_6, k11_10, k11_6, k12_6⟩
        · obtain rfl := h1 (hpre { on := 1, ground := Ground.data } (by simp) rfl)
          have q := (hb.cell (p := ⟨w.heap.size, 9, none⟩) (blk_lt' HB.out)).trans HQ9.out
          go_simp
          exact hK _ _ ⟨v7, v8, v16, v17, _, _, v20, v21, v22, v23, v24, v25, g, C8, okP, rfl, hb, h0, h1, fun _ => rfl, h3, h4, h5, h6, hD, hok, hno, h7, h8, h9, h10, h12, k7_6, k8_6, k9_6, k11_10, k11_6, k12_6⟩
        · obtain rfl := h2 (hpre { on := 2, ground := Ground.data } (by simp) rfl)
          go_simp
          exact hK _ _ ⟨v7, v8, v16, v17, v18, _, _, v21, v22, v23, v24, v25, g, C8, okP, rfl, hb, h0, h1, h2, fun _ => rfl, h4, h5, h6, hD, hok, hno, h7, h8, h9, h10, h12, k7_6, k8_6, k9_6, k11_10, k11_6, k12_6⟩
        · go_simp
          exact hK _ _ ⟨v7, v8, v16, v17, v18, v19, v20, _, v22, v23, v24, v25, g, C8, okP, rfl, hb, h0, h1, h2, h3, fun _ => rfl, h5, h6, hD, hok, hno, h7, h8, h9, h10, h12, k7_6, k8_6, k9_6, k11_10, k11_6, k12_6⟩
        · obtain rfl := h4 (hpre { on := 4, ground := Ground.data } (by simp) rfl)
          go_simp
          refine (HLie.out x (HRd.out.grow hb)).mono ?_
          rintro e x2 ⟨rfl, hb2⟩
          have hsame : ∀ k, k < x.heap.size → x2.heap[k]? = x.heap[k]? := fun k hk => hb2.block k hk
          go_simp
          exact hK _ _ ⟨v7, v8, v16, v17, v18, v19, v20, _, _, v23, v24, v25, g, C8, okP, rfl, (below_call hb hb2), h0, h1, h2, h3, h4, fun _ => rfl, h6, fun q => (hD q).frame (fun k _ hk => hsame k hk), fun q k hk => ⟨(hok q k hk).1, Nat.lt_of_lt_of_le (hok q k hk).2 hb2.size⟩, hno, h7, h8, h9, fun q => ⟨(h10 q).1, (h10 q).2.1, (h10 q).2.2.grow hb2⟩, h12, k7_6, k8_6, k9_6, k11_10, k11_6, k12_6⟩
        · obtain rfl := h0 (hpre { on := 0, ground := Ground.data } (by simp) rfl)
          obtain rfl := h3 (hpre { on := 3, ground := Ground.data } (by simp) rfl)
          obtain rfl := h5 (hpre { on := 5, ground := Ground.data } (by simp) rfl)
          go_simp
          have hdx : IsDev x (fun k => ok k ∧ k < w.heap.size) (.agg C0) D := HV.out.move (fun k hk hl => ⟨hk, hb.block k hl⟩)
          refine (HLay.out _ x (IsRJ.of_cells hdx r)).mono ?_
          rintro e x2 ⟨v', rfl, hrj, hb2⟩
          obtain ⟨C', rfl, hdev⟩ := hrj.cells
          have hdev2 : IsDev x2 (fun k => ((ok k ∧ k < w.heap.size) ∨ x.heap.size ≤ k) ∧ k < x2.heap.size) (.agg C') LR.1.1 := hdev.move (fun k hk hl => ⟨⟨hk, hl⟩, rfl⟩)
          go_simp
          exact hK _ _ ⟨v7, v8, v16, _, v18, v19, _, v21, _, _, v24, v25, g, C', (fun k => ((ok k ∧ k < w.heap.size) ∨ x.heap.size ≤ k) ∧ k < x2.heap.size), rfl, (below_call hb hb2), h0, h1, h2, h3, h4, h5, fun _ => rfl, fun _ => hdev2, fun _ k hk => ⟨hk.1.elim (fun q => Or.inl q) (fun q => Or.inr (Nat.le_trans hb.size q)), hk.2⟩, fun _ q hk => hk.1.elim (fun y => by have := (h10 q).2.1; have := HWs.out; have := y.2; omega) (fun y => by have := blk_lt' (h10 q).2.2; omega), (fun q => by have := k7_6 q; rw [hd] at this; cases this), (fun q => by have := k8_6 q; rw [hd] at this; cases this), (fun q => by have := k9_6 q; rw [hd] at this; cases this), fun q => ⟨(h10 q).1, (h10 q).2.1, (by have h := (h10 q).2.2; rw [if_neg (fun y => by have := k11_6 y; rw [hd] at this; cases this)] at h; rw [if_neg (fun y => by have := k11_6 y; rw [hd] at this; cases this)]; exact h.grow hb2)⟩, (fun q => by have := k12_6 q; rw [hd] at this; cases this), fun _ => rfl, fun _ => rfl, fun _ => rfl, k11_10, fun _ => rfl, fun _ => rfl⟩
        · obtain rfl := h6 (hpre { on := 6, ground := Ground.data } (by simp) rfl)
          go_simp
          exact hK _ _ ⟨v7, v8, _, v17, v18, v19, v20, v21, v22, _, v24, v25, g, C8, okP, rfl, hb, h0, h1, h2, h3, h4, h5, h6, hD, hok, hno, fun _ => rfl, h8, h9, h10, h12, fun _ => (hpre { on := 6, ground := Ground.data } (by simp) rfl), k8_6, k9_6, k11_10, k11_6, k12_6⟩
        · obtain rfl := h7 (hpre { on := 7, ground := Ground.data } (by simp) rfl)
          go_simp
          exact hK _ _ ⟨v7, v8, _, v17, v18, v19, v20, v21, v22, v23, _, v25, g, C8, okP, rfl, hb, h0, h1, h2, h3, h4, h5, h6, hD, hok, hno, h7, fun _ => rfl, h9, h10, h12, k7_6, fun _ => k7_6 (hpre { on := 7, ground := Ground.data } (by simp) rfl), k9_6, k11_10, k11_6, k12_6⟩
        · obtain rfl := h7 (hpre { on := 7, ground := Ground.data } (by simp) rfl)
          go_simp
          exact hK _ _ ⟨v7, v8, _, v17, v18, v19, v20, v21, v22, v23, v24, _, g, C8, okP, rfl, hb, h0, h1, h2, h3, h4, h5, h6, hD, hok, hno, h7, h8, fun _ => rfl, h10, h12, k7_6, k8_6, fun _ => k7_6 (hpre { on := 7, ground := Ground.data } (by simp) rfl), k11_10, k11_6, k12_6⟩
        · go_simp
          exact hK _ _ ⟨.pointer (some ⟨x.heap.size, 0, none⟩), v8, v16, v17, v18, v19, v20, v21, v22, v23, v24, v25, x.heap.size, C8, okP, rfl, (hb.alloc hb.size _), h0, h1, h2, h3, h4, h5, h6, fun q => (hD q).frame (fun k _ hk => Below.heap_alloc _ _ _ hk), fun q k hk => ⟨(hok q k hk).1, by have := (hok q k hk).2; rw [World.size_alloc]; omega⟩, fun q _ hk => by have := (hok q _ hk).2; omega, h7, h8, h9, fun _ => ⟨rfl, hb.size, by rw [if_neg (fun q => by have q2 := k11_10 q; rw [hd] at q2; cases q2)]; exact Blk.new x _ _⟩, h12, k7_6, k8_6, k9_6, fun _ => rfl, k11_6, k12_6⟩
        · have d22 := (hpre { on := 10, ground := Ground.data } (by simp) rfl)
          have d20 := (hpre { on := 8, ground := Ground.data } (by simp) rfl)
          have d18 := k8_6 d20
          obtain rfl := h8 d20
          obtain ⟨rfl, hg, hblk⟩ := h10 d22
          rw [if_neg (by rw [hd]; decide)] at hblk
          have hsz := (hD d18).size
          refine step_plain rfl (wp_store_row 40 (.tmp 7) (.tmp 24) rfl g (jc C8 LR.1.2) rfl rfl 40 (jc zeroD rj0) hblk (by rw [jc_size hsz.1]; exact jn_info) (by rw [jc_size hsz.1]; rfl) (jc_one hsz.2) (hK _ _ ?_))
          exact ⟨_, v8, v16, v17, v18, v19, v20, v21, v22, v23, _, v25, g, C8, okP, rfl, (below_setRow hb hg _), h0, h1, h2, h3, h4, h5, h6, fun q => (hD q).frame (fun k hk _ => setRow_other _ _ _ _ (fun e => hno q d22 (e ▸ hk))), fun q k hk => ⟨(hok q k hk).1, by have := (hok q k hk).2; simpa using this⟩, hno, h7, h8, h9, fun _ => ⟨rfl, hg, hblk.setRow_ _⟩, h12, k7_6, k8_6, k9_6, fun _ => d22, fun _ => d18, k12_6⟩
        · obtain rfl := h9 (hpre { on := 9, ground := Ground.data } (by simp) rfl)
          go_simp
          exact hK _ _ ⟨v7, _, v16, v17, v18, v19, v20, v21, v22, v23, v24, _, g, C8, okP, rfl, hb, h0, h1, h2, h3, h4, h5, h6, hD, hok, hno, h7, h8, h9, h10, fun _ => rfl, k7_6, k8_6, k9_6, k11_10, k11_6, fun _ => k9_6 (hpre { on := 9, ground := Ground.data } (by simp) rfl)⟩
      case hend =>
        intro d a x hall hI
        obtain ⟨v7, v8, v16, v17, v18, v19, v20, v21, v22, v23, v24, v25, g, C8, okP, rfl, hb, h0, h1, h2, h3, h4, h5, h6, hD, hok, hno, h7, h8, h9, h10, h12, k7_6, k8_6, k9_6, k11_10, k11_6, k12_6⟩ := hI
        obtain ⟨rfl, hg, b12⟩ := h10 (hall 10 (by decide))
        rw [if_pos (hall 11 (by decide))] at b12
        obtain rfl := h12 (hall 12 (by decide))
        have dD := hD (hall 6 (by decide))
        have dok := hok (hall 6 (by decide))
        have dno := hno (hall 6 (by decide)) (hall 10 (by decide))
        have B12 := Lib.hid b12
        have DD := Lib.hid dD
        have DK := Lib.hid dok
        have DN := Lib.hid dno
        have Hg := Lib.hid hg
        clear h0 h1 h2 h3 h4 h5 h6 hD hok hno h7 h8 h9 h10 h12 k7_6 k8_6 k9_6 k11_10 k11_6 k12_6 hall b12 dD dok dno hg
        subst hF
        dsimp only
        go_wp2_with fail
        go_meet
        exact ⟨_, _, _, rfl, rfl, Hg.out, B12.out, DD.out, DK.out, DN.out, hb⟩
    case rest =>
      obtain ⟨g, C8, okP, rfl, rfl, hg, hblk, hdev, hokP, hno, hbx⟩ := hcut
      have hW1 := blk_lt' HZ.out
      have c2 := HZ.out.grow hbx
      have c5 := below_call HbW.out hbx
      have cz := hdev.size
      have c6 : ∀ k, okP k → (ok k ∨ w.heap.size ≤ k) ∧ k ≠ w.heap.size + 1 := fun k hk => by
        rcases (hokP k hk).1 with h | h
        · exact ⟨Or.inl h.1, by omega⟩
        · exact ⟨Or.inr (by omega), by omega⟩
      by_cases hE0 : LR.2 = 0
      · rw [hE0]
        have htr := HTr0.out
        rw [if_neg (by rw [hE0]; decide)] at htr
        obtain ⟨r2, hr2⟩ : ∃ r2 : RJ, r2 = { LR.1.2 with len := L.length } := ⟨_, rfl⟩
        rw [← hr2] at htr
        obtain ⟨x5, hx5⟩ : ∃ x5, x5 = wc.setCell ⟨g, 11, none⟩ (.int .i64 ((L.length : Int))) := ⟨_, rfl⟩
        have c1 : Blk x5 g 40 (jc C8 r2) := by
          have := hblk.set_ 11 (.int .i64 ((L.length : Nat) : Int))
          rw [jc_st11 cz.1, ← hr2] at this
          rw [hx5]
          exact this
        have c2' : Blk x5 (w.heap.size + 1) 40 (jc zeroD rj0) := by rw [hx5]; exact c2.far (p := ⟨g, 11, none⟩) (by show w.heap.size + 1 ≠ g; omega) _
        have c4 : IsDev x5 okP (.agg C8) LR.1.1 := hdev.frame (fun k hk _ => by rw [hx5]; exact heap_setCell_other _ _ _ _ (fun e => hno ((show k = g from e) ▸ hk)))
        have c5' : Below w.heap.size w x5 := by rw [hx5]; exact c5.setCell (p := ⟨g, 11, none⟩) (by show w.heap.size ≤ g; omega) _
        have q11 := hblk.cell 11
        rw [show (11 : Nat) = 8 + 3 from rfl, jc_tail cz.1] at q11
        have q11' : wc.cell? ⟨g, 11, none⟩ = some (.int .i64 (LR.1.2.len : Int)) := q11
        have f11 := hblk.frozen 11
        have HX5 := Lib.hid hx5
        clear q11 hx5 hr2 hdev hokP hno hbx hblk c2 c5 hE0
        have c2 := c2'
        have c5 := c5'
        clear c2' c5'
        obtain ⟨x6, hx6⟩ : ∃ x6, x6 = x5.setRow (w.heap.size + 1) (jc C8 r2) := ⟨_, rfl⟩
        have d2 : Blk x6 (w.heap.size + 1) 40 (jc C8 r2) := by rw [hx6]; exact c2.setRow_ _
        have d4 : IsDev x6 (fun k => ok k ∨ w.heap.size ≤ k) (.agg C8) LR.1.1 := by rw [hx6]; exact c4.move (fun k hk _ => ⟨(c6 k hk).1, setRow_other _ _ _ _ (c6 k hk).2⟩)
        have d5 : Below w.heap.size w x6 := by rw [hx6]; exact below_setRow c5 (by omega) _
        have hj6 : (Try.prog.info? 40).map (·.size) = some (jc C8 r2).size := by rw [jc_size cz.1]; exact jn_info
        have ho : (jc zeroD rj0).size = (jc C8 r2).size := by rw [jc_size cz.1]; rfl
        have hone : (jc C8 r2).all (·.oneCell') = true := jc_one cz.2
        have Htr := Lib.hid htr
        have HX6 := Lib.hid hx6
        have C1 := Lib.hid c1
        have C2 := Lib.hid c2
        have D2 := Lib.hid d2
        have D4 := Lib.hid d4
        have D5 := Lib.hid d5
        have Hj6 := Lib.hid hj6
        have Ho := Lib.hid ho
        have Hone := Lib.hid hone
        clear htr hx6 c1 c2 c4 c5 c6 cz d2 d4 d5 hj6 ho hone
        go_wp2_with (first | (rw [← HX5.out]; refine wpList_load_row rfl 40 (.tmp 7) rfl g rfl 40 (jc C8 r2) (0, 0) _ C1.out Try.underlying40 rfl Hj6.out ?_) | (refine wpList_store_row rfl 40 (.tmp 4) (.tmp 31) rfl (w.heap.size + 1) (jc C8 r2) rfl rfl 40 (jc zeroD rj0) C2.out Hj6.out Ho.out Hone.out ?_; rw [← HX6.out]))
        refine bodyPost_ret (v := .tuple #[.agg (jc C8 r2), .int .i64 0]) (results_cell_tmp Try.results22 _ _ (w.heap.size + 1) 40 (jc C8 r2) (0, 0) _ _ rfl rfl D2.out Try.underlying40 rfl Hj6.out) rfl ⟨.agg (jc C8 r2), by rw [Htr.out], ?_, D5.out⟩
        rw [Htr.out]
        exact IsRJ.of_cells D4.out r2
      · have hq0 : (LR.2 == 0) = false := beq_eq_false_iff_ne.2 hE0
        have htr := HTr0.out
        rw [if_pos hE0] at htr
        have htr : replR D r L = ((LR.1.1, LR.1.2), LR.2) := htr
        have c1 := hblk
        have c4 := hdev
        obtain ⟨r2, hr2⟩ : ∃ r2 : RJ, r2 = LR.1.2 := ⟨_, rfl⟩
        rw [← hr2] at htr c1
        clear hr2 hblk hdev hokP hno hbx
        obtain ⟨x6, hx6⟩ : ∃ x6, x6 = wc.setRow (w.heap.size + 1) (jc C8 r2) := ⟨_, rfl⟩
        have d2 : Blk x6 (w.heap.size + 1) 40 (jc C8 r2) := by rw [hx6]; exact c2.setRow_ _
        have d4 : IsDev x6 (fun k => ok k ∨ w.heap.size ≤ k) (.agg C8) LR.1.1 := by rw [hx6]; exact c4.move (fun k hk _ => ⟨(c6 k hk).1, setRow_other _ _ _ _ (c6 k hk).2⟩)
        have d5 : Below w.heap.size w x6 := by rw [hx6]; exact below_setRow c5 (by omega) _
        have hj6 : (Try.prog.info? 40).map (·.size) = some (jc C8 r2).size := by rw [jc_size cz.1]; exact jn_info
        have ho : (jc zeroD rj0).size = (jc C8 r2).size := by rw [jc_size cz.1]; rfl
        have hone : (jc C8 r2).all (·.oneCell') = true := jc_one cz.2
        have Htr := Lib.hid htr
        have HX6 := Lib.hid hx6
        have C1 := Lib.hid c1
        have C2 := Lib.hid c2
        have D2 := Lib.hid d2
        have D4 := Lib.hid d4
        have D5 := Lib.hid d5
        have Hj6 := Lib.hid hj6
        have Ho := Lib.hid ho
        have Hone := Lib.hid hone
        clear htr hx6 c1 c2 c4 c5 c6 cz d2 d4 d5 hj6 ho hone
        go_wp2_with (first | (refine wpList_load_row rfl 40 (.tmp 7) rfl g rfl 40 (jc C8 r2) (0, 0) _ C1.out Try.underlying40 rfl Hj6.out ?_) | (refine wpList_store_row rfl 40 (.tmp 4) (.tmp 31) rfl (w.heap.size + 1) (jc C8 r2) rfl rfl 40 (jc zeroD rj0) C2.out Hj6.out Ho.out Hone.out ?_; rw [← HX6.out]))
        refine bodyPost_ret (v := .tuple #[.agg (jc C8 r2), .int .i64 LR.2]) (results_cell_tmp Try.results22 _ _ (w.heap.size + 1) 40 (jc C8 r2) (0, 0) _ _ rfl rfl D2.out Try.underlying40 rfl Hj6.out) rfl ⟨.agg (jc C8 r2), by rw [Htr.out], ?_, D5.out⟩
        rw [Htr.out]
        exact IsRJ.of_cells D4.out r2
  · have htr : replR D r L = ((D, r), M) := by
      unfold replR
      rw [HM.out]
      by_cases hb : r.broken = true
      · rw [if_pos hb, if_pos hb]
      · rw [if_neg hb, if_neg hb]
        by_cases hf : fewLong L
        · rw [if_pos hf, if_neg (fun h => h hf)]
          exact absurd (by rw [HM.out, if_neg hb, if_pos hf]) hgo
        · rw [if_neg hf, if_pos hf]
    have Htr0 := Lib.hid htr
    clear htr
    have hM1 : (M != 0) = true := bne_iff_ne.2 hgo
    go_enter Try.func22, Try.ntmps22
    go_upto_region 1 with (fail)
    rw [← HW.out]
    go_wp2_with (refine wpList_load_row rfl 40 (.tmp 2) rfl w.heap.size rfl 40 (jc C0 r) (0, 0) _ HB.out Try.underlying40 rfl Hj.out ?_)
    refine (HMay.out W (Below.refl _ _)).mono ?_
    rintro e x1 ⟨rfl, hb1⟩
    have cz := hC8.out
    have c1 := HB.out.grow hb1
    have c2 := HZ.out.grow hb1
    have c4 : IsDev x1 (fun k => ok k ∧ k < w.heap.size) (.agg C0) D := HV.out.frame (fun k _ hk => hb1.block k hk)
    have c5 := below_call HbW.out hb1
    have c6 : ∀ k, (ok k ∧ k < w.heap.size) → (ok k ∨ w.heap.size ≤ k) ∧ k ≠ w.heap.size + 1 := fun k hk => ⟨Or.inl hk.1, by omega⟩
    have htr := Htr0.out
    obtain ⟨x6, hx6⟩ : ∃ x6, x6 = x1.setRow (w.heap.size + 1) (jc C0 r) := ⟨_, rfl⟩
    have d2 : Blk x6 (w.heap.size + 1) 40 (jc C0 r) := by rw [hx6]; exact c2.setRow_ _
    have d4 : IsDev x6 (fun k => ok k ∨ w.heap.size ≤ k) (.agg C0) D := by rw [hx6]; exact c4.move (fun k hk _ => ⟨(c6 k hk).1, setRow_other _ _ _ _ (c6 k hk).2⟩)
    have d5 : Below w.heap.size w x6 := by rw [hx6]; exact below_setRow c5 (by omega) _
    have hj6 : (Try.prog.info? 40).map (·.size) = some (jc C0 r).size := by rw [jc_size cz.1]; exact jn_info
    have ho : (jc zeroD rj0).size = (jc C0 r).size := by rw [jc_size cz.1]; rfl
    have hone : (jc C0 r).all (·.oneCell') = true := jc_one cz.2
    have Htr := Lib.hid htr
    have HX6 := Lib.hid hx6
    have C1 := Lib.hid c1
    have C2 := Lib.hid c2
    have D2 := Lib.hid d2
    have D4 := Lib.hid d4
    have D5 := Lib.hid d5
    have Hj6 := Lib.hid hj6
    have Ho := Lib.hid ho
    have Hone := Lib.hid hone
    clear htr hx6 c1 c2 c4 c5 c6 cz d2 d4 d5 hj6 ho hone hb1
    go_wp2_with (first | (refine wpList_load_row rfl 40 (.tmp 2) rfl w.heap.size rfl 40 (jc C0 r) (0, 0) _ C1.out Try.underlying40 rfl Hj6.out ?_) | (refine wpList_store_row rfl 40 (.tmp 4) (.tmp 14) rfl (w.heap.size + 1) (jc C0 r) rfl rfl 40 (jc zeroD rj0) C2.out Hj6.out Ho.out Hone.out ?_; rw [← HX6.out]))
    refine bodyPost_ret (v := .tuple #[.agg (jc C0 r), .int .i64 M]) (results_cell_tmp Try.results22 _ _ (w.heap.size + 1) 40 (jc C0 r) (0, 0) _ _ rfl rfl D2.out Try.underlying40 rfl Hj6.out) rfl ⟨.agg (jc C0 r), by rw [Htr.out], ?_, D5.out⟩
    rw [Htr.out]
    exact IsRJ.of_cells D4.out r
end Go.Proofs.Ytiaabgmmmekpnaa

namespace Go.Proofs.Ytiaabgmmmekpnaa
open Go.RowKit
set_option maxRecDepth 100000

/-- What the document's Open answers, where the power is on. -/
def openR (D : Dev) : (Dev × RJ) × (List (List UInt8) × Int) :=
  if (curT D).1 = 0 then ((tellR D rj0 1 0 []).1, ([], (tellR D rj0 1 0 []).2))
  else ((D, ⟨(curT D).1, (curT D).2.1, useB D (curT D).2.1 (curT D).2.2 0, (recsOf (useB D (curT D).2.1 (curT D).2.2 0)).1.length, false⟩), ((recsOf (useB D (curT D).2.1 (curT D).2.2 0)).1, ((recsOf (useB D (curT D).2.1 (curT D).2.2 0)).2 : Int)))
theorem curK_zero (D : Dev) (k : Nat) (h : (curK D k).1 = 0) : curK D k = (0, 0, 0) := by
  induction k with
  | zero => rfl
  | succ k ih =>
    unfold curK at h ⊢
    split
    · rename_i hlt
      rw [if_pos hlt] at h
      omega
    · rename_i hlt
      rw [if_neg hlt] at h
      exact ih h
theorem results_cell_tmp2 {P : Program} {fn : Func} {p q q2 : Tmp} {ty : TypeId} (h : fn.results = #[.cell p ty, .tmp q, .tmp q2]) (tmps : Array Value) (w : World) (g : Nat) (t : TypeId) (cs : Array Value) (fr : Nat × Nat) (d : TypeDesc) (v v2 : Value)
    (hp : tmps.getD p undef = .pointer (some ⟨g, 0, none⟩)) (hq : tmps.getD q undef = v) (hq2 : tmps.getD q2 undef = v2) (hg : w.heap[g]? = some (.cells cs t fr))
    (hu : P.underlying ty = some d) (hd : (match d with | .struct _ | .array _ _ => true | _ => false) = true) (hi : (P.info? ty).map (·.size) = some cs.size) :
    (results fn tmps).run P w = .ok (.tuple #[.agg cs, v, v2]) w := by
  have hp' : tmps[p]?.getD undef = .pointer (some ⟨g, 0, none⟩) := by simpa using hp
  have hq' : tmps[q]?.getD undef = v := by simpa using hq
  have hq2' : tmps[q2]?.getD undef = v2 := by simpa using hq2
  simp [results, h, hp', hq', hq2', asAddr, run_loadVar_row w g t ty cs fr d hg hu hd hi]
/-- What stands in this region, whatever has been done of it. -/
def op1I (F : Nat → Value) (B k : Nat) (DC : Array Value) (NB : List UInt8) (RM : Int) (T : Nat × Nat × Nat) (Y : World) (d : Nat → Bool) (a : Act) (x : World) : Prop :=
  ∃ (v8 v9 v10 v26 v27 v28 v29 v30 v31 v32 v33 v34 v35 : Value), a = ⟨#[(F 0), .pointer (some ⟨B, 0, none⟩), (F 2), (F 3), (F 4), (F 5), (F 6), .int .i64 (k : Int), v8, v9, v10, (F 11), (F 12), (F 13), (F 14), (F 15), (F 16), (F 17), (F 18), (F 19), (F 20), (F 21), (F 22), (F 23), (F 24), (F 25), v26, v27, v28, v29, v30, v31, v32, v33, v34, v35, (F 36), (F 37), (F 38), (F 39), (F 40), (F 41), (F 42), (F 43), (F 44), (F 45), (F 46), (F 47), (F 48), (F 49), (F 50), (F 51), (F 52), (F 53), (F 54), (F 55), (F 56), (F 57), (F 58), (F 59), (F 60), (F 61), (F 62), (F 63), (F 64), (F 65), (F 66), (F 67), (F 68), (F 69), (F 70), (F 71), (F 72), (F 73), (F 74), (F 75), (F 76), (F 77), (F 78), (F 79), (F 80), (F 81), (F 82), (F 83), (F 84), (F 85), (F 86), (F 87), (F 88)], []⟩ ∧ Below Y.heap.size Y x ∧
    (d 0 = true → v27 = .agg DC) ∧
    (d 1 = true → v28 = .int .i64 (k : Int)) ∧
    (d 2 = true → v29 = str NB) ∧
    (d 3 = true → v30 = .agg DC) ∧
    (d 4 = true → v31 = .int .i64 RM) ∧
    (d 5 = true → v32 = .tuple #[.int .u64 (T.1 : Int), .int .i64 (T.2.1 : Int), .int .i64 (T.2.2 : Int)]) ∧
    (d 6 = true → v26 = .tuple #[.int .u64 (T.1 : Int), .int .i64 (T.2.1 : Int), .int .i64 (T.2.2 : Int)]) ∧
    (d 7 = true → v33 = .int .u64 (T.1 : Int)) ∧
    (d 8 = true → v34 = .int .i64 (T.2.1 : Int)) ∧
    (d 9 = true → v35 = .int .i64 (T.2.2 : Int)) ∧
    (d 10 = true → v8 = .int .u64 (T.1 : Int)) ∧
    (d 11 = true → v9 = .int .i64 (T.2.1 : Int)) ∧
    (d 12 = true → v10 = .int .i64 (T.2.2 : Int))
theorem op1_many {k n : Nat} (h : k < n) (hn : n = 13) : k = 0 ∨ k = 1 ∨ k = 2 ∨ k = 3 ∨ k = 4 ∨ k = 5 ∨ k = 6 ∨ k = 7 ∨ k = 8 ∨ k = 9 ∨ k = 10 ∨ k = 11 ∨ k = 12 := by omega
theorem wp_frame89 {P : Program} {Q : Exit → Act → World → Prop} {c : Code} {a : Act} {w : World} (hs : a.tmps.size = 89) (hd : a.defers = []) (h : ∀ F : Nat → Value, F = (fun i => a.tmps.getD i undef) → c.wp P Q ⟨#[F 0, F 1, F 2, F 3, F 4, F 5, F 6, F 7, F 8, F 9, F 10, F 11, F 12, F 13, F 14, F 15, F 16, F 17, F 18, F 19, F 20, F 21, F 22, F 23, F 24, F 25, F 26, F 27, F 28, F 29, F 30, F 31, F 32, F 33, F 34, F 35, F 36, F 37, F 38, F 39, F 40, F 41, F 42, F 43, F 44, F 45, F 46, F 47, F 48, F 49, F 50, F 51, F 52, F 53, F 54, F 55, F 56, F 57, F 58, F 59, F 60, F 61, F 62, F 63, F 64, F 65, F 66, F 67, F 68, F 69, F 70, F 71, F 72, F 73, F 74, F 75, F 76, F 77, F 78, F 79, F 80, F 81, F 82, F 83, F 84, F 85, F 86, F 87, F 88], []⟩ w) : c.wp P Q a w := by
  have h' := h _ rfl
  obtain ⟨A, de⟩ := a
  cases hd
  have e : A = #[A.getD 0 undef, A.getD 1 undef, A.getD 2 undef, A.getD 3 undef, A.getD 4 undef, A.getD 5 undef, A.getD 6 undef, A.getD 7 undef, A.getD 8 undef, A.getD 9 undef, A.getD 10 undef, A.getD 11 undef, A.getD 12 undef, A.getD 13 undef, A.getD 14 undef, A.getD 15 undef, A.getD 16 undef, A.getD 17 undef, A.getD 18 undef, A.getD 19 undef, A.getD 20 undef, A.getD 21 undef, A.getD 22 undef, A.getD 23 undef, A.getD 24 undef, A.getD 25 undef, A.getD 26 undef, A.getD 27 undef, A.getD 28 undef, A.getD 29 undef, A.getD 30 undef, A.getD 31 undef, A.getD 32 undef, A.getD 33 undef, A.getD 34 undef, A.getD 35 undef, A.getD 36 undef, A.getD 37 undef, A.getD 38 undef, A.getD 39 undef, A.getD 40 undef, A.getD 41 undef, A.getD 42 undef, A.getD 43 undef, A.getD 44 undef, A.getD 45 undef, A.getD 46 undef, A.getD 47 undef, A.getD 48 undef, A.getD 49 undef, A.getD 50 undef, A.getD 51 undef, A.getD 52 undef, A.getD 53 undef, A.getD 54 undef, A.getD 55 undef, A.getD 56 undef, A.getD 57 undef, A.getD 58 undef, A.getD 59 undef, A.getD 60 undef, A.getD 61 undef, A.getD 62 undef, A.getD 63 undef, A.getD 64 undef, A.getD 65 undef, A.getD 66 undef, A.getD 67 undef, A.getD 68 undef, A.getD 69 undef, A.getD 70 undef, A.getD 71 undef, A.getD 72 undef, A.getD 73 undef, A.getD 74 undef, A.getD 75 undef, A.getD 76 undef, A.getD 77 undef, A.getD 78 undef, A.getD 79 undef, A.getD 80 undef, A.getD 81 undef, A.getD 82 undef, A.getD 83 undef, A.getD 84 undef, A.getD 85 undef, A.getD 86 undef, A.getD 87 undef, A.getD 88 undef] := by
    apply Array.ext
    · exact hs
    · intro i h1 h2
      have hs' : A.size = 89 := hs
      have h3 : i < 89 := by omega
      have key : ∀ k : Nat, (hk : k < A.size) → A.getD k undef = A[k] := fun k hk => by simp [Array.getD, hk]
      rcases (by omega : i = 0 ∨ i = 1 ∨ i = 2 ∨ i = 3 ∨ i = 4 ∨ i = 5 ∨ i = 6 ∨ i = 7 ∨ i = 8 ∨ i = 9 ∨ i = 10 ∨ i = 11 ∨ i = 12 ∨ i = 13 ∨ i = 14 ∨ i = 15 ∨ i = 16 ∨ i = 17 ∨ i = 18 ∨ i = 19 ∨ i = 20 ∨ i = 21 ∨ i = 22 ∨ i = 23 ∨ i = 24 ∨ i = 25 ∨ i = 26 ∨ i = 27 ∨ i = 28 ∨ i = 29 ∨ i = 30 ∨ i = 31 ∨ i = 32 ∨ i = 33 ∨ i = 34 ∨ i = 35 ∨ i = 36 ∨ i = 37 ∨ i = 38 ∨ i = 39 ∨ i = 40 ∨ i = 41 ∨ i = 42 ∨ i = 43 ∨ i = 44 ∨ i = 45 ∨ i = 46 ∨ i = 47 ∨ i = 48 ∨ i = 49 ∨ i = 50 ∨ i = 51 ∨ i = 52 ∨ i = 53 ∨ i = 54 ∨ i = 55 ∨ i = 56 ∨ i = 57 ∨ i = 58 ∨ i = 59 ∨ i = 60 ∨ i = 61 ∨ i = 62 ∨ i = 63 ∨ i = 64 ∨ i = 65 ∨ i = 66 ∨ i = 67 ∨ i = 68 ∨ i = 69 ∨ i = 70 ∨ i = 71 ∨ i = 72 ∨ i = 73 ∨ i = 74 ∨ i = 75 ∨ i = 76 ∨ i = 77 ∨ i = 78 ∨ i = 79 ∨ i = 80 ∨ i = 81 ∨ i = 82 ∨ i = 83 ∨ i = 84 ∨ i = 85 ∨ i = 86 ∨ i = 87 ∨ i = 88) with rfl | rfl | rfl | rfl | rfl | rfl | rfl | rfl | rfl | rfl | rfl | rfl | rfl | rfl | rfl | rfl | rfl | rfl | rfl | rfl | rfl | rfl | rfl | rfl | rfl | rfl | rfl | rfl | rfl | rfl | rfl | rfl | rfl | rfl | rfl | rfl | rfl | rfl | rfl | rfl | rfl | rfl | rfl | rfl | rfl | rfl | rfl | rfl | rfl | rfl | rfl | rfl | rfl | rfl | rfl | rfl | rfl | rfl | rfl | rfl | rfl | rfl | rfl | rfl | rfl | rfl | rfl | rfl | rfl | rfl | rfl | rfl | rfl | rfl | rfl | rfl | rfl | rfl | rfl | rfl | rfl | rfl | rfl | rfl | rfl | rfl | rfl | rfl | rfl <;> exact (key _ h1).symm
  rw [e]
  exact h' 
theorem op1I_start (F : Nat → Value) (B k : Nat) (DC : Array Value) (NB : List UInt8) (RM : Int) (T : Nat × Nat × Nat) (Y : World) (a : Act) (x : World) (ha : ∃ v8 v9 v10 v26 v27 v28 v29 v30 v31 v32 v33 v34 v35, a = ⟨#[(F 0), .pointer (some ⟨B, 0, none⟩), (F 2), (F 3), (F 4), (F 5), (F 6), .int .i64 (k : Int), v8, v9, v10, (F 11), (F 12), (F 13), (F 14), (F 15), (F 16), (F 17), (F 18), (F 19), (F 20), (F 21), (F 22), (F 23), (F 24), (F 25), v26, v27, v28, v29, v30, v31, v32, v33, v34, v35, (F 36), (F 37), (F 38), (F 39), (F 40), (F 41), (F 42), (F 43), (F 44), (F 45), (F 46), (F 47), (F 48), (F 49), (F 50), (F 51), (F 52), (F 53), (F 54), (F 55), (F 56), (F 57), (F 58), (F 59), (F 60), (F 61), (F 62), (F 63), (F 64), (F 65), (F 66), (F 67), (F 68), (F 69), (F 70), (F 71), (F 72), (F 73), (F 74), (F 75), (F 76), (F 77), (F 78), (F 79), (F 80), (F 81), (F 82), (F 83), (F 84), (F 85), (F 86), (F 87), (F 88)], []⟩) (hb : Below Y.heap.size Y x) : op1I F B k DC NB RM T Y (fun _ => false) a x := by
  obtain ⟨v8, v9, v10, v26, v27, v28, v29, v30, v31, v32, v33, v34, v35, rfl⟩ := ha
  exact ⟨v8, v9, v10, v26, v27, v28, v29, v30, v31, v32, v33, v34, v35, rfl, hb, (fun q => by cases q), (fun q => by cases q), (fun q => by cases q), (fun q => by cases q), (fun q => by cases q), (fun q => by cases q), (fun q => by cases q), (fun q => by cases q), (fun q => by cases q), (fun q => by cases q), (fun q => by cases q), (fun q => by cases q), (fun q => by cases q)⟩

/-- What stands in this region, whatever has been done of it. -/
def op2I (F : Nat → Value) (B s : Nat) (DC : Array Value) (RM NN M1 M2 : Int) (Y : World) (d : Nat → Bool) (a : Act) (x : World) : Prop :=
  ∃ (v14 v55 v56 v57 v58 v59 v60 v61 : Value), a = ⟨#[(F 0), .pointer (some ⟨B, 0, none⟩), (F 2), (F 3), (F 4), .pointer (some ⟨B + 2, 0, none⟩), (F 6), (F 7), (F 8), (F 9), (F 10), (F 11), (F 12), (F 13), v14, (F 15), (F 16), (F 17), (F 18), (F 19), (F 20), (F 21), (F 22), (F 23), (F 24), (F 25), (F 26), (F 27), (F 28), (F 29), (F 30), (F 31), (F 32), (F 33), (F 34), (F 35), (F 36), (F 37), (F 38), (F 39), (F 40), (F 41), (F 42), (F 43), (F 44), (F 45), (F 46), (F 47), (F 48), (F 49), (F 50), (F 51), (F 52), (F 53), (F 54), v55, v56, v57, v58, v59, v60, v61, (F 62), (F 63), (F 64), (F 65), (F 66), (F 67), (F 68), (F 69), (F 70), (F 71), (F 72), (F 73), (F 74), (F 75), (F 76), (F 77), (F 78), (F 79), (F 80), (F 81), (F 82), (F 83), (F 84), (F 85), (F 86), (F 87), (F 88)], []⟩ ∧ Below Y.heap.size Y x ∧
    (d 0 = true → v55 = .pointer (some ⟨B + 2, 9, none⟩)) ∧
    (d 1 = true → v56 = .int .i64 (s : Int)) ∧
    (d 2 = true → v57 = .agg DC) ∧
    (d 3 = true → v58 = .int .i64 RM) ∧
    (d 4 = true → v59 = .int .i64 NN) ∧
    (d 5 = true → v60 = .int .i64 M1) ∧
    (d 6 = true → v61 = .int .i64 M2) ∧
    (d 7 = true → v14 = .int .i64 M2)
theorem op2_many {k n : Nat} (h : k < n) (hn : n = 8) : k = 0 ∨ k = 1 ∨ k = 2 ∨ k = 3 ∨ k = 4 ∨ k = 5 ∨ k = 6 ∨ k = 7 := by omega
theorem op2I_start (F : Nat → Value) (B s : Nat) (DC : Array Value) (RM NN M1 M2 : Int) (Y : World) (a : Act) (x : World) (ha : ∃ v14 v55 v56 v57 v58 v59 v60 v61, a = ⟨#[(F 0), .pointer (some ⟨B, 0, none⟩), (F 2), (F 3), (F 4), .pointer (some ⟨B + 2, 0, none⟩), (F 6), (F 7), (F 8), (F 9), (F 10), (F 11), (F 12), (F 13), v14, (F 15), (F 16), (F 17), (F 18), (F 19), (F 20), (F 21), (F 22), (F 23), (F 24), (F 25), (F 26), (F 27), (F 28), (F 29), (F 30), (F 31), (F 32), (F 33), (F 34), (F 35), (F 36), (F 37), (F 38), (F 39), (F 40), (F 41), (F 42), (F 43), (F 44), (F 45), (F 46), (F 47), (F 48), (F 49), (F 50), (F 51), (F 52), (F 53), (F 54), v55, v56, v57, v58, v59, v60, v61, (F 62), (F 63), (F 64), (F 65), (F 66), (F 67), (F 68), (F 69), (F 70), (F 71), (F 72), (F 73), (F 74), (F 75), (F 76), (F 77), (F 78), (F 79), (F 80), (F 81), (F 82), (F 83), (F 84), (F 85), (F 86), (F 87), (F 88)], []⟩) (hb : Below Y.heap.size Y x) : op2I F B s DC RM NN M1 M2 Y (fun _ => false) a x := by
  obtain ⟨v14, v55, v56, v57, v58, v59, v60, v61, rfl⟩ := ha
  exact ⟨v14, v55, v56, v57, v58, v59, v60, v61, rfl, hb, (fun q => by cases q), (fun q => by cases q), (fun q => by cases q), (fun q => by cases q), (fun q => by cases q), (fun q => by cases q), (fun q => by cases q), (fun q => by cases q)⟩


set_option maxHeartbeats 4000000 in
theorem refopen_any (ok : Nat → Prop) (v : Value) (D : Dev) (w : World) (hv : IsDev w ok v D) (hwf : D.Wf) (h6 : 6 ≤ D.sure.length) (hl : D.sure.length ≤ 4096) (hfew : D.Few 500000) (hlt : D.left ≤ 9223372036854775807) (hoff : D.off = false) :
    Calls Try.prog 17 #[v] w fun e w' => ∃ v' A c, e = .returned (.tuple #[v', .slice A (openR D).2.1.length c, .int .i64 (openR D).2.2]) ∧ IsRJ w' (fun k => ok k ∨ w.heap.size ≤ k) v' (openR D).1.1 (openR D).1.2 ∧ Rd w' (fun k => w.heap.size ≤ k) A ((openR D).2.1.map str) ∧ Below w.heap.size w w' := by
  obtain ⟨A1, c1, A2, c2, A3, c3, rfl, hd1⟩ := hv
  have hv : IsDev w ok (.agg #[.slice A1 D.sure.length c1, .slice A2 D.loose.length c2, .int .i64 D.left, .slice A3 D.choice.kept.length c3, .int .i64 D.choice.torn, .int .i64 D.choice.half, .int .i64 (D.changes : Int), .bool D.off]) D := ⟨A1, c1, A2, c2, A3, c3, rfl, hd1⟩
  obtain ⟨DC, hDC⟩ : ∃ DC : Array Value, DC = #[.slice A1 D.sure.length c1, .slice A2 D.loose.length c2, .int .i64 D.left, .slice A3 D.choice.kept.length c3, .int .i64 D.choice.torn, .int .i64 D.choice.half, .int .i64 (D.changes : Int), .bool D.off] := ⟨_, rfl⟩
  obtain ⟨W, hW⟩ : ∃ W, W = (((w.alloc (.cells DC 36)).alloc (.cells (jc zeroD rj0) 40)).alloc (.cells (jc DC rj0) 40)) := ⟨_, rfl⟩
  have hbW : Below w.heap.size w W := by rw [hW]; exact (((Below.refl _ _).alloc (Nat.le_refl _) _).alloc (by simp) _).alloc (by simp; omega) _
  have hD0 : Blk W w.heap.size 36 DC := by rw [hW]; exact ((Blk.new w _ _).alloc _).alloc _
  have hZ0 : Blk W (w.heap.size + 1) 40 (jc zeroD rj0) := by
    have := Blk.new (w.alloc (.cells DC 36)) 40 (jc zeroD rj0)
    rw [World.size_alloc] at this
    rw [hW]; exact this.alloc _
  have hJ0 : Blk W (w.heap.size + 2) 40 (jc DC rj0) := by
    have := Blk.new ((w.alloc (.cells DC 36)).alloc (.cells (jc zeroD rj0) 40)) 40 (jc DC rj0)
    rw [World.size_alloc, World.size_alloc] at this
    rw [hW]; exact this
  rw [← hDC] at hv
  have hV : IsDev W (fun k => ok k ∧ k < w.heap.size) (.agg DC) D := hv.move (fun k hk hk2 => ⟨⟨hk, hk2⟩, hbW.block k hk2⟩)
  have hsz := hv.size
  have hq7 : W.cell? ⟨w.heap.size, 7, none⟩ = some (.bool false) := by
    have := hD0.cell 7
    rw [hDC] at this
    rw [← hoff]
    exact this
  have hWE : W = (((w.alloc (.cells #[.slice A1 D.sure.length c1, .slice A2 D.loose.length c2, .int .i64 D.left, .slice A3 D.choice.kept.length c3, .int .i64 D.choice.torn, .int .i64 D.choice.half, .int .i64 (D.changes : Int), .bool D.off] 36)).alloc (.cells #[.slice none 0 0, .slice none 0 0, .int .i64 0, .slice none 0 0, .int .i64 0, .int .i64 0, .int .i64 0, .bool false, .int .u64 0, .int .i64 0, str [], .int .i64 0, .bool false] 40)).alloc (.cells #[.slice A1 D.sure.length c1, .slice A2 D.loose.length c2, .int .i64 D.left, .slice A3 D.choice.kept.length c3, .int .i64 D.choice.torn, .int .i64 D.choice.half, .int .i64 (D.changes : Int), .bool D.off, .int .u64 0, .int .i64 0, str [], .int .i64 0, .bool false] 40)) := by
    rw [hW, hDC]
    rfl
  have hDs : (Try.prog.info? 36).map (·.size) = some DC.size := by rw [hsz.1]; exact dev_info
  have HWE := Lib.hid hWE
  have HbW := Lib.hid hbW
  have HWs := Lib.hid hbW.size
  have HD0 := Lib.hid hD0
  have HZ := Lib.hid hZ0
  have HJ0 := Lib.hid hJ0
  have HV := Lib.hid hV
  have Hq7 := Lib.hid hq7
  have Hsz := Lib.hid hsz
  have HDs := Lib.hid hDs
  have Hwf := Lib.hid hwf
  have Hfew := Lib.hid hfew
  have Hlt := Lib.hid hlt
  clear hW hbW hD0 hZ0 hJ0 hV hq7 hWE hsz hDs hwf hfew hlt hv hd1 hoff hDC
  go_enter Try.func17, Try.ntmps17
  go_upto_region 1 with fail
  go_cut [5] (fun p wx => p = .pointer (some ⟨w.heap.size + 2, 0, none⟩) ∧ wx = W)
  case first =>
    go_wp2_with fail
    go_meet
    exact ⟨rfl, HWE.out.symm⟩
  case rest =>
    obtain ⟨rfl, rfl⟩ := hcut
    have hq7 := Hq7.out
    go_wp2_with fail
    clear hq7
    have hwf := Hwf.out
    have hNow : ∀ (i : Nat) (x : World), i < D.sure.length → IsDev x (fun k => ok k ∧ k < w.heap.size) (.agg DC) D → Calls Try.prog 12 #[.agg DC, .int .i64 (i : Int)] x fun e w' => e = .returned (str (D.now i)) ∧ Below x.heap.size x w' := fun i x hi hx => now_any _ _ D i x hx hi
    have hRm : ∀ (x : World), IsDev x (fun k => ok k ∧ k < w.heap.size) (.agg DC) D → Calls Try.prog 40 #[.agg DC] x fun e w' => e = .returned (.int .i64 ((sideN D * 256 : Nat) : Int)) ∧ Below x.heap.size x w' := fun x hx => refroom_any _ _ D x hx (by omega) hl
    have hRt : ∀ (i : Nat) (x : World), i < D.sure.length → Calls Try.prog 39 #[str (D.now i), .int .i64 ((sideN D * 256 : Nat) : Int)] x fun e w' => e = .returned (.tuple #[.int .u64 ((asTally (D.now i) (sideN D * 256)).1 : Int), .int .i64 ((asTally (D.now i) (sideN D * 256)).2.1 : Int), .int .i64 ((asTally (D.now i) (sideN D * 256)).2.2 : Int)]) ∧ Below x.heap.size x w' := fun i x hi => refright_any _ _ x (now_length hwf i hi) (by unfold sideN; omega)
    obtain ⟨RM, hRM⟩ : ∃ RM : Int, RM = ((sideN D * 256 : Nat) : Int) := ⟨_, rfl⟩
    rw [← hRM] at hRm hRt
    have HNow := Lib.hid hNow
    have HRm := Lib.hid hRm
    have HRt := Lib.hid hRt
    have HRM := Lib.hid hRM
    have hW1 := blk_lt' HJ0.out
    clear hNow hRm hRt hRM hwf
    go_loopg [6, 7] 2 (fun g q6 q7 wr => ∃ k : Nat, g = 2 - k ∧ k ≤ 2 ∧ q6 = .int .i64 ((curK D k).2.2 : Int) ∧ q7 = .int .i64 (k : Int) ∧ Blk wr w.heap.size 36 DC ∧ Blk wr (w.heap.size + 1) 40 (jc zeroD rj0) ∧ Blk wr (w.heap.size + 2) 40 (jc DC ⟨(curK D k).1, (curK D k).2.1, [], 0, false⟩) ∧ IsDev wr (fun k => ok k ∧ k < w.heap.size) (.agg DC) D ∧ Below w.heap.size w wr)
    case atStart => exact ⟨0, by omega, by omega, rfl, rfl, HD0.out, HZ.out, HJ0.out, HV.out, HbW.out⟩
    case round =>
      obtain ⟨k, hg, hk2, rfl, rfl, y1, y2, y3, y4, y5⟩ := hrel
      clear HD0 HZ HJ0 HV HbW HWs
      have hKok := curK_ok D k
      obtain ⟨K, hK⟩ : ∃ K, K = curK D k := ⟨_, rfl⟩
      rw [← hK] at y3 hKok
      rw [← hK]
      obtain ⟨rk, hrk⟩ : ∃ rk : RJ, rk = ⟨K.1, K.2.1, [], 0, false⟩ := ⟨_, rfl⟩
      rw [← hrk] at y3
      have q8 := y3.cell 8
      rw [show (8 : Nat) = 8 + 0 from rfl, jc_tail Hsz.out.1] at q8
      have q8' : wr.cell? ⟨w.heap.size + 2, 8, none⟩ = some (.int .u64 (K.1 : Int)) := by rw [hrk] at q8; exact q8
      have q9 := y3.cell 9
      rw [show (9 : Nat) = 8 + 1 from rfl, jc_tail Hsz.out.1] at q9
      have q9' : wr.cell? ⟨w.heap.size + 2, 9, none⟩ = some (.int .i64 (K.2.1 : Int)) := by rw [hrk] at q9; exact q9
      have q10 := y3.cell 10
      rw [show (10 : Nat) = 8 + 2 from rfl, jc_tail Hsz.out.1] at q10
      have q10' : wr.cell? ⟨w.heap.size + 2, 10, none⟩ = some (str []) := by rw [hrk] at q10; exact q10
      have q11 := y3.cell 11
      rw [show (11 : Nat) = 8 + 3 from rfl, jc_tail Hsz.out.1] at q11
      have q11' : wr.cell? ⟨w.heap.size + 2, 11, none⟩ = some (.int .i64 0) := by rw [hrk] at q11; exact q11
      clear q8 q9 q10 q11
      have hblt := blk_lt' y3
      have HQ8 := Lib.hid q8'
      have HQ9 := Lib.hid q9'
      have HQ10 := Lib.hid q10'
      have HQ11 := Lib.hid q11'
      have HD0 := Lib.hid y1
      have HZ := Lib.hid y2
      have HJ0 := Lib.hid y3
      have HV := Lib.hid y4
      have HbW := Lib.hid y5
      have HK := Lib.hid hK
      have HKok := Lib.hid hKok
      have Hrk := Lib.hid hrk
      clear q8' q9' q10' q11' y1 y2 y3 y4 y5 hK hKok hrk
      by_cases hlt : k < 2
      · have hNowk := fun x hx => HNow.out k x (by omega) hx
        have hRtk := fun x => HRt.out k x (by omega)
        obtain ⟨NB, hNB⟩ : ∃ NB, NB = D.now k := ⟨_, rfl⟩
        rw [← hNB] at hNowk hRtk
        obtain ⟨T, hT⟩ : ∃ T, T = asTally NB (sideN D * 256) := ⟨_, rfl⟩
        rw [← hT] at hRtk
        have hTok := asTally_ok NB (sideN D * 256)
        rw [← hT] at hTok
        have hnext : curK D (k + 1) = if K.1 < T.1 then T else K := by
          rw [hT, hNB, HK.out]
          rfl
        have HNowk := Lib.hid hNowk
        have HRtk := Lib.hid hRtk
        have HTok := Lib.hid hTok
        have Hnext := Lib.hid hnext
        clear hNowk hRtk hNB hT hTok hnext
        have Hg := Lib.hid hg
        clear hg
        go_upto_region 8 with fail
        go_cut [8, 9, 10] (fun p q s wx => p = .int .u64 (T.1 : Int) ∧ q = .int .i64 (T.2.1 : Int) ∧ s = .int .i64 (T.2.2 : Int) ∧ Below wr.heap.size wr wx)
        case first =>
          refine wp_frame89 rfl rfl (fun F hF => ?_)
          apply wp_region_inv (I := op1I F w.heap.size k DC NB RM T wr)
          case hm => kernel_rfl
          case ho => kernel_rfl
          case h0 => subst hF; exact op1I_start _ w.heap.size k DC NB RM T wr _ _ ⟨_, _, _, _, _, _, _, _, _, _, _, _, _, rfl⟩ (Below.refl _ _).drew
          case hstep =>
            clear hF
            intro i' o hi d a x hd hpre hI K' hK
            obtain ⟨v8, v9, v10, v26, v27, v28, v29, v30, v31, v32, v33, v34, v35, rfl, hb, h0, h1, h2, h3, h4, h5, h6, h7, h8, h9, h10, h11, h12⟩ := hI
            have hlt := (Array.getElem?_eq_some_iff.1 hi).1
            rcases op1_many hlt rfl with rfl | rfl | rfl | rfl | rfl | rfl | rfl | rfl | rfl | rfl | rfl | rfl | rfl
            all_goals (have ho := Option.some.inj hi; subst ho; clear hi hlt)
            · refine step_plain rfl (wp_load_row 36 (.tmp 1) rfl w.heap.size rfl 36 DC (0, 0) _ (HD0.out.grow hb) Try.underlying36 rfl HDs.out (hK _ _ ?_))
              exact ⟨v8, v9, v10, v26, _, v28, v29, v30, v31, v32, v33, v34, v35, rfl, hb, fun _ => rfl, h1, h2, h3, h4, h5, h6, h7, h8, h9, h10, h11, h12⟩
            · go_simp
              exact hK _ _ ⟨v8, v9, v10, v26, v27, _, v29, v30, v31, v32, v33, v34, v35, rfl, hb, h0, fun _ => rfl, h2, h3, h4, h5, h6, h7, h8, h9, h10, h11, h12⟩
            · obtain rfl := h0 (hpre { on := 0, ground := Ground.data } (by simp) rfl)
              obtain rfl := h1 (hpre { on := 1, ground := Ground.data } (by simp) rfl)
              go_simp
              have hdx : IsDev x (fun k => ok k ∧ k < w.heap.size) (.agg DC) D := HV.out.move (fun k hk hl => ⟨hk, hb.block k hl⟩)
              refine (HNowk.out x hdx).mono ?_
              rintro e x2 ⟨rfl, hb2⟩
              go_simp
              exact hK _ _ ⟨v8, v9, v10, v26, _, _, _, v30, v31, v32, v33, v34, v35, rfl, (below_call hb hb2), h0, h1, fun _ => rfl, h3, h4, h5, h6, h7, h8, h9, h10, h11, h12⟩
            · refine step_plain rfl (wp_load_row 36 (.tmp 1) rfl w.heap.size rfl 36 DC (0, 0) _ (HD0.out.grow hb) Try.underlying36 rfl HDs.out (hK _ _ ?_))
              exact ⟨v8, v9, v10, v26, v27, v28, v29, _, v31, v32, v33, v34, v35, rfl, hb, h0, h1, h2, fun _ => rfl, h4, h5, h6, h7, h8, h9, h10, h11, h12⟩
            · obtain rfl := h3 (hpre { on := 3, ground := Ground.data } (by simp) rfl)
              go_simp
              have hdx : IsDev x (fun k => ok k ∧ k < w.heap.size) (.agg DC) D := HV.out.move (fun k hk hl => ⟨hk, hb.block k hl⟩)
              refine (HRm.out x hdx).mono ?_
              rintro e x2 ⟨rfl, hb2⟩
              go_simp
              exact hK _ _ ⟨v8, v9, v10, v26, v27, v28, v29, _, _, v32, v33, v34, v35, rfl, (below_call hb hb2), h0, h1, h2, h3, fun _ => rfl, h5, h6, h7, h8, h9, h10, h11, h12⟩
            · obtain rfl := h2 (hpre { on := 2, ground := Ground.data } (by simp) rfl)
              obtain rfl := h4 (hpre { on := 4, ground := Ground.data } (by simp) rfl)
              go_simp
              have hdx : IsDev x (fun k => ok k ∧ k < w.heap.size) (.agg DC) D := HV.out.move (fun k hk hl => ⟨hk, hb.block k hl⟩)
              refine (HRtk.out x).mono ?_
              rintro e x2 ⟨rfl, hb2⟩
              go_simp
              exact hK _ _ ⟨v8, v9, v10, v26, v27, v28, _, v30, _, _, v33, v34, v35, rfl, (below_call hb hb2), h0, h1, h2, h3, h4, fun _ => rfl, h6, h7, h8, h9, h10, h11, h12⟩
            · obtain rfl := h5 (hpre { on := 5, ground := Ground.data } (by simp) rfl)
              go_simp
              exact hK _ _ ⟨v8, v9, v10, _, v27, v28, v29, v30, v31, _, v33, v34, v35, rfl, hb, h0, h1, h2, h3, h4, h5, fun _ => rfl, h7, h8, h9, h10, h11, h12⟩
            · obtain rfl := h6 (hpre { on := 6, ground := Ground.data } (by simp) rfl)
              go_simp
              exact hK _ _ ⟨v8, v9, v10, _, v27, v28, v29, v30, v31, v32, _, v34, v35, rfl, hb, h0, h1, h2, h3, h4, h5, h6, fun _ => rfl, h8, h9, h10, h11, h12⟩
            · obtain rfl := h6 (hpre { on := 6, ground := Ground.data } (by simp) rfl)
              go_simp
              exact hK _ _ ⟨v8, v9, v10, _, v27, v28, v29, v30, v31, v32, v33, _, v35, rfl, hb, h0, h1, h2, h3, h4, h5, h6, h7, fun _ => rfl, h9, h10, h11, h12⟩
            · obtain rfl := h6 (hpre { on := 6, ground := Ground.data } (by simp) rfl)
              go_simp
              exact hK _ _ ⟨v8, v9, v10, _, v27, v28, v29, v30, v31, v32, v33, v34, _, rfl, hb, h0, h1, h2, h3, h4, h5, h6, h7, h8, fun _ => rfl, h10, h11, h12⟩
            · obtain rfl := h7 (hpre { on := 7, ground := Ground.data } (by simp) rfl)
              go_simp
              exact hK _ _ ⟨_, v9, v10, v26, v27, v28, v29, v30, v31, v32, _, v34, v35, rfl, hb, h0, h1, h2, h3, h4, h5, h6, h7, h8, h9, fun _ => rfl, h11, h12⟩
            · obtain rfl := h8 (hpre { on := 8, ground := Ground.data } (by simp) rfl)
              go_simp
              exact hK _ _ ⟨v8, _, v10, v26, v27, v28, v29, v30, v31, v32, v33, _, v35, rfl, hb, h0, h1, h2, h3, h4, h5, h6, h7, h8, h9, h10, fun _ => rfl, h12⟩
            · obtain rfl := h9 (hpre { on := 9, ground := Ground.data } (by simp) rfl)
              go_simp
              exact hK _ _ ⟨v8, v9, _, v26, v27, v28, v29, v30, v31, v32, v33, v34, _, rfl, hb, h0, h1, h2, h3, h4, h5, h6, h7, h8, h9, h10, h11, fun _ => rfl⟩
          case hend =>
            intro d a x hall hI
            obtain ⟨v8, v9, v10, v26, v27, v28, v29, v30, v31, v32, v33, v34, v35, rfl, hb, h0, h1, h2, h3, h4, h5, h6, h7, h8, h9, h10, h11, h12⟩ := hI
            obtain rfl := h10 (hall 10 (by decide))
            obtain rfl := h11 (hall 11 (by decide))
            obtain rfl := h12 (hall 12 (by decide))
            clear h0 h1 h2 h3 h4 h5 h6 h7 h8 h9 h10 h11 h12 hall
            subst hF
            dsimp only
            go_wp2_with fail
            go_meet
            exact ⟨rfl, rfl, rfl, hb⟩
        case rest =>
          obtain ⟨rfl, rfl, rfl, hbx⟩ := hcut
          have d1 := HD0.out.grow hbx
          have d2 := HZ.out.grow hbx
          have d3 := HJ0.out.grow hbx
          have d4 : IsDev wc (fun k => ok k ∧ k < w.heap.size) (.agg DC) D := HV.out.frame (fun k _ hk => hbx.block k hk)
          have d5 := below_call HbW.out hbx
          have g8 := (hbx.cell (p := ⟨w.heap.size + 2, 8, none⟩) (blk_lt' HJ0.out)).trans HQ8.out
          have g9 := (hbx.cell (p := ⟨w.heap.size + 2, 9, none⟩) (blk_lt' HJ0.out)).trans HQ9.out
          have f8 := d3.frozen 8
          have f9 := d3.frozen 9
          have D1 := Lib.hid d1
          have D2 := Lib.hid d2
          have D3 := Lib.hid d3
          have D4 := Lib.hid d4
          have D5 := Lib.hid d5
          clear d1 d2 d3 d4 d5 hbx
          by_cases hmore : K.1 < T.1
          · have hn1 : curK D (k + 1) = T := by rw [Hnext.out, if_pos hmore]
            have Hn1 := Lib.hid hn1
            have hm2 : (K.1 : Int) < (T.1 : Int) := by omega
            clear hn1 hmore
            go_wp2_with fail
            go_roundg (2 - (k + 1))
            case measure => have := Hg.out; omega
            case rel =>
              have e1 := ((D3.out.set_ 8 (.int .u64 (T.1 : Int))).set_ 9 (.int .i64 (T.2.1 : Int)))
              rw [jc_st8 Hsz.out.1, jc_st9 Hsz.out.1, Hrk.out] at e1
              refine ⟨k + 1, rfl, by omega, by rw [Hn1.out], by go_num, ?_, ?_, by rw [Hn1.out]; exact e1, ?_, ?_⟩
              · exact (D1.out.far (p := ⟨w.heap.size + 2, 8, none⟩) (by show w.heap.size ≠ w.heap.size + 2; omega) _).far (p := ⟨w.heap.size + 2, 9, none⟩) (by show w.heap.size ≠ w.heap.size + 2; omega) _
              · exact (D2.out.far (p := ⟨w.heap.size + 2, 8, none⟩) (by show w.heap.size + 1 ≠ w.heap.size + 2; omega) _).far (p := ⟨w.heap.size + 2, 9, none⟩) (by show w.heap.size + 1 ≠ w.heap.size + 2; omega) _
              · exact D4.out.frame (fun q hq _ => (heap_setCell_other _ _ _ _ (by show q ≠ w.heap.size + 2; omega)).trans (heap_setCell_other _ _ _ _ (by show q ≠ w.heap.size + 2; omega)))
              · exact (D5.out.setCell (p := ⟨w.heap.size + 2, 8, none⟩) (by show w.heap.size ≤ w.heap.size + 2; omega) _).setCell (p := ⟨w.heap.size + 2, 9, none⟩) (by show w.heap.size ≤ w.heap.size + 2; omega) _
          · have hn1 : curK D (k + 1) = K := by rw [Hnext.out, if_neg hmore]
            have Hn1 := Lib.hid hn1
            have hm2 : ¬ (K.1 : Int) < (T.1 : Int) := by omega
            clear hn1 hmore
            go_wp2_with fail
            go_roundg (2 - (k + 1))
            case measure => have := Hg.out; omega
            case rel =>
              refine ⟨k + 1, rfl, by omega, by rw [Hn1.out], by go_num, D1.out, D2.out, by rw [Hn1.out, ← Hrk.out]; exact D3.out, D4.out, D5.out⟩
      · obtain rfl : k = 2 := by omega
        have hge : ¬ ((2 : Int) < 2) := by omega
        by_cases hz : K.1 = 0
        · have hK0 : K = (0, 0, 0) := by rw [HK.out]; exact curK_zero D 2 (by rw [← HK.out]; exact hz)
          have hrk0 : rk = rj0 := by rw [Hrk.out, hK0]; rfl
          have hop : openR D = ((tellR D rj0 1 0 []).1, ([], (tellR D rj0 1 0 []).2)) := by
            unfold openR
            rw [if_pos (by show (curK D 2).1 = 0; rw [← HK.out]; exact hz)]
          subst hrk0
          have htell : Calls Try.prog 41 #[.agg (jc DC rj0), .int .u64 1, .int .i64 0, str []] wr fun e w' => ∃ v', e = .returned (.tuple #[v', .int .i64 (tellR D rj0 1 0 []).2]) ∧ IsRJ w' (fun k => (ok k ∧ k < w.heap.size) ∨ wr.heap.size ≤ k) v' (tellR D rj0 1 0 []).1.1 (tellR D rj0 1 0 []).1.2 ∧ Below wr.heap.size wr w' := by
            have hf := Hfew.out
            exact reftell_any _ _ D rj0 1 0 [] wr (IsRJ.of_cells HV.out rj0) Hwf.out hl ⟨by have := hf.1; omega, by have := hf.2; omega⟩ Hlt.out (by omega) (by omega) (by simp)
          obtain ⟨TR, hTR⟩ : ∃ TR, TR = tellR D rj0 1 0 [] := ⟨_, rfl⟩
          rw [← hTR] at htell hop
          have hq0 : wr.cell? ⟨w.heap.size + 2, 8, none⟩ = some (.int .u64 0) := by have := HQ8.out; rw [hz] at this; exact this
          have hj : (Try.prog.info? 40).map (·.size) = some (jc DC rj0).size := by rw [jc_size Hsz.out.1]; exact jn_info
          have Hj := Lib.hid hj
          have Htell := Lib.hid htell
          have Hop := Lib.hid hop
          clear hj htell hop hTR hz hK0 hg
          go_wp2_with (refine wpList_load_row rfl 40 (.tmp 5) rfl (w.heap.size + 2) rfl 40 (jc DC rj0) (0, 0) _ HJ0.out Try.underlying40 rfl Hj.out ?_)
          refine Htell.out.mono ?_
          rintro e x2 ⟨v', rfl, hrj, hb2⟩
          obtain ⟨C7, rfl, hd7⟩ := hrj.cells
          have hz7 := hd7.size
          have hbs := hb2.size
          have a0 : Blk (x2.alloc (.cells #[.slice none 0 0, .slice none 0 0, .int .i64 0, .slice none 0 0, .int .i64 0, .int .i64 0, .int .i64 0, .bool false, .int .u64 0, .int .i64 0, .string ⟨#[]⟩, .int .i64 0, .bool false] 40)) x2.heap.size 40 (jc zeroD rj0) := Blk.new x2 _ _
          obtain ⟨x3, hx3⟩ : ∃ x3, x3 = (x2.alloc (.cells #[.slice none 0 0, .slice none 0 0, .int .i64 0, .slice none 0 0, .int .i64 0, .int .i64 0, .int .i64 0, .bool false, .int .u64 0, .int .i64 0, .string ⟨#[]⟩, .int .i64 0, .bool false] 40)).setRow x2.heap.size (jc C7 TR.1.2) := ⟨_, rfl⟩
          have a1 : Blk x3 x2.heap.size 40 (jc C7 TR.1.2) := by rw [hx3]; exact a0.setRow_ _
          have a2 : Blk x3 (w.heap.size + 1) 40 (jc zeroD rj0) := by rw [hx3]; exact ((HZ.out.grow hb2).alloc _).setRowFar (by omega) _
          have a4 : IsDev x3 (fun k => ((ok k ∧ k < w.heap.size) ∨ wr.heap.size ≤ k) ∧ k < x2.heap.size) (.agg C7) TR.1.1 := by
            rw [hx3]
            exact hd7.move (fun k hk hl => ⟨⟨hk, hl⟩, (setRow_other _ _ _ _ (by omega)).trans (Below.heap_alloc _ _ _ hl)⟩)
          have a5 : Below w.heap.size w x3 := by rw [hx3]; exact below_setRow ((below_call HbW.out hb2).alloc (by omega) _) (by omega) _
          obtain ⟨x6, hx6⟩ : ∃ x6, x6 = x3.setRow (w.heap.size + 1) (jc C7 TR.1.2) := ⟨_, rfl⟩
          have d2 : Blk x6 (w.heap.size + 1) 40 (jc C7 TR.1.2) := by rw [hx6]; exact a2.setRow_ _
          have d4 : IsDev x6 (fun k => ok k ∨ w.heap.size ≤ k) (.agg C7) TR.1.1 := by
            rw [hx6]
            refine a4.move (fun k hk _ => ?_)
            rcases hk.1 with h | h
            · exact ⟨Or.inl h.1, setRow_other _ _ _ _ (by omega)⟩
            · exact ⟨Or.inr (by omega), setRow_other _ _ _ _ (by omega)⟩
          have d5 : Below w.heap.size w x6 := by rw [hx6]; exact below_setRow a5 (by omega) _
          have hj7 : (Try.prog.info? 40).map (·.size) = some (jc C7 TR.1.2).size := by rw [jc_size hz7.1]; exact jn_info
          have ho7 : (jc zeroD rj0).size = (jc C7 TR.1.2).size := by rw [jc_size hz7.1]; rfl
          have hone7 : (jc C7 TR.1.2).all (·.oneCell') = true := jc_one hz7.2
          have A0 := Lib.hid a0
          have A1 := Lib.hid a1
          have A2 := Lib.hid a2
          have HX3 := Lib.hid hx3
          have HX6 := Lib.hid hx6
          have D2 := Lib.hid d2
          have D4 := Lib.hid d4
          have D5 := Lib.hid d5
          have Hj7 := Lib.hid hj7
          have Ho7 := Lib.hid ho7
          have Hone7 := Lib.hid hone7
          clear a0 a1 a2 a4 a5 hx3 hx6 d2 d4 d5 hj7 ho7 hone7 hz7 hd7 hrj hb2 hbs hq0
          go_wp2_with (first | (refine wpList_store_row rfl 40 (.tmp 11) (.tmp 51) rfl x2.heap.size (jc C7 TR.1.2) rfl rfl 40 (jc zeroD rj0) A0.out Hj7.out Ho7.out Hone7.out ?_; rw [← HX3.out]) | (refine wpList_load_row rfl 40 (.tmp 11) rfl x2.heap.size rfl 40 (jc C7 TR.1.2) (0, 0) _ A1.out Try.underlying40 rfl Hj7.out ?_) | (refine wpList_store_row rfl 40 (.tmp 2) (.tmp 53) rfl (w.heap.size + 1) (jc C7 TR.1.2) rfl rfl 40 (jc zeroD rj0) A2.out Hj7.out Ho7.out Hone7.out ?_; rw [← HX6.out]))
          refine bodyPost_ret (v := .tuple #[.agg (jc C7 TR.1.2), .slice none 0 0, .int .i64 TR.2]) (results_cell_tmp2 Try.results17 _ _ (w.heap.size + 1) 40 (jc C7 TR.1.2) (0, 0) _ _ _ rfl rfl rfl D2.out Try.underlying40 rfl Hj7.out) rfl ⟨.agg (jc C7 TR.1.2), none, 0, ?_, ?_, ?_, D5.out⟩
          · rw [Hop.out]; rfl
          · rw [Hop.out]; exact IsRJ.of_cells D4.out TR.1.2
          · rw [Hop.out]; exact Rd.nil
        · obtain ⟨s, hs⟩ : ∃ s, s = K.2.1 := ⟨_, rfl⟩
          obtain ⟨u, hu⟩ : ∃ u, u = K.2.2 := ⟨_, rfl⟩
          have hKk := HKok.out
          rw [← hs, ← hu] at hKk
          rw [← hs] at HQ9
          rw [← hu]
          obtain ⟨n, hn0⟩ : ∃ n, n = sideN D := ⟨_, rfl⟩
          have hnle : n ≤ 2047 ∧ 2 + 2 * n ≤ D.sure.length := by rw [hn0]; unfold sideN; omega
          have hsn : s * n ≤ n := by
            rcases (by omega : s = 0 ∨ s = 1) with h | h <;> rw [h] <;> omega
          rw [← hn0] at hKk
          have hq0 : ((K.1 : Int) == 0) = false := beq_eq_false_iff_ne.2 (by omega)
          have hzi : ¬ (K.1 : Int) = 0 := by omega
          have q8' := HQ8.out
          obtain ⟨NN, hNN⟩ : ∃ NN : Int, NN = (n : Int) := ⟨_, rfl⟩
          obtain ⟨M1, hM1⟩ : ∃ M1 : Int, M1 = ((s * n : Nat) : Int) := ⟨_, rfl⟩
          obtain ⟨M2, hM2⟩ : ∃ M2 : Int, M2 = ((2 + s * n : Nat) : Int) := ⟨_, rfl⟩
          have o1 : RM.tdiv 256 = NN := by rw [HRM.out, ← hn0, hNN, Int.tdiv_eq_ediv_of_nonneg (by omega)]; omega
          have o1b : IntKind.i64.wrap NN = NN := by rw [hNN, IntKind.wrap_i64] <;> omega
          have o2 : IntKind.i64.wrap ((s : Int) * NN) = M1 := by rw [hNN, hM1, ← Int.natCast_mul, IntKind.wrap_i64] <;> omega
          have o3 : IntKind.i64.wrap (2 + M1) = M2 := by rw [hM1, hM2, IntKind.wrap_i64] <;> omega
          have Hn0 := Lib.hid hn0
          have HM2 := Lib.hid hM2
          have HuK := Lib.hid (And.intro hs hu)
          have Ho := Lib.hid (And.intro o1 (And.intro o1b (And.intro o2 o3)))
          have Hz := Lib.hid hz
          clear hn0 hNN hM1 hM2 hs hu hz hg o1 o1b o2 o3
          go_upto_region 15 with fail
          have o1 := Ho.out.1
          have o1b := Ho.out.2.1
          have o2 := Ho.out.2.2.1
          have o3 := Ho.out.2.2.2
          clear hge hq0 hzi q8'
          go_cut [14] (fun p wx => p = .int .i64 M2 ∧ Below wr.heap.size wr wx)
          case first =>
            refine wp_frame89 rfl rfl (fun F hF => ?_)
            apply wp_region_inv (I := op2I F w.heap.size s DC RM NN M1 M2 wr)
            case hm => kernel_rfl
            case ho => kernel_rfl
            case h0 => subst hF; exact op2I_start _ w.heap.size s DC RM NN M1 M2 wr _ _ ⟨_, _, _, _, _, _, _, _, rfl⟩ (Below.refl _ _).drew
            case hstep =>
              clear hF
              intro i' o hi d a x hd hpre hI K' hK
              obtain ⟨v14, v55, v56, v57, v58, v59, v60, v61, rfl, hb, h0, h1, h2, h3, h4, h5, h6, h7⟩ := hI
              have hlt := (Array.getElem?_eq_some_iff.1 hi).1
              rcases op2_many hlt rfl with rfl | rfl | rfl | rfl | rfl | rfl | rfl | rfl
              all_goals (have ho := Option.some.inj hi; subst ho; clear hi hlt)
              · go_simp
                exact hK _ _ ⟨v14, _, v56, v57, v58, v59, v60, v61, rfl, hb, fun _ => rfl, h1, h2, h3, h4, h5, h6, h7⟩
              · obtain rfl := h0 (hpre { on := 0, ground := Ground.data } (by simp) rfl)
                have q := (hb.cell (p := ⟨w.heap.size + 2, 9, none⟩) (blk_lt' HJ0.out)).trans HQ9.out
                go_simp
                exact hK _ _ ⟨v14, _, _, v57, v58, v59, v60, v61, rfl, hb, h0, fun _ => rfl, h2, h3, h4, h5, h6, h7⟩
              · refine step_plain rfl (wp_load_row 36 (.tmp 1) rfl w.heap.size rfl 36 DC (0, 0) _ (HD0.out.grow hb) Try.underlying36 rfl HDs.out (hK _ _ ?_))
                exact ⟨v14, v55, v56, _, v58, v59, v60, v61, rfl, hb, h0, h1, fun _ => rfl, h3, h4, h5, h6, h7⟩
              · obtain rfl := h2 (hpre { on := 2, ground := Ground.data } (by simp) rfl)
                go_simp
                have hdx : IsDev x (fun k => ok k ∧ k < w.heap.size) (.agg DC) D := HV.out.move (fun k hk hl => ⟨hk, hb.block k hl⟩)
                refine (HRm.out x hdx).mono ?_
                rintro e x2 ⟨rfl, hb2⟩
                go_simp
                exact hK _ _ ⟨v14, v55, v56, _, _, v59, v60, v61, rfl, (below_call hb hb2), h0, h1, h2, fun _ => rfl, h4, h5, h6, h7⟩
              · obtain rfl := h3 (hpre { on := 3, ground := Ground.data } (by simp) rfl)
                go_simp
                exact hK _ _ ⟨v14, v55, v56, v57, _, _, v60, v61, rfl, hb, h0, h1, h2, h3, fun _ => rfl, h5, h6, h7⟩
              · obtain rfl := h1 (hpre { on := 1, ground := Ground.data } (by simp) rfl)
                obtain rfl := h4 (hpre { on := 4, ground := Ground.data } (by simp) rfl)
                go_simp
                exact hK _ _ ⟨v14, v55, _, v57, v58, _, _, v61, rfl, hb, h0, h1, h2, h3, h4, fun _ => rfl, h6, h7⟩
              · obtain rfl := h5 (hpre { on := 5, ground := Ground.data } (by simp) rfl)
                go_simp
                exact hK _ _ ⟨v14, v55, v56, v57, v58, v59, _, _, rfl, hb, h0, h1, h2, h3, h4, h5, fun _ => rfl, h7⟩
              · obtain rfl := h6 (hpre { on := 6, ground := Ground.data } (by simp) rfl)
                go_simp
                exact hK _ _ ⟨_, v55, v56, v57, v58, v59, v60, _, rfl, hb, h0, h1, h2, h3, h4, h5, h6, fun _ => rfl⟩
            case hend =>
              intro d a x hall hI
              obtain ⟨v14, v55, v56, v57, v58, v59, v60, v61, rfl, hb, h0, h1, h2, h3, h4, h5, h6, h7⟩ := hI
              obtain rfl := h7 (hall 7 (by decide))
              clear h0 h1 h2 h3 h4 h5 h6 h7 hall
              subst hF
              dsimp only
              go_wp2_with fail
              go_meet
              exact ⟨rfl, hb⟩
          case rest =>
            obtain ⟨rfl, hbx⟩ := hcut
            obtain ⟨st, hst⟩ : ∃ st, st = 2 + s * n := ⟨_, rfl⟩
            have hM2' := HM2.out
            rw [← hst] at hM2'
            subst hM2'
            have hsu : ∀ m, m * 256 < u → st + m < D.sure.length := fun m hm => by omega
            have Hsu := Lib.hid hsu
            have Hbx := Lib.hid hbx
            have Hst := Lib.hid hst
            have HHn := Lib.hid (And.intro hnle hsn)
            clear o1 o1b o2 o3 HM2 Ho hsu hbx hst hnle hsn
            have hub : u ≤ 524032 := by have := hKk.2.2; have := HHn.out.1.1; omega
            go_wp2_with fail
            obtain ⟨wb, rfl⟩ : ∃ x, x = wr := ⟨wr, rfl⟩
            go_loopg [13, 14] (secs u) (fun g q13 q14 wy => ∃ m : Nat, g = secs u - m ∧ m ≤ secs u ∧ q13 = str (areaD D st m) ∧ q14 = .int .i64 ((st + m : Nat) : Int) ∧ Below wb.heap.size wb wy)
            case atStart => exact ⟨0, by omega, by omega, rfl, rfl, Hbx.out⟩
            case round =>
              obtain ⟨m, hg, hm2, rfl, rfl, hby⟩ := hrel
              obtain ⟨Xm, hXm⟩ : ∃ Xm, Xm = areaD D st m := ⟨_, rfl⟩
              have hms : m * 256 < u ↔ m < secs u := by unfold secs; omega
              have hXl : Xm.length = m * 256 := by
                rw [hXm]
                refine areaD_length Hwf.out st m ?_
                have := HHn.out
                have := Hst.out
                have := hKk.2.2
                unfold secs at hm2
                omega
              have hd1 := HD0.out.grow hby
              have hv1 : IsDev wr (fun k => ok k ∧ k < w.heap.size) (.agg DC) D := HV.out.frame (fun k _ hk => hby.block k hk)
              have hXe : areaD D st (m + 1) = Xm ++ D.now (st + m) := by rw [hXm]; rfl
              have HXe := Lib.hid hXe
              rw [← hXm]
              have HXm := Lib.hid hXm
              have HD1 := Lib.hid hd1
              have HV1 := Lib.hid hv1
              have Hby := Lib.hid hby
              have Hg := Lib.hid hg
              have hms1 := hms.1
              have hms2 := hms.2
              clear hms hXe hXm hd1 hv1 hby hg
              by_cases hlt : m * 256 < u
              · have hil := Hsu.out m hlt
                have hXi : (Xm.length : Int) < (u : Int) := by omega
                have hnow := HNow.out (st + m) wr hil HV1.out
                have hnl := now_length Hwf.out (st + m) hil
                obtain ⟨NB, hNB⟩ : ∃ NB, NB = D.now (st + m) := ⟨_, rfl⟩
                rw [← hNB] at hnow hnl HXe
                have hadd := fun z : World => run_str_add (P := Try.prog) z Xm NB (by rw [hXl, hnl]; omega)
                have Hnow := Lib.hid hnow
                have Hms := Lib.hid (hms1 hlt)
                obtain ⟨q, hq⟩ : ∃ q, q = st + m := ⟨_, rfl⟩
                rw [← hq] at Hnow
                rw [← hq]
                have hqs : (q : Int) + 1 ≤ 10000 := by omega
                have HXl := Lib.hid hXl
                have Hq := Lib.hid hq
                clear hnow hNB hXl hnl hms1 hms2 hlt hil hq
                go_wp2_with (refine wpList_load_row rfl 36 (.tmp 1) rfl w.heap.size rfl 36 DC (0, 0) _ HD1.out Try.underlying36 rfl HDs.out ?_)
                refine Hnow.out.mono ?_
                rintro e x2 ⟨rfl, hb2⟩
                go_wp2_with fail
                go_roundg (secs u - (m + 1))
                case measure => have := Hg.out; have := Hms.out; omega
                case rel =>
                  have := Hms.out
                  refine ⟨m + 1, rfl, by omega, by rw [HXe.out], ?_, below_call Hby.out hb2⟩
                  have := Hq.out
                  go_num
              · have hXi : ¬ (Xm.length : Int) < (u : Int) := by omega
                have hmS : m = secs u := by
                  have : ¬ m < secs u := fun h => hlt (hms2 h)
                  omega
                have huX : u ≤ Xm.length := by omega
                obtain ⟨UB, hUB⟩ : ∃ UB, UB = Xm.take u := ⟨_, rfl⟩
                have hx := extract_str Xm 0 u
                rw [List.drop_zero, ← hUB] at hx
                have hUse : UB = useB D s u 0 := by
                  rw [hUB, HXm.out, hmS, Hst.out, Hn0.out]
                  unfold useB
                  rw [Nat.zero_mul, Nat.sub_zero, Nat.add_zero]
                have hUl : UB.length ≤ 1099511627776 := by rw [hUB, List.length_take]; omega
                have hop : openR D = ((D, ⟨K.1, s, UB, (recsOf UB).1.length, false⟩), ((recsOf UB).1, ((recsOf UB).2 : Int))) := by
                  unfold openR
                  have e1 : curT D = K := HK.out.symm
                  rw [e1, ← HuK.out.1, ← HuK.out.2, ← hUse, if_neg (fun h => Hz.out h)]
                have hrec := fun z : World => refrecords_any UB z hUl
                obtain ⟨RC, hRC⟩ : ∃ RC, RC = recsOf UB := ⟨_, rfl⟩
                rw [← hRC] at hrec hop
                have e3 := HJ0.out.grow Hby.out
                have e2 := HZ.out.grow Hby.out
                have e5 := below_call HbW.out Hby.out
                obtain ⟨y1, hy1⟩ : ∃ y1, y1 = wr.setCell ⟨w.heap.size + 2, 10, none⟩ (str UB) := ⟨_, rfl⟩
                have g3 : Blk y1 (w.heap.size + 2) 40 (jc DC { rk with data := UB }) := by
                  have := e3.set_ 10 (str UB)
                  rw [jc_st10 Hsz.out.1] at this
                  rw [hy1]; exact this
                have g2 : Blk y1 (w.heap.size + 1) 40 (jc zeroD rj0) := by rw [hy1]; exact e2.far (p := ⟨w.heap.size + 2, 10, none⟩) (by show w.heap.size + 1 ≠ w.heap.size + 2; omega) _
                have g5 : Below w.heap.size w y1 := by rw [hy1]; exact e5.setCell (p := ⟨w.heap.size + 2, 10, none⟩) (by show w.heap.size ≤ w.heap.size + 2; omega) _
                have g4 : IsDev y1 (fun k => ok k ∧ k < w.heap.size) (.agg DC) D := HV1.out.frame (fun q hq _ => by rw [hy1]; exact heap_setCell_other _ _ _ _ (by show q ≠ w.heap.size + 2; omega))
                have q10 : wr.cell? ⟨w.heap.size + 2, 10, none⟩ = some (str []) := (Hby.out.cell (p := ⟨w.heap.size + 2, 10, none⟩) (blk_lt' HJ0.out)).trans HQ10.out
                have f10 := e3.frozen 10
                have r10 := g3.cell 10
                rw [show (10 : Nat) = 8 + 2 from rfl, jc_tail Hsz.out.1] at r10
                have r10' : y1.cell? ⟨w.heap.size + 2, 10, none⟩ = some (str UB) := r10
                have hy1s := blk_lt' g3
                have Hrec := Lib.hid hrec
                have Hop := Lib.hid hop
                have Huse := Lib.hid hUse
                have HY1 := Lib.hid hy1
                have G2 := Lib.hid g2
                have G3 := Lib.hid g3
                have G4 := Lib.hid g4
                have G5 := Lib.hid g5
                clear hrec hop hUse hRC e2 e3 e5 hy1 g2 g3 g4 g5 r10 hmS hms1 hms2 hlt hUB
                go_wp2_with (rw [← HY1.out])
                refine (Hrec.out y1).mono ?_
                rintro e x2 ⟨vr, rfl, hown, hb2⟩
                have hlt2 := hown.lt
                obtain ⟨Ar, cr, rfl, hcl, hcm, hrd⟩ := hown.form
                rw [List.length_map] at hcl hlt2 hrd ⊢
                have j2 := G2.out.grow hb2
                have j3 := G3.out.grow hb2
                have j4 : IsDev x2 (fun k => ok k ∧ k < w.heap.size) (.agg DC) D := G4.out.frame (fun k _ hk => hb2.block k hk)
                have j5 := below_call G5.out hb2
                obtain ⟨r2, hr2⟩ : ∃ r2 : RJ, r2 = { ({ rk with data := UB } : RJ) with len := RC.1.length } := ⟨_, rfl⟩
                obtain ⟨y2, hy2⟩ : ∃ y2, y2 = x2.setCell ⟨w.heap.size + 2, 11, none⟩ (.int .i64 (RC.1.length : Int)) := ⟨_, rfl⟩
                have k3 : Blk y2 (w.heap.size + 2) 40 (jc DC r2) := by
                  have := j3.set_ 11 (.int .i64 (RC.1.length : Int))
                  rw [jc_st11 Hsz.out.1, ← hr2] at this
                  rw [hy2]; exact this
                have k2 : Blk y2 (w.heap.size + 1) 40 (jc zeroD rj0) := by rw [hy2]; exact j2.far (p := ⟨w.heap.size + 2, 11, none⟩) (by show w.heap.size + 1 ≠ w.heap.size + 2; omega) _
                have k5 : Below w.heap.size w y2 := by rw [hy2]; exact j5.setCell (p := ⟨w.heap.size + 2, 11, none⟩) (by show w.heap.size ≤ w.heap.size + 2; omega) _
                have k4 : IsDev y2 (fun k => ok k ∧ k < w.heap.size) (.agg DC) D := j4.frame (fun q hq _ => by rw [hy2]; exact heap_setCell_other _ _ _ _ (by show q ≠ w.heap.size + 2; omega))
                obtain ⟨y3, hy3⟩ : ∃ y3, y3 = y2.setRow (w.heap.size + 1) (jc DC r2) := ⟨_, rfl⟩
                have d2 : Blk y3 (w.heap.size + 1) 40 (jc DC r2) := by rw [hy3]; exact k2.setRow_ _
                have d4 : IsDev y3 (fun k => ok k ∨ w.heap.size ≤ k) (.agg DC) D := by rw [hy3]; exact k4.move (fun k hk _ => ⟨Or.inl hk.1, setRow_other _ _ _ _ (by omega)⟩)
                have d5 : Below w.heap.size w y3 := by rw [hy3]; exact below_setRow k5 (by omega) _
                have d6 : Rd y3 (fun k => w.heap.size ≤ k) Ar (RC.1.map str) := by
                  refine (hrd.frame (fun k hk _ => ?_)).weaken (fun k hk => ?_)
                  · have h1 := (hlt2 k hk).1
                    rw [hy3, hy2]
                    exact (setRow_other _ _ _ _ (by omega)).trans (heap_setCell_other _ _ _ _ (by show k ≠ w.heap.size + 2; omega))
                  · have h1 := (hlt2 k hk).1
                    omega
                have q11 : x2.cell? ⟨w.heap.size + 2, 11, none⟩ = some (.int .i64 (rk.len : Int)) := by
                  have := j3.cell 11
                  rw [show (11 : Nat) = 8 + 3 from rfl, jc_tail Hsz.out.1] at this
                  exact this
                have f11 := j3.frozen 11
                have hj2 : (Try.prog.info? 40).map (·.size) = some (jc DC r2).size := by rw [jc_size Hsz.out.1]; exact jn_info
                have ho2 : (jc zeroD rj0).size = (jc DC r2).size := by rw [jc_size Hsz.out.1]; rfl
                have hone2 : (jc DC r2).all (·.oneCell') = true := jc_one Hsz.out.2
                have hr3 : r2 = ⟨K.1, s, UB, RC.1.length, false⟩ := by rw [hr2, Hrk.out, ← HuK.out.1]
                have Hr3 := Lib.hid hr3
                have HY2 := Lib.hid hy2
                have HY3 := Lib.hid hy3
                have K2 := Lib.hid k2
                have K3 := Lib.hid k3
                have D2 := Lib.hid d2
                have D4 := Lib.hid d4
                have D5 := Lib.hid d5
                have D6 := Lib.hid d6
                have Hj2 := Lib.hid hj2
                have Ho2 := Lib.hid ho2
                have Hone2 := Lib.hid hone2
                clear hown hlt2 hrd hcl hcm j2 j3 j4 j5 hr2 hy2 hy3 k2 k3 k4 k5 d2 d4 d5 d6 hj2 ho2 hone2 hr3 hb2 q10 f10 r10'
                go_wp2_with (first | (rw [← HY2.out]; refine wpList_load_row rfl 40 (.tmp 5) rfl (w.heap.size + 2) rfl 40 (jc DC r2) (0, 0) _ K3.out Try.underlying40 rfl Hj2.out ?_) | (refine wpList_store_row rfl 40 (.tmp 2) (.tmp 86) rfl (w.heap.size + 1) (jc DC r2) rfl rfl 40 (jc zeroD rj0) K2.out Hj2.out Ho2.out Hone2.out ?_; rw [← HY3.out]))
                refine bodyPost_ret (v := .tuple #[.agg (jc DC r2), .slice Ar RC.1.length cr, .int .i64 (RC.2 : Int)]) (results_cell_tmp2 Try.results17 _ _ (w.heap.size + 1) 40 (jc DC r2) (0, 0) _ _ _ rfl rfl rfl D2.out Try.underlying40 rfl Hj2.out) rfl ⟨.agg (jc DC r2), Ar, cr, ?_, ?_, ?_, D5.out⟩
                · rw [Hop.out]
                · rw [Hop.out, ← Hr3.out]; exact IsRJ.of_cells D4.out r2
                · rw [Hop.out]; exact D6.out
end Go.Proofs.Ytiaabgmmmekpnaa
