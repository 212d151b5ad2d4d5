/-
  wardshipref03: Cut.
-/
import Derived.Test.YtffmnhjkfeoofaaRefPlan
import Derived.StillTailTactics
namespace Go.Proofs.Ytffmnhjkfeoofaa
open Go.RowKit
set_option maxRecDepth 100000

theorem with_txt (ok : Nat → Prop) (v : Value) (L : List (List UInt8)) (i : Nat) (b : ByteArray) (s : List UInt8) (w : World) (hv : IsL kStr w ok v L) (hi : i < L.length) (hl : L.length ≤ 1099511627776) (hb : b.data.toList = s) (hs : s.length ≤ maxLen) :
    Calls Try.prog 64 #[v, .int .i64 (i : Int), .string b] w fun e w' => ∃ v', e = .returned v' ∧ OwnL kStr w' w.heap.size 9 v' (L.set i s) ∧ Below w.heap.size w w' := by
  have e : (Value.string b) = str s := by
    unfold str
    rw [← hb]
  rw [e]
  exact with_any ok v L i s w hv hi hl hs
theorem cut_txt (a b : List UInt8) (n : Nat) : ((⟨a.toArray⟩ : ByteArray).extract 0 n ++ (⟨b.toArray⟩ : ByteArray).extract n b.length).data.toList = a.take n ++ b.drop n := by
  simp [ByteArray.data_append, ByteArray.data_extract]
  exact List.take_of_length_le (by simp)

theorem cut_txt256 (a b : List UInt8) (n : Nat) (hb : b.length = 256) : ((⟨a.toArray⟩ : ByteArray).extract 0 n ++ (⟨b.toArray⟩ : ByteArray).extract n 256).data.toList = a.take n ++ b.drop n := by rw [← hb]; exact cut_txt a b n

theorem whole_txt (a : List UInt8) (h : a.length = 256) : ((⟨a.toArray⟩ : ByteArray).extract 0 256).data.toList = a := by
  rw [← h]
  simp [ByteArray.data_extract]

set_option maxHeartbeats 8000000 in
theorem refcut_any (ok : Nat → Prop) (v : Value) (D : Dev) (vc : Value) (c : Choice) (w : World) (hv : IsDev w ok v D) (hc : IsC w ok vc c) (hwf : D.Wf) (hn : D.sure.length ≤ 1099511627776) (hl : D.loose.length ≤ 1099511627776) :
    Calls Try.prog 42 #[v, vc] w fun e w' => ∃ v', e = .returned v' ∧ IsDev w' (fun k => ok k ∨ w.heap.size ≤ k) v' (D.cut c) ∧ Below w.heap.size w w' := by
  obtain ⟨A1, c1, A2, c2, A3, c3, rfl, h1, h2, h3⟩ := hv
  obtain ⟨vk, rfl, hL⟩ := hc
  obtain ⟨Ac, nc, _, hvk, _, _, _, _⟩ := id hL
  subst hvk
  have H1 := Lib.hid h1
  have H2 := Lib.hid h2
  have H3 := Lib.hid h3
  have HL := Lib.hid hL
  have Hwf := Lib.hid hwf
  clear h1 h2 h3 hL hwf
  cases hoff : D.off with
  | true =>
    have hcut : D.cut c = D := by unfold Dev.cut; rw [hoff]; rfl
    have Hcut := Lib.hid hcut
    clear hcut
    go_enter Try.func42, Try.ntmps42
    go_wp2
    have hb0 : Below w.heap.size w (((w.alloc (.cells #[.slice A1 D.sure.length c1, .slice A2 D.loose.length c2, .int .i64 D.left, .slice A3 D.choice.kept.length c3, .int .i64 D.choice.torn, .int .i64 D.choice.half, .int .i64 (D.changes : Int), .bool true] 36)).alloc (.cells #[.slice Ac c.kept.length nc, .int .i64 c.torn, .int .i64 c.half] 34)).alloc (.cells #[.slice A1 D.sure.length c1, .slice A2 D.loose.length c2, .int .i64 D.left, .slice A3 D.choice.kept.length c3, .int .i64 D.choice.torn, .int .i64 D.choice.half, .int .i64 (D.changes : Int), .bool true] 36)) := by
      exact ((((Below.refl _ _).alloc (Nat.le_refl _) _).alloc (by simp) _).alloc (by simp; omega) _)
    refine bodyPost_ret (v := .agg #[.slice A1 D.sure.length c1, .slice A2 D.loose.length c2, .int .i64 D.left, .slice A3 D.choice.kept.length c3, .int .i64 D.choice.torn, .int .i64 D.choice.half, .int .i64 (D.changes : Int), .bool true]) (by simp [results, Try.results42, go_sem]) rfl ?_
    refine ⟨_, rfl, ?_, hb0⟩
    rw [Hcut.out]
    exact ⟨A1, c1, A2, c2, A3, c3, by rw [hoff], (H1.out.grow hb0).weaken fun _ h => .inl h, (H2.out.grow hb0).weaken fun _ h => .inl h, (H3.out.grow hb0).weaken fun _ h => .inl h⟩
  | false =>
    have hb0 : Below w.heap.size w (((w.alloc (.cells #[.slice A1 D.sure.length c1, .slice A2 D.loose.length c2, .int .i64 D.left, .slice A3 D.choice.kept.length c3, .int .i64 D.choice.torn, .int .i64 D.choice.half, .int .i64 (D.changes : Int), .bool false] 36)).alloc (.cells #[.slice Ac c.kept.length nc, .int .i64 c.torn, .int .i64 c.half] 34)).alloc (.cells #[.slice none 0 0, .slice none 0 0, .int .i64 0, .slice none 0 0, .int .i64 0, .int .i64 0, .int .i64 0, .bool false] 36)) := ((((Below.refl _ _).alloc (Nat.le_refl _) _).alloc (by simp) _).alloc (by simp; omega) _)
    have hB0 : Blk (((w.alloc (.cells #[.slice A1 D.sure.length c1, .slice A2 D.loose.length c2, .int .i64 D.left, .slice A3 D.choice.kept.length c3, .int .i64 D.choice.torn, .int .i64 D.choice.half, .int .i64 (D.changes : Int), .bool false] 36)).alloc (.cells #[.slice Ac c.kept.length nc, .int .i64 c.torn, .int .i64 c.half] 34)).alloc (.cells #[.slice none 0 0, .slice none 0 0, .int .i64 0, .slice none 0 0, .int .i64 0, .int .i64 0, .int .i64 0, .bool false] 36)) w.heap.size 36 #[.slice A1 D.sure.length c1, .slice A2 D.loose.length c2, .int .i64 D.left, .slice A3 D.choice.kept.length c3, .int .i64 D.choice.torn, .int .i64 D.choice.half, .int .i64 (D.changes : Int), .bool false] := ((Blk.new w _ _).alloc _).alloc _
    have hB1 : Blk (((w.alloc (.cells #[.slice A1 D.sure.length c1, .slice A2 D.loose.length c2, .int .i64 D.left, .slice A3 D.choice.kept.length c3, .int .i64 D.choice.torn, .int .i64 D.choice.half, .int .i64 (D.changes : Int), .bool false] 36)).alloc (.cells #[.slice Ac c.kept.length nc, .int .i64 c.torn, .int .i64 c.half] 34)).alloc (.cells #[.slice none 0 0, .slice none 0 0, .int .i64 0, .slice none 0 0, .int .i64 0, .int .i64 0, .int .i64 0, .bool false] 36)) (w.heap.size + 1) 34 #[.slice Ac c.kept.length nc, .int .i64 c.torn, .int .i64 c.half] := by
      have := (Blk.new (w.alloc (.cells #[.slice A1 D.sure.length c1, .slice A2 D.loose.length c2, .int .i64 D.left, .slice A3 D.choice.kept.length c3, .int .i64 D.choice.torn, .int .i64 D.choice.half, .int .i64 (D.changes : Int), .bool false] 36)) 34 #[.slice Ac c.kept.length nc, .int .i64 c.torn, .int .i64 c.half]).alloc (.cells #[.slice none 0 0, .slice none 0 0, .int .i64 0, .slice none 0 0, .int .i64 0, .int .i64 0, .int .i64 0, .bool false] 36)
      simpa using this
    have hB2 : Blk (((w.alloc (.cells #[.slice A1 D.sure.length c1, .slice A2 D.loose.length c2, .int .i64 D.left, .slice A3 D.choice.kept.length c3, .int .i64 D.choice.torn, .int .i64 D.choice.half, .int .i64 (D.changes : Int), .bool false] 36)).alloc (.cells #[.slice Ac c.kept.length nc, .int .i64 c.torn, .int .i64 c.half] 34)).alloc (.cells #[.slice none 0 0, .slice none 0 0, .int .i64 0, .slice none 0 0, .int .i64 0, .int .i64 0, .int .i64 0, .bool false] 36)) (w.heap.size + 1 + 1) 36 #[.slice none 0 0, .slice none 0 0, .int .i64 0, .slice none 0 0, .int .i64 0, .int .i64 0, .int .i64 0, .bool false] := by
      have := Blk.new ((w.alloc (.cells #[.slice A1 D.sure.length c1, .slice A2 D.loose.length c2, .int .i64 D.left, .slice A3 D.choice.kept.length c3, .int .i64 D.choice.torn, .int .i64 D.choice.half, .int .i64 (D.changes : Int), .bool false] 36)).alloc (.cells #[.slice Ac c.kept.length nc, .int .i64 c.torn, .int .i64 c.half] 34)) 36 #[.slice none 0 0, .slice none 0 0, .int .i64 0, .slice none 0 0, .int .i64 0, .int .i64 0, .int .i64 0, .bool false]
      simpa using this
    have hS0 : IsL kStr (((w.alloc (.cells #[.slice A1 D.sure.length c1, .slice A2 D.loose.length c2, .int .i64 D.left, .slice A3 D.choice.kept.length c3, .int .i64 D.choice.torn, .int .i64 D.choice.half, .int .i64 (D.changes : Int), .bool false] 36)).alloc (.cells #[.slice Ac c.kept.length nc, .int .i64 c.torn, .int .i64 c.half] 34)).alloc (.cells #[.slice none 0 0, .slice none 0 0, .int .i64 0, .slice none 0 0, .int .i64 0, .int .i64 0, .int .i64 0, .bool false] 36)) (fun k => (ok k ∧ k < w.heap.size) ∨ w.heap.size + 3 ≤ k) (.slice A1 D.sure.length c1) (cutS c D.sure 0 (D.loose.take 0)) := H1.out.move fun k ho hk => ⟨.inl ⟨ho, hk⟩, hb0.block k hk⟩
    have Hb0 := Lib.hid hb0
    have HB0 := Lib.hid hB0
    have HB1 := Lib.hid hB1
    have HB2 := Lib.hid hB2
    have HS0 := Lib.hid hS0
    clear hb0 hB0 hB1 hB2 hS0
    go_enter Try.func42, Try.ntmps42
    go_wp2
    go_loopw [5] (fun i wr => ∃ (k : Nat) (As : Option Addr) (cs : Nat), k ≤ D.loose.length ∧ i = .int .i64 (k : Int) ∧ Blk wr w.heap.size 36 #[.slice As D.sure.length cs, .slice A2 D.loose.length c2, .int .i64 D.left, .slice A3 D.choice.kept.length c3, .int .i64 D.choice.torn, .int .i64 D.choice.half, .int .i64 (D.changes : Int), .bool false] ∧ Blk wr (w.heap.size + 1) 34 #[.slice Ac c.kept.length nc, .int .i64 c.torn, .int .i64 c.half] ∧ Blk wr (w.heap.size + 1 + 1) 36 #[.slice none 0 0, .slice none 0 0, .int .i64 0, .slice none 0 0, .int .i64 0, .int .i64 0, .int .i64 0, .bool false] ∧ IsL kStr wr (fun k => (ok k ∧ k < w.heap.size) ∨ w.heap.size + 3 ≤ k) (.slice As D.sure.length cs) (cutS c D.sure 0 (D.loose.take k)) ∧ Below w.heap.size w wr) (fun i _ => D.loose.length - (intOf i).toNat)
    case atStart => exact ⟨0, A1, c1, Nat.zero_le _, rfl, HB0.out, HB1.out, HB2.out, HS0.out, Hb0.out⟩
    case round =>
      obtain ⟨k, As, cs, hk, rfl, hB0, hB1, hB2, hS, hbw⟩ := hrel
      clear HB0 HB1 HB2 HS0 Hb0
      have e00 := hB0.cell 0
      have e01 := hB0.cell 1
      have e04 := hB0.cell 4
      have e06 := hB0.cell 6
      have ef := hB0.frozen 0
      have f0 := hB1.cell 0
      have f1 := hB1.cell 1
      have f2 := hB1.cell 2
      simp at e00 e01 e04 e06 f0 f1 f2
      have hsz := hB2.lt
      have HB0 := Lib.hid hB0
      have HB1 := Lib.hid hB1
      have HB2 := Lib.hid hB2
      have HS := Lib.hid hS
      have Hbw := Lib.hid hbw
      clear hB0 hB1 hB2 hS hbw
      by_cases hlt : k < D.loose.length
      · obtain ⟨hx1, hx2⟩ := Hwf.out.loose D.loose[k] (List.getElem_mem hlt)
        obtain ⟨_, _, e2, _, hm2, hel2⟩ := write_at (H2.out.grow Hbw.out)
        cases e2
        obtain ⟨b2, o2, rfl, _, hbl2, hcells⟩ := hel2 (by intro e; rw [e] at hlt; simp at hlt)
        obtain ⟨g0, g1, _, _⟩ := hcells k hlt
        obtain ⟨S, hS⟩ : ∃ S, S = cutS c D.sure 0 (D.loose.take k) := ⟨_, rfl⟩
        have hSl : S.length = D.sure.length := by rw [hS, cutS_length]
        have hSw : ∀ s ∈ S, s.length = 256 := by rw [hS]; exact cutS_wf c D.sure 0 (D.loose.take k) Hwf.out.sure (fun x hx => Hwf.out.loose x (List.mem_of_mem_take hx))
        have hSn := cutS_take c D.sure D.loose k hlt
        rw [← hS] at hSn
        have hS1 := HS.out
        rw [← hS] at hS1
        have hSv := hS1
        rw [← hSl] at hS1
        obtain ⟨_, _, e1, _, hm1, hel1⟩ := str_at hS1
        cases e1
        have hxS : D.loose[k].1 < S.length := by omega
        obtain ⟨b1, o1, rfl, _, hbl1, hcells1⟩ := hel1 (by intro e; rw [e] at hxS; simp at hxS)
        obtain ⟨q0, _⟩ := hcells1 D.loose[k].1 hxS
        have hy := hSw _ (List.getElem_mem hxS)
        obtain ⟨y, hyy⟩ : ∃ y, y = S[D.loose[k].1] := ⟨_, rfl⟩
        have hyd : S.getD D.loose[k].1 [] = y := by rw [hyy, List.getD_eq_getElem?_getD, List.getElem?_eq_getElem hxS]; rfl
        rw [← hyy] at q0 hy
        rw [hyd] at hSn
        obtain ⟨xi, hxi⟩ : ∃ xi, xi = D.loose[k].1 := ⟨_, rfl⟩
        obtain ⟨xs, hxs⟩ : ∃ xs, xs = D.loose[k].2 := ⟨_, rfl⟩
        rw [← hxi] at g0 hx1 hxS q0 hSn
        rw [← hxs] at g1 hx2 hSn
        unfold maxLen at hm1 hm2
        have HS1 := Lib.hid hS1
        have HSn := Lib.hid hSn
        have HSl := Lib.hid hSl
        have hxD : (xi : Int) < (D.sure.length : Int) := by omega
        have hxl1 : (256 : Int) ≤ (xs.length : Int) := by omega
        have hxl2 : (256 : Int) ≤ (y.length : Int) := by omega
        have Hx2 := Lib.hid hx2
        have Hy := Lib.hid hy
        have hbox : Below wr.heap.size wr (wr.alloc (.cells #[.int .i64 (xi : Int), str xs] 93)) := (Below.refl _ _).alloc (Nat.le_refl _) _
        have hblkO := Blk.new wr 93 #[.int .i64 (xi : Int), str xs]
        obtain ⟨W, hW⟩ : ∃ W, W = wr.alloc (.cells #[.int .i64 (xi : Int), str xs] 93) := ⟨_, rfl⟩
        rw [← hW] at hbox hblkO
        have p0 := hblkO.cell 0
        have p1 := hblkO.cell 1
        simp at p0 p1
        have e00W := cell_then hbox e00
        have q0W := cell_then hbox q0
        have f0W := cell_then hbox f0
        have f1W := cell_then hbox f1
        have f2W := cell_then hbox f2
        have hSvW := hSv.grow hbox
        have HkW := Lib.hid ((HL.out.grow Hbw.out).grow hbox)
        have HB0W := Lib.hid (HB0.out.grow hbox)
        have HB1W := Lib.hid (HB1.out.grow hbox)
        have HB2W := Lib.hid (HB2.out.grow hbox)
        have HbwW := Lib.hid (below_call Hbw.out hbox)
        have hwl : wr.heap.size < W.heap.size := hblkO.lt
        have hcall : ∀ u, (Below W.heap.size W u ∧ u.cell? ⟨w.heap.size, 0, none⟩ = some (.slice (some ⟨b1, o1, none⟩) D.sure.length cs) ∧ u.cell? ⟨wr.heap.size, 0, none⟩ = some (.int .i64 (xi : Int)) ∧ u.cell? ⟨wr.heap.size, 1, none⟩ = some (str xs) ∧ u.cell? ⟨b1, o1 + xi, none⟩ = some (str y)) → IsL kStr u (fun k => (ok k ∧ k < w.heap.size) ∨ w.heap.size + 3 ≤ k) (.slice (some ⟨b1, o1, none⟩) D.sure.length cs) S := fun u hu => hSvW.grow hu.1
        have Hcall := Lib.hid hcall
        have HSvW := Lib.hid hSvW
        have HW := Lib.hid hW
        have Hbox := Lib.hid hbox
        have HblkO := Lib.hid hblkO
        clear hcells hcells1 hel1 hel2 hS hSw hyd hyy hxi hxs hS1 hSn hSl HS hSv hbox hblkO hW hSvW hcall
        by_cases ht : c.torn = (k : Int)
        · by_cases hkk : (k : Int) ∈ c.kept
          · have ht1 : (c.torn == (k : Int)) = true := by simpa using ht
            have hst : 256 = c.stay k := by unfold Choice.stay; rw [if_pos hkk]
            have Hst := Lib.hid hst
            have Hkk := Lib.hid hkk
            clear hst hkk ht
            go_upto_region 8 with (fail)
            rw [← HW.out]
            go_wp2_with fail
            refine (in_any _ _ c.kept (k : Int) _ HkW.out).mono ?_
            rintro e w' ⟨rfl, rfl⟩
            rw [show decide ((k : Int) ∈ c.kept) = true by simpa using Hkk.out]
            go_upto_region 12 with (fail)
            go_still_tail 17, (by kernel_rfl)
            change wpList _ _ _ _ _ W.drew
            go_wp2_with fail
            refine (with_txt (fun k => (ok k ∧ k < w.heap.size) ∨ w.heap.size + 3 ≤ k) _ S xi _ (xs.take 256 ++ y.drop 256) _ (HSvW.out.grow ((Below.refl _ _).drew)) hxS (by rw [HSl.out]; exact hn) (by rw [List.take_of_length_le (by rw [Hx2.out]; exact Nat.le_refl _), List.drop_eq_nil_of_le (by rw [Hy.out]; exact Nat.le_refl _), List.append_nil]; exact whole_txt xs Hx2.out) (by rw [List.length_append, List.length_take, List.length_drop, Hx2.out, Hy.out]; unfold maxLen; omega)).mono ?_
            rintro e w5 ⟨v5, rfl, hown5, hb5'⟩
            obtain ⟨A5, c5, _, hv5, _, _, _, _⟩ := hown5.isL
            rw [List.length_set, HSl.out] at hv5
            subst hv5
            have hb5 := below_drew_then hb5'
            have hff5 := (HB0W.out.grow hb5).frozen 0
            have hcc5 := (HB0W.out.grow hb5).cell 0
            simp at hcc5
            have hN : cutS c D.sure 0 (D.loose.take (k + 1)) = S.set xi (xs.take 256 ++ y.drop 256) := by rw [HSn.out, Hst.out]
            have hP5 : ∀ g, (Value.slice A5 D.sure.length c5).ownBlock = some g → w.heap.size + 3 ≤ g := fun g hg => by
              have := (hown5.lt g hg).1
              have h2 : W.heap.size ≤ g := this
              omega
            have hw6 : IsL kStr (w5.setCell ⟨w.heap.size, 0, none⟩ (.slice A5 D.sure.length c5)) (fun k => (ok k ∧ k < w.heap.size) ∨ w.heap.size + 3 ≤ k) (.slice A5 D.sure.length c5) (cutS c D.sure 0 (D.loose.take (k + 1))) := by
              rw [hN]
              exact hown5.isL.move fun g hg _ => ⟨.inr (hP5 g hg), Below.heap_setCell _ _ _ _ (fun (e : g = w.heap.size) => by have := hP5 g hg; omega)⟩
            have Hw6 := Lib.hid hw6
            have Hb5 := Lib.hid hb5
            clear hw6 hP5 hN hown5 hb5 hb5'
            go_wp2_with fail
            go_roundw
            case rel =>
              refine ⟨k + 1, A5, c5, by omega, by go_num, ?_, (HB1W.out.grow Hb5.out).far (p := ⟨w.heap.size, 0, none⟩) (by simp) _, (HB2W.out.grow Hb5.out).far (p := ⟨w.heap.size, 0, none⟩) (by simp; omega) _, Hw6.out, (below_call HbwW.out Hb5.out).setCell (Nat.le_refl _) _⟩
              have := (HB0W.out.grow Hb5.out).set_ 0 (.slice A5 D.sure.length c5)
              simpa using this
            case measure => simp [intOf]; omega
          · have ht1 : (c.torn == (k : Int)) = true := by simpa using ht
            have hstay : c.stay k = (max 0 (min c.half 256)).toNat := by unfold Choice.stay; rw [if_neg hkk, if_pos ht]
            have hst256 := stay_le c k
            obtain ⟨st, hst⟩ : ∃ st, st = c.stay k := ⟨_, rfl⟩
            have hsti : max 0 (min c.half 256) = (st : Int) := by omega
            have hs1 : (st : Int) ≤ (xs.length : Int) := by omega
            have hs2 : (st : Int) ≤ (y.length : Int) := by omega
            have hs256 : (st : Int) ≤ 256 := by omega
            have hcat : ¬ 9223372036854775807 < min st 256 + (256 - st) := by omega
            have Hsti := Lib.hid hsti
            clear hstay hsti
            have Hst := Lib.hid hst
            have Hkk := Lib.hid hkk
            clear hst hkk ht
            go_upto_region 8 with (fail)
            rw [← HW.out]
            go_wp2_with fail
            refine (in_any _ _ c.kept (k : Int) _ HkW.out).mono ?_
            rintro e w' ⟨rfl, rfl⟩
            rw [show decide ((k : Int) ∈ c.kept) = false by simpa using Hkk.out]
            go_upto_region 12 with (fail)
            rw [Hsti.out]
            go_still_tail 17, (by kernel_rfl)
            change wpList _ _ _ _ _ W.drew
            go_wp2_with fail
            refine (with_txt (fun k => (ok k ∧ k < w.heap.size) ∨ w.heap.size + 3 ≤ k) _ S xi _ (xs.take st ++ y.drop st) _ (HSvW.out.grow ((Below.refl _ _).drew)) hxS (by rw [HSl.out]; exact hn) (cut_txt256 xs y st Hy.out) (by rw [List.length_append, List.length_take, List.length_drop, Hx2.out, Hy.out]; unfold maxLen; omega)).mono ?_
            rintro e w5 ⟨v5, rfl, hown5, hb5'⟩
            obtain ⟨A5, c5, _, hv5, _, _, _, _⟩ := hown5.isL
            rw [List.length_set, HSl.out] at hv5
            subst hv5
            have hb5 := below_drew_then hb5'
            have hff5 := (HB0W.out.grow hb5).frozen 0
            have hcc5 := (HB0W.out.grow hb5).cell 0
            simp at hcc5
            have hN : cutS c D.sure 0 (D.loose.take (k + 1)) = S.set xi (xs.take st ++ y.drop st) := by rw [HSn.out, Hst.out]
            have hP5 : ∀ g, (Value.slice A5 D.sure.length c5).ownBlock = some g → w.heap.size + 3 ≤ g := fun g hg => by
              have := (hown5.lt g hg).1
              have h2 : W.heap.size ≤ g := this
              omega
            have hw6 : IsL kStr (w5.setCell ⟨w.heap.size, 0, none⟩ (.slice A5 D.sure.length c5)) (fun k => (ok k ∧ k < w.heap.size) ∨ w.heap.size + 3 ≤ k) (.slice A5 D.sure.length c5) (cutS c D.sure 0 (D.loose.take (k + 1))) := by
              rw [hN]
              exact hown5.isL.move fun g hg _ => ⟨.inr (hP5 g hg), Below.heap_setCell _ _ _ _ (fun (e : g = w.heap.size) => by have := hP5 g hg; omega)⟩
            have Hw6 := Lib.hid hw6
            have Hb5 := Lib.hid hb5
            clear hw6 hP5 hN hown5 hb5 hb5'
            go_wp2_with fail
            go_roundw
            case rel =>
              refine ⟨k + 1, A5, c5, by omega, by go_num, ?_, (HB1W.out.grow Hb5.out).far (p := ⟨w.heap.size, 0, none⟩) (by simp) _, (HB2W.out.grow Hb5.out).far (p := ⟨w.heap.size, 0, none⟩) (by simp; omega) _, Hw6.out, (below_call HbwW.out Hb5.out).setCell (Nat.le_refl _) _⟩
              have := (HB0W.out.grow Hb5.out).set_ 0 (.slice A5 D.sure.length c5)
              simpa using this
            case measure => simp [intOf]; omega
        · by_cases hkk : (k : Int) ∈ c.kept
          · have ht1 : (c.torn == (k : Int)) = false := by simpa using ht
            have hst : 256 = c.stay k := by unfold Choice.stay; rw [if_pos hkk]
            have Hst := Lib.hid hst
            have Hkk := Lib.hid hkk
            clear hst hkk ht
            go_upto_region 8 with (fail)
            rw [← HW.out]
            go_wp2_with fail
            refine (in_any _ _ c.kept (k : Int) _ HkW.out).mono ?_
            rintro e w' ⟨rfl, rfl⟩
            rw [show decide ((k : Int) ∈ c.kept) = true by simpa using Hkk.out]
            go_upto_region 12 with (fail)
            go_still_tail 17, (by kernel_rfl)
            change wpList _ _ _ _ _ W.drew
            go_wp2_with fail
            refine (with_txt (fun k => (ok k ∧ k < w.heap.size) ∨ w.heap.size + 3 ≤ k) _ S xi _ (xs.take 256 ++ y.drop 256) _ (HSvW.out.grow ((Below.refl _ _).drew)) hxS (by rw [HSl.out]; exact hn) (by rw [List.take_of_length_le (by rw [Hx2.out]; exact Nat.le_refl _), List.drop_eq_nil_of_le (by rw [Hy.out]; exact Nat.le_refl _), List.append_nil]; exact whole_txt xs Hx2.out) (by rw [List.length_append, List.length_take, List.length_drop, Hx2.out, Hy.out]; unfold maxLen; omega)).mono ?_
            rintro e w5 ⟨v5, rfl, hown5, hb5'⟩
            obtain ⟨A5, c5, _, hv5, _, _, _, _⟩ := hown5.isL
            rw [List.length_set, HSl.out] at hv5
            subst hv5
            have hb5 := below_drew_then hb5'
            have hff5 := (HB0W.out.grow hb5).frozen 0
            have hcc5 := (HB0W.out.grow hb5).cell 0
            simp at hcc5
            have hN : cutS c D.sure 0 (D.loose.take (k + 1)) = S.set xi (xs.take 256 ++ y.drop 256) := by rw [HSn.out, Hst.out]
            have hP5 : ∀ g, (Value.slice A5 D.sure.length c5).ownBlock = some g → w.heap.size + 3 ≤ g := fun g hg => by
              have := (hown5.lt g hg).1
              have h2 : W.heap.size ≤ g := this
              omega
            have hw6 : IsL kStr (w5.setCell ⟨w.heap.size, 0, none⟩ (.slice A5 D.sure.length c5)) (fun k => (ok k ∧ k < w.heap.size) ∨ w.heap.size + 3 ≤ k) (.slice A5 D.sure.length c5) (cutS c D.sure 0 (D.loose.take (k + 1))) := by
              rw [hN]
              exact hown5.isL.move fun g hg _ => ⟨.inr (hP5 g hg), Below.heap_setCell _ _ _ _ (fun (e : g = w.heap.size) => by have := hP5 g hg; omega)⟩
            have Hw6 := Lib.hid hw6
            have Hb5 := Lib.hid hb5
            clear hw6 hP5 hN hown5 hb5 hb5'
            go_wp2_with fail
            go_roundw
            case rel =>
              refine ⟨k + 1, A5, c5, by omega, by go_num, ?_, (HB1W.out.grow Hb5.out).far (p := ⟨w.heap.size, 0, none⟩) (by simp) _, (HB2W.out.grow Hb5.out).far (p := ⟨w.heap.size, 0, none⟩) (by simp; omega) _, Hw6.out, (below_call HbwW.out Hb5.out).setCell (Nat.le_refl _) _⟩
              have := (HB0W.out.grow Hb5.out).set_ 0 (.slice A5 D.sure.length c5)
              simpa using this
            case measure => simp [intOf]; omega
          · have ht1 : (c.torn == (k : Int)) = false := by simpa using ht
            have hst : 0 = c.stay k := by unfold Choice.stay; rw [if_neg hkk, if_neg ht]
            have Hst := Lib.hid hst
            have Hkk := Lib.hid hkk
            clear hst hkk ht
            go_upto_region 8 with (fail)
            rw [← HW.out]
            go_wp2_with fail
            refine (in_any _ _ c.kept (k : Int) _ HkW.out).mono ?_
            rintro e w' ⟨rfl, rfl⟩
            rw [show decide ((k : Int) ∈ c.kept) = false by simpa using Hkk.out]
            go_upto_region 12 with (fail)
            go_still_tail 17, (by kernel_rfl)
            change wpList _ _ _ _ _ W.drew
            go_wp2_with fail
            refine (with_txt (fun k => (ok k ∧ k < w.heap.size) ∨ w.heap.size + 3 ≤ k) _ S xi _ (xs.take 0 ++ y.drop 0) _ (HSvW.out.grow ((Below.refl _ _).drew)) hxS (by rw [HSl.out]; exact hn) (by rw [List.take_zero, List.drop_zero, List.nil_append]; exact whole_txt y Hy.out) (by rw [List.length_append, List.length_take, List.length_drop, Hx2.out, Hy.out]; unfold maxLen; omega)).mono ?_
            rintro e w5 ⟨v5, rfl, hown5, hb5'⟩
            obtain ⟨A5, c5, _, hv5, _, _, _, _⟩ := hown5.isL
            rw [List.length_set, HSl.out] at hv5
            subst hv5
            have hb5 := below_drew_then hb5'
            have hff5 := (HB0W.out.grow hb5).frozen 0
            have hcc5 := (HB0W.out.grow hb5).cell 0
            simp at hcc5
            have hN : cutS c D.sure 0 (D.loose.take (k + 1)) = S.set xi (xs.take 0 ++ y.drop 0) := by rw [HSn.out, Hst.out]
            have hP5 : ∀ g, (Value.slice A5 D.sure.length c5).ownBlock = some g → w.heap.size + 3 ≤ g := fun g hg => by
              have := (hown5.lt g hg).1
              have h2 : W.heap.size ≤ g := this
              omega
            have hw6 : IsL kStr (w5.setCell ⟨w.heap.size, 0, none⟩ (.slice A5 D.sure.length c5)) (fun k => (ok k ∧ k < w.heap.size) ∨ w.heap.size + 3 ≤ k) (.slice A5 D.sure.length c5) (cutS c D.sure 0 (D.loose.take (k + 1))) := by
              rw [hN]
              exact hown5.isL.move fun g hg _ => ⟨.inr (hP5 g hg), Below.heap_setCell _ _ _ _ (fun (e : g = w.heap.size) => by have := hP5 g hg; omega)⟩
            have Hw6 := Lib.hid hw6
            have Hb5 := Lib.hid hb5
            clear hw6 hP5 hN hown5 hb5 hb5'
            go_wp2_with fail
            go_roundw
            case rel =>
              refine ⟨k + 1, A5, c5, by omega, by go_num, ?_, (HB1W.out.grow Hb5.out).far (p := ⟨w.heap.size, 0, none⟩) (by simp) _, (HB2W.out.grow Hb5.out).far (p := ⟨w.heap.size, 0, none⟩) (by simp; omega) _, Hw6.out, (below_call HbwW.out Hb5.out).setCell (Nat.le_refl _) _⟩
              have := (HB0W.out.grow Hb5.out).set_ 0 (.slice A5 D.sure.length c5)
              simpa using this
            case measure => simp [intOf]; omega
      · obtain rfl : k = D.loose.length := by omega
        obtain ⟨wa, rfl⟩ : ∃ x, x = wr := ⟨wr, rfl⟩
        have hcut : D.cut c = (⟨cutS c D.sure 0 D.loose, [], -1, noChoice, D.changes, true⟩ : Dev) := by
          unfold Dev.cut
          rw [hoff]
          rfl
        have Hcut := Lib.hid hcut
        clear hcut
        go_wp2_with (with_reducible refine wpList_store_fr (op := ⟨none, .store 36 (.tmp 4) (.tmp 58), _, _, _, _⟩) rfl _ _ _ rfl (w.heap.size + 1 + 1) 36 [.slice none 0 0, .slice none 0 0, .int .i64 0, .slice none 0 0, .int .i64 0, .int .i64 0, .int .i64 0, .bool false] [.slice As D.sure.length cs, .slice none 0 0, .int .i64 (-1), .slice none 0 0, .int .i64 0, .int .i64 0, .int .i64 (D.changes : Int), .bool true] rfl rfl HB2.out rfl (by kernel_rfl) (by simp [Value.oneCell']) ?_; intro w9 hblk9 hfr9)
        have z0 := hblk9.cell 0
        have z1 := hblk9.cell 1
        have z2 := hblk9.cell 2
        have z3 := hblk9.cell 3
        have z4 := hblk9.cell 4
        have z5 := hblk9.cell 5
        have z6 := hblk9.cell 6
        have z7 := hblk9.cell 7
        simp at z0 z1 z2 z3 z4 z5 z6 z7
        have hb9 : Below w.heap.size w w9 := Hbw.out.trans (hfr9.below (fun q (hq : q = w.heap.size + 1 + 1) => by omega) Hbw.out.size)
        refine bodyPost_ret (v := .agg #[.slice As D.sure.length cs, .slice none 0 0, .int .i64 (-1), .slice none 0 0, .int .i64 0, .int .i64 0, .int .i64 (D.changes : Int), .bool true]) (by simp [results, Try.results42, go_sem, z0, z1, z2, z3, z4, z5, z6, z7]) rfl ?_
        refine ⟨_, rfl, ?_, hb9⟩
        rw [Hcut.out]
        refine ⟨As, cs, none, 0, none, 0, by show _ = Value.agg #[.slice As (cutS c D.sure 0 D.loose).length cs, _, _, _, _, _, _, _]; rw [cutS_length]; rfl, ?_, IsL.nil, IsL.nil⟩
        have hS9 := HS.out
        rw [List.take_length] at hS9
        show IsL kStr w9 _ (.slice As (cutS c D.sure 0 D.loose).length cs) (cutS c D.sure 0 D.loose)
        rw [cutS_length]
        exact hS9.move fun q hq hlt => ⟨by rcases hq with h | h; exact .inl h.1; exact .inr (by omega), (hfr9.block q hlt (fun (e : q = w.heap.size + 1 + 1) => by rcases hq with h | h <;> omega)).2⟩
end Go.Proofs.Ytffmnhjkfeoofaa
