/-
  A whole value of many cells goes into a block that is known whole.
  wardshipref03: Plan.
  wardshipref03: Cut.
  wardshipref03: change.
  wardshipref03: New.
  wardshipref03: Put.
  wardshipref03: Barrier.
-/
import Derived.Test.YtiaabgmmmekpnaaDevTail
import Derived.Test.YtiaabgmmmekpnaaRefDev
import Derived.Test.YtiaabgmmmekpnaaDevChoice
import Derived.StillTailTactics
namespace Go.Proofs.Ytiaabgmmmekpnaa
open Go.RowKit
set_option maxRecDepth 100000

section
variable {P : Program} {ops : Array Oper} {rest : List Oper} {op : Oper} {a : Act} {w : World} {Q : Exit → Act → World → Prop}
/-- A whole array goes into a block that is known whole. -/
theorem wpList_store_fr (hgd : op.guard = none) (ty : TypeId) (x y : Operand) (ho : op.op = .store ty x y) (g : Nat) (t : TypeId) (old cs : List Value) (hx : a.eval x = .pointer (some ⟨g, 0, none⟩)) (hy : a.eval y = .agg cs.toArray)
    (hg : Blk w g t old.toArray) (hs : old.length = cs.length) (hi : (P.info? ty).map (·.size) = some cs.length) (h1 : ∀ v ∈ cs, v.oneCell' = true)
    (h : ∀ w', Blk w' g t cs.toArray → Fr (· = g) (· = g) w w' → wpList P ops Q rest (a.put op.dst undef) w') : wpList P ops Q (op :: rest) a w := by
  refine wpList_store_mid hgd ty x y ho g 0 cs.toArray hx hy ?_ (by simpa using hi) (all_oneCell_toArray h1) ?_
  · have := hg.there 0 old.length (by omega)
    rw [hs] at this
    simpa using this
  · refine h _ ?_ (Fr.setCells (F' := (· = g)) (Fr.refl (· = g) w) rfl _ _)
    have := Blk.setCells cs 0 w old hg (by omega)
    have e : splice old 0 cs = cs := by
      unfold splice
      rw [List.take_zero, List.nil_append, Nat.zero_add, List.drop_eq_nil_of_le (by omega), List.append_nil]
    rw [e] at this
    exact this
end
theorem Blk.all {w : World} {g : Nat} {t : TypeId} {cs : List Value} (h : Blk w g t cs.toArray) : w.rangeAt g 0 cs := h.range 0 cs (by rw [List.drop_zero, List.take_length])
end Go.Proofs.Ytiaabgmmmekpnaa

namespace Go.Proofs.Ytiaabgmmmekpnaa
open Go.RowKit
set_option maxRecDepth 100000

set_option maxHeartbeats 1000000 in
theorem refplan_any (ok : Nat → Prop) (v : Value) (D : Dev) (after : Int) (vc : Value) (c : Choice) (w : World) (hv : IsDev w ok v D) (hc : IsC w ok vc c) :
    Calls Try.prog 27 #[v, .int .i64 after, vc] w fun e w' => ∃ v', e = .returned v' ∧ IsDev w' ok v' (D.plan after c) ∧ Below w.heap.size w w' := by
  obtain ⟨A1, c1, A2, c2, A3, c3, rfl, h1, h2, h3⟩ := hv
  obtain ⟨vk, rfl, hL⟩ := hc
  obtain ⟨Ac, nc, _, hvk, _, _, _, _⟩ := id hL
  subst hvk
  have H1 := Lib.hid h1
  have H2 := Lib.hid h2
  have HL := Lib.hid hL
  clear h1 h2 h3 hL
  go_enter Try.func27, Try.ntmps27
  go_wp2
  go_region
  go_wp2
  have hb0 : Below w.heap.size w (((w.alloc (.cells #[.slice A1 D.sure.length c1, .slice A2 D.loose.length c2, .int .i64 (max after (-1)), .slice Ac c.kept.length nc, .int .i64 c.torn, .int .i64 c.half, .int .i64 (D.changes : Int), .bool D.off] 36)).alloc (.cells #[.slice Ac c.kept.length nc, .int .i64 c.torn, .int .i64 c.half] 34)).alloc (.cells #[.slice A1 D.sure.length c1, .slice A2 D.loose.length c2, .int .i64 (max after (-1)), .slice Ac c.kept.length nc, .int .i64 c.torn, .int .i64 c.half, .int .i64 (D.changes : Int), .bool D.off] 36)).drew := by
    exact ((((Below.refl _ _).alloc (Nat.le_refl _) _).alloc (by simp) _).alloc (by simp; omega) _).drew
  refine bodyPost_ret (v := .agg #[.slice A1 D.sure.length c1, .slice A2 D.loose.length c2, .int .i64 (max after (-1)), .slice Ac c.kept.length nc, .int .i64 c.torn, .int .i64 c.half, .int .i64 (D.changes : Int), .bool D.off]) (by simp [results, Try.results27, go_sem]) rfl ?_
  exact ⟨_, rfl, ⟨A1, c1, A2, c2, Ac, nc, rfl, H1.out.grow hb0, H2.out.grow hb0, HL.out.grow hb0⟩, hb0⟩
end Go.Proofs.Ytiaabgmmmekpnaa

namespace Go.Proofs.Ytiaabgmmmekpnaa
open Go.RowKit
set_option maxRecDepth 100000

theorem with_txt (ok : Nat → Prop) (v : Value) (L : List (List UInt8)) (i : Nat) (b : ByteArray) (s : List UInt8) (w : World) (hv : IsL kStr w ok v L) (hi : i < L.length) (hl : L.length ≤ 1099511627776) (hb : b.data.toList = s) (hs : s.length ≤ maxLen) :
    Calls Try.prog 49 #[v, .int .i64 (i : Int), .string b] w fun e w' => ∃ v', e = .returned v' ∧ OwnL kStr w' w.heap.size 9 v' (L.set i s) ∧ Below w.heap.size w w' := by
  have e : (Value.string b) = str s := by
    unfold str
    rw [← hb]
  rw [e]
  exact with_any ok v L i s w hv hi hl hs
theorem cut_txt (a b : List UInt8) (n : Nat) : ((⟨a.toArray⟩ : ByteArray).extract 0 n ++ (⟨b.toArray⟩ : ByteArray).extract n b.length).data.toList = a.take n ++ b.drop n := by
  simp [ByteArray.data_append, ByteArray.data_extract]
  exact List.take_of_length_le (by simp)

theorem cut_txt256 (a b : List UInt8) (n : Nat) (hb : b.length = 256) : ((⟨a.toArray⟩ : ByteArray).extract 0 n ++ (⟨b.toArray⟩ : ByteArray).extract n 256).data.toList = a.take n ++ b.drop n := by rw [← hb]; exact cut_txt a b n

theorem whole_txt (a : List UInt8) (h : a.length = 256) : ((⟨a.toArray⟩ : ByteArray).extract 0 256).data.toList = a := by
  rw [← h]
  simp [ByteArray.data_extract]

set_option maxHeartbeats 8000000 in
theorem refcut_any (ok : Nat → Prop) (v : Value) (D : Dev) (vc : Value) (c : Choice) (w : World) (hv : IsDev w ok v D) (hc : IsC w ok vc c) (hwf : D.Wf) (hn : D.sure.length ≤ 1099511627776) (hl : D.loose.length ≤ 1099511627776) :
    Calls Try.prog 24 #[v, vc] w fun e w' => ∃ v', e = .returned v' ∧ IsDev w' (fun k => ok k ∨ w.heap.size ≤ k) v' (D.cut c) ∧ Below w.heap.size w w' := by
  obtain ⟨A1, c1, A2, c2, A3, c3, rfl, h1, h2, h3⟩ := hv
  obtain ⟨vk, rfl, hL⟩ := hc
  obtain ⟨Ac, nc, _, hvk, _, _, _, _⟩ := id hL
  subst hvk
  have H1 := Lib.hid h1
  have H2 := Lib.hid h2
  have H3 := Lib.hid h3
  have HL := Lib.hid hL
  have Hwf := Lib.hid hwf
  clear h1 h2 h3 hL hwf
  cases hoff : D.off with
  | true =>
    have hcut : D.cut c = D := by unfold Dev.cut; rw [hoff]; rfl
    have Hcut := Lib.hid hcut
    clear hcut
    go_enter Try.func24, Try.ntmps24
    go_wp2
    have hb0 : Below w.heap.size w (((w.alloc (.cells #[.slice A1 D.sure.length c1, .slice A2 D.loose.length c2, .int .i64 D.left, .slice A3 D.choice.kept.length c3, .int .i64 D.choice.torn, .int .i64 D.choice.half, .int .i64 (D.changes : Int), .bool true] 36)).alloc (.cells #[.slice Ac c.kept.length nc, .int .i64 c.torn, .int .i64 c.half] 34)).alloc (.cells #[.slice A1 D.sure.length c1, .slice A2 D.loose.length c2, .int .i64 D.left, .slice A3 D.choice.kept.length c3, .int .i64 D.choice.torn, .int .i64 D.choice.half, .int .i64 (D.changes : Int), .bool true] 36)) := by
      exact ((((Below.refl _ _).alloc (Nat.le_refl _) _).alloc (by simp) _).alloc (by simp; omega) _)
    refine bodyPost_ret (v := .agg #[.slice A1 D.sure.length c1, .slice A2 D.loose.length c2, .int .i64 D.left, .slice A3 D.choice.kept.length c3, .int .i64 D.choice.torn, .int .i64 D.choice.half, .int .i64 (D.changes : Int), .bool true]) (by simp [results, Try.results24, go_sem]) rfl ?_
    refine ⟨_, rfl, ?_, hb0⟩
    rw [Hcut.out]
    exact ⟨A1, c1, A2, c2, A3, c3, by rw [hoff], (H1.out.grow hb0).weaken fun _ h => .inl h, (H2.out.grow hb0).weaken fun _ h => .inl h, (H3.out.grow hb0).weaken fun _ h => .inl h⟩
  | false =>
    have hb0 : Below w.heap.size w (((w.alloc (.cells #[.slice A1 D.sure.length c1, .slice A2 D.loose.length c2, .int .i64 D.left, .slice A3 D.choice.kept.length c3, .int .i64 D.choice.torn, .int .i64 D.choice.half, .int .i64 (D.changes : Int), .bool false] 36)).alloc (.cells #[.slice Ac c.kept.length nc, .int .i64 c.torn, .int .i64 c.half] 34)).alloc (.cells #[.slice none 0 0, .slice none 0 0, .int .i64 0, .slice none 0 0, .int .i64 0, .int .i64 0, .int .i64 0, .bool false] 36)) := ((((Below.refl _ _).alloc (Nat.le_refl _) _).alloc (by simp) _).alloc (by simp; omega) _)
    have hB0 : Blk (((w.alloc (.cells #[.slice A1 D.sure.length c1, .slice A2 D.loose.length c2, .int .i64 D.left, .slice A3 D.choice.kept.length c3, .int .i64 D.choice.torn, .int .i64 D.choice.half, .int .i64 (D.changes : Int), .bool false] 36)).alloc (.cells #[.slice Ac c.kept.length nc, .int .i64 c.torn, .int .i64 c.half] 34)).alloc (.cells #[.slice none 0 0, .slice none 0 0, .int .i64 0, .slice none 0 0, .int .i64 0, .int .i64 0, .int .i64 0, .bool false] 36)) w.heap.size 36 #[.slice A1 D.sure.length c1, .slice A2 D.loose.length c2, .int .i64 D.left, .slice A3 D.choice.kept.length c3, .int .i64 D.choice.torn, .int .i64 D.choice.half, .int .i64 (D.changes : Int), .bool false] := ((Blk.new w _ _).alloc _).alloc _
    have hB1 : Blk (((w.alloc (.cells #[.slice A1 D.sure.length c1, .slice A2 D.loose.length c2, .int .i64 D.left, .slice A3 D.choice.kept.length c3, .int .i64 D.choice.torn, .int .i64 D.choice.half, .int .i64 (D.changes : Int), .bool false] 36)).alloc (.cells #[.slice Ac c.kept.length nc, .int .i64 c.torn, .int .i64 c.half] 34)).alloc (.cells #[.slice none 0 0, .slice none 0 0, .int .i64 0, .slice none 0 0, .int .i64 0, .int .i64 0, .int .i64 0, .bool false] 36)) (w.heap.size + 1) 34 #[.slice Ac c.kept.length nc, .int .i64 c.torn, .int .i64 c.half] := by
      have := (Blk.new (w.alloc (.cells #[.slice A1 D.sure.length c1, .slice A2 D.loose.length c2, .int .i64 D.left, .slice A3 D.choice.kept.length c3, .int .i64 D.choice.torn, .int .i64 D.choice.half, .int .i64 (D.changes : Int), .bool false] 36)) 34 #[.slice Ac c.kept.length nc, .int .i64 c.torn, .int .i64 c.half]).alloc (.cells #[.slice none 0 0, .slice none 0 0, .int .i64 0, .slice none 0 0, .int .i64 0, .int .i64 0, .int .i64 0, .bool false] 36)
      simpa using this
    have hB2 : Blk (((w.alloc (.cells #[.slice A1 D.sure.length c1, .slice A2 D.loose.length c2, .int .i64 D.left, .slice A3 D.choice.kept.length c3, .int .i64 D.choice.torn, .int .i64 D.choice.half, .int .i64 (D.changes : Int), .bool false] 36)).alloc (.cells #[.slice Ac c.kept.length nc, .int .i64 c.torn, .int .i64 c.half] 34)).alloc (.cells #[.slice none 0 0, .slice none 0 0, .int .i64 0, .slice none 0 0, .int .i64 0, .int .i64 0, .int .i64 0, .bool false] 36)) (w.heap.size + 1 + 1) 36 #[.slice none 0 0, .slice none 0 0, .int .i64 0, .slice none 0 0, .int .i64 0, .int .i64 0, .int .i64 0, .bool false] := by
      have := Blk.new ((w.alloc (.cells #[.slice A1 D.sure.length c1, .slice A2 D.loose.length c2, .int .i64 D.left, .slice A3 D.choice.kept.length c3, .int .i64 D.choice.torn, .int .i64 D.choice.half, .int .i64 (D.changes : Int), .bool false] 36)).alloc (.cells #[.slice Ac c.kept.length nc, .int .i64 c.torn, .int .i64 c.half] 34)) 36 #[.slice none 0 0, .slice none 0 0, .int .i64 0, .slice none 0 0, .int .i64 0, .int .i64 0, .int .i64 0, .bool false]
      simpa using this
    have hS0 : IsL kStr (((w.alloc (.cells #[.slice A1 D.sure.length c1, .slice A2 D.loose.length c2, .int .i64 D.left, .slice A3 D.choice.kept.length c3, .int .i64 D.choice.torn, .int .i64 D.choice.half, .int .i64 (D.changes : Int), .bool false] 36)).alloc (.cells #[.slice Ac c.kept.length nc, .int .i64 c.torn, .int .i64 c.half] 34)).alloc (.cells #[.slice none 0 0, .slice none 0 0, .int .i64 0, .slice none 0 0, .int .i64 0, .int .i64 0, .int .i64 0, .bool false] 36)) (fun k => (ok k ∧ k < w.heap.size) ∨ w.heap.size + 3 ≤ k) (.slice A1 D.sure.length c1) (cutS c D.sure 0 (D.loose.take 0)) := H1.out.move fun k ho hk => ⟨.inl ⟨ho, hk⟩, hb0.block k hk⟩
    have Hb0 := Lib.hid hb0
    have HB0 := Lib.hid hB0
    have HB1 := Lib.hid hB1
    have HB2 := Lib.hid hB2
    have HS0 := Lib.hid hS0
    clear hb0 hB0 hB1 hB2 hS0
    go_enter Try.func24, Try.ntmps24
    go_wp2
    go_loopw [5] (fun i wr => ∃ (k : Nat) (As : Option Addr) (cs : Nat), k ≤ D.loose.length ∧ i = .int .i64 (k : Int) ∧ Blk wr w.heap.size 36 #[.slice As D.sure.length cs, .slice A2 D.loose.length c2, .int .i64 D.left, .slice A3 D.choice.kept.length c3, .int .i64 D.choice.torn, .int .i64 D.choice.half, .int .i64 (D.changes : Int), .bool false] ∧ Blk wr (w.heap.size + 1) 34 #[.slice Ac c.kept.length nc, .int .i64 c.torn, .int .i64 c.half] ∧ Blk wr (w.heap.size + 1 + 1) 36 #[.slice none 0 0, .slice none 0 0, .int .i64 0, .slice none 0 0, .int .i64 0, .int .i64 0, .int .i64 0, .bool false] ∧ IsL kStr wr (fun k => (ok k ∧ k < w.heap.size) ∨ w.heap.size + 3 ≤ k) (.slice As D.sure.length cs) (cutS c D.sure 0 (D.loose.take k)) ∧ Below w.heap.size w wr) (fun i _ => D.loose.length - (intOf i).toNat)
    case atStart => exact ⟨0, A1, c1, Nat.zero_le _, rfl, HB0.out, HB1.out, HB2.out, HS0.out, Hb0.out⟩
    case round =>
      obtain ⟨k, As, cs, hk, rfl, hB0, hB1, hB2, hS, hbw⟩ := hrel
      clear HB0 HB1 HB2 HS0 Hb0
      have e00 := hB0.cell 0
      have e01 := hB0.cell 1
      have e04 := hB0.cell 4
      have e06 := hB0.cell 6
      have ef := hB0.frozen 0
      have f0 := hB1.cell 0
      have f1 := hB1.cell 1
      have f2 := hB1.cell 2
      simp at e00 e01 e04 e06 f0 f1 f2
      have hsz := hB2.lt
      have HB0 := Lib.hid hB0
      have HB1 := Lib.hid hB1
      have HB2 := Lib.hid hB2
      have HS := Lib.hid hS
      have Hbw := Lib.hid hbw
      clear hB0 hB1 hB2 hS hbw
      by_cases hlt : k < D.loose.length
      · obtain ⟨hx1, hx2⟩ := Hwf.out.loose D.loose[k] (List.getElem_mem hlt)
        obtain ⟨_, _, e2, _, hm2, hel2⟩ := write_at (H2.out.grow Hbw.out)
        cases e2
        obtain ⟨b2, o2, rfl, _, hbl2, hcells⟩ := hel2 (by intro e; rw [e] at hlt; simp at hlt)
        obtain ⟨g0, g1, _, _⟩ := hcells k hlt
        obtain ⟨S, hS⟩ : ∃ S, S = cutS c D.sure 0 (D.loose.take k) := ⟨_, rfl⟩
        have hSl : S.length = D.sure.length := by rw [hS, cutS_length]
        have hSw : ∀ s ∈ S, s.length = 256 := by rw [hS]; exact cutS_wf c D.sure 0 (D.loose.take k) Hwf.out.sure (fun x hx => Hwf.out.loose x (List.mem_of_mem_take hx))
        have hSn := cutS_take c D.sure D.loose k hlt
        rw [← hS] at hSn
        have hS1 := HS.out
        rw [← hS] at hS1
        have hSv := hS1
        rw [← hSl] at hS1
        obtain ⟨_, _, e1, _, hm1, hel1⟩ := str_at hS1
        cases e1
        have hxS : D.loose[k].1 < S.length := by omega
        obtain ⟨b1, o1, rfl, _, hbl1, hcells1⟩ := hel1 (by intro e; rw [e] at hxS; simp at hxS)
        obtain ⟨q0, _⟩ := hcells1 D.loose[k].1 hxS
        have hy := hSw _ (List.getElem_mem hxS)
        obtain ⟨y, hyy⟩ : ∃ y, y = S[D.loose[k].1] := ⟨_, rfl⟩
        have hyd : S.getD D.loose[k].1 [] = y := by rw [hyy, List.getD_eq_getElem?_getD, List.getElem?_eq_getElem hxS]; rfl
        rw [← hyy] at q0 hy
        rw [hyd] at hSn
        obtain ⟨xi, hxi⟩ : ∃ xi, xi = D.loose[k].1 := ⟨_, rfl⟩
        obtain ⟨xs, hxs⟩ : ∃ xs, xs = D.loose[k].2 := ⟨_, rfl⟩
        rw [← hxi] at g0 hx1 hxS q0 hSn
        rw [← hxs] at g1 hx2 hSn
        unfold maxLen at hm1 hm2
        have HS1 := Lib.hid hS1
        have HSn := Lib.hid hSn
        have HSl := Lib.hid hSl
        have hxD : (xi : Int) < (D.sure.length : Int) := by omega
        have hxl1 : (256 : Int) ≤ (xs.length : Int) := by omega
        have hxl2 : (256 : Int) ≤ (y.length : Int) := by omega
        have Hx2 := Lib.hid hx2
        have Hy := Lib.hid hy
        have hbox : Below wr.heap.size wr (wr.alloc (.cells #[.int .i64 (xi : Int), str xs] 77)) := (Below.refl _ _).alloc (Nat.le_refl _) _
        have hblkO := Blk.new wr 77 #[.int .i64 (xi : Int), str xs]
        obtain ⟨W, hW⟩ : ∃ W, W = wr.alloc (.cells #[.int .i64 (xi : Int), str xs] 77) := ⟨_, rfl⟩
        rw [← hW] at hbox hblkO
        have p0 := hblkO.cell 0
        have p1 := hblkO.cell 1
        simp at p0 p1
        have e00W := cell_then hbox e00
        have q0W := cell_then hbox q0
        have f0W := cell_then hbox f0
        have f1W := cell_then hbox f1
        have f2W := cell_then hbox f2
        have hSvW := hSv.grow hbox
        have HkW := Lib.hid ((HL.out.grow Hbw.out).grow hbox)
        have HB0W := Lib.hid (HB0.out.grow hbox)
        have HB1W := Lib.hid (HB1.out.grow hbox)
        have HB2W := Lib.hid (HB2.out.grow hbox)
        have HbwW := Lib.hid (below_call Hbw.out hbox)
        have hwl : wr.heap.size < W.heap.size := hblkO.lt
        have hcall : ∀ u, (Below W.heap.size W u ∧ u.cell? ⟨w.heap.size, 0, none⟩ = some (.slice (some ⟨b1, o1, none⟩) D.sure.length cs) ∧ u.cell? ⟨wr.heap.size, 0, none⟩ = some (.int .i64 (xi : Int)) ∧ u.cell? ⟨wr.heap.size, 1, none⟩ = some (str xs) ∧ u.cell? ⟨b1, o1 + xi, none⟩ = some (str y)) → IsL kStr u (fun k => (ok k ∧ k < w.heap.size) ∨ w.heap.size + 3 ≤ k) (.slice (some ⟨b1, o1, none⟩) D.sure.length cs) S := fun u hu => hSvW.grow hu.1
        have Hcall := Lib.hid hcall
        have HSvW := Lib.hid hSvW
        have HW := Lib.hid hW
        have Hbox := Lib.hid hbox
        have HblkO := Lib.hid hblkO
        clear hcells hcells1 hel1 hel2 hS hSw hyd hyy hxi hxs hS1 hSn hSl HS hSv hbox hblkO hW hSvW hcall
        by_cases ht : c.torn = (k : Int)
        · by_cases hkk : (k : Int) ∈ c.kept
          · have ht1 : (c.torn == (k : Int)) = true := by simpa using ht
            have hst : 256 = c.stay k := by unfold Choice.stay; rw [if_pos hkk]
            have Hst := Lib.hid hst
            have Hkk := Lib.hid hkk
            clear hst hkk ht
            go_upto_region 8 with (fail)
            rw [← HW.out]
            go_wp2_with fail
            refine (in_any _ _ c.kept (k : Int) _ HkW.out).mono ?_
            rintro e w' ⟨rfl, rfl⟩
            rw [show decide ((k : Int) ∈ c.kept) = true by simpa using Hkk.out]
            go_upto_region 12 with (fail)
            go_still_tail 17, (by kernel_rfl)
            change wpList _ _ _ _ _ W.drew
            go_wp2_with fail
            refine (with_txt (fun k => (ok k ∧ k < w.heap.size) ∨ w.heap.size + 3 ≤ k) _ S xi _ (xs.take 256 ++ y.drop 256) _ (HSvW.out.grow ((Below.refl _ _).drew)) hxS (by rw [HSl.out]; exact hn) (by rw [List.take_of_length_le (by rw [Hx2.out]; exact Nat.le_refl _), List.drop_eq_nil_of_le (by rw [Hy.out]; exact Nat.le_refl _), List.append_nil]; exact whole_txt xs Hx2.out) (by rw [List.length_append, List.length_take, List.length_drop, Hx2.out, Hy.out]; unfold maxLen; omega)).mono ?_
            rintro e w5 ⟨v5, rfl, hown5, hb5'⟩
            obtain ⟨A5, c5, _, hv5, _, _, _, _⟩ := hown5.isL
            rw [List.length_set, HSl.out] at hv5
            subst hv5
            have hb5 := below_drew_then hb5'
            have hff5 := (HB0W.out.grow hb5).frozen 0
            have hcc5 := (HB0W.out.grow hb5).cell 0
            simp at hcc5
            have hN : cutS c D.sure 0 (D.loose.take (k + 1)) = S.set xi (xs.take 256 ++ y.drop 256) := by rw [HSn.out, Hst.out]
            have hP5 : ∀ g, (Value.slice A5 D.sure.length c5).ownBlock = some g → w.heap.size + 3 ≤ g := fun g hg => by
              have := (hown5.lt g hg).1
              have h2 : W.heap.size ≤ g := this
              omega
            have hw6 : IsL kStr (w5.setCell ⟨w.heap.size, 0, none⟩ (.slice A5 D.sure.length c5)) (fun k => (ok k ∧ k < w.heap.size) ∨ w.heap.size + 3 ≤ k) (.slice A5 D.sure.length c5) (cutS c D.sure 0 (D.loose.take (k + 1))) := by
              rw [hN]
              exact hown5.isL.move fun g hg _ => ⟨.inr (hP5 g hg), Below.heap_setCell _ _ _ _ (fun (e : g = w.heap.size) => by have := hP5 g hg; omega)⟩
            have Hw6 := Lib.hid hw6
            have Hb5 := Lib.hid hb5
            clear hw6 hP5 hN hown5 hb5 hb5'
            go_wp2_with fail
            go_roundw
            case rel =>
              refine ⟨k + 1, A5, c5, by omega, by go_num, ?_, (HB1W.out.grow Hb5.out).far (p := ⟨w.heap.size, 0, none⟩) (by simp) _, (HB2W.out.grow Hb5.out).far (p := ⟨w.heap.size, 0, none⟩) (by simp; omega) _, Hw6.out, (below_call HbwW.out Hb5.out).setCell (Nat.le_refl _) _⟩
              have := (HB0W.out.grow Hb5.out).set_ 0 (.slice A5 D.sure.length c5)
              simpa using this
            case measure => simp [intOf]; omega
          · have ht1 : (c.torn == (k : Int)) = true := by simpa using ht
            have hstay : c.stay k = (max 0 (min c.half 256)).toNat := by unfold Choice.stay; rw [if_neg hkk, if_pos ht]
            have hst256 := stay_le c k
            obtain ⟨st, hst⟩ : ∃ st, st = c.stay k := ⟨_, rfl⟩
            have hsti : max 0 (min c.half 256) = (st : Int) := by omega
            have hs1 : (st : Int) ≤ (xs.length : Int) := by omega
            have hs2 : (st : Int) ≤ (y.length : Int) := by omega
            have hs256 : (st : Int) ≤ 256 := by omega
            have hcat : ¬ 9223372036854775807 < min st 256 + (256 - st) := by omega
            have Hsti := Lib.hid hsti
            clear hstay hsti
            have Hst := Lib.hid hst
            have Hkk := Lib.hid hkk
            clear hst hkk ht
            go_upto_region 8 with (fail)
            rw [← HW.out]
            go_wp2_with fail
            refine (in_any _ _ c.kept (k : Int) _ HkW.out).mono ?_
            rintro e w' ⟨rfl, rfl⟩
            rw [show decide ((k : Int) ∈ c.kept) = false by simpa using Hkk.out]
            go_upto_region 12 with (fail)
            rw [Hsti.out]
            go_still_tail 17, (by kernel_rfl)
            change wpList _ _ _ _ _ W.drew
            go_wp2_with fail
            refine (with_txt (fun k => (ok k ∧ k < w.heap.size) ∨ w.heap.size + 3 ≤ k) _ S xi _ (xs.take st ++ y.drop st) _ (HSvW.out.grow ((Below.refl _ _).drew)) hxS (by rw [HSl.out]; exact hn) (cut_txt256 xs y st Hy.out) (by rw [List.length_append, List.length_take, List.length_drop, Hx2.out, Hy.out]; unfold maxLen; omega)).mono ?_
            rintro e w5 ⟨v5, rfl, hown5, hb5'⟩
            obtain ⟨A5, c5, _, hv5, _, _, _, _⟩ := hown5.isL
            rw [List.length_set, HSl.out] at hv5
            subst hv5
            have hb5 := below_drew_then hb5'
            have hff5 := (HB0W.out.grow hb5).frozen 0
            have hcc5 := (HB0W.out.grow hb5).cell 0
            simp at hcc5
            have hN : cutS c D.sure 0 (D.loose.take (k + 1)) = S.set xi (xs.take st ++ y.drop st) := by rw [HSn.out, Hst.out]
            have hP5 : ∀ g, (Value.slice A5 D.sure.length c5).ownBlock = some g → w.heap.size + 3 ≤ g := fun g hg => by
              have := (hown5.lt g hg).1
              have h2 : W.heap.size ≤ g := this
              omega
            have hw6 : IsL kStr (w5.setCell ⟨w.heap.size, 0, none⟩ (.slice A5 D.sure.length c5)) (fun k => (ok k ∧ k < w.heap.size) ∨ w.heap.size + 3 ≤ k) (.slice A5 D.sure.length c5) (cutS c D.sure 0 (D.loose.take (k + 1))) := by
              rw [hN]
              exact hown5.isL.move fun g hg _ => ⟨.inr (hP5 g hg), Below.heap_setCell _ _ _ _ (fun (e : g = w.heap.size) => by have := hP5 g hg; omega)⟩
            have Hw6 := Lib.hid hw6
            have Hb5 := Lib.hid hb5
            clear hw6 hP5 hN hown5 hb5 hb5'
            go_wp2_with fail
            go_roundw
            case rel =>
              refine ⟨k + 1, A5, c5, by omega, by go_num, ?_, (HB1W.out.grow Hb5.out).far (p := ⟨w.heap.size, 0, none⟩) (by simp) _, (HB2W.out.grow Hb5.out).far (p := ⟨w.heap.size, 0, none⟩) (by simp; omega) _, Hw6.out, (below_call HbwW.out Hb5.out).setCell (Nat.le_refl _) _⟩
              have := (HB0W.out.grow Hb5.out).set_ 0 (.slice A5 D.sure.length c5)
              simpa using this
            case measure => simp [intOf]; omega
        · by_cases hkk : (k : Int) ∈ c.kept
          · have ht1 : (c.torn == (k : Int)) = false := by simpa using ht
            have hst : 256 = c.stay k := by unfold Choice.stay; rw [if_pos hkk]
            have Hst := Lib.hid hst
            have Hkk := Lib.hid hkk
            clear hst hkk ht
            go_upto_region 8 with (fail)
            rw [← HW.out]
            go_wp2_with fail
            refine (in_any _ _ c.kept (k : Int) _ HkW.out).mono ?_
            rintro e w' ⟨rfl, rfl⟩
            rw [show decide ((k : Int) ∈ c.kept) = true by simpa using Hkk.out]
            go_upto_region 12 with (fail)
            go_still_tail 17, (by kernel_rfl)
            change wpList _ _ _ _ _ W.drew
            go_wp2_with fail
            refine (with_txt (fun k => (ok k ∧ k < w.heap.size) ∨ w.heap.size + 3 ≤ k) _ S xi _ (xs.take 256 ++ y.drop 256) _ (HSvW.out.grow ((Below.refl _ _).drew)) hxS (by rw [HSl.out]; exact hn) (by rw [List.take_of_length_le (by rw [Hx2.out]; exact Nat.le_refl _), List.drop_eq_nil_of_le (by rw [Hy.out]; exact Nat.le_refl _), List.append_nil]; exact whole_txt xs Hx2.out) (by rw [List.length_append, List.length_take, List.length_drop, Hx2.out, Hy.out]; unfold maxLen; omega)).mono ?_
            rintro e w5 ⟨v5, rfl, hown5, hb5'⟩
            obtain ⟨A5, c5, _, hv5, _, _, _, _⟩ := hown5.isL
            rw [List.length_set, HSl.out] at hv5
            subst hv5
            have hb5 := below_drew_then hb5'
            have hff5 := (HB0W.out.grow hb5).frozen 0
            have hcc5 := (HB0W.out.grow hb5).cell 0
            simp at hcc5
            have hN : cutS c D.sure 0 (D.loose.take (k + 1)) = S.set xi (xs.take 256 ++ y.drop 256) := by rw [HSn.out, Hst.out]
            have hP5 : ∀ g, (Value.slice A5 D.sure.length c5).ownBlock = some g → w.heap.size + 3 ≤ g := fun g hg => by
              have := (hown5.lt g hg).1
              have h2 : W.heap.size ≤ g := this
              omega
            have hw6 : IsL kStr (w5.setCell ⟨w.heap.size, 0, none⟩ (.slice A5 D.sure.length c5)) (fun k => (ok k ∧ k < w.heap.size) ∨ w.heap.size + 3 ≤ k) (.slice A5 D.sure.length c5) (cutS c D.sure 0 (D.loose.take (k + 1))) := by
              rw [hN]
              exact hown5.isL.move fun g hg _ => ⟨.inr (hP5 g hg), Below.heap_setCell _ _ _ _ (fun (e : g = w.heap.size) => by have := hP5 g hg; omega)⟩
            have Hw6 := Lib.hid hw6
            have Hb5 := Lib.hid hb5
            clear hw6 hP5 hN hown5 hb5 hb5'
            go_wp2_with fail
            go_roundw
            case rel =>
              refine ⟨k + 1, A5, c5, by omega, by go_num, ?_, (HB1W.out.grow Hb5.out).far (p := ⟨w.heap.size, 0, none⟩) (by simp) _, (HB2W.out.grow Hb5.out).far (p := ⟨w.heap.size, 0, none⟩) (by simp; omega) _, Hw6.out, (below_call HbwW.out Hb5.out).setCell (Nat.le_refl _) _⟩
              have := (HB0W.out.grow Hb5.out).set_ 0 (.slice A5 D.sure.length c5)
              simpa using this
            case measure => simp [intOf]; omega
          · have ht1 : (c.torn == (k : Int)) = false := by simpa using ht
            have hst : 0 = c.stay k := by unfold Choice.stay; rw [if_neg hkk, if_neg ht]
            have Hst := Lib.hid hst
            have Hkk := Lib.hid hkk
            clear hst hkk ht
            go_upto_region 8 with (fail)
            rw [← HW.out]
            go_wp2_with fail
            refine (in_any _ _ c.kept (k : Int) _ HkW.out).mono ?_
            rintro e w' ⟨rfl, rfl⟩
            rw [show decide ((k : Int) ∈ c.kept) = false by simpa using Hkk.out]
            go_upto_region 12 with (fail)
            go_still_tail 17, (by kernel_rfl)
            change wpList _ _ _ _ _ W.drew
            go_wp2_with fail
            refine (with_txt (fun k => (ok k ∧ k < w.heap.size) ∨ w.heap.size + 3 ≤ k) _ S xi _ (xs.take 0 ++ y.drop 0) _ (HSvW.out.grow ((Below.refl _ _).drew)) hxS (by rw [HSl.out]; exact hn) (by rw [List.take_zero, List.drop_zero, List.nil_append]; exact whole_txt y Hy.out) (by rw [List.length_append, List.length_take, List.length_drop, Hx2.out, Hy.out]; unfold maxLen; omega)).mono ?_
            rintro e w5 ⟨v5, rfl, hown5, hb5'⟩
            obtain ⟨A5, c5, _, hv5, _, _, _, _⟩ := hown5.isL
            rw [List.length_set, HSl.out] at hv5
            subst hv5
            have hb5 := below_drew_then hb5'
            have hff5 := (HB0W.out.grow hb5).frozen 0
            have hcc5 := (HB0W.out.grow hb5).cell 0
            simp at hcc5
            have hN : cutS c D.sure 0 (D.loose.take (k + 1)) = S.set xi (xs.take 0 ++ y.drop 0) := by rw [HSn.out, Hst.out]
            have hP5 : ∀ g, (Value.slice A5 D.sure.length c5).ownBlock = some g → w.heap.size + 3 ≤ g := fun g hg => by
              have := (hown5.lt g hg).1
              have h2 : W.heap.size ≤ g := this
              omega
            have hw6 : IsL kStr (w5.setCell ⟨w.heap.size, 0, none⟩ (.slice A5 D.sure.length c5)) (fun k => (ok k ∧ k < w.heap.size) ∨ w.heap.size + 3 ≤ k) (.slice A5 D.sure.length c5) (cutS c D.sure 0 (D.loose.take (k + 1))) := by
              rw [hN]
              exact hown5.isL.move fun g hg _ => ⟨.inr (hP5 g hg), Below.heap_setCell _ _ _ _ (fun (e : g = w.heap.size) => by have := hP5 g hg; omega)⟩
            have Hw6 := Lib.hid hw6
            have Hb5 := Lib.hid hb5
            clear hw6 hP5 hN hown5 hb5 hb5'
            go_wp2_with fail
            go_roundw
            case rel =>
              refine ⟨k + 1, A5, c5, by omega, by go_num, ?_, (HB1W.out.grow Hb5.out).far (p := ⟨w.heap.size, 0, none⟩) (by simp) _, (HB2W.out.grow Hb5.out).far (p := ⟨w.heap.size, 0, none⟩) (by simp; omega) _, Hw6.out, (below_call HbwW.out Hb5.out).setCell (Nat.le_refl _) _⟩
              have := (HB0W.out.grow Hb5.out).set_ 0 (.slice A5 D.sure.length c5)
              simpa using this
            case measure => simp [intOf]; omega
      · obtain rfl : k = D.loose.length := by omega
        obtain ⟨wa, rfl⟩ : ∃ x, x = wr := ⟨wr, rfl⟩
        have hcut : D.cut c = (⟨cutS c D.sure 0 D.loose, [], -1, noChoice, D.changes, true⟩ : Dev) := by
          unfold Dev.cut
          rw [hoff]
          rfl
        have Hcut := Lib.hid hcut
        clear hcut
        go_wp2_with (with_reducible refine wpList_store_fr (op := ⟨none, .store 36 (.tmp 4) (.tmp 58), _, _, _, _⟩) rfl _ _ _ rfl (w.heap.size + 1 + 1) 36 [.slice none 0 0, .slice none 0 0, .int .i64 0, .slice none 0 0, .int .i64 0, .int .i64 0, .int .i64 0, .bool false] [.slice As D.sure.length cs, .slice none 0 0, .int .i64 (-1), .slice none 0 0, .int .i64 0, .int .i64 0, .int .i64 (D.changes : Int), .bool true] rfl rfl HB2.out rfl (by kernel_rfl) (by simp [Value.oneCell']) ?_; intro w9 hblk9 hfr9)
        have z0 := hblk9.cell 0
        have z1 := hblk9.cell 1
        have z2 := hblk9.cell 2
        have z3 := hblk9.cell 3
        have z4 := hblk9.cell 4
        have z5 := hblk9.cell 5
        have z6 := hblk9.cell 6
        have z7 := hblk9.cell 7
        simp at z0 z1 z2 z3 z4 z5 z6 z7
        have hb9 : Below w.heap.size w w9 := Hbw.out.trans (hfr9.below (fun q (hq : q = w.heap.size + 1 + 1) => by omega) Hbw.out.size)
        refine bodyPost_ret (v := .agg #[.slice As D.sure.length cs, .slice none 0 0, .int .i64 (-1), .slice none 0 0, .int .i64 0, .int .i64 0, .int .i64 (D.changes : Int), .bool true]) (by simp [results, Try.results24, go_sem, z0, z1, z2, z3, z4, z5, z6, z7]) rfl ?_
        refine ⟨_, rfl, ?_, hb9⟩
        rw [Hcut.out]
        refine ⟨As, cs, none, 0, none, 0, by show _ = Value.agg #[.slice As (cutS c D.sure 0 D.loose).length cs, _, _, _, _, _, _, _]; rw [cutS_length]; rfl, ?_, IsL.nil, IsL.nil⟩
        have hS9 := HS.out
        rw [List.take_length] at hS9
        show IsL kStr w9 _ (.slice As (cutS c D.sure 0 D.loose).length cs) (cutS c D.sure 0 D.loose)
        rw [cutS_length]
        exact hS9.move fun q hq hlt => ⟨by rcases hq with h | h; exact .inl h.1; exact .inr (by omega), (hfr9.block q hlt (fun (e : q = w.heap.size + 1 + 1) => by rcases hq with h | h <;> omega)).2⟩
end Go.Proofs.Ytiaabgmmmekpnaa

namespace Go.Proofs.Ytiaabgmmmekpnaa
open Go.RowKit
set_option maxRecDepth 100000

set_option maxHeartbeats 2000000 in
theorem refchange_any (ok : Nat → Prop) (v : Value) (D : Dev) (w : World) (hv : IsDev w ok v D) (hwf : D.Wf) (hn : D.sure.length ≤ 1099511627776) (hl : D.loose.length ≤ 1099511627776) (hcn : D.changes ≤ 1099511627776) (hlt : D.left ≤ 9223372036854775807) :
    Calls Try.prog 83 #[v] w fun e w' => ∃ v', e = .returned (.tuple #[v', .int .i64 D.change.2]) ∧ IsDev w' (fun k => ok k ∨ w.heap.size ≤ k) v' D.change.1 ∧ Below w.heap.size w w' := by
  obtain ⟨A1, c1, A2, c2, A3, c3, rfl, h1, h2, h3⟩ := hv
  have H1 := Lib.hid h1
  have H2 := Lib.hid h2
  have H3 := Lib.hid h3
  have Hwf := Lib.hid hwf
  clear h1 h2 h3 hwf
  rcases Int.lt_trichotomy D.left 0 with h0 | h0 | h0
  · have hch : D.change = ({ D with changes := D.changes + 1 }, 0) := by unfold Dev.change; rw [if_neg (by omega), if_neg (by omega)]
    have Hch := Lib.hid hch
    have hb1 : (D.left == 0) = false := by rw [beq_eq_false_iff_ne]; omega
    have hb2 : ¬ 0 < D.left := by omega
    clear hch
    go_enter Try.func83, Try.ntmps83
    go_wp2
    have hb0 : Below w.heap.size w ((w.alloc (.cells #[.slice A1 D.sure.length c1, .slice A2 D.loose.length c2, .int .i64 D.left, .slice A3 D.choice.kept.length c3, .int .i64 D.choice.torn, .int .i64 D.choice.half, .int .i64 ((D.changes : Int) + 1), .bool D.off] 36)).alloc (.cells #[.slice A1 D.sure.length c1, .slice A2 D.loose.length c2, .int .i64 D.left, .slice A3 D.choice.kept.length c3, .int .i64 D.choice.torn, .int .i64 D.choice.half, .int .i64 ((D.changes : Int) + 1), .bool D.off] 36)) := (((Below.refl _ _).alloc (Nat.le_refl _) _).alloc (by simp) _)
    refine bodyPost_ret (v := .tuple #[.agg #[.slice A1 D.sure.length c1, .slice A2 D.loose.length c2, .int .i64 D.left, .slice A3 D.choice.kept.length c3, .int .i64 D.choice.torn, .int .i64 D.choice.half, .int .i64 ((D.changes : Int) + 1), .bool D.off], .int .i64 0]) (by simp [results, Try.results83, go_sem]) rfl ?_
    refine ⟨_, by rw [Hch.out], ?_, hb0⟩
    rw [Hch.out]
    exact ⟨A1, c1, A2, c2, A3, c3, by go_num, (H1.out.grow hb0).weaken fun _ h => .inl h, (H2.out.grow hb0).weaken fun _ h => .inl h, (H3.out.grow hb0).weaken fun _ h => .inl h⟩
  · have hch : D.change = (({ D with changes := D.changes + 1 } : Dev).cut D.choice, 6) := by unfold Dev.change; rw [if_pos h0]
    have Hch := Lib.hid hch
    have hb1 : (D.left == 0) = true := by rw [h0]; rfl
    have G1 := Lib.hid (H1.out.move (w' := w) (ok' := fun k => ok k ∧ k < w.heap.size) (fun k h hl => ⟨⟨h, hl⟩, rfl⟩))
    have G2 := Lib.hid (H2.out.move (w' := w) (ok' := fun k => ok k ∧ k < w.heap.size) (fun k h hl => ⟨⟨h, hl⟩, rfl⟩))
    have G3 := Lib.hid (H3.out.move (w' := w) (ok' := fun k => ok k ∧ k < w.heap.size) (fun k h hl => ⟨⟨h, hl⟩, rfl⟩))
    have hbA : Below w.heap.size w ((w.alloc (.cells #[.slice A1 D.sure.length c1, .slice A2 D.loose.length c2, .int .i64 D.left, .slice A3 D.choice.kept.length c3, .int .i64 D.choice.torn, .int .i64 D.choice.half, .int .i64 ((D.changes : Int) + 1), .bool D.off] 36)).alloc (.cells #[.slice none 0 0, .slice none 0 0, .int .i64 0, .slice none 0 0, .int .i64 0, .int .i64 0, .int .i64 0, .bool false] 36)) := (((Below.refl _ _).alloc (Nat.le_refl _) _).alloc (by simp) _)
    have hBr : Blk ((w.alloc (.cells #[.slice A1 D.sure.length c1, .slice A2 D.loose.length c2, .int .i64 D.left, .slice A3 D.choice.kept.length c3, .int .i64 D.choice.torn, .int .i64 D.choice.half, .int .i64 ((D.changes : Int) + 1), .bool D.off] 36)).alloc (.cells #[.slice none 0 0, .slice none 0 0, .int .i64 0, .slice none 0 0, .int .i64 0, .int .i64 0, .int .i64 0, .bool false] 36)) (w.heap.size + 1) 36 #[.slice none 0 0, .slice none 0 0, .int .i64 0, .slice none 0 0, .int .i64 0, .int .i64 0, .int .i64 0, .bool false] := by
      have := Blk.new (w.alloc (.cells #[.slice A1 D.sure.length c1, .slice A2 D.loose.length c2, .int .i64 D.left, .slice A3 D.choice.kept.length c3, .int .i64 D.choice.torn, .int .i64 D.choice.half, .int .i64 ((D.changes : Int) + 1), .bool D.off] 36)) 36 #[.slice none 0 0, .slice none 0 0, .int .i64 0, .slice none 0 0, .int .i64 0, .int .i64 0, .int .i64 0, .bool false]
      simpa using this
    obtain ⟨W, hW⟩ : ∃ W, W = ((w.alloc (.cells #[.slice A1 D.sure.length c1, .slice A2 D.loose.length c2, .int .i64 D.left, .slice A3 D.choice.kept.length c3, .int .i64 D.choice.torn, .int .i64 D.choice.half, .int .i64 ((D.changes : Int) + 1), .bool D.off] 36)).alloc (.cells #[.slice none 0 0, .slice none 0 0, .int .i64 0, .slice none 0 0, .int .i64 0, .int .i64 0, .int .i64 0, .bool false] 36)) := ⟨_, rfl⟩
    rw [← hW] at hbA hBr
    have hsW := hBr.lt
    have HW := Lib.hid hW
    have HbA := Lib.hid hbA
    have HBr := Lib.hid hBr
    have hwf1 : ({ D with changes := D.changes + 1 } : Dev).Wf := ⟨Hwf.out.sure, Hwf.out.loose, Hwf.out.left⟩
    have Hwf1 := Lib.hid hwf1
    clear hch hW hbA hBr h0 hwf1
    go_enter Try.func83, Try.ntmps83
    go_wp2_with fail
    rw [← HW.out]
    refine (refcut_any (fun k => ok k ∧ k < w.heap.size) _ ({ D with changes := D.changes + 1 } : Dev) _ D.choice W ⟨A1, c1, A2, c2, A3, c3, by go_num, G1.out.grow HbA.out, G2.out.grow HbA.out, G3.out.grow HbA.out⟩ ⟨_, rfl, G3.out.grow HbA.out⟩ Hwf1.out hn hl).mono ?_
    rintro e w5 ⟨v5, rfl, hdev5, hb5⟩
    obtain ⟨E, hE⟩ : ∃ E : Dev, E = ({ D with changes := D.changes + 1 } : Dev).cut D.choice := ⟨_, rfl⟩
    rw [← hE] at hdev5
    obtain ⟨a1, d1, a2, d2, a3, d3, rfl, k1, k2, k3⟩ := hdev5
    have HE := Lib.hid hE
    have HBr5 := Lib.hid (HBr.out.grow hb5)
    have K1 := Lib.hid k1
    have K2 := Lib.hid k2
    have K3 := Lib.hid k3
    have Hb5 := Lib.hid hb5
    clear hb5 k1 k2 k3 hE
    go_wp2_with (with_reducible refine wpList_store_fr (op := ⟨none, .store 36 (.tmp 2) (.tmp 14), _, _, _, _⟩) rfl _ _ _ rfl (w.heap.size + 1) 36 [.slice none 0 0, .slice none 0 0, .int .i64 0, .slice none 0 0, .int .i64 0, .int .i64 0, .int .i64 0, .bool false] [.slice a1 E.sure.length d1, .slice a2 E.loose.length d2, .int .i64 E.left, .slice a3 E.choice.kept.length d3, .int .i64 E.choice.torn, .int .i64 E.choice.half, .int .i64 (E.changes : Int), .bool E.off] rfl rfl HBr5.out rfl (by kernel_rfl) (by simp [Value.oneCell']) ?_; intro w9 hblk9 hfr9)
    have z0 := hblk9.cell 0
    have z1 := hblk9.cell 1
    have z2 := hblk9.cell 2
    have z3 := hblk9.cell 3
    have z4 := hblk9.cell 4
    have z5 := hblk9.cell 5
    have z6 := hblk9.cell 6
    have z7 := hblk9.cell 7
    simp at z0 z1 z2 z3 z4 z5 z6 z7
    have hb05 := below_call HbA.out Hb5.out
    have hb9 : Below w.heap.size w w9 := hb05.trans (hfr9.below (fun q (hq : q = w.heap.size + 1) => by omega) hb05.size)
    refine bodyPost_ret (v := .tuple #[.agg #[.slice a1 E.sure.length d1, .slice a2 E.loose.length d2, .int .i64 E.left, .slice a3 E.choice.kept.length d3, .int .i64 E.choice.torn, .int .i64 E.choice.half, .int .i64 (E.changes : Int), .bool E.off], .int .i64 6]) (by simp [results, Try.results83, go_sem, z0, z1, z2, z3, z4, z5, z6, z7]) rfl ?_
    have hsw0 : w.heap.size + 1 < W.heap.size := hsW
    refine ⟨_, by rw [Hch.out], ?_, hb9⟩
    rw [Hch.out, ← HE.out]
    have hkeep : ∀ q, ((ok q ∧ q < w.heap.size) ∨ W.heap.size ≤ q) → q < w5.heap.size → (ok q ∨ w.heap.size ≤ q) ∧ w9.heap[q]? = w5.heap[q]? := fun q hq hlt => ⟨by rcases hq with h | h; exact .inl h.1; exact .inr (by omega), (hfr9.block q hlt (fun (e : q = w.heap.size + 1) => by rcases hq with h | h <;> omega)).2⟩
    exact ⟨a1, d1, a2, d2, a3, d3, rfl, K1.out.move hkeep, K2.out.move hkeep, K3.out.move hkeep⟩
  · have hch : D.change = ({ D with changes := D.changes + 1, left := D.left - 1 }, 0) := by unfold Dev.change; rw [if_neg (by omega), if_pos h0]
    have Hch := Lib.hid hch
    have hb1 : (D.left == 0) = false := by rw [beq_eq_false_iff_ne]; omega
    clear hch
    go_enter Try.func83, Try.ntmps83
    go_wp2
    have hb0 : Below w.heap.size w ((w.alloc (.cells #[.slice A1 D.sure.length c1, .slice A2 D.loose.length c2, .int .i64 (D.left - 1), .slice A3 D.choice.kept.length c3, .int .i64 D.choice.torn, .int .i64 D.choice.half, .int .i64 ((D.changes : Int) + 1), .bool D.off] 36)).alloc (.cells #[.slice A1 D.sure.length c1, .slice A2 D.loose.length c2, .int .i64 (D.left - 1), .slice A3 D.choice.kept.length c3, .int .i64 D.choice.torn, .int .i64 D.choice.half, .int .i64 ((D.changes : Int) + 1), .bool D.off] 36)) := (((Below.refl _ _).alloc (Nat.le_refl _) _).alloc (by simp) _)
    refine bodyPost_ret (v := .tuple #[.agg #[.slice A1 D.sure.length c1, .slice A2 D.loose.length c2, .int .i64 (D.left - 1), .slice A3 D.choice.kept.length c3, .int .i64 D.choice.torn, .int .i64 D.choice.half, .int .i64 ((D.changes : Int) + 1), .bool D.off], .int .i64 0]) (by simp [results, Try.results83, go_sem]) rfl ?_
    refine ⟨_, by rw [Hch.out], ?_, hb0⟩
    rw [Hch.out]
    exact ⟨A1, c1, A2, c2, A3, c3, by go_num, (H1.out.grow hb0).weaken fun _ h => .inl h, (H2.out.grow hb0).weaken fun _ h => .inl h, (H3.out.grow hb0).weaken fun _ h => .inl h⟩
end Go.Proofs.Ytiaabgmmmekpnaa

namespace Go.Proofs.Ytiaabgmmmekpnaa
open Go.RowKit
set_option maxRecDepth 100000

set_option maxHeartbeats 2000000 in
theorem refnew_any (n : Nat) (w : World) (hn : n ≤ 1099511627776) :
    Calls Try.prog 7 #[.int .i64 (n : Int)] w fun e w' => ∃ v', e = .returned v' ∧ IsDev w' (fun k => w.heap.size ≤ k) v' (newD n) ∧ Below w.heap.size w w' := by
  have hmk2 := run_bytes256
  have hcz := conv_zeros
  obtain ⟨Z1, hZ1⟩ : ∃ Z1 : Array Value, Z1 = Array.replicate 256 (.int .u8 0) := ⟨_, rfl⟩
  rw [← hZ1] at hmk2 hcz
  have hb0 : Below w.heap.size w ((w.alloc (.cells #[.slice none 0 0, .slice none 0 0, .int .i64 0, .slice none 0 0, .int .i64 0, .int .i64 0, .int .i64 0, .bool false] 36)).alloc (.cells Z1 5)) := (((Below.refl _ _).alloc (Nat.le_refl _) _).alloc (by simp) _)
  have hB0 : Blk ((w.alloc (.cells #[.slice none 0 0, .slice none 0 0, .int .i64 0, .slice none 0 0, .int .i64 0, .int .i64 0, .int .i64 0, .bool false] 36)).alloc (.cells Z1 5)) w.heap.size 36 #[.slice none 0 0, .slice none 0 0, .int .i64 0, .slice none 0 0, .int .i64 0, .int .i64 0, .int .i64 0, .bool false] := (Blk.new w _ _).alloc _
  have hcz1 := hcz (w.alloc (.cells #[.slice none 0 0, .slice none 0 0, .int .i64 0, .slice none 0 0, .int .i64 0, .int .i64 0, .int .i64 0, .bool false] 36))
  rw [show (w.alloc (.cells #[.slice none 0 0, .slice none 0 0, .int .i64 0, .slice none 0 0, .int .i64 0, .int .i64 0, .int .i64 0, .bool false] 36)).heap.size = w.heap.size + 1 by simp] at hcz1
  have Hb0 := Lib.hid hb0
  have HB0 := Lib.hid hB0
  clear hZ1 hb0 hB0
  go_enter Try.func7, Try.ntmps7
  go_wp2
  go_loopw [4, 5] (fun l i wr => ∃ k : Nat, k ≤ n ∧ i = .int .i64 (k : Int) ∧ OwnK wr (w.heap.size + 1) 9 1 l k ((List.replicate k zeroTxt).map str) ∧ Blk wr w.heap.size 36 #[.slice none 0 0, .slice none 0 0, .int .i64 0, .slice none 0 0, .int .i64 0, .int .i64 0, .int .i64 0, .bool false] ∧ Below w.heap.size w wr) (fun _ i _ => n - (intOf i).toNat)
  case atStart => exact ⟨0, Nat.zero_le _, rfl, OwnK.nil _ _ _ _, HB0.out, Hb0.out⟩
  case round =>
    obtain ⟨k, hk, rfl, hown, hblk, hbw⟩ := hrel
    obtain ⟨A0, n0, hv0, _, _, _⟩ := hown.form
    subst hv0
    have hsw := hblk.lt
    have Hown := Lib.hid hown
    have Hblk := Lib.hid hblk
    have Hbw := Lib.hid hbw
    clear hown hblk hbw hmk2 hcz hcz1 HB0 Hb0
    by_cases hlt : k < n
    · go_wp2_with (at_builtin; refine wpList_appK_new _ elemS rfl (.tmp 13) (.tmp 15) rfl (w.heap.size + 1) k (.slice A0 k n0) _ rfl Hown.out [str zeroTxt] 1 rfl 9 rfl (str_oneCell [zeroTxt]) (by omega) (by omega) hsw ?_; intro v1 w1 hown1 hg1 _; have Hown1 := Lib.hid hown1; have Hg1 := Lib.hid hg1; clear hown1 hg1)
      go_roundw
      case rel =>
        refine ⟨k + 1, by omega, by go_num, ?_, Hblk.out.grown Hg1.out (fun e => by have := (Hown.out.lt _ e).1; omega), Hbw.out.trans (Hown.out.below_of Hg1.out (by omega) (by omega))⟩
        rw [List.replicate_succ', List.map_append]
        exact Hown1.out
      case measure => simp [intOf]; omega
    · obtain rfl : k = n := by omega
      obtain ⟨wa, rfl⟩ : ∃ x, x = wr := ⟨wr, rfl⟩
      go_wp2_with (with_reducible refine wpList_store_fr (op := ⟨none, .store 36 (.tmp 2) (.tmp 18), _, _, _, _⟩) rfl _ _ _ rfl w.heap.size 36 [.slice none 0 0, .slice none 0 0, .int .i64 0, .slice none 0 0, .int .i64 0, .int .i64 0, .int .i64 0, .bool false] [.slice A0 k n0, .slice none 0 0, .int .i64 (-1), .slice none 0 0, .int .i64 0, .int .i64 0, .int .i64 0, .bool false] rfl rfl Hblk.out rfl (by kernel_rfl) (by simp [Value.oneCell']) ?_; intro w9 hblk9 hfr9)
      have z0 := hblk9.cell 0
      have z1 := hblk9.cell 1
      have z2 := hblk9.cell 2
      have z3 := hblk9.cell 3
      have z4 := hblk9.cell 4
      have z5 := hblk9.cell 5
      have z6 := hblk9.cell 6
      have z7 := hblk9.cell 7
      simp at z0 z1 z2 z3 z4 z5 z6 z7
      have hb9 : Below w.heap.size w w9 := Hbw.out.trans (hfr9.below (fun q (hq : q = w.heap.size) => by omega) Hbw.out.size)
      refine bodyPost_ret (v := .agg #[.slice A0 k n0, .slice none 0 0, .int .i64 (-1), .slice none 0 0, .int .i64 0, .int .i64 0, .int .i64 0, .bool false]) (by simp [results, Try.results7, go_sem, z0, z1, z2, z3, z4, z5, z6, z7]) rfl ?_
      refine ⟨_, rfl, ?_, hb9⟩
      have hrow : OwnL kStr wa (w.heap.size + 1) 9 (.slice A0 k n0) (List.replicate k zeroTxt) := ⟨_, by rw [List.length_replicate]; exact Hown.out, kStr_many fun l hl => by rw [(List.mem_replicate.1 hl).2]; unfold zeroTxt maxLen; rw [List.length_replicate]; omega⟩
      have hI := hrow.isL.move (w' := w9) (ok' := fun q => w.heap.size ≤ q) fun q hq hlt => ⟨by have := (hrow.lt q hq).1; omega, (hfr9.block q hlt (fun (e : q = w.heap.size) => by have := (hrow.lt q hq).1; omega)).2⟩
      have hlen : (newD k).sure.length = k := List.length_replicate
      refine ⟨A0, n0, none, 0, none, 0, by rw [hlen]; rfl, ?_, IsL.nil, IsL.nil⟩
      rw [hlen]
      exact hI
end Go.Proofs.Ytiaabgmmmekpnaa

namespace Go.Proofs.Ytiaabgmmmekpnaa
open Go.RowKit
set_option maxRecDepth 100000

theorem elemRW : ElemK Try.prog 31 77 2 24 := ElemK.mk_ (z := .agg #[.int .i64 0, .string ⟨#[]⟩]) Try.underlying31 (by kernel_rfl) rfl (by decide)
theorem kMany.oneCell_write {w : World} {ok : Nat → Prop} {ds : List Value} {L : List (Nat × List UInt8)} (h : kMany kWrite w ok ds L) : ∀ u ∈ ds, u.oneCell' = true := by
  obtain ⟨css, rfl, hl, hr⟩ := h
  intro u hu
  obtain ⟨cs, hcs, hu⟩ := List.mem_flatten.1 hu
  obtain ⟨k, hk, rfl⟩ := List.getElem_of_mem hcs
  obtain ⟨c1, c2, e, ⟨rfl, _⟩, rfl, _⟩ := hr k hk (by omega)
  rw [e] at hu
  simp at hu
  rcases hu with rfl | rfl <;> rfl

set_option maxHeartbeats 4000000 in
theorem refput_any (ok : Nat → Prop) (v : Value) (D : Dev) (i : Int) (s : List UInt8) (w : World) (hv : IsDev w ok v D) (hwf : D.Wf) (hn : D.sure.length ≤ 1099511627776) (hl : D.loose.length < 1099511627776) (hcn : D.changes ≤ 1099511627776) (hlt : D.left ≤ 9223372036854775807) (hs : s.length ≤ maxLen) :
    Calls Try.prog 64 #[v, .int .i64 i, str s] w fun e w' => ∃ v', e = .returned (.tuple #[v', .int .i64 (D.put i s).2]) ∧ IsDev w' (fun k => ok k ∨ w.heap.size ≤ k) v' (D.put i s).1 ∧ Below w.heap.size w w' := by
  obtain ⟨A1, c1, A2, c2, A3, c3, rfl, h1, h2, h3⟩ := hv
  have G1 := Lib.hid (h1.move (w' := w) (ok' := fun k => ok k ∧ k < w.heap.size) (fun k h hl => ⟨⟨h, hl⟩, rfl⟩))
  have G2 := Lib.hid (h2.move (w' := w) (ok' := fun k => ok k ∧ k < w.heap.size) (fun k h hl => ⟨⟨h, hl⟩, rfl⟩))
  have G3 := Lib.hid (h3.move (w' := w) (ok' := fun k => ok k ∧ k < w.heap.size) (fun k h hl => ⟨⟨h, hl⟩, rfl⟩))
  have Hwf := Lib.hid hwf
  have Hs := Lib.hid hs
  have hbA : Below w.heap.size w ((w.alloc (.cells #[.slice A1 D.sure.length c1, .slice A2 D.loose.length c2, .int .i64 D.left, .slice A3 D.choice.kept.length c3, .int .i64 D.choice.torn, .int .i64 D.choice.half, .int .i64 (D.changes : Int), .bool D.off] 36)).alloc (.cells #[.slice none 0 0, .slice none 0 0, .int .i64 0, .slice none 0 0, .int .i64 0, .int .i64 0, .int .i64 0, .bool false] 36)) := (((Below.refl _ _).alloc (Nat.le_refl _) _).alloc (by simp) _)
  have hB0 : Blk ((w.alloc (.cells #[.slice A1 D.sure.length c1, .slice A2 D.loose.length c2, .int .i64 D.left, .slice A3 D.choice.kept.length c3, .int .i64 D.choice.torn, .int .i64 D.choice.half, .int .i64 (D.changes : Int), .bool D.off] 36)).alloc (.cells #[.slice none 0 0, .slice none 0 0, .int .i64 0, .slice none 0 0, .int .i64 0, .int .i64 0, .int .i64 0, .bool false] 36)) w.heap.size 36 #[.slice A1 D.sure.length c1, .slice A2 D.loose.length c2, .int .i64 D.left, .slice A3 D.choice.kept.length c3, .int .i64 D.choice.torn, .int .i64 D.choice.half, .int .i64 (D.changes : Int), .bool D.off] := (Blk.new w _ _).alloc _
  have hBr : Blk ((w.alloc (.cells #[.slice A1 D.sure.length c1, .slice A2 D.loose.length c2, .int .i64 D.left, .slice A3 D.choice.kept.length c3, .int .i64 D.choice.torn, .int .i64 D.choice.half, .int .i64 (D.changes : Int), .bool D.off] 36)).alloc (.cells #[.slice none 0 0, .slice none 0 0, .int .i64 0, .slice none 0 0, .int .i64 0, .int .i64 0, .int .i64 0, .bool false] 36)) (w.heap.size + 1) 36 #[.slice none 0 0, .slice none 0 0, .int .i64 0, .slice none 0 0, .int .i64 0, .int .i64 0, .int .i64 0, .bool false] := by
    have := Blk.new (w.alloc (.cells #[.slice A1 D.sure.length c1, .slice A2 D.loose.length c2, .int .i64 D.left, .slice A3 D.choice.kept.length c3, .int .i64 D.choice.torn, .int .i64 D.choice.half, .int .i64 (D.changes : Int), .bool D.off] 36)) 36 #[.slice none 0 0, .slice none 0 0, .int .i64 0, .slice none 0 0, .int .i64 0, .int .i64 0, .int .i64 0, .bool false]
    simpa using this
  obtain ⟨W, hW⟩ : ∃ W, W = (w.alloc (.cells #[.slice A1 D.sure.length c1, .slice A2 D.loose.length c2, .int .i64 D.left, .slice A3 D.choice.kept.length c3, .int .i64 D.choice.torn, .int .i64 D.choice.half, .int .i64 (D.changes : Int), .bool D.off] 36)).alloc (.cells #[.slice none 0 0, .slice none 0 0, .int .i64 0, .slice none 0 0, .int .i64 0, .int .i64 0, .int .i64 0, .bool false] 36) := ⟨_, rfl⟩
  rw [← hW] at hbA hBr hB0
  have hsW := hBr.lt
  have HW := Lib.hid hW
  have HbA := Lib.hid hbA
  have HBr := Lib.hid hBr
  have HB0 := Lib.hid hB0
  clear h1 h2 h3 hwf hs hW hbA hBr hB0
  go_enter Try.func64, Try.ntmps64
  go_wp2_with fail
  rw [← HW.out]
  refine (why_any (fun k => ok k ∧ k < w.heap.size) _ D i W ⟨A1, c1, A2, c2, A3, c3, rfl, G1.out.grow HbA.out, G2.out.grow HbA.out, G3.out.grow HbA.out⟩).mono ?_
  rintro e w1 ⟨rfl, hb1⟩
  have HB1 := Lib.hid (HB0.out.grow hb1)
  have HR1 := Lib.hid (HBr.out.grow hb1)
  have hbW := below_call HbA.out hb1
  have HbW := Lib.hid hbW
  have hsz1 := HR1.out.lt
  have hsz0 : w.heap.size < w1.heap.size := HB1.out.lt
  have K1 := Lib.hid (G1.out.grow hbW)
  have K2 := Lib.hid (G2.out.grow hbW)
  have K3 := Lib.hid (G3.out.grow hbW)
  have x0 := HB1.out.cell 0
  have x1 := HB1.out.cell 1
  have x2 := HB1.out.cell 2
  have x3 := HB1.out.cell 3
  have x4 := HB1.out.cell 4
  have x5 := HB1.out.cell 5
  have x6 := HB1.out.cell 6
  have x7 := HB1.out.cell 7
  have xf := HB1.out.frozen 1
  simp at x0 x1 x2 x3 x4 x5 x6 x7
  clear hb1 hbW G1 G2 G3 HB0 HBr HbA HW hsW
  by_cases hwhy : D.why i = 0
  · rw [hwhy]
    by_cases hlen : s.length = 256
    · have hl1 : ((s.length : Int) == 256) = true := by rw [hlen]; rfl
      have hwy : D.off = false ∧ 0 ≤ i ∧ i < (D.sure.length : Int) := by
        unfold Dev.why at hwhy
        cases hoff : D.off with
        | true => rw [hoff] at hwhy; cases hwhy
        | false =>
          rw [hoff, if_neg (by decide)] at hwhy
          by_cases hh : i < 0 ∨ (D.sure.length : Int) ≤ i
          · rw [if_pos hh] at hwhy; cases hwhy
          · exact ⟨rfl, by omega, by omega⟩
      obtain ⟨-, hi0, hi1⟩ := hwy
      obtain ⟨ii, rfl⟩ := Int.eq_ofNat_of_zero_le hi0
      obtain ⟨E, hE⟩ : ∃ E : Dev, E = { D with loose := D.loose ++ [(ii, s)] } := ⟨_, rfl⟩
      have hput : D.put (ii : Int) s = E.change := by unfold Dev.put; rw [if_neg (by rw [hwhy]; decide), if_neg (by rw [hlen]; decide), hE]; rfl
      have hEwf : E.Wf := by
        rw [hE]
        exact ⟨Hwf.out.sure, fun x hx => by
          rcases List.mem_append.1 hx with hx | hx
          · exact Hwf.out.loose x hx
          · simp at hx; subst hx; exact ⟨by show ii < D.sure.length; omega, hlen⟩, Hwf.out.left⟩
      have Hput := Lib.hid hput
      have HEwf := Lib.hid hEwf
      have HE := Lib.hid hE
      obtain ⟨_, _, ds, e2, hc2, hm2, hr2, hmany2⟩ := K2.out
      cases e2
      have hone := kMany.oneCell_write hmany2
      have hds : ds.length = D.loose.length * 2 := hmany2.length
      have Hr2 := Lib.hid hr2
      have Hmany2 := Lib.hid hmany2
      have Hone := Lib.hid hone
      clear hput hEwf hE hwhy hone hr2 hmany2 hc2 hm2
      have hbE : Below w1.heap.size w1 (w1.alloc (.cells #[] 77)) := (Below.refl _ _).alloc (Nat.le_refl _) _
      have HbE := Lib.hid hbE
      clear hbE
      have hsL : D.loose.length + 1 ≤ 1099511627776 := by omega
      have hus : [Value.int .i64 (ii : Int), str s].length = 1 * 2 := rfl
      have huo : ∀ u ∈ [Value.int .i64 (ii : Int), str s], u.oneCell' = true := by intro u hu; simp at hu; rcases hu with rfl | rfl <;> rfl
      have Huo := Lib.hid huo
      clear huo
      go_wp2_with (first | (at_builtin; refine wpList_appK _ elemRW rfl (.tmp 21) (.tmp 23) rfl w1.heap.size 0 _ [] rfl (OwnK.empty w1 _ _) (fun k => ok k ∧ k < w.heap.size) A2 D.loose.length c2 ds hds rfl (Hr2.out.grow HbE.out) Hone.out (by omega) (by omega) HbE.out.size ?_; intro v2 w2 hown2 hg2 _; have hb2 := HbE.out.trans ((OwnK.empty w1 77 2).below_of hg2 HbE.out.size (Nat.le_refl _)); clear hg2; simp only [Nat.zero_add, List.nil_append] at hown2; obtain ⟨B2, d2, rfl, _, _, _⟩ := hown2.form; have hs2 := hb2.size; have HB2 := HB1.out.grow hb2; have hxs2 := HB2.lt; have Hown2 := Lib.hid hown2; have Hb2 := Lib.hid hb2; have HB2' := Lib.hid HB2; clear hown2 hb2 HB2) | (at_builtin; refine wpList_appK_new _ elemRW rfl (.tmp 25) (.tmp 29) rfl w1.heap.size D.loose.length _ ds rfl Hown2.out [Value.int .i64 (ii : Int), str s] 1 hus 77 rfl Huo.out (by omega) (by omega) hs2 ?_; intro v3 w3 hown3 hg3 _; have hb3 := Hb2.out.trans (Hown2.out.below_of hg3 hs2 (Nat.le_refl _)); clear hg3; obtain ⟨B3, d3, rfl, _, _, _⟩ := hown3.form; have hs3 := hb3.size; have HB3 := HB1.out.grow hb3; have hxs3 := HB3.lt; have y0 := HB3.cell 0; have y1 := HB3.cell 1; have y2 := HB3.cell 2; have y3 := HB3.cell 3; have y4 := HB3.cell 4; have y5 := HB3.cell 5; have y6 := HB3.cell 6; have y7 := HB3.cell 7; have yf := HB3.frozen 1; simp at y0 y1 y2 y3 y4 y5 y6 y7; have Hown3 := Lib.hid hown3; have Hb3 := Lib.hid hb3; have HB3' := Lib.hid HB3; clear hown3 hb3 HB3))
      have hst : ∀ q, q ≠ w.heap.size → (w3.setCell ⟨w.heap.size, 1, none⟩ (.slice B3 (D.loose.length + 1) d3)).heap[q]? = w3.heap[q]? := fun q hq => Below.heap_setCell _ _ _ _ hq
      have hr3 := (HR1.out.grow Hb3.out).keep (hst (w.heap.size + 1) (by omega))
      have hb3' : Below w.heap.size w (w3.setCell ⟨w.heap.size, 1, none⟩ (.slice B3 (D.loose.length + 1) d3)) := (below_call HbW.out Hb3.out).setCell (Nat.le_refl _) _
      have hkk : ∀ q, (ok q ∧ q < w.heap.size) → q < w1.heap.size → ((ok q ∧ q < w.heap.size) ∨ w1.heap.size ≤ q) ∧ (w3.setCell ⟨w.heap.size, 1, none⟩ (.slice B3 (D.loose.length + 1) d3)).heap[q]? = w1.heap[q]? := fun q hq hlt => ⟨.inl hq, (hst q (by omega)).trans (Hb3.out.block q hlt)⟩
      have hloose : IsL kWrite (w3.setCell ⟨w.heap.size, 1, none⟩ (.slice B3 (D.loose.length + 1) d3)) (fun q => (ok q ∧ q < w.heap.size) ∨ w1.heap.size ≤ q) (.slice B3 (D.loose.length + 1) d3) (D.loose ++ [(ii, s)]) := by
        obtain ⟨_, _, e3, hc3, hm3, hr3⟩ := Hown3.out.form
        cases e3
        refine ⟨B3, d3, _, by rw [List.length_append]; rfl, by rw [List.length_append]; exact hc3, hm3, hr3.move fun q hq hlt => ?_, ?_⟩
        · have := (Hown3.out.lt q hq).1
          exact ⟨.inr this, hst q (by omega)⟩
        · refine kMany.append (kMany.flat (of_flat (kPair_flat (kInt_flat _) kStr_flat) _) Hmany2.out) (kMany.one ?_)
          exact ⟨[.int .i64 (ii : Int)], [str s], rfl, ⟨rfl, by simp [Lit.wf, IntKind.min, IntKind.max, IntKind.signed, IntKind.bits]; omega⟩, rfl, Hs.out⟩
      have hdevE : IsDev (w3.setCell ⟨w.heap.size, 1, none⟩ (.slice B3 (D.loose.length + 1) d3)) (fun q => (ok q ∧ q < w.heap.size) ∨ w1.heap.size ≤ q) (.agg #[.slice A1 D.sure.length c1, .slice B3 (D.loose.length + 1) d3, .int .i64 D.left, .slice A3 D.choice.kept.length c3, .int .i64 D.choice.torn, .int .i64 D.choice.half, .int .i64 (D.changes : Int), .bool D.off]) E := by
        rw [HE.out]
        refine ⟨A1, c1, B3, d3, A3, c3, by simp, K1.out.move hkk, ?_, K3.out.move hkk⟩
        rw [show ({ D with loose := D.loose ++ [(ii, s)] } : Dev).loose.length = D.loose.length + 1 by simp]
        exact hloose
      have hE1 : E.sure.length = D.sure.length := by rw [HE.out]
      have hE2 : E.loose.length = D.loose.length + 1 := by rw [HE.out]; simp
      have hE3 : E.changes = D.changes := by rw [HE.out]
      have hE4 : E.left = D.left := by rw [HE.out]
      obtain ⟨W3, hW3⟩ : ∃ x, x = w3.setCell ⟨w.heap.size, 1, none⟩ (.slice B3 (D.loose.length + 1) d3) := ⟨_, rfl⟩
      have hsz3 : w3.heap.size = W3.heap.size := by rw [hW3]; simp [World.setCell]
      rw [← hW3] at hr3 hb3' hdevE ⊢
      have Hr3 := Lib.hid hr3
      have Hb3' := Lib.hid hb3'
      clear hst hkk hloose hr3 hb3'
      refine (refchange_any _ _ E W3 hdevE HEwf.out (by omega) (by omega) (by omega) (by omega)).mono ?_
      rintro e w5 ⟨v5, rfl, hdev5, hb5⟩
      rw [← Hput.out] at hdev5 ⊢
      obtain ⟨R, hR⟩ : ∃ R : Dev × Int, R = D.put (ii : Int) s := ⟨_, rfl⟩
      rw [← hR] at hdev5 ⊢
      obtain ⟨a1, d1, a2, d2', a3, d3', rfl, k1, k2, k3⟩ := hdev5
      have HR5 := Lib.hid (Hr3.out.grow hb5)
      have HL1 := Lib.hid k1
      have HL2 := Lib.hid k2
      have HL3 := Lib.hid k3
      have hb05 := below_call Hb3'.out hb5
      have Hb05 := Lib.hid hb05
      have HRR := Lib.hid hR
      clear hb5 k1 k2 k3 hb05 hdevE hR
      go_wp2_with (with_reducible refine wpList_store_fr (op := ⟨none, .store 36 (.tmp 6) (.tmp 34), _, _, _, _⟩) rfl _ _ _ rfl (w.heap.size + 1) 36 [.slice none 0 0, .slice none 0 0, .int .i64 0, .slice none 0 0, .int .i64 0, .int .i64 0, .int .i64 0, .bool false] [.slice a1 R.1.sure.length d1, .slice a2 R.1.loose.length d2', .int .i64 R.1.left, .slice a3 R.1.choice.kept.length d3', .int .i64 R.1.choice.torn, .int .i64 R.1.choice.half, .int .i64 (R.1.changes : Int), .bool R.1.off] rfl rfl HR5.out rfl (by kernel_rfl) (by simp [Value.oneCell']) ?_; intro w9 hblk9 hfr9)
      have z0 := hblk9.cell 0
      have z1 := hblk9.cell 1
      have z2 := hblk9.cell 2
      have z3 := hblk9.cell 3
      have z4 := hblk9.cell 4
      have z5 := hblk9.cell 5
      have z6 := hblk9.cell 6
      have z7 := hblk9.cell 7
      simp at z0 z1 z2 z3 z4 z5 z6 z7
      have hb9 : Below w.heap.size w w9 := Hb05.out.trans (hfr9.below (fun q (hq : q = w.heap.size + 1) => by omega) Hb05.out.size)
      refine bodyPost_ret (v := .tuple #[.agg #[.slice a1 R.1.sure.length d1, .slice a2 R.1.loose.length d2', .int .i64 R.1.left, .slice a3 R.1.choice.kept.length d3', .int .i64 R.1.choice.torn, .int .i64 R.1.choice.half, .int .i64 (R.1.changes : Int), .bool R.1.off], .int .i64 R.2]) (by simp [results, Try.results64, go_sem, z0, z1, z2, z3, z4, z5, z6, z7]) rfl ?_
      rw [← HRR.out]
      refine ⟨_, rfl, ?_, hb9⟩
      have hkeep : ∀ q, (((ok q ∧ q < w.heap.size) ∨ w1.heap.size ≤ q) ∨ W3.heap.size ≤ q) → q < w5.heap.size → (ok q ∨ w.heap.size ≤ q) ∧ w9.heap[q]? = w5.heap[q]? := fun q hq hlt => ⟨by rcases hq with (h | h) | h; exact .inl h.1; exact .inr (by omega); exact .inr (by omega), (hfr9.block q hlt (fun (e : q = w.heap.size + 1) => by rcases hq with (h | h) | h <;> omega)).2⟩
      exact ⟨a1, d1, a2, d2', a3, d3', rfl, HL1.out.move hkeep, HL2.out.move hkeep, HL3.out.move hkeep⟩
    · have hl1 : ((s.length : Int) == 256) = false := by rw [beq_eq_false_iff_ne]; omega
      have hput : D.put i s = (D, 1) := by unfold Dev.put; rw [if_neg (by rw [hwhy]; decide), if_pos hlen]
      have Hput := Lib.hid hput
      clear hput
      go_wp2_with (with_reducible refine wpList_store_fr (op := ⟨none, .store 36 (.tmp 6) (.tmp 20), _, _, _, _⟩) rfl _ _ _ rfl (w.heap.size + 1) 36 [.slice none 0 0, .slice none 0 0, .int .i64 0, .slice none 0 0, .int .i64 0, .int .i64 0, .int .i64 0, .bool false] [.slice A1 D.sure.length c1, .slice A2 D.loose.length c2, .int .i64 D.left, .slice A3 D.choice.kept.length c3, .int .i64 D.choice.torn, .int .i64 D.choice.half, .int .i64 (D.changes : Int), .bool D.off] rfl rfl HR1.out rfl (by kernel_rfl) (by simp [Value.oneCell']) ?_; intro w9 hblk9 hfr9)
      have z0 := hblk9.cell 0
      have z1 := hblk9.cell 1
      have z2 := hblk9.cell 2
      have z3 := hblk9.cell 3
      have z4 := hblk9.cell 4
      have z5 := hblk9.cell 5
      have z6 := hblk9.cell 6
      have z7 := hblk9.cell 7
      simp at z0 z1 z2 z3 z4 z5 z6 z7
      have hb9 : Below w.heap.size w w9 := HbW.out.trans (hfr9.below (fun q (hq : q = w.heap.size + 1) => by omega) HbW.out.size)
      refine bodyPost_ret (v := .tuple #[.agg #[.slice A1 D.sure.length c1, .slice A2 D.loose.length c2, .int .i64 D.left, .slice A3 D.choice.kept.length c3, .int .i64 D.choice.torn, .int .i64 D.choice.half, .int .i64 (D.changes : Int), .bool D.off], .int .i64 (1)]) (by simp [results, Try.results64, go_sem, z0, z1, z2, z3, z4, z5, z6, z7]) rfl ?_
      refine ⟨_, by rw [Hput.out], ?_, hb9⟩
      rw [Hput.out]
      have hkeep : ∀ q, (ok q ∧ q < w.heap.size) → q < w1.heap.size → (ok q ∨ w.heap.size ≤ q) ∧ w9.heap[q]? = w1.heap[q]? := fun q hq hlt => ⟨.inl hq.1, (hfr9.block q hlt (fun (e : q = w.heap.size + 1) => by omega)).2⟩
      exact ⟨A1, c1, A2, c2, A3, c3, rfl, K1.out.move hkeep, K2.out.move hkeep, K3.out.move hkeep⟩
  · have hw1 : (D.why i == 0) = false := by rw [beq_eq_false_iff_ne]; exact hwhy
    have hput : D.put i s = (D, D.why i) := by unfold Dev.put; rw [if_pos hwhy]
    have Hput := Lib.hid hput
    clear hput
    go_wp2_with (with_reducible refine wpList_store_fr (op := ⟨none, .store 36 (.tmp 6) (.tmp 15), _, _, _, _⟩) rfl _ _ _ rfl (w.heap.size + 1) 36 [.slice none 0 0, .slice none 0 0, .int .i64 0, .slice none 0 0, .int .i64 0, .int .i64 0, .int .i64 0, .bool false] [.slice A1 D.sure.length c1, .slice A2 D.loose.length c2, .int .i64 D.left, .slice A3 D.choice.kept.length c3, .int .i64 D.choice.torn, .int .i64 D.choice.half, .int .i64 (D.changes : Int), .bool D.off] rfl rfl HR1.out rfl (by kernel_rfl) (by simp [Value.oneCell']) ?_; intro w9 hblk9 hfr9)
    have z0 := hblk9.cell 0
    have z1 := hblk9.cell 1
    have z2 := hblk9.cell 2
    have z3 := hblk9.cell 3
    have z4 := hblk9.cell 4
    have z5 := hblk9.cell 5
    have z6 := hblk9.cell 6
    have z7 := hblk9.cell 7
    simp at z0 z1 z2 z3 z4 z5 z6 z7
    have hb9 : Below w.heap.size w w9 := HbW.out.trans (hfr9.below (fun q (hq : q = w.heap.size + 1) => by omega) HbW.out.size)
    refine bodyPost_ret (v := .tuple #[.agg #[.slice A1 D.sure.length c1, .slice A2 D.loose.length c2, .int .i64 D.left, .slice A3 D.choice.kept.length c3, .int .i64 D.choice.torn, .int .i64 D.choice.half, .int .i64 (D.changes : Int), .bool D.off], .int .i64 (D.why i)]) (by simp [results, Try.results64, go_sem, z0, z1, z2, z3, z4, z5, z6, z7]) rfl ?_
    refine ⟨_, by rw [Hput.out], ?_, hb9⟩
    rw [Hput.out]
    have hkeep : ∀ q, (ok q ∧ q < w.heap.size) → q < w1.heap.size → (ok q ∨ w.heap.size ≤ q) ∧ w9.heap[q]? = w1.heap[q]? := fun q hq hlt => ⟨.inl hq.1, (hfr9.block q hlt (fun (e : q = w.heap.size + 1) => by omega)).2⟩
    exact ⟨A1, c1, A2, c2, A3, c3, rfl, K1.out.move hkeep, K2.out.move hkeep, K3.out.move hkeep⟩
end Go.Proofs.Ytiaabgmmmekpnaa

namespace Go.Proofs.Ytiaabgmmmekpnaa
open Go.RowKit
set_option maxRecDepth 100000

/-- The sectors of which the first k are as they were written last. -/
def partS (D : Dev) (k : Nat) : List (List UInt8) := (applyW D.sure D.loose).take k ++ D.sure.drop k
theorem partS_length (D : Dev) (k : Nat) (h : k ≤ D.sure.length) : (partS D k).length = D.sure.length := by
  unfold partS
  rw [List.length_append, List.length_take, List.length_drop, applyW_length]
  omega
theorem partS_zero (D : Dev) : partS D 0 = D.sure := rfl
theorem partS_all (D : Dev) : partS D D.sure.length = applyW D.sure D.loose := by
  unfold partS
  rw [List.take_of_length_le (by rw [applyW_length]; exact Nat.le_refl _), List.drop_length, List.append_nil]
theorem partS_now (D : Dev) (k : Nat) (h : k < D.sure.length) : ({ D with sure := partS D k } : Dev).now k = (applyW D.sure D.loose).getD k [] := by
  rw [applyW_at _ _ _ h]
  unfold Dev.now partS
  show lastW k (List.getD _ k []) D.loose = _
  congr 1
  rw [List.getD_eq_getElem?_getD, List.getElem?_append_right (by rw [List.length_take, applyW_length]; omega), List.getElem?_drop, List.length_take, applyW_length, List.getD_eq_getElem?_getD]
  congr 2
  omega
theorem partS_set (D : Dev) (k : Nat) (h : k < D.sure.length) : (partS D k).set k ((applyW D.sure D.loose).getD k []) = partS D (k + 1) := by
  have hl : k < (applyW D.sure D.loose).length := by rw [applyW_length]; exact h
  unfold partS
  rw [List.set_append_right _ _ (by rw [List.length_take, applyW_length]; omega), List.length_take, applyW_length, Nat.min_eq_left (by omega), Nat.sub_self,
    List.drop_eq_getElem_cons h, List.set_cons_zero, List.take_succ_eq_append_getElem hl, List.append_assoc]
  congr 2
  rw [List.getD_eq_getElem?_getD, List.getElem?_eq_getElem hl]
  rfl

set_option maxHeartbeats 4000000 in
theorem refbarrier_any (ok : Nat → Prop) (v : Value) (D : Dev) (w : World) (hv : IsDev w ok v D) (hwf : D.Wf) (hn : D.sure.length ≤ 1099511627776) (hl : D.loose.length ≤ 1099511627776) (hcn : D.changes ≤ 1099511627776) (hlt : D.left ≤ 9223372036854775807) :
    Calls Try.prog 66 #[v] w fun e w' => ∃ v', e = .returned (.tuple #[v', .int .i64 D.barrier.2]) ∧ IsDev w' (fun k => ok k ∨ w.heap.size ≤ k) v' D.barrier.1 ∧ Below w.heap.size w w' := by
  obtain ⟨A1, c1, A2, c2, A3, c3, rfl, h1, h2, h3⟩ := hv
  have G1 := Lib.hid (h1.move (w' := w) (ok' := fun k => ok k ∧ k < w.heap.size) (fun k h hl => ⟨⟨h, hl⟩, rfl⟩))
  have G2 := Lib.hid (h2.move (w' := w) (ok' := fun k => ok k ∧ k < w.heap.size) (fun k h hl => ⟨⟨h, hl⟩, rfl⟩))
  have G3 := Lib.hid (h3.move (w' := w) (ok' := fun k => ok k ∧ k < w.heap.size) (fun k h hl => ⟨⟨h, hl⟩, rfl⟩))
  have Hwf := Lib.hid hwf
  cases hoff : D.off with
  | true =>
    have hbar : D.barrier = (D, 6) := by unfold Dev.barrier; rw [if_pos hoff]
    have Hbar := Lib.hid hbar
    clear hbar
    go_enter Try.func66, Try.ntmps66
    go_wp2
    have hb0 : Below w.heap.size w ((w.alloc (.cells #[.slice A1 D.sure.length c1, .slice A2 D.loose.length c2, .int .i64 D.left, .slice A3 D.choice.kept.length c3, .int .i64 D.choice.torn, .int .i64 D.choice.half, .int .i64 (D.changes : Int), .bool true] 36)).alloc (.cells #[.slice A1 D.sure.length c1, .slice A2 D.loose.length c2, .int .i64 D.left, .slice A3 D.choice.kept.length c3, .int .i64 D.choice.torn, .int .i64 D.choice.half, .int .i64 (D.changes : Int), .bool true] 36)) := (((Below.refl _ _).alloc (Nat.le_refl _) _).alloc (by simp) _)
    refine bodyPost_ret (v := .tuple #[.agg #[.slice A1 D.sure.length c1, .slice A2 D.loose.length c2, .int .i64 D.left, .slice A3 D.choice.kept.length c3, .int .i64 D.choice.torn, .int .i64 D.choice.half, .int .i64 (D.changes : Int), .bool true], .int .i64 6]) (by simp [results, Try.results66, go_sem]) rfl ?_
    refine ⟨_, by rw [Hbar.out], ?_, hb0⟩
    rw [Hbar.out]
    exact ⟨A1, c1, A2, c2, A3, c3, by rw [hoff], (G1.out.grow hb0).weaken fun _ h => .inl h.1, (G2.out.grow hb0).weaken fun _ h => .inl h.1, (G3.out.grow hb0).weaken fun _ h => .inl h.1⟩
  | false =>
    have hbA : Below w.heap.size w ((w.alloc (.cells #[.slice A1 D.sure.length c1, .slice A2 D.loose.length c2, .int .i64 D.left, .slice A3 D.choice.kept.length c3, .int .i64 D.choice.torn, .int .i64 D.choice.half, .int .i64 (D.changes : Int), .bool false] 36)).alloc (.cells #[.slice none 0 0, .slice none 0 0, .int .i64 0, .slice none 0 0, .int .i64 0, .int .i64 0, .int .i64 0, .bool false] 36)) := (((Below.refl _ _).alloc (Nat.le_refl _) _).alloc (by simp) _)
    have hB0 : Blk ((w.alloc (.cells #[.slice A1 D.sure.length c1, .slice A2 D.loose.length c2, .int .i64 D.left, .slice A3 D.choice.kept.length c3, .int .i64 D.choice.torn, .int .i64 D.choice.half, .int .i64 (D.changes : Int), .bool false] 36)).alloc (.cells #[.slice none 0 0, .slice none 0 0, .int .i64 0, .slice none 0 0, .int .i64 0, .int .i64 0, .int .i64 0, .bool false] 36)) w.heap.size 36 #[.slice A1 D.sure.length c1, .slice A2 D.loose.length c2, .int .i64 D.left, .slice A3 D.choice.kept.length c3, .int .i64 D.choice.torn, .int .i64 D.choice.half, .int .i64 (D.changes : Int), .bool false] := (Blk.new w _ _).alloc _
    have hBr : Blk ((w.alloc (.cells #[.slice A1 D.sure.length c1, .slice A2 D.loose.length c2, .int .i64 D.left, .slice A3 D.choice.kept.length c3, .int .i64 D.choice.torn, .int .i64 D.choice.half, .int .i64 (D.changes : Int), .bool false] 36)).alloc (.cells #[.slice none 0 0, .slice none 0 0, .int .i64 0, .slice none 0 0, .int .i64 0, .int .i64 0, .int .i64 0, .bool false] 36)) (w.heap.size + 1) 36 #[.slice none 0 0, .slice none 0 0, .int .i64 0, .slice none 0 0, .int .i64 0, .int .i64 0, .int .i64 0, .bool false] := by
      have := Blk.new (w.alloc (.cells #[.slice A1 D.sure.length c1, .slice A2 D.loose.length c2, .int .i64 D.left, .slice A3 D.choice.kept.length c3, .int .i64 D.choice.torn, .int .i64 D.choice.half, .int .i64 (D.changes : Int), .bool false] 36)) 36 #[.slice none 0 0, .slice none 0 0, .int .i64 0, .slice none 0 0, .int .i64 0, .int .i64 0, .int .i64 0, .bool false]
      simpa using this
    obtain ⟨W, hW⟩ : ∃ W, W = (w.alloc (.cells #[.slice A1 D.sure.length c1, .slice A2 D.loose.length c2, .int .i64 D.left, .slice A3 D.choice.kept.length c3, .int .i64 D.choice.torn, .int .i64 D.choice.half, .int .i64 (D.changes : Int), .bool false] 36)).alloc (.cells #[.slice none 0 0, .slice none 0 0, .int .i64 0, .slice none 0 0, .int .i64 0, .int .i64 0, .int .i64 0, .bool false] 36) := ⟨_, rfl⟩
    have hWs : W.heap.size = w.heap.size + 2 := by rw [hW]; simp
    rw [← hW] at hbA hBr hB0
    have HW := Lib.hid hW
    have HbA := Lib.hid hbA
    have HBr := Lib.hid hBr
    have HWs := Lib.hid hWs
    obtain ⟨R, hR⟩ : ∃ R : Dev × Int, R = D.change := ⟨_, rfl⟩
    have HR := Lib.hid hR
    clear h1 h2 h3 hwf hW hbA hBr hB0 hWs hR
    go_enter Try.func66, Try.ntmps66
    go_wp2_with fail
    rw [← HW.out]
    refine (refchange_any (fun k => ok k ∧ k < w.heap.size) _ D W ⟨A1, c1, A2, c2, A3, c3, by rw [hoff], G1.out.grow HbA.out, G2.out.grow HbA.out, G3.out.grow HbA.out⟩ Hwf.out hn hl hcn hlt).mono ?_
    rintro e w5 ⟨v5, rfl, hdev5, hb5⟩
    rw [← HR.out] at hdev5 ⊢
    obtain ⟨a1, d1, a2, d2, a3, d3, rfl, k1, k2, k3⟩ := hdev5
    have hr5 := HBr.out.grow hb5
    have hb05 := below_call HbA.out hb5
    have hbW5 : W.heap.size ≤ w5.heap.size := hb5.size
    have hws5 : w.heap.size + 2 ≤ w5.heap.size := by have := HWs.out; omega
    have hwc : w5.heap.size < (w5.alloc (.cells #[.slice a1 R.1.sure.length d1, .slice a2 R.1.loose.length d2, .int .i64 R.1.left, .slice a3 R.1.choice.kept.length d3, .int .i64 R.1.choice.torn, .int .i64 R.1.choice.half, .int .i64 (R.1.changes : Int), .bool R.1.off] 36)).heap.size := by simp
    have hbC : Below w5.heap.size w5 (w5.alloc (.cells #[.slice a1 R.1.sure.length d1, .slice a2 R.1.loose.length d2, .int .i64 R.1.left, .slice a3 R.1.choice.kept.length d3, .int .i64 R.1.choice.torn, .int .i64 R.1.choice.half, .int .i64 (R.1.changes : Int), .bool R.1.off] 36)) := (Below.refl _ _).alloc (Nat.le_refl _) _
    have hBc : Blk (w5.alloc (.cells #[.slice a1 R.1.sure.length d1, .slice a2 R.1.loose.length d2, .int .i64 R.1.left, .slice a3 R.1.choice.kept.length d3, .int .i64 R.1.choice.torn, .int .i64 R.1.choice.half, .int .i64 (R.1.changes : Int), .bool R.1.off] 36)) w5.heap.size 36 #[.slice a1 R.1.sure.length d1, .slice a2 R.1.loose.length d2, .int .i64 R.1.left, .slice a3 R.1.choice.kept.length d3, .int .i64 R.1.choice.torn, .int .i64 R.1.choice.half, .int .i64 (R.1.changes : Int), .bool R.1.off] := Blk.new _ _ _
    have hr6 := hr5.grow hbC
    have hb06 := below_call hb05 hbC
    have hPk : ∀ q, ((ok q ∧ q < w.heap.size) ∨ W.heap.size ≤ q) → q < w5.heap.size → (fun q => (ok q ∧ q < w.heap.size) ∨ (w.heap.size + 2 ≤ q ∧ q ≠ w5.heap.size)) q ∧ (w5.alloc (.cells #[.slice a1 R.1.sure.length d1, .slice a2 R.1.loose.length d2, .int .i64 R.1.left, .slice a3 R.1.choice.kept.length d3, .int .i64 R.1.choice.torn, .int .i64 R.1.choice.half, .int .i64 (R.1.changes : Int), .bool R.1.off] 36)).heap[q]? = w5.heap[q]? := fun q hq hlt => ⟨by rcases hq with h | h; exact .inl h; exact .inr ⟨by rw [← HWs.out]; exact h, by omega⟩, hbC.block q hlt⟩
    have K1 := Lib.hid (k1.move hPk)
    have K2 := Lib.hid (k2.move hPk)
    have K3 := Lib.hid (k3.move hPk)
    have HR6 := Lib.hid hr6
    have HBc := Lib.hid hBc
    have Hb06 := Lib.hid hb06
    clear k1 k2 k3 hPk hr5 hb05 hb06 hr6 hBc hbC hb5
    by_cases he : R.2 = 0
    · have hbar : D.barrier = ({ R.1 with sure := applyW R.1.sure R.1.loose, loose := [] }, 0) := by
        unfold Dev.barrier
        rw [if_neg (by rw [hoff]; decide), ← HR.out, if_neg (by rw [he]; decide)]
      have Hbar := Lib.hid hbar
      have hRs : R.1.sure.length = D.sure.length := by rw [HR.out]; exact change_length D
      have hRn : R.1.sure.length ≤ 1099511627776 := by omega
      have hRwf : R.1.Wf := by rw [HR.out]; exact change_wf Hwf.out
      have HRwf := Lib.hid hRwf
      rw [he]
      clear hbar he hRs hRwf
      go_wp2_with fail
      go_loopw [6] (fun i wr => ∃ (k : Nat) (As : Option Addr) (cs : Nat), k ≤ R.1.sure.length ∧ i = .int .i64 (k : Int) ∧ Blk wr w5.heap.size 36 #[.slice As R.1.sure.length cs, .slice a2 R.1.loose.length d2, .int .i64 R.1.left, .slice a3 R.1.choice.kept.length d3, .int .i64 R.1.choice.torn, .int .i64 R.1.choice.half, .int .i64 (R.1.changes : Int), .bool R.1.off] ∧ Blk wr (w.heap.size + 1) 36 #[.slice none 0 0, .slice none 0 0, .int .i64 0, .slice none 0 0, .int .i64 0, .int .i64 0, .int .i64 0, .bool false] ∧ IsL kStr wr (fun q => (ok q ∧ q < w.heap.size) ∨ (w.heap.size + 2 ≤ q ∧ q ≠ w5.heap.size)) (.slice As R.1.sure.length cs) (partS R.1 k) ∧ IsL kWrite wr (fun q => (ok q ∧ q < w.heap.size) ∨ (w.heap.size + 2 ≤ q ∧ q ≠ w5.heap.size)) (.slice a2 R.1.loose.length d2) R.1.loose ∧ IsL (kInt .i64) wr (fun q => (ok q ∧ q < w.heap.size) ∨ (w.heap.size + 2 ≤ q ∧ q ≠ w5.heap.size)) (.slice a3 R.1.choice.kept.length d3) R.1.choice.kept ∧ Below w.heap.size w wr) (fun i _ => R.1.sure.length - (intOf i).toNat)
      case atStart => exact ⟨0, a1, d1, Nat.zero_le _, rfl, HBc.out, HR6.out, K1.out, K2.out, K3.out, Hb06.out⟩
      case round =>
        obtain ⟨k, As, cs, hk, rfl, hblk, hres, hsl, hlo, hke, hbw⟩ := hrel
        clear HBc HR6 K1 K2 K3 Hb06
        have x0 := hblk.cell 0
        have x1 := hblk.cell 1
        have x2 := hblk.cell 2
        have x3 := hblk.cell 3
        have x4 := hblk.cell 4
        have x5 := hblk.cell 5
        have x6 := hblk.cell 6
        have x7 := hblk.cell 7
        have xf0 := hblk.frozen 0
        have xf1 := hblk.frozen 1
        simp at x0 x1 x2 x3 x4 x5 x6 x7
        have hbl := hblk.lt
        have Hblk := Lib.hid hblk
        have Hres := Lib.hid hres
        have Hsl := Lib.hid hsl
        have Hlo := Lib.hid hlo
        have Hke := Lib.hid hke
        have Hbw := Lib.hid hbw
        clear hblk hres hsl hlo hke hbw
        by_cases hlt : k < R.1.sure.length
        · have hnow := partS_now R.1 k hlt
          have hset := partS_set R.1 k hlt
          have hpl := partS_length R.1 k (by omega)
          obtain ⟨x, hx⟩ : ∃ x, x = (applyW R.1.sure R.1.loose).getD k [] := ⟨_, rfl⟩
          rw [← hx] at hnow hset
          have hxl : x.length = 256 := by
            rw [hx, applyW_at _ _ _ hlt]
            refine lastW_wf _ _ _ ?_ (fun y hy => (HRwf.out.loose y hy).2)
            rw [List.getD_eq_getElem?_getD, List.getElem?_eq_getElem hlt]
            exact HRwf.out.sure _ (List.getElem_mem hlt)
          have Hnow := Lib.hid hnow
          have Hset := Lib.hid hset
          have Hpl := Lib.hid hpl
          clear hnow hset hpl hx
          have hnowc := fun (u : World) (hu : Below wr.heap.size wr u) => now_any (fun q => (ok q ∧ q < w.heap.size) ∨ (w.heap.size + 2 ≤ q ∧ q ≠ w5.heap.size)) (.agg #[.slice As R.1.sure.length cs, .slice a2 R.1.loose.length d2, .int .i64 R.1.left, .slice a3 R.1.choice.kept.length d3, .int .i64 R.1.choice.torn, .int .i64 R.1.choice.half, .int .i64 (R.1.changes : Int), .bool R.1.off]) ({ R.1 with sure := partS R.1 k } : Dev) k u ⟨As, cs, a2, d2, a3, d3, by rw [show ({ R.1 with sure := partS R.1 k } : Dev).sure.length = R.1.sure.length from Hpl.out], by rw [show ({ R.1 with sure := partS R.1 k } : Dev).sure.length = R.1.sure.length from Hpl.out]; exact Hsl.out.grow hu, Hlo.out.grow hu, Hke.out.grow hu⟩ (by rw [show ({ R.1 with sure := partS R.1 k } : Dev).sure.length = R.1.sure.length from Hpl.out]; exact hlt)
          have hwith := fun (u : World) (hu : Below wr.heap.size wr u) => with_any (fun q => (ok q ∧ q < w.heap.size) ∨ (w.heap.size + 2 ≤ q ∧ q ≠ w5.heap.size)) (.slice As R.1.sure.length cs) (partS R.1 k) k x u (Hsl.out.grow hu) (by rw [Hpl.out]; exact hlt) (by rw [Hpl.out]; exact hRn) (by rw [hxl]; unfold maxLen; omega)
          have Hnowc := Lib.hid hnowc
          have Hwith := Lib.hid hwith
          clear hnowc hwith
          go_wp2_with fail
          go_region_with (first | (go_at_call 12; refine (Hnowc.out wr.drew ((Below.refl _ _).drew)).mono ?_; rintro e w6 ⟨rfl, hb6⟩; rw [Hnow.out]; have y0 := cell_then hb6 (show wr.drew.cell? _ = _ from x0); have y1 := cell_then hb6 (show wr.drew.cell? _ = _ from x1); have y2 := cell_then hb6 (show wr.drew.cell? _ = _ from x2); have y3 := cell_then hb6 (show wr.drew.cell? _ = _ from x3); have y4 := cell_then hb6 (show wr.drew.cell? _ = _ from x4); have y5 := cell_then hb6 (show wr.drew.cell? _ = _ from x5); have y6 := cell_then hb6 (show wr.drew.cell? _ = _ from x6); have y7 := cell_then hb6 (show wr.drew.cell? _ = _ from x7); have Hb6 := Lib.hid (below_drew_then hb6); clear hb6) | (go_at_call 49; refine (Hwith.out _ Hb6.out).mono ?_; rintro e w7 ⟨v7, rfl, how7, hb7⟩; obtain ⟨A7, n7, _, hv7, _, _, _, _⟩ := how7.isL; rw [List.length_set, Hpl.out] at hv7; subst hv7; have q0 := cell_then hb7 y0; have hblk7 := (Hblk.out.grow Hb6.out).grow hb7; have qf := hblk7.frozen 0; have H7 := Lib.hid how7; have Hb7 := Lib.hid hb7; have Hblk7 := Lib.hid hblk7; clear how7 hb7 hblk7))
          all_goals
            go_wp2
            go_roundw
            case rel =>
              have hs67 : wr.heap.size ≤ w6.heap.size := Hb6.out.size
              have hst : ∀ q, q ≠ w5.heap.size → (w7.setCell ⟨w5.heap.size, 0, none⟩ (.slice A7 R.1.sure.length n7)).heap[q]? = w7.heap[q]? := fun q hq => Below.heap_setCell _ _ _ _ hq
              have hkeep : ∀ q, (fun q => (ok q ∧ q < w.heap.size) ∨ (w.heap.size + 2 ≤ q ∧ q ≠ w5.heap.size)) q → q < wr.heap.size → (fun q => (ok q ∧ q < w.heap.size) ∨ (w.heap.size + 2 ≤ q ∧ q ≠ w5.heap.size)) q ∧ (w7.setCell ⟨w5.heap.size, 0, none⟩ (.slice A7 R.1.sure.length n7)).heap[q]? = wr.heap[q]? := fun q hq hlt => ⟨hq, (hst q (by rcases hq with h | h; omega; exact h.2)).trans ((Hb7.out.block q (by omega)).trans (Hb6.out.block q hlt))⟩
              have hset := Hblk7.out.set_ 0 (.slice A7 R.1.sure.length n7)
              have how := H7.out
              rw [Hset.out] at how
              refine ⟨k + 1, A7, n7, by omega, by go_num, by simpa using hset, ((Hres.out.grow Hb6.out).grow Hb7.out).keep (hst _ (by omega)), how.isL.move (fun q hq _ => ⟨.inr ⟨by have := (how.lt q hq).1; omega, by have := (how.lt q hq).1; omega⟩, hst q (by have := (how.lt q hq).1; omega)⟩), Hlo.out.move hkeep, Hke.out.move hkeep, (below_call (below_call Hbw.out Hb6.out) Hb7.out).setCell (by show w.heap.size ≤ w5.heap.size; omega) _⟩
            case measure => simp [intOf]; omega
        · obtain rfl : k = R.1.sure.length := by omega
          have hall := partS_all R.1
          have Hall := Lib.hid hall
          clear hall
          obtain ⟨wa, rfl⟩ : ∃ x, x = wr := ⟨wr, rfl⟩
          have hst : ∀ q, q ≠ w5.heap.size → (wa.setCell ⟨w5.heap.size, 1, none⟩ (.slice none 0 0)).heap[q]? = wa.heap[q]? := fun q hq => Below.heap_setCell _ _ _ _ hq
          have hres8 := Hres.out.keep (hst (w.heap.size + 1) (by omega))
          have hb8 := Hbw.out.setCell (p := ⟨w5.heap.size, 1, none⟩) (by show w.heap.size ≤ w5.heap.size; omega) (.slice none 0 0)
          have Hst := Lib.hid hst
          have Hres8 := Lib.hid hres8
          have Hb8 := Lib.hid hb8
          clear hst hres8 hb8
          go_wp2_with (with_reducible refine wpList_store_fr (op := ⟨none, .store 36 (.tmp 2) (.tmp 35), _, _, _, _⟩) rfl _ _ _ rfl (w.heap.size + 1) 36 [.slice none 0 0, .slice none 0 0, .int .i64 0, .slice none 0 0, .int .i64 0, .int .i64 0, .int .i64 0, .bool false] [.slice As R.1.sure.length cs, .slice none 0 0, .int .i64 R.1.left, .slice a3 R.1.choice.kept.length d3, .int .i64 R.1.choice.torn, .int .i64 R.1.choice.half, .int .i64 (R.1.changes : Int), .bool R.1.off] rfl rfl Hres8.out rfl (by kernel_rfl) (by simp [Value.oneCell']) ?_; intro w9 hblk9 hfr9)
          have z0 := hblk9.cell 0
          have z1 := hblk9.cell 1
          have z2 := hblk9.cell 2
          have z3 := hblk9.cell 3
          have z4 := hblk9.cell 4
          have z5 := hblk9.cell 5
          have z6 := hblk9.cell 6
          have z7 := hblk9.cell 7
          simp at z0 z1 z2 z3 z4 z5 z6 z7
          have hb9 : Below w.heap.size w w9 := Hb8.out.trans (hfr9.below (fun q (hq : q = w.heap.size + 1) => by omega) Hb8.out.size)
          refine bodyPost_ret (v := .tuple #[.agg #[.slice As R.1.sure.length cs, .slice none 0 0, .int .i64 R.1.left, .slice a3 R.1.choice.kept.length d3, .int .i64 R.1.choice.torn, .int .i64 R.1.choice.half, .int .i64 (R.1.changes : Int), .bool R.1.off], .int .i64 0]) (by simp [results, Try.results66, go_sem, z0, z1, z2, z3, z4, z5, z6, z7]) rfl ?_
          refine ⟨_, by rw [Hbar.out], ?_, hb9⟩
          rw [Hbar.out]
          have hkeep : ∀ q, (fun q => (ok q ∧ q < w.heap.size) ∨ (w.heap.size + 2 ≤ q ∧ q ≠ w5.heap.size)) q → q < wa.heap.size → (ok q ∨ w.heap.size ≤ q) ∧ w9.heap[q]? = wa.heap[q]? := fun q hq hlt => ⟨by rcases hq with h | h; exact .inl h.1; exact .inr (by omega), ((hfr9.block q (by simpa [World.setCell] using hlt) (fun (e : q = w.heap.size + 1) => by rcases hq with h | h <;> omega)).2).trans (Hst.out q (by rcases hq with h | h; omega; exact h.2))⟩
          have hsl9 := Hsl.out.move hkeep
          rw [Hall.out] at hsl9
          have hal : (applyW R.1.sure R.1.loose).length = R.1.sure.length := applyW_length _ _
          exact ⟨As, cs, none, 0, a3, d3, by show _ = Value.agg #[.slice As (applyW R.1.sure R.1.loose).length cs, _, _, _, _, _, _, _]; rw [hal]; rfl, by show IsL kStr w9 _ (.slice As (applyW R.1.sure R.1.loose).length cs) (applyW R.1.sure R.1.loose); rw [hal]; exact hsl9, IsL.nil, Hke.out.move hkeep⟩
    · have hbar : D.barrier = R := by
        unfold Dev.barrier
        rw [if_neg (by rw [hoff]; decide), ← HR.out, if_pos he]
      have Hbar := Lib.hid hbar
      have he1 : (R.2 == 0) = false := by rw [beq_eq_false_iff_ne]; exact he
      clear hbar he
      go_wp2_with (with_reducible refine wpList_store_fr (op := ⟨none, .store 36 (.tmp 2) (.tmp 17), _, _, _, _⟩) rfl _ _ _ rfl (w.heap.size + 1) 36 [.slice none 0 0, .slice none 0 0, .int .i64 0, .slice none 0 0, .int .i64 0, .int .i64 0, .int .i64 0, .bool false] [.slice a1 R.1.sure.length d1, .slice a2 R.1.loose.length d2, .int .i64 R.1.left, .slice a3 R.1.choice.kept.length d3, .int .i64 R.1.choice.torn, .int .i64 R.1.choice.half, .int .i64 (R.1.changes : Int), .bool R.1.off] rfl rfl HR6.out rfl (by kernel_rfl) (by simp [Value.oneCell']) ?_; intro w9 hblk9 hfr9)
      have z0 := hblk9.cell 0
      have z1 := hblk9.cell 1
      have z2 := hblk9.cell 2
      have z3 := hblk9.cell 3
      have z4 := hblk9.cell 4
      have z5 := hblk9.cell 5
      have z6 := hblk9.cell 6
      have z7 := hblk9.cell 7
      simp at z0 z1 z2 z3 z4 z5 z6 z7
      have hb9 : Below w.heap.size w w9 := Hb06.out.trans (hfr9.below (fun q (hq : q = w.heap.size + 1) => by omega) Hb06.out.size)
      refine bodyPost_ret (v := .tuple #[.agg #[.slice a1 R.1.sure.length d1, .slice a2 R.1.loose.length d2, .int .i64 R.1.left, .slice a3 R.1.choice.kept.length d3, .int .i64 R.1.choice.torn, .int .i64 R.1.choice.half, .int .i64 (R.1.changes : Int), .bool R.1.off], .int .i64 R.2]) (by simp [results, Try.results66, go_sem, z0, z1, z2, z3, z4, z5, z6, z7]) rfl ?_
      refine ⟨_, by rw [Hbar.out], ?_, hb9⟩
      rw [Hbar.out]
      have hkeep : ∀ q, (fun q => (ok q ∧ q < w.heap.size) ∨ (w.heap.size + 2 ≤ q ∧ q ≠ w5.heap.size)) q → q < (w5.alloc (.cells #[.slice a1 R.1.sure.length d1, .slice a2 R.1.loose.length d2, .int .i64 R.1.left, .slice a3 R.1.choice.kept.length d3, .int .i64 R.1.choice.torn, .int .i64 R.1.choice.half, .int .i64 (R.1.changes : Int), .bool R.1.off] 36)).heap.size → (ok q ∨ w.heap.size ≤ q) ∧ w9.heap[q]? = (w5.alloc (.cells #[.slice a1 R.1.sure.length d1, .slice a2 R.1.loose.length d2, .int .i64 R.1.left, .slice a3 R.1.choice.kept.length d3, .int .i64 R.1.choice.torn, .int .i64 R.1.choice.half, .int .i64 (R.1.changes : Int), .bool R.1.off] 36)).heap[q]? := fun q hq hlt => ⟨by rcases hq with h | h; exact .inl h.1; exact .inr (by omega), (hfr9.block q hlt (fun (e : q = w.heap.size + 1) => by rcases hq with h | h <;> omega)).2⟩
      exact ⟨a1, d1, a2, d2, a3, d3, rfl, K1.out.move hkeep, K2.out.move hkeep, K3.out.move hkeep⟩
end Go.Proofs.Ytiaabgmmmekpnaa
