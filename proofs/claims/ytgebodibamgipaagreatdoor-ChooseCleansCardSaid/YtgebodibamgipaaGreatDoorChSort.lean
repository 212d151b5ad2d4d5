/-
  slices.Values, AppendSeq, Collect, Sorted at texts.
-/
import Derived.Test.YtgebodibamgipaaGreatDoorChHas
import Derived.Test.YtgebodibamgipaaGreatDoorRange2
import Derived.Test.YtgebodibamgipaaGreatDoorShelf
import Derived.Lib.SortBridgeS
namespace Go.Proofs.YtgebodibamgipaaGreatDoor
open Go.RowKit Go.Shelf
set_option maxRecDepth 100000
attribute [local go_sem] Oper.semAt_some

def encT (x : Txt) : Array Value := #[.string ⟨x.toArray⟩]
/-- The block of a slice, if it is one of that world. -/
def keepA (w : World) (A : Option Addr) (k : Nat) : Prop := k < w.heap.size ∧ ∃ ad, A = some ad ∧ ad.block = k
/-- What has been collected: the variable's box, and its row. -/
def Coll (w : World) (M : Nat → Prop) (pre : List Txt) (W : World) : Prop :=
  ∃ v, Blk W w.heap.size 22 #[v] ∧ Own1 W (w.heap.size + 1) 9 v (pre.map str) ∧ (∀ k, v.ownBlock = some k → M k) ∧ Below w.heap.size w W
theorem Coll.hold {w : World} {M : Nat → Prop} {pre : List Txt} {A W : World} (h : Coll w M pre A) (hs : w.heap.size + 1 ≤ A.heap.size) (hh : Hold (fun k => k < w.heap.size + 1 ∨ M k) A W) : Coll w M pre W := by
  obtain ⟨v, h1, h2, h3, h4⟩ := h
  exact ⟨v, h1.keep (hh.block _ (by omega) (.inl (by omega))), h2.keep (fun k hk => hh.block k (h2.lt k hk).2 (.inr (h3 k hk))), h3, h4.trans (hh.below (fun k hk => .inl (by omega)) (by omega))⟩

set_option maxHeartbeats 1000000 in
theorem appendT_any (gf : Nat) (lb : Array Value) (keep : Nat → Prop) (N : Nat) (S Sp : List Txt → Prop) (w : World) (eg : ∀ args w, (callFunc gf args).run Tryz.prog w = .ok (.enter gf args) w) (hN : N ≤ 1099511627776) (hkeep : ∀ k, keep k → k < w.heap.size)
    (hit : ∀ z, Below w.heap.size w z → Iter2 8 Tryz.prog gf lb encT keep N S Sp z) :
    Calls Tryz.prog 37 #[.slice none 0 0, .func (.func gf) #[] lb] w fun e w' => (∃ v xs, e = .returned v ∧ S xs ∧ Own1 w' (w.heap.size + 1) 9 v (xs.map str)) ∧ Below w.heap.size w w' := by
  rw [← callsIn_wide (n := 9)]
  refine callsIn_of_wp_marks Tryz.func37 rfl trivial ?_ rfl
  simp only [Tryz.ntmps37, List.size_toArray, List.length_cons, List.length_nil, Nat.reduceAdd, Nat.reduceSub, Array.replicate_succ, Array.replicate_zero, List.push_toArray, List.append_toArray, List.nil_append, List.cons_append]
  gi_wp2
  have hb1 : Below w.heap.size w (w.alloc (.cells #[.slice none 0 0] 22)) := (Below.refl _ _).alloc (Nat.le_refl _) _
  have hsz1 : (w.alloc (.cells #[.slice none 0 0] 22)).heap.size = w.heap.size + 1 := World.size_alloc _ _
  have hC0 : Coll w (fun _ => False) [] (w.alloc (.cells #[.slice none 0 0] 22)) := ⟨_, Blk.new w _ _, Own1.nil _ _ _, fun k h => (by cases h), hb1⟩
  have hit1 := hit _ hb1
  obtain ⟨w1, hw1⟩ : ∃ w1, w1 = w.alloc (.cells #[.slice none 0 0] 22) := ⟨_, rfl⟩
  rw [← hw1] at hsz1 hC0 hit1 hb1 ⊢
  clear hw1 hit
  refine wp_range2 (gf := gf) (lb := lb) rfl eg hit1 (fun _ => rfl)
    (Coll w) (fun _ _ _ _ => False) (fun M xs A W h hs hh => h.hold (by omega) (by rw [hsz1] at hh; exact hh)) (fun _ _ _ _ _ h => h.elim) hC0
    (fun x => { tmps := #[.slice none 0 0, .func (.func gf) #[] lb, .pointer (some ⟨w.heap.size, 0, none⟩), undef, .slice none 0 0, .string ⟨x.toArray⟩, .func (.func gf) #[] lb, .string ⟨x.toArray⟩, undef, undef, undef, undef, undef], defers := [] }) ?assign ?body ?done ?stop
  case assign =>
    intro L x W K hK
    unfold encT
    gi_wp2
    exact hK
  case body =>
    rintro L M pre x W ⟨v, hbox, hown, hM, hbel⟩ hMb hs2 hlt
    have c2 := hbox.cell 0
    have z2 := hbox.frozen 0
    simp only [List.getElem?_toArray, List.getElem?_cons_zero] at c2
    obtain ⟨Av, cv, hv, hvc, hvm, _⟩ := hown.form
    rw [List.length_map] at hv hvc
    subst hv
    have hown0 : ∀ k, (Value.slice Av pre.length cv).ownBlock = some k → w.heap.size + 1 ≤ k ∧ k < W.heap.size := fun k hk => hown.lt k hk
    have HM := Lib.hid hM
    have HMb := Lib.hid hMb
    have H0 := Lib.hid hown0
    clear hM hMb hown0
    gi_wp2_with (first | (gi_at_builtin; refine wpListIn_app1_one _ elemS rfl (.tmp 8) (.tmp 10) rfl (w.heap.size + 1) _ _ rfl hown (.string ⟨x.toArray⟩) _ rfl rfl (by simp; omega) (by simp; omega) (by omega) ?_; intro v3 w3 hown3 hgr3 hat3; obtain ⟨A3, n3, hv3, hc3, hm3, _⟩ := hown3.form; rw [List.length_append, List.length_map, List.length_singleton] at hv3 hc3; subst hv3; have hb3 := (hbox.alloc _).grown hgr3 (fun h => by have := (H0.out _ h).1; omega); have c3 := hb3.cell 0; have z3 := hb3.frozen 0; simp only [List.getElem?_toArray, List.getElem?_cons_zero] at c3))
    have hbw : Below w.heap.size w w3 := (hbel.alloc hbel.size _).grown hgr3 (by simp; omega) (fun k hk => by have := (H0.out k hk).1; omega)
    have hs3 : W.heap.size + 1 ≤ w3.heap.size := by have := hgr3.size; simpa using this
    have hlt3 := hown3.lt
    refine ⟨fun k => M k ∨ (Value.slice A3 (pre.length + 1) n3).ownBlock = some k, ⟨_, hb3.set_ 0 _, ?_, fun k hk => .inr hk, hbw.setCell (p := ⟨w.heap.size, 0, none⟩) (Nat.le_refl _) _⟩, fun k hk => ?_, ?_⟩
    · rw [List.map_append]
      exact hown3.keep fun k hk => Below.heap_setCell _ _ _ k (by have := (hlt3 k hk).1; show k ≠ w.heap.size; omega)
    · rcases hk with hk | hk
      · refine ⟨.inl hk, ?_⟩
        have := (HMb.out k hk).2
        simp
        omega
      · refine ⟨?_, by simp; exact (hlt3 k hk).2⟩
        rcases hat3 with h | h
        · rw [h] at hk; exact .inl (HM.out k hk)
        · rw [h] at hk; cases hk; exact .inr (Nat.le_succ _)
    · refine ((Hold.alloc W _ _).trans (Hold.grown hgr3 _ fun g e h => h.1 (HM.out g e))).trans (Hold.setCell _ _ _ _ ?_)
      rintro ⟨_, h | h⟩
      · rw [hsz1] at h
        have : w.heap.size + 1 ≤ w.heap.size := h
        omega
      · have := hkeep _ h
        have h2 : w.heap.size < w.heap.size := this
        omega
  case done =>
    rintro D M xs W hD hS ⟨v, hbox, hown, hM, hbel⟩ hK hW hMD
    have c2 := hbox.cell 0
    simp only [List.getElem?_toArray, List.getElem?_cons_zero] at c2
    obtain ⟨Av, cv, hv, hvc, hvm, _⟩ := hown.form
    rw [List.length_map] at hv hvc
    subst hv
    have HS := Lib.hid hS
    clear hS
    gi_wp2
    refine ⟨by simp, .inl ⟨_, _, rfl, run_takeDeferred hK, ?_⟩⟩
    have hlt := hown.lt
    have hown2 : Own1 (W.putObj D (.deferred none)) (w.heap.size + 1) 9 (.slice Av xs.length cv) (xs.map str) := hown.keep fun k hk => World.putObj_heap_other (fun e => hMD (e ▸ hM k hk))
    refine ⟨.slice Av xs.length cv, by simp [results, Tryz.f37, go_sem], ⟨_, xs, rfl, HS.out, hown2⟩, hbel.trans ⟨rfl, rfl, rfl, by simp, fun k hk => World.putObj_heap_other (by omega)⟩⟩
  case stop =>
    rintro D c M xs W hD h
    exact h.elim

theorem Rd.keep {w : World} {ok : Nat → Prop} {A : Option Addr} {xs : List Value} (h : Rd w ok A xs) : Rd w (keepA w A) A xs := fun hn => by
  obtain ⟨ad, h1, h2, h3⟩ := h hn
  obtain ⟨ad', h4, _, h5⟩ := h.lt hn
  rw [h1] at h4
  cases h4
  exact ⟨ad, h1, ⟨h5, ad, h1, rfl⟩, h3⟩
theorem Rd.hold {w w' : World} {M keep : Nat → Prop} {A : Option Addr} {xs : List Value} (h : Rd w keep A xs) (hh : Hold M w w') (hM : ∀ k, keep k → M k) : Rd w' keep A xs := h.frame fun k hk hl => hh.block k hl (hM k hk)
/-- The iterator that slices.Values hands back. -/
theorem values_iter (n : Nat) (Bm : Nat) (A : Option Addr) (c : Nat) (L : List Txt) (w : World) (hBm : w.cell? ⟨Bm, 0, none⟩ = some (.slice A L.length c)) (keep : Nat → Prop) (hkl : ∀ k, keep k → k < w.heap.size) (hL : Rd w keep A (L.map str)) (hl : L.length ≤ 100000) :
    Iter2 n Tryz.prog 27 #[.pointer (some ⟨Bm, 0, none⟩)] encT keep L.length (fun xs => xs = L) (fun _ => True) w := by
  intro l J Jx M W hbel hM hY h0
  have hcell : W.cell? ⟨Bm, 0, none⟩ = some (.slice A L.length c) := (hbel.cell (p := ⟨Bm, 0, none⟩) (World.block_lt_of_cell? w _ hBm)).trans hBm
  have HL := Lib.hid (hL.grow hbel)
  have Hkl := Lib.hid hkl
  have HM := Lib.hid hM
  have HY := Lib.hid hY
  have Hbel := Lib.hid hbel
  obtain ⟨nn, hn⟩ : ∃ nn, nn = L.length := ⟨_, rfl⟩
  rw [← hn] at hcell hl
  have Hn := Lib.hid hn
  clear hM hY hBm hbel hL hn hkl
  refine callsIn_of_wp Tryz.func27 rfl trivial ?_ rfl
  simp only [Tryz.ntmps27, List.size_toArray, List.length_cons, List.length_nil, Nat.reduceAdd, Nat.reduceSub, Array.replicate_succ, Array.replicate_zero, List.push_toArray, List.append_toArray, List.nil_append, List.cons_append]
  gi_wp2
  gi_loopw [7] (fun i wr => ∃ (k : Nat) (M : Nat → Prop) (W0 : World), k ≤ nn ∧ i = .int .i64 (k : Int) ∧ J M (L.take k) W0 ∧ w.heap.size ≤ W0.heap.size ∧ Hold (fun k => k < w.heap.size ∨ M k) W0 wr ∧ (∀ k, M k → w.heap.size ≤ k ∧ k < W0.heap.size) ∧ Rd wr keep A (L.map str))
    (fun i _ => nn - (intOf i).toNat)
  case atStart => exact ⟨0, M, W, Nat.zero_le _, rfl, by rw [List.take_zero]; exact h0, Hbel.out.size, Hold.refl _ _, HM.out, HL.out⟩
  case round =>
    obtain ⟨k, M1, W0, hk, rfl, hJ, hsz, hh, hM1, hrd⟩ := hrel
    have HJ := Lib.hid hJ
    have Hh := Lib.hid hh
    have HM1 := Lib.hid hM1
    have Hrd := Lib.hid hrd
    clear hJ hh hM1 hrd
    by_cases hlt : k < nn
    · have hkl : k < L.length := by rw [← Hn.out]; exact hlt
      obtain ⟨b, off, rfl, hc⟩ := cells_at (Below.refl _ wr) Hrd.out (by intro e; subst e; simp at hkl)
      have c1 := hc k hkl
      have htk : L.take (k + 1) = L.take k ++ [L[k]] := List.take_succ_eq_append_getElem hkl
      have hlen : (L.take k).length < L.length := by rw [List.length_take]; omega
      obtain ⟨x, hx⟩ : ∃ x, x = L[k] := ⟨_, rfl⟩
      rw [← hx] at c1 htk
      have Htk := Lib.hid htk
      obtain ⟨fn, tmps, assign, body, hy, hR⟩ := HY.out M1 (L.take k) x W0 wr HJ.out hsz Hh.out hlen
      unfold encT at hy
      clear hc hx htk hlen
      gi_wp2
      refine ⟨Bool.noConfusion, hR.mono ?_⟩
      rintro e W3 (⟨rfl, M', hJ3, hsub, hk3⟩ | ⟨rfl, M', hJx3, hsub, hk3⟩)
      · have Hrd3 := Lib.hid (Hrd.out.hold hk3 fun k hk => ⟨fun h => by have := HM1.out k h; have := Hkl.out k hk; omega, .inr hk⟩)
        gi_wp2
        go_roundw
        case rel =>
          refine ⟨k + 1, M', W3, by omega, by go_num, by rw [Htk.out]; exact hJ3, by have := hk3.size; have := Hh.out.size; omega, Hold.refl _ _, fun k h => ?_, Hrd3.out⟩
          obtain ⟨h1, h2⟩ := hsub k h
          rcases h1 with h1 | h1
          · exact ⟨(HM1.out k h1).1, h2⟩
          · exact ⟨by have := Hh.out.size; omega, h2⟩
        case measure => simp [intOf]; omega
      · gi_wp2
        refine bodyPost_ret (results_none rfl _ _ _) rfl ?_
        exact ⟨⟨_, rfl⟩, .inr ⟨M', L.take k ++ [x], W3, trivial, hJx3, by have := hk3; have := Hh.out.size; omega, Hold.refl _ _⟩⟩
    · obtain rfl : k = nn := by omega
      have hall := HJ.out
      rw [List.take_of_length_le (by rw [Hn.out]; exact Nat.le_refl _)] at hall
      have Hall := Lib.hid hall
      clear hall
      gi_wp2
      go_end0
      exact ⟨⟨_, rfl⟩, .inl ⟨M1, L, W0, rfl, Hall.out, hsz, Hh.out⟩⟩
theorem values_any (A : Option Addr) (n c : Nat) (w : World) : Calls Tryz.prog 15 #[.slice A n c] w fun e w' => e = .returned (.func (.func 27) #[] #[.pointer (some ⟨w.heap.size, 0, none⟩)]) ∧ w' = w.alloc (.cells #[.slice A n c] 22) := by
  go_enter Tryz.func15, Tryz.ntmps15
  go_wp2
  go_ret
  exact ⟨rfl, rfl⟩
theorem collectT_any (Bm : Nat) (ok : Nat → Prop) (A : Option Addr) (c : Nat) (L : List Txt) (w : World) (hBm : w.cell? ⟨Bm, 0, none⟩ = some (.slice A L.length c)) (hL0 : Rd w ok A (L.map str)) (hl : L.length ≤ 100000) :
    Calls Tryz.prog 25 #[.func (.func 27) #[] #[.pointer (some ⟨Bm, 0, none⟩)]] w fun e w' => (∃ v, e = .returned v ∧ Own1 w' (w.heap.size + 1) 9 v (L.map str)) ∧ Below w.heap.size w w' := by
  have hL := hL0.keep
  have hc := appendT_any 27 #[.pointer (some ⟨Bm, 0, none⟩)] (keepA w A) L.length (fun xs => xs = L) (fun _ => True) w (enters_of Tryz.func27 (by kernel_rfl) rfl) (by omega)
    (fun k hk => hk.1) (fun z hz => values_iter 8 Bm A c L z ((hz.cell (p := ⟨Bm, 0, none⟩) (World.block_lt_of_cell? w _ hBm)).trans hBm) (keepA w A) (fun k hk => Nat.lt_of_lt_of_le hk.1 hz.size) (hL.grow hz) hl)
  have Hc := Lib.hid hc
  clear hc
  go_enter Tryz.func25, Tryz.ntmps25
  go_wp2_with fail
  refine Hc.out.mono ?_
  rintro e w1 ⟨⟨v, xs, rfl, rfl, hown⟩, hb1⟩
  obtain ⟨A2, c2, hv, _⟩ := hown.form
  rw [List.length_map] at hv
  subst hv
  have Hown := Lib.hid hown
  clear hown
  go_wp2_with fail
  go_ret
  exact ⟨⟨_, rfl, Hown.out⟩, hb1⟩
theorem below_setCellsT {B b : Nat} {a : World} (hb : B ≤ b) : ∀ (vs : List Value) (o : Nat) (w : World), Below B a w → Below B a (w.setCells b o vs)
  | [], _, _, h => h
  | v :: vs, o, w, h => below_setCellsT hb vs (o + 1) (w.setCell ⟨b, o, none⟩ v) (h.setCell (p := ⟨b, o, none⟩) hb v)
theorem below_grow {B : Nat} {w w' : World} (h : Below B w w') (hB : B ≤ w'.heap.size) (os : Array Obj) : Below B w (Go.Sort.grow w' os) :=
  ⟨h.os, h.tape, h.output, Nat.le_trans h.size (by simp), fun k hk => (Go.Sort.heap_grow_old w' os (by omega)).trans (h.block k hk)⟩
/-- Where sorted texts lie. -/
def TextsAt (w : World) (v : Value) (L : List Txt) : Prop := ∃ A c, v = .slice A L.length c ∧ L.length ≤ c ∧ c ≤ maxLen ∧ Rd w (fun _ => True) A (L.map str)
theorem sortedT_any (Bm : Nat) (ok : Nat → Prop) (A : Option Addr) (c : Nat) (L : List Txt) (w : World) (hBm : w.cell? ⟨Bm, 0, none⟩ = some (.slice A L.length c)) (hL : Rd w ok A (L.map str)) (hl : L.length ≤ 100000) :
    Calls Tryz.prog 14 #[.func (.func 27) #[] #[.pointer (some ⟨Bm, 0, none⟩)]] w fun e w' => (∃ v, e = .returned v ∧ TextsAt w' v (sortT L)) ∧ Below w.heap.size w w' := by
  have Hc := Lib.hid (collectT_any Bm ok A c L w hBm hL hl)
  have hlen : (sortT L).length = L.length := (sortT_perm L).length_eq
  clear hL hBm
  go_enter Tryz.func14, Tryz.ntmps14
  go_wp2_with fail
  refine Hc.out.mono ?_
  rintro e w1 ⟨⟨v, rfl, hown⟩, hb1⟩
  rcases hown.2 with ⟨rfl, h0⟩ | ⟨r, cap, cur, rfl, hr1, hr2, hr3, hr4, hr5, hr6⟩
  · have hx : L = [] := List.map_eq_nil_iff.1 (List.length_eq_zero_iff.1 h0)
    subst hx
    have Hs := Lib.hid (Tryz.slices_Sort_string_none none 0 w1)
    clear hown h0
    go_wp2_with fail
    refine Hs.out.mono ?_
    rintro e w2 ⟨rfl, rfl⟩
    go_wp2_with fail
    go_ret
    exact ⟨⟨_, rfl, none, 0, by rw [hlen]; rfl, by rw [hlen]; exact Nat.le_refl _, Nat.zero_le _, by rw [List.length_eq_zero_iff.1 hlen]; exact Rd.nil⟩, hb1⟩
  · rw [List.length_map] at hr3 hr6
    have hblk : Blk w1 r 9 cur := hr2
    have hrl : r < w1.heap.size := hblk.lt
    have hcur : ∀ i (hi : i < L.length), cur[i]? = some (.string ⟨L[i].toArray⟩) := fun i hi => by
      have h1 : (cur.toList.take (L.length * 1))[i]? = (L.map str)[i]? := by rw [hr6]
      rw [List.getElem?_take, if_pos (by omega), List.getElem?_map, List.getElem?_eq_getElem hi] at h1
      simpa using h1
    have hH : Go.Sort.Holds encStr w1 r 0 L.toArray := fun j hj => by
      have hj' : j < L.length := by simpa using hj
      refine ⟨?_, by rw [Nat.zero_add]; exact hblk.frozen j⟩
      rw [Nat.zero_add, hblk.cell, hcur j hj']
      simp [encStr, hj']
    have Hs := Lib.hid (Tryz.slices_Sort_string r 0 cap L w1 hH hrl (by omega))
    have HH := Lib.hid hH
    have hcells := fun (q : Nat) => Lib.cells_after_strs (W := w1) (b := r) (off := 0) (n := L.length) (m := L.length) (q := q) (Sx := fun i => ⟨(L.getD i []).toArray⟩) (ys := sortT L) (Nat.le_refl _) hlen (fun i hi => by
      rw [Nat.zero_add, hblk.cell, hcur i hi]
      simp [hi])
    have Hcells := Lib.hid hcells
    clear hown hr6 hcur hblk hH hcells
    go_wp2_with fail
    refine Hs.out.mono ?_
    rintro e w2 ⟨rfl, q, os, hw2⟩
    have hw3 : w2 = Go.Sort.grow ((w1.drewN q).setCells r 0 ((sortT L).map encStr)) os := hw2.trans (Lib.sorted_world encStr w1 r 0 q L.toArray (sortT L) os HH.out (by rw [hlen]; simp))
    have Hw := Lib.hid hw3
    clear hw2 hw3
    go_wp2_with fail
    go_ret
    have hb2 : Below w.heap.size w w2 := by
      rw [Hw.out]
      have h3 : Below w.heap.size w ((w1.drewN q).setCells r 0 ((sortT L).map encStr)) := below_setCellsT (by omega) _ 0 _ (show Below w.heap.size w (w1.drewN q) from ⟨hb1.os, hb1.tape, hb1.output, hb1.size, hb1.block⟩)
      exact below_grow h3 h3.size os
    refine ⟨⟨_, rfl, some ⟨r, 0, none⟩, cap, by rw [hlen]; rfl, by rw [hlen]; exact hr3, hr4, ?_⟩, hb2⟩
    refine Rd.of_cells trivial fun i hi => ?_
    rw [List.length_map, hlen] at hi
    rw [Hw.out]
    have h1 := Hcells.out q i hi
    rw [Go.Sort.cell?_grow _ os _ (World.block_lt_of_cell? _ _ h1), h1, List.getElem_map]
    unfold Lib.strAfter
    rw [if_pos (by omega)]
    simp [show i < (sortT L).length by omega]
end Go.Proofs.YtgebodibamgipaaGreatDoor
