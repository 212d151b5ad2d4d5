/-
  entry.Shown.
-/
import Derived.Test.YtcpjgohclncbkaaDoorEnSort
import Derived.Test.YtcpjgohclncbkaaDoorEnTag
namespace Go.Proofs.YtcpjgohclncbkaaDoor
open Go.RowKit
set_option maxRecDepth 100000

theorem run_strs (n : Nat) (h : n ≤ 1099511627776) (u : World) : (Instr.makeSlice 40 (.int .i64 (n : Int)) (.int .i64 (n : Int))).run Tryd.prog u = .ok (.slice (some ⟨u.heap.size, 0, none⟩) n n) (u.alloc (.cells (Array.replicate n (str [])) 9)) := by
  have hr := run_make_row' (P := Tryd.prog) 40 9 (.string ⟨#[]⟩) 16 Tryd.underlying40 (by kernel_rfl) rfl .i64 .i64 n (by omega) (by omega) u
  rw [show (#[Value.string ⟨#[]⟩] : Array Value) = Array.replicate 1 (.string ⟨#[]⟩) from rfl, madeCells_rep _ 1 _ (by decide)] at hr
  exact hr
def nameAt (L : List Ent) (k : Nat) : List UInt8 := match L[k]? with
  | none => []
  | some x => if 0 < k ∧ (L[k - 1]?.map (·.data)) = some x.data then tagI x.data x.rep x.seq else x.data
/-- The names by which entries are seen. -/
def shownE (L : List Ent) : List (List UInt8) := (List.range L.length).map (nameAt L)
theorem shown_length (L : List Ent) : (shownE L).length = L.length := by unfold shownE; simp
theorem shown_get (L : List Ent) (k : Nat) (h : k < L.length) : (shownE L)[k]? = some (nameAt L k) := by unfold shownE; simp [h]
/-- What stands so far. -/
def partC (N : List (List UInt8)) (n k : Nat) : Array Value := ((N.take k ++ List.replicate (n - k) []).map str).toArray
theorem partC_zero (N : List (List UInt8)) (n : Nat) : partC N n 0 = Array.replicate n (str []) := by unfold partC; simp
theorem partC_all (N : List (List UInt8)) (n : Nat) (hN : N.length = n) : partC N n n = (N.map str).toArray := by unfold partC; simp [← hN]
theorem partC_set (N : List (List UInt8)) (n k : Nat) (hN : N.length = n) (hk : k < n) : (partC N n k).setIfInBounds k (str (N[k]'(by omega))) = partC N n (k + 1) := by
  unfold partC
  apply Array.toList_inj.1
  rw [Array.toList_setIfInBounds]
  apply List.ext_getElem?
  intro j
  rw [List.getElem?_set]
  simp only [List.map_append, List.map_take, List.map_replicate]
  by_cases e : k = j
  · subst e
    rw [if_pos rfl, if_pos (by simp; omega), List.getElem?_append_left (by simp; omega)]
    rw [List.getElem?_take, if_pos (by omega), List.getElem?_map, List.getElem?_eq_getElem (by omega)]
    rfl
  · rw [if_neg e]
    by_cases h : j < k
    · rw [List.getElem?_append_left (by simp; omega), List.getElem?_append_left (by simp; omega), List.getElem?_take, List.getElem?_take, if_pos h, if_pos (by omega)]
    · rw [List.getElem?_append_right (by simp; omega), List.getElem?_append_right (by simp; omega), List.getElem?_replicate, List.getElem?_replicate]
      simp only [List.length_take, List.length_map]
      have : (j - min k N.length < n - k) = (j - min (k + 1) N.length < n - (k + 1)) := by
        rw [eq_iff_iff]; omega
      simp only [this]
theorem partC_get (N : List (List UInt8)) (n k : Nat) (hN : N.length = n) (hk : k < n) : ∃ s, (partC N n k)[k]? = some (str s) := by
  refine ⟨[], ?_⟩
  unfold partC
  rw [List.getElem?_toArray, List.map_append, List.getElem?_append_right (by simp; omega), List.getElem?_map, List.getElem?_replicate, if_pos (by simp; omega)]
  rfl

set_option maxHeartbeats 8000000 in
theorem shown_any (ok : Nat → Prop) (v : Value) (L : List Ent) (w : World) (hL : IsL kEnt w ok v L) (hl : L.length ≤ 1000) (hd : ∀ x ∈ L, x.data.length ≤ 400) (hp : Pow w) :
    Calls Tryd.prog 23 #[v] w fun e w' => (∃ g, e = .returned (.slice (some ⟨g, 0, none⟩) L.length L.length) ∧ Blk w' g 9 ((shownE L).map str).toArray ∧ w.heap.size ≤ g) ∧ Below w.heap.size w w' := by
  have Hok := Lib.hid hL.entOk
  obtain ⟨A, c, rfl, hc1, hc2, hE⟩ := ent_at hL
  have Hel := Lib.hid hE
  have Hd := Lib.hid hd
  have Hp := Lib.hid hp
  obtain ⟨N, hN⟩ : ∃ N, N = shownE L := ⟨_, rfl⟩
  have hNl : N.length = L.length := by rw [hN]; exact shown_length L
  have HNk := Lib.hid (show ∀ k (h : k < N.length), N[k] = nameAt L k from fun k h => by
    have := shown_get L k (by omega)
    rw [← hN, List.getElem?_eq_getElem h] at this
    exact Option.some.inj this)
  rw [← hN]
  obtain ⟨n, hn⟩ : ∃ n, n = L.length := ⟨_, rfl⟩
  rw [← hn] at hc1 hl hNl ⊢
  have Hn := Lib.hid hn
  have HNl := Lib.hid hNl
  have hm : maxLen ≤ 9223372036854775807 := by decide
  have hmk := fun u => run_strs n (by omega) u
  obtain ⟨Z, hZ⟩ : ∃ Z : Array Value, Z = Array.replicate n (str []) := ⟨_, rfl⟩
  rw [← hZ] at hmk
  have HZ := Lib.hid (show Z = partC N n 0 by rw [hZ, partC_zero])
  have Hcl := Lib.hid fun (s : List UInt8) (hs : s.length ≤ 1000) (z : World) => strclone_any s hs z
  clear hE hn hL hN hNl hZ hd hp
  go_enter Tryd.func23, Tryd.ntmps23
  refine enter_abs (N := 45) rfl rfl fun a0 hsz0 hde0 hk => ?_
  have f0 : a0.tmps[0]?.getD undef = .slice A n c := hk 0
  clear hk
  repeat with_reducible refine wp_seq ?_
  refine wp_region_lit ?_
  refine wpList_next rfl hsz0 hde0 2 rfl (by decide) fun K hK => ?_
  go_simp
  refine hK _ _ fun a1 hsz1 hde1 f2 hk => ?_
  clear hK K
  replace f0 := (hk 0 (by decide)).trans f0
  replace f2 : a1.tmps[2]?.getD undef = .slice none 0 0 := f2
  clear hk hsz0 hde0
  refine wpList_nil ?_
  clear f2
  refine then_go ?_
  repeat with_reducible refine wp_seq ?_
  refine wp_region_lit ?_
  refine wpList_next rfl hsz1 hde1 6 rfl (by decide) fun K hK => ?_
  go_simp
  refine hK _ _ fun a2 hsz2 hde2 f6 hk => ?_
  clear hK K
  replace f0 := (hk 0 (by decide)).trans f0
  replace f6 : a2.tmps[6]?.getD undef = .slice A n c := f6
  clear hk hsz1 hde1
  refine wpList_next rfl hsz2 hde2 7 rfl (by decide) fun K hK => ?_
  go_simp
  refine hK _ _ fun a3 hsz3 hde3 f7 hk => ?_
  clear hK K
  replace f0 := (hk 0 (by decide)).trans f0
  replace f7 : a3.tmps[7]?.getD undef = .int .i64 (n : Int) := f7
  clear hk hsz2 hde2 f6
  refine wpList_next rfl hsz3 hde3 8 rfl (by decide) fun K hK => ?_
  go_simp
  refine hK _ _ fun a4 hsz4 hde4 f8 hk => ?_
  clear hK K
  replace f0 := (hk 0 (by decide)).trans f0
  replace f8 : a4.tmps[8]?.getD undef = .slice (some ⟨w.heap.size, 0, none⟩) n n := f8
  clear hk hsz3 hde3 f7
  refine wpList_next rfl hsz4 hde4 3 rfl (by decide) fun K hK => ?_
  go_simp
  refine hK _ _ fun a5 hsz5 hde5 f3 hk => ?_
  clear hK K
  replace f0 := (hk 0 (by decide)).trans f0
  replace f3 : a5.tmps[3]?.getD undef = .slice (some ⟨w.heap.size, 0, none⟩) n n := f3
  clear hk hsz4 hde4 f8
  refine wpList_nil ?_
  have Hb0 := Lib.hid (show Blk (w.alloc (.cells Z 9)) w.heap.size 9 (partC N n 0) by rw [← HZ.out]; exact Blk.new _ _ _)
  have Hw0 := Lib.hid (show Below w.heap.size w (w.alloc (.cells Z 9)) from (Below.refl _ _).alloc (Nat.le_refl _) _)
  obtain ⟨W, hW⟩ : ∃ W, W = w.alloc (.cells Z 9) := ⟨_, rfl⟩
  have HWs := Lib.hid (show w.heap.size < W.heap.size by rw [hW]; simp)
  rw [← hW] at Hb0 Hw0 ⊢
  clear hW hmk HZ
  refine then_go ?_
  repeat with_reducible refine wp_seq ?_
  refine wp_region_lit ?_
  refine wpList_next rfl hsz5 hde5 9 rfl (by decide) fun K hK => ?_
  go_simp
  refine hK _ _ fun a6 hsz6 hde6 f9 hk => ?_
  clear hK K
  replace f0 := (hk 0 (by decide)).trans f0
  replace f3 := (hk 3 (by decide)).trans f3
  replace f9 : a6.tmps[9]?.getD undef = .slice A n c := f9
  clear hk hsz5 hde5
  refine wpList_next rfl hsz6 hde6 10 rfl (by decide) fun K hK => ?_
  go_simp
  refine hK _ _ fun a7 hsz7 hde7 f10 hk => ?_
  clear hK K
  replace f0 := (hk 0 (by decide)).trans f0
  replace f3 := (hk 3 (by decide)).trans f3
  replace f9 := (hk 9 (by decide)).trans f9
  replace f10 : a7.tmps[10]?.getD undef = .int .i64 (n : Int) := f10
  clear hk hsz6 hde6
  refine wpList_next rfl hsz7 hde7 11 rfl (by decide) fun K hK => ?_
  go_simp
  refine hK _ _ fun a8 hsz8 hde8 f11 hk => ?_
  clear hK K
  replace f0 := (hk 0 (by decide)).trans f0
  replace f3 := (hk 3 (by decide)).trans f3
  replace f9 := (hk 9 (by decide)).trans f9
  replace f10 := (hk 10 (by decide)).trans f10
  replace f11 : a8.tmps[11]?.getD undef = .int .i64 ((0 : Nat) : Int) := f11
  clear hk hsz7 hde7
  refine wpList_nil ?_
  refine then_go ?_
  repeat with_reducible refine wp_seq ?_
  refine wp_block ?_
  refine wp_loop (fun a wr => ∃ k : Nat, k ≤ n ∧ Hid (a.tmps.size = 45) ∧ Hid (a.defers = []) ∧ a.tmps[11]?.getD undef = .int .i64 ((k : Nat) : Int) ∧ a.tmps[0]?.getD undef = .slice A n c ∧ a.tmps[3]?.getD undef = .slice (some ⟨w.heap.size, 0, none⟩) n n ∧ a.tmps[9]?.getD undef = .slice A n c ∧ a.tmps[10]?.getD undef = .int .i64 (n : Int) ∧ Hid (Blk wr w.heap.size 9 (partC N n k)) ∧ Hid (Below w.heap.size w wr)) (fun a _ => n - (intOf (a.tmps[11]?.getD undef)).toNat) ?_ ?_
  · exact ⟨0, by omega, hsz8, hde8, f11, f0, f3, f9, f10, Hb0, Hw0⟩
  clear hsz8 hde8 f0 f3 f9 f10 f11
  intro a9 wr hI
  obtain ⟨k, hk, hsz9, hde9, f11, f0, f3, f9, f10, Hblk, Hbw⟩ := hI
  have F11o := Lib.hid f11
  repeat with_reducible refine wp_seq ?_
  by_cases hlt : k < n
  · have hlt1 : decide ((k : Int) < (n : Int)) = true := decide_eq_true (by omega)
    have hkl : k < L.length := by rw [← Hn.out]; exact hlt
    obtain ⟨b, off, rfl, _, hb, hel⟩ := Hel.out (by intro e; subst e; simp at hkl)
    have hkN : k < N.length := by rw [HNl.out]; exact hlt
    have hnm := HNk.out k hkN
    have Hcr := Lib.hid (range_ext (hel k hkl).1 Hbw.out)
    have hx := Hok.out L[k] (List.getElem_mem hkl)
    have hxd := Hd.out L[k] (List.getElem_mem hkl)
    have hget : L[k]? = some L[k] := List.getElem?_eq_getElem hkl
    obtain ⟨x5, hx5⟩ : ∃ x, x = L[k] := ⟨_, rfl⟩
    rw [← hx5] at Hcr hx hxd hget
    obtain ⟨C, hC⟩ : ∃ C, C = entC x5 := ⟨_, rfl⟩
    have hCs : C.size = 15 := by rw [hC]; rfl
    have HinfL := Lib.hid (show (Tryd.prog.info? 29).map (·.size) = some C.toList.length by rw [hC]; exact ent_info)
    have Hinf := Lib.hid (show (Tryd.prog.info? 29).map (·.size) = some C.size by rw [hC]; exact ent_info)
    have Hone := Lib.hid (show C.all (·.oneCell') = true by rw [hC]; exact entC_one x5)
    have hbk : Blk (wr.alloc (.cells C 29)) wr.heap.size 29 (entC x5) := by rw [← hC]; exact Blk.new _ _ _
    rw [← hC] at Hcr
    have Hbw1 := Lib.hid (Hbw.out.alloc Hbw.out.size (.cells C 29))
    have Hblk1 := Lib.hid (Hblk.out.alloc (.cells C 29))
    obtain ⟨IX, hIX⟩ : ∃ I, I = idC x5.rep x5.seq := ⟨_, rfl⟩
    have HinfI := Lib.hid (show (Tryd.prog.info? 25).map (·.size) = some IX.toList.length by rw [hIX]; exact id_info)
    have Hat := Lib.hid (show ∀ z, Below (wr.alloc (.cells C 29)).heap.size (wr.alloc (.cells C 29)) z → z.cell? ⟨wr.heap.size, 4, none⟩ = some (str x5.data) ∧ z.rangeAt wr.heap.size 0 IX.toList from fun z hz => by
      have h1 := (hbk.grow hz).ent
      have h2 := h1.data
      rw [Nat.zero_add] at h2
      rw [hIX]; exact ⟨h2, h1.id⟩)
    have Hnm := Lib.hid hnm
    have Hget := Lib.hid hget
    have HIX := Lib.hid hIX
    have Hxs := Lib.hid hx
    have Hxd := Lib.hid hxd
    have Hset := Lib.hid (partC_set N n k HNl.out hlt)
    have Hpg := Lib.hid (partC_get N n k HNl.out hlt)
    have Hel2 := Lib.hid hel
    clear hnm hx hxd hget hC hbk hIX hel hx5
    refine wp_region_lit ?_
    refine wpList_next rfl hsz9 hde9 12 rfl (by decide) fun K hK => ?_
    go_simp
    refine hK _ _ fun a10 hsz10 hde10 f12 hk => ?_
    clear hK K
    replace f11 := (hk 11 (by decide)).trans f11
    replace f0 := (hk 0 (by decide)).trans f0
    replace f3 := (hk 3 (by decide)).trans f3
    replace f9 := (hk 9 (by decide)).trans f9
    replace f10 := (hk 10 (by decide)).trans f10
    clear hk hsz9 hde9
    replace f12 : a10.tmps[12]?.getD undef = .bool true := f12.trans (by first | rfl | simp [hlt])
    refine wpList_nil ?_
    refine then_go ?_
    repeat with_reducible refine wp_seq ?_
    refine wp_cond_true (eval_at f12) ?_
    refine wp_skip ?_
    refine then_go ?_
    clear f12
    repeat with_reducible refine wp_seq ?_
    refine wp_block ?_
    repeat with_reducible refine wp_seq ?_
    refine wp_region_lit ?_
    refine wpList_next rfl hsz10 hde10 13 rfl (by decide) fun K hK => ?_
    go_simp
    refine hK _ _ fun a11 hsz11 hde11 f13 hk => ?_
    clear hK K
    replace f11 := (hk 11 (by decide)).trans f11
    replace f0 := (hk 0 (by decide)).trans f0
    replace f3 := (hk 3 (by decide)).trans f3
    replace f9 := (hk 9 (by decide)).trans f9
    replace f10 := (hk 10 (by decide)).trans f10
    replace f13 : a11.tmps[13]?.getD undef = .int .i64 (k : Int) := f13
    clear hk hsz10 hde10
    refine wpList_next rfl hsz11 hde11 14 rfl (by decide) fun K hK => ?_
    go_simp
    refine hK _ _ fun a12 hsz12 hde12 f14 hk => ?_
    clear hK K
    replace f11 := (hk 11 (by decide)).trans f11
    replace f0 := (hk 0 (by decide)).trans f0
    replace f3 := (hk 3 (by decide)).trans f3
    replace f9 := (hk 9 (by decide)).trans f9
    replace f10 := (hk 10 (by decide)).trans f10
    replace f13 := (hk 13 (by decide)).trans f13
    replace f14 : a12.tmps[14]?.getD undef = .pointer (some ⟨b, off + k * 15, none⟩) := f14
    clear hk hsz11 hde11
    refine wpList_next rfl hsz12 hde12 15 rfl (by decide) fun K hK => ?_
    refine wp_load_mid 29 (.tmp 14) rfl b (off + k * 15) (eval_at f14) C.toList _ Hcr.out Tryd.underlying29 rfl HinfL.out ?_
    refine hK _ _ fun a13 hsz13 hde13 f15 hk => ?_
    clear hK K
    replace f11 := (hk 11 (by decide)).trans f11
    replace f0 := (hk 0 (by decide)).trans f0
    replace f3 := (hk 3 (by decide)).trans f3
    replace f9 := (hk 9 (by decide)).trans f9
    replace f10 := (hk 10 (by decide)).trans f10
    replace f13 := (hk 13 (by decide)).trans f13
    replace f15 : a13.tmps[15]?.getD undef = .agg C := f15
    clear hk hsz12 hde12 f14
    refine wpList_next rfl hsz13 hde13 5 rfl (by decide) fun K hK => ?_
    go_simp
    refine hK _ _ fun a14 hsz14 hde14 f5 hk => ?_
    clear hK K
    replace f11 := (hk 11 (by decide)).trans f11
    replace f0 := (hk 0 (by decide)).trans f0
    replace f3 := (hk 3 (by decide)).trans f3
    replace f9 := (hk 9 (by decide)).trans f9
    replace f10 := (hk 10 (by decide)).trans f10
    replace f13 := (hk 13 (by decide)).trans f13
    replace f15 := (hk 15 (by decide)).trans f15
    replace f5 : a14.tmps[5]?.getD undef = .pointer (some ⟨wr.heap.size, 0, none⟩) := f5
    clear hk hsz13 hde13
    refine wpList_next rfl hsz14 hde14 4 rfl (by decide) fun K hK => ?_
    go_simp
    refine hK _ _ fun a15 hsz15 hde15 f4 hk => ?_
    clear hK K
    replace f11 := (hk 11 (by decide)).trans f11
    replace f0 := (hk 0 (by decide)).trans f0
    replace f3 := (hk 3 (by decide)).trans f3
    replace f9 := (hk 9 (by decide)).trans f9
    replace f10 := (hk 10 (by decide)).trans f10
    replace f15 := (hk 15 (by decide)).trans f15
    replace f5 := (hk 5 (by decide)).trans f5
    replace f4 : a15.tmps[4]?.getD undef = .int .i64 (k : Int) := f4
    clear hk hsz14 hde14 f13
    refine wpList_next0 rfl rfl fun K hK => ?_
    refine wp_store_new 29 (.tmp 5) (.tmp 15) rfl zeroE C (eval_at f5) (eval_at f15) Hinf.out (by rw [hCs]; rfl) Hone.out ?_
    refine hK undef _ ?_
    clear hK K
    clear f15
    refine wpList_nil ?_
    obtain ⟨wa, hwa⟩ : ∃ wa, wa = wr.alloc (.cells C 29) := ⟨_, rfl⟩
    rw [← hwa] at Hbw1 Hblk1 Hat ⊢
    clear hwa
    refine then_go ?_
    repeat with_reducible refine wp_seq ?_
    by_cases hk0 : k = 0
    · have hNx : N[k] = x5.data := by
        rw [Hnm.out]; unfold nameAt; rw [Hget.out]; dsimp only; rw [if_neg (by omega)]
      have hgt : decide ((0 : Int) < (k : Int)) = false := decide_eq_false (by omega)
      have Hk0 := Lib.hid hk0
      clear hk0
      clear Hnm Hget
      refine wp_region_goodg (tblG [(16, .int .i64 (k : Int)), (17, .bool false), (18, .bool false), (19, undef), (20, undef), (21, undef), (22, undef), (23, undef), (24, undef), (25, undef), (26, undef), (27, undef), (28, .bool false)]) 45 (by kernel_rfl) (by kernel_rfl) (by kernel_rfl) (by kernel_rfl) hsz15.out ?_ ?_ ?_
      · intro t v7 x x' h _ _
        exact h
      · intro i7 o hi7 a x hbx hsame hpre K hK
        have hlt7 : i7 < 13 := (Array.getElem?_eq_some_iff.1 hi7).1
        rcases (show i7 = 0 ∨ i7 = 1 ∨ i7 = 2 ∨ i7 = 3 ∨ i7 = 4 ∨ i7 = 5 ∨ i7 = 6 ∨ i7 = 7 ∨ i7 = 8 ∨ i7 = 9 ∨ i7 = 10 ∨ i7 = 11 ∨ i7 = 12 by omega) with rfl | rfl | rfl | rfl | rfl | rfl | rfl | rfl | rfl | rfl | rfl | rfl | rfl
        all_goals (have ho := Option.some.inj hi7; subst ho; clear hi7 hlt7)
        · have q4 : a.tmps[4]?.getD undef = .int .i64 (k : Int) := (hsame 4 (by decide +kernel)).trans f4
          refine step_plain rfl ?_
          have hk := Lib.hid (show ∀ v7 x', v7 = .int .i64 (k : Int) → Below x.heap.size x x' → K (a.put (some 16) v7) x' from hK)
          have Hbx := Lib.hid hbx
          clear hsame hpre hK hbx
          go_simp
          exact hk.out _ _ rfl (Below.refl _ _)
        · have q16 : a.tmps[16]?.getD undef = .int .i64 (k : Int) := hpre ⟨0, .data⟩ (by simp) rfl (by decide)
          refine step_plain rfl ?_
          have hk := Lib.hid (show ∀ v7 x', v7 = .bool false → Below x.heap.size x x' → K (a.put (some 17) v7) x' from hK)
          have Hbx := Lib.hid hbx
          clear hsame hpre hK hbx
          go_simp
          have hk0 := Hk0.out
          exact hk.out _ _ (by first | rfl | (congr 1; first | omega | (rw [IntKind.wrap_i64] <;> omega) | exact decide_eq_true (by omega) | exact decide_eq_false (by omega))) (Below.refl _ _)
        · have q17 : a.tmps[17]?.getD undef = .bool false := hpre ⟨1, .data⟩ (by simp) rfl (by decide)
          refine step_plain rfl ?_
          have hk := Lib.hid (show ∀ v7 x', v7 = .bool false → Below x.heap.size x x' → K (a.put (some 18) v7) x' from hK)
          have Hbx := Lib.hid hbx
          clear hsame hpre hK hbx
          go_simp
          exact hk.out _ _ rfl (Below.refl _ _)
        · have w18 : a.tmps[18]?.getD undef = .bool false := hpre ⟨2, .guard⟩ (by simp) rfl (by decide)
          refine step_left (not_wanted (j := 2) (t := 18) (b := true) rfl rfl (.inr w18)) ?_
          have hk := Lib.hid (show ∀ v7 x', v7 = undef → Below x.heap.size x x' → K (a.put (some 19) v7) x' from hK)
          have Hbx := Lib.hid hbx
          clear hsame hpre hK hbx w18
          exact hk.out _ _ rfl (Below.refl _ _)
        · have w18 : a.tmps[18]?.getD undef = .bool false := hpre ⟨2, .guard⟩ (by simp) rfl (by decide)
          refine step_left (not_wanted (j := 2) (t := 18) (b := true) rfl rfl (.inr w18)) ?_
          have hk := Lib.hid (show ∀ v7 x', v7 = undef → Below x.heap.size x x' → K (a.put (some 20) v7) x' from hK)
          have Hbx := Lib.hid hbx
          clear hsame hpre hK hbx w18
          exact hk.out _ _ rfl (Below.refl _ _)
        · have w18 : a.tmps[18]?.getD undef = .bool false := hpre ⟨2, .guard⟩ (by simp) rfl (by decide)
          refine step_left (not_wanted (j := 2) (t := 18) (b := true) rfl rfl (.inr w18)) ?_
          have hk := Lib.hid (show ∀ v7 x', v7 = undef → Below x.heap.size x x' → K (a.put (some 21) v7) x' from hK)
          have Hbx := Lib.hid hbx
          clear hsame hpre hK hbx w18
          exact hk.out _ _ rfl (Below.refl _ _)
        · have w18 : a.tmps[18]?.getD undef = .bool false := hpre ⟨2, .guard⟩ (by simp) rfl (by decide)
          refine step_left (not_wanted (j := 2) (t := 18) (b := true) rfl rfl (.inr w18)) ?_
          have hk := Lib.hid (show ∀ v7 x', v7 = undef → Below x.heap.size x x' → K (a.put (some 22) v7) x' from hK)
          have Hbx := Lib.hid hbx
          clear hsame hpre hK hbx w18
          exact hk.out _ _ rfl (Below.refl _ _)
        · have w18 : a.tmps[18]?.getD undef = .bool false := hpre ⟨2, .guard⟩ (by simp) rfl (by decide)
          refine step_left (not_wanted (j := 2) (t := 18) (b := true) rfl rfl (.inr w18)) ?_
          have hk := Lib.hid (show ∀ v7 x', v7 = undef → Below x.heap.size x x' → K (a.put (some 23) v7) x' from hK)
          have Hbx := Lib.hid hbx
          clear hsame hpre hK hbx w18
          exact hk.out _ _ rfl (Below.refl _ _)
        · have w18 : a.tmps[18]?.getD undef = .bool false := hpre ⟨2, .guard⟩ (by simp) rfl (by decide)
          refine step_left (not_wanted (j := 2) (t := 18) (b := true) rfl rfl (.inr w18)) ?_
          have hk := Lib.hid (show ∀ v7 x', v7 = undef → Below x.heap.size x x' → K (a.put (some 24) v7) x' from hK)
          have Hbx := Lib.hid hbx
          clear hsame hpre hK hbx w18
          exact hk.out _ _ rfl (Below.refl _ _)
        · have w18 : a.tmps[18]?.getD undef = .bool false := hpre ⟨2, .guard⟩ (by simp) rfl (by decide)
          refine step_left (not_wanted (j := 2) (t := 18) (b := true) rfl rfl (.inr w18)) ?_
          have hk := Lib.hid (show ∀ v7 x', v7 = undef → Below x.heap.size x x' → K (a.put (some 25) v7) x' from hK)
          have Hbx := Lib.hid hbx
          clear hsame hpre hK hbx w18
          exact hk.out _ _ rfl (Below.refl _ _)
        · have w18 : a.tmps[18]?.getD undef = .bool false := hpre ⟨2, .guard⟩ (by simp) rfl (by decide)
          refine step_left (not_wanted (j := 2) (t := 18) (b := true) rfl rfl (.inr w18)) ?_
          have hk := Lib.hid (show ∀ v7 x', v7 = undef → Below x.heap.size x x' → K (a.put (some 26) v7) x' from hK)
          have Hbx := Lib.hid hbx
          clear hsame hpre hK hbx w18
          exact hk.out _ _ rfl (Below.refl _ _)
        · have w18 : a.tmps[18]?.getD undef = .bool false := hpre ⟨2, .guard⟩ (by simp) rfl (by decide)
          refine step_left (not_wanted (j := 2) (t := 18) (b := true) rfl rfl (.inr w18)) ?_
          have hk := Lib.hid (show ∀ v7 x', v7 = undef → Below x.heap.size x x' → K (a.put (some 27) v7) x' from hK)
          have Hbx := Lib.hid hbx
          clear hsame hpre hK hbx w18
          exact hk.out _ _ rfl (Below.refl _ _)
        · have q18 : a.tmps[18]?.getD undef = .bool false := hpre ⟨2, .data⟩ (by simp) rfl (by decide)
          have q27 : a.tmps[27]?.getD undef = undef := hpre ⟨11, .data⟩ (by simp) rfl (by decide)
          refine step_plain rfl ?_
          have hk := Lib.hid (show ∀ v7 x', v7 = .bool false → Below x.heap.size x x' → K (a.put (some 28) v7) x' from hK)
          have Hbx := Lib.hid hbx
          clear hsame hpre hK hbx
          go_simp
          exact hk.out _ _ rfl (Below.refl _ _)
      intro a16 x16 hbx hsame hG hsz16 hde16
      replace f11 := (hsame 11 (by decide +kernel)).trans f11
      replace f0 := (hsame 0 (by decide +kernel)).trans f0
      replace f3 := (hsame 3 (by decide +kernel)).trans f3
      replace f9 := (hsame 9 (by decide +kernel)).trans f9
      replace f10 := (hsame 10 (by decide +kernel)).trans f10
      replace f5 := (hsame 5 (by decide +kernel)).trans f5
      replace f4 := (hsame 4 (by decide +kernel)).trans f4
      have f28 : a16.tmps[28]?.getD undef = .bool false := hG 12 (by decide)
      have Hbx16 := Lib.hid hbx
      have hsz16h := Lib.hid hsz16
      have hde16h := Lib.hid (hde16.trans hde15.out)
      clear hsame hG hbx hsz16 hde16 hsz15 hde15
      clear hgt
      refine then_go ?_
      repeat with_reducible refine wp_seq ?_
      refine wp_cond_false (eval_at f28) ?_
      clear f28
      repeat with_reducible refine wp_seq ?_
      refine wp_region_lit ?_
      refine wpList_next rfl hsz16h hde16h 37 rfl (by decide) fun K hK => ?_
      go_simp
      refine hK _ _ fun a17 hsz17 hde17 f37 hk => ?_
      clear hK K
      replace f11 := (hk 11 (by decide)).trans f11
      replace f0 := (hk 0 (by decide)).trans f0
      replace f3 := (hk 3 (by decide)).trans f3
      replace f9 := (hk 9 (by decide)).trans f9
      replace f10 := (hk 10 (by decide)).trans f10
      replace f5 := (hk 5 (by decide)).trans f5
      replace f4 := (hk 4 (by decide)).trans f4
      replace f37 : a17.tmps[37]?.getD undef = .slice (some ⟨w.heap.size, 0, none⟩) n n := f37
      clear hk hsz16h hde16h
      refine wpList_next rfl hsz17 hde17 38 rfl (by decide) fun K hK => ?_
      go_simp
      refine hK _ _ fun a18 hsz18 hde18 f38 hk => ?_
      clear hK K
      replace f11 := (hk 11 (by decide)).trans f11
      replace f0 := (hk 0 (by decide)).trans f0
      replace f3 := (hk 3 (by decide)).trans f3
      replace f9 := (hk 9 (by decide)).trans f9
      replace f10 := (hk 10 (by decide)).trans f10
      replace f5 := (hk 5 (by decide)).trans f5
      replace f4 := (hk 4 (by decide)).trans f4
      replace f37 := (hk 37 (by decide)).trans f37
      replace f38 : a18.tmps[38]?.getD undef = .int .i64 (k : Int) := f38
      clear hk hsz17 hde17
      refine wpList_next rfl hsz18 hde18 39 rfl (by decide) fun K hK => ?_
      go_simp
      refine hK _ _ fun a19 hsz19 hde19 f39 hk => ?_
      clear hK K
      replace f11 := (hk 11 (by decide)).trans f11
      replace f0 := (hk 0 (by decide)).trans f0
      replace f3 := (hk 3 (by decide)).trans f3
      replace f9 := (hk 9 (by decide)).trans f9
      replace f10 := (hk 10 (by decide)).trans f10
      replace f5 := (hk 5 (by decide)).trans f5
      replace f4 := (hk 4 (by decide)).trans f4
      replace f37 := (hk 37 (by decide)).trans f37
      replace f38 := (hk 38 (by decide)).trans f38
      replace f39 : a19.tmps[39]?.getD undef = .pointer (some ⟨wr.heap.size, 4, none⟩) := f39
      clear hk hsz18 hde18
      refine wpList_next rfl hsz19 hde19 40 rfl (by decide) fun K hK => ?_
      have hat := (Hat.out _ Hbx16.out).1
      go_simp
      refine hK _ _ fun a20 hsz20 hde20 f40 hk => ?_
      clear hK K
      replace f11 := (hk 11 (by decide)).trans f11
      replace f0 := (hk 0 (by decide)).trans f0
      replace f3 := (hk 3 (by decide)).trans f3
      replace f9 := (hk 9 (by decide)).trans f9
      replace f10 := (hk 10 (by decide)).trans f10
      replace f5 := (hk 5 (by decide)).trans f5
      replace f4 := (hk 4 (by decide)).trans f4
      replace f37 := (hk 37 (by decide)).trans f37
      replace f38 := (hk 38 (by decide)).trans f38
      replace f40 : a20.tmps[40]?.getD undef = str x5.data := f40
      clear hk hsz19 hde19 f39
      clear hat
      refine wpList_next rfl hsz20 hde20 41 rfl (by decide) fun K hK => ?_
      go_simp
      refine (Hcl.out x5.data (by have := Hxd.out; omega) _).mono ?_
      rintro e7 w7 ⟨rfl, hb7⟩
      go_simp
      refine hK _ _ fun a21 hsz21 hde21 f41 hk => ?_
      clear hK K
      replace f11 := (hk 11 (by decide)).trans f11
      replace f0 := (hk 0 (by decide)).trans f0
      replace f3 := (hk 3 (by decide)).trans f3
      replace f9 := (hk 9 (by decide)).trans f9
      replace f10 := (hk 10 (by decide)).trans f10
      replace f5 := (hk 5 (by decide)).trans f5
      replace f4 := (hk 4 (by decide)).trans f4
      replace f37 := (hk 37 (by decide)).trans f37
      replace f38 := (hk 38 (by decide)).trans f38
      replace f41 : a21.tmps[41]?.getD undef = str x5.data := f41
      clear hk hsz20 hde20 f40
      refine wpList_next rfl hsz21 hde21 42 rfl (by decide) fun K hK => ?_
      go_simp
      refine hK _ _ fun a22 hsz22 hde22 f42 hk => ?_
      clear hK K
      replace f11 := (hk 11 (by decide)).trans f11
      replace f0 := (hk 0 (by decide)).trans f0
      replace f3 := (hk 3 (by decide)).trans f3
      replace f9 := (hk 9 (by decide)).trans f9
      replace f10 := (hk 10 (by decide)).trans f10
      replace f5 := (hk 5 (by decide)).trans f5
      replace f4 := (hk 4 (by decide)).trans f4
      replace f41 := (hk 41 (by decide)).trans f41
      replace f42 : a22.tmps[42]?.getD undef = .pointer (some ⟨w.heap.size, k, none⟩) := f42
      clear hk hsz21 hde21 f37 f38
      refine wpList_next0 rfl rfl fun K hK => ?_
      have hcs := (Hblk1.out.grow (below_call Hbx16.out hb7)).cell k
      have hfs := (Hblk1.out.grow (below_call Hbx16.out hb7)).frozen k
      obtain ⟨s7, hs7⟩ := Hpg.out
      rw [hs7] at hcs
      clear hs7
      go_simp
      refine hK undef _ ?_
      clear hK K
      clear hcs hfs
      clear f41 f42
      refine wpList_nil ?_
      rw [← hNx]
      clear hNx
      have hblk9 := (Hblk1.out.grow (below_call Hbx16.out hb7)).set_ k (str N[k])
      rw [Hset.out] at hblk9
      have Hblk9 := Lib.hid hblk9
      have Hbw9 := Lib.hid ((below_call (below_call Hbw1.out Hbx16.out) hb7).setCell (p := ⟨w.heap.size, k, none⟩) (Nat.le_refl _) (str N[k]))
      clear hblk9 hb7
      refine block_go ?_
      refine then_go ?_
      clear f4 f5
      refine wp_region_lit ?_
      refine wpList_next rfl hsz22 hde22 43 rfl (by decide) fun K hK => ?_
      go_simp
      refine hK _ _ fun a23 hsz23 hde23 f43 hk => ?_
      clear hK K
      replace f11 := (hk 11 (by decide)).trans f11
      replace f0 := (hk 0 (by decide)).trans f0
      replace f3 := (hk 3 (by decide)).trans f3
      replace f9 := (hk 9 (by decide)).trans f9
      replace f10 := (hk 10 (by decide)).trans f10
      clear hk hsz22 hde22
      replace f43 : a23.tmps[43]?.getD undef = .int .i64 ((k + 1 : Nat) : Int) := f43.trans (by first | (congr 1; done) | (congr 1; rw [IntKind.wrap_i64] <;> omega))
      refine wpList_next rfl hsz23 hde23 11 rfl (by decide) fun K hK => ?_
      go_simp
      refine hK _ _ fun a24 hsz24 hde24 f11 hk => ?_
      clear hK K
      replace f0 := (hk 0 (by decide)).trans f0
      replace f3 := (hk 3 (by decide)).trans f3
      replace f9 := (hk 9 (by decide)).trans f9
      replace f10 := (hk 10 (by decide)).trans f10
      replace f11 : a24.tmps[11]?.getD undef = .int .i64 ((k + 1 : Nat) : Int) := f11
      clear hk hsz23 hde23 f43
      refine wpList_nil ?_
      refine then_go ?_
      exact ⟨⟨k + 1, by omega, hsz24, hde24, f11, f0, f3, f9, f10, Hblk9, Hbw9⟩, by rw [f11, F11o.out]; show n - ((k + 1 : Nat) : Int).toNat < n - ((k : Nat) : Int).toNat; omega⟩
    · obtain ⟨j, rfl⟩ : ∃ j, k = j + 1 := ⟨k - 1, by omega⟩
      clear hk0
      have hgt : decide ((0 : Int) < ((j + 1 : Nat) : Int)) = true := decide_eq_true (by omega)
      have hjl : j < L.length := by omega
      have hjn : j < n := by omega
      have hix1 : (j : Int) + 1 < (n : Int) := by omega
      have hix0 : (0 : Int) ≤ (j : Int) + 1 := by omega
      have hix3 : ((j : Int) + 1).toNat = j + 1 := by omega
      have hgj : L[j]? = some L[j] := List.getElem?_eq_getElem hjl
      obtain ⟨y5, hy5⟩ : ∃ y, y = L[j] := ⟨_, rfl⟩
      have Hcj := Lib.hid (show ∀ z, Below w.heap.size w z → z.cell? ⟨b, off + j * 15 + 4, none⟩ = some (str y5.data) from fun z hz => by rw [hy5]; exact (entCells (range_ext (Hel2.out j hjl).1 hz)).data)
      rw [← hy5] at hgj
      have Hgj := Lib.hid hgj
      clear hgj hy5
      obtain ⟨eb, heb⟩ : ∃ q, q = (y5.data == x5.data) := ⟨_, rfl⟩
      have Heb := Lib.hid heb
      replace heb := heb.symm
      cases eb with
      | false =>
        have hNx : N[j + 1] = x5.data := by
          rw [Hnm.out]; unfold nameAt; rw [Hget.out]; dsimp only; rw [if_neg]
          rintro ⟨_, h2⟩
          rw [Nat.add_sub_cancel, Hgj.out] at h2
          have h3 : y5.data = x5.data := Option.some.inj h2
          rw [h3] at Heb
          have := Heb.out
          simp at this
        clear Hnm Hget
        refine wp_region_goodg (tblG [(16, .int .i64 ((j + 1 : Nat) : Int)), (17, .bool true), (18, .bool true), (19, .slice (some ⟨b, off, none⟩) n c), (20, .int .i64 ((j + 1 : Nat) : Int)), (21, .int .i64 (j : Int)), (22, .pointer (some ⟨b, off + j * 15, none⟩)), (23, .pointer (some ⟨b, off + j * 15 + 4, none⟩)), (24, str y5.data), (25, .pointer (some ⟨wr.heap.size, 4, none⟩)), (26, str x5.data), (27, .bool false), (28, .bool false)]) 45 (by kernel_rfl) (by kernel_rfl) (by kernel_rfl) (by kernel_rfl) hsz15.out ?_ ?_ ?_
        · intro t v7 x x' h _ _
          exact h
        · intro i7 o hi7 a x hbx hsame hpre K hK
          have hlt7 : i7 < 13 := (Array.getElem?_eq_some_iff.1 hi7).1
          rcases (show i7 = 0 ∨ i7 = 1 ∨ i7 = 2 ∨ i7 = 3 ∨ i7 = 4 ∨ i7 = 5 ∨ i7 = 6 ∨ i7 = 7 ∨ i7 = 8 ∨ i7 = 9 ∨ i7 = 10 ∨ i7 = 11 ∨ i7 = 12 by omega) with rfl | rfl | rfl | rfl | rfl | rfl | rfl | rfl | rfl | rfl | rfl | rfl | rfl
          all_goals (have ho := Option.some.inj hi7; subst ho; clear hi7 hlt7)
          · have q4 : a.tmps[4]?.getD undef = .int .i64 ((j + 1 : Nat) : Int) := (hsame 4 (by decide +kernel)).trans f4
            refine step_plain rfl ?_
            have hk := Lib.hid (show ∀ v7 x', v7 = .int .i64 ((j + 1 : Nat) : Int) → Below x.heap.size x x' → K (a.put (some 16) v7) x' from hK)
            have Hbx := Lib.hid hbx
            clear hsame hpre hK hbx
            go_simp
            exact hk.out _ _ rfl (Below.refl _ _)
          · have q16 : a.tmps[16]?.getD undef = .int .i64 ((j + 1 : Nat) : Int) := hpre ⟨0, .data⟩ (by simp) rfl (by decide)
            refine step_plain rfl ?_
            have hk := Lib.hid (show ∀ v7 x', v7 = .bool true → Below x.heap.size x x' → K (a.put (some 17) v7) x' from hK)
            have Hbx := Lib.hid hbx
            clear hsame hpre hK hbx
            go_simp
            exact hk.out _ _ (by first | rfl | (congr 1; first | omega | (rw [IntKind.wrap_i64] <;> omega) | exact decide_eq_true (by omega) | exact decide_eq_false (by omega))) (Below.refl _ _)
          · have q17 : a.tmps[17]?.getD undef = .bool true := hpre ⟨1, .data⟩ (by simp) rfl (by decide)
            refine step_plain rfl ?_
            have hk := Lib.hid (show ∀ v7 x', v7 = .bool true → Below x.heap.size x x' → K (a.put (some 18) v7) x' from hK)
            have Hbx := Lib.hid hbx
            clear hsame hpre hK hbx
            go_simp
            exact hk.out _ _ rfl (Below.refl _ _)
          · have q0 : a.tmps[0]?.getD undef = .slice (some ⟨b, off, none⟩) n c := (hsame 0 (by decide +kernel)).trans f0
            have w18 : a.tmps[18]?.getD undef = .bool true := hpre ⟨2, .guard⟩ (by simp) rfl (by decide)
            refine step_wanted (wanted_of (j := 2) (t := 18) (b := true) rfl rfl w18) ?_
            have hk := Lib.hid (show ∀ v7 x', v7 = .slice (some ⟨b, off, none⟩) n c → Below x.heap.size x x' → K (a.put (some 19) v7) x' from hK)
            have Hbx := Lib.hid hbx
            clear hsame hpre hK hbx w18
            go_simp
            exact hk.out _ _ rfl (Below.refl _ _)
          · have q4 : a.tmps[4]?.getD undef = .int .i64 ((j + 1 : Nat) : Int) := (hsame 4 (by decide +kernel)).trans f4
            have w18 : a.tmps[18]?.getD undef = .bool true := hpre ⟨2, .guard⟩ (by simp) rfl (by decide)
            refine step_wanted (wanted_of (j := 2) (t := 18) (b := true) rfl rfl w18) ?_
            have hk := Lib.hid (show ∀ v7 x', v7 = .int .i64 ((j + 1 : Nat) : Int) → Below x.heap.size x x' → K (a.put (some 20) v7) x' from hK)
            have Hbx := Lib.hid hbx
            clear hsame hpre hK hbx w18
            go_simp
            exact hk.out _ _ rfl (Below.refl _ _)
          · have q20 : a.tmps[20]?.getD undef = .int .i64 ((j + 1 : Nat) : Int) := hpre ⟨4, .data⟩ (by simp) rfl (by decide)
            have w18 : a.tmps[18]?.getD undef = .bool true := hpre ⟨2, .guard⟩ (by simp) rfl (by decide)
            refine step_wanted (wanted_of (j := 2) (t := 18) (b := true) rfl rfl w18) ?_
            have hk := Lib.hid (show ∀ v7 x', v7 = .int .i64 (j : Int) → Below x.heap.size x x' → K (a.put (some 21) v7) x' from hK)
            have Hbx := Lib.hid hbx
            clear hsame hpre hK hbx w18
            go_simp
            exact hk.out _ _ (by first | rfl | (congr 1; first | omega | (rw [IntKind.wrap_i64] <;> omega) | exact decide_eq_true (by omega) | exact decide_eq_false (by omega))) (Below.refl _ _)
          · have q19 : a.tmps[19]?.getD undef = .slice (some ⟨b, off, none⟩) n c := hpre ⟨3, .data⟩ (by simp) rfl (by decide)
            have q21 : a.tmps[21]?.getD undef = .int .i64 (j : Int) := hpre ⟨5, .data⟩ (by simp) rfl (by decide)
            have w18 : a.tmps[18]?.getD undef = .bool true := hpre ⟨2, .guard⟩ (by simp) rfl (by decide)
            refine step_wanted (wanted_of (j := 2) (t := 18) (b := true) rfl rfl w18) ?_
            have hk := Lib.hid (show ∀ v7 x', v7 = .pointer (some ⟨b, off + j * 15, none⟩) → Below x.heap.size x x' → K (a.put (some 22) v7) x' from hK)
            have Hbx := Lib.hid hbx
            clear hsame hpre hK hbx w18
            go_simp
            exact hk.out _ _ (by first | rfl | (congr 1; first | omega | (rw [IntKind.wrap_i64] <;> omega) | exact decide_eq_true (by omega) | exact decide_eq_false (by omega))) (Below.refl _ _)
          · have q22 : a.tmps[22]?.getD undef = .pointer (some ⟨b, off + j * 15, none⟩) := hpre ⟨6, .data⟩ (by simp) rfl (by decide)
            have w18 : a.tmps[18]?.getD undef = .bool true := hpre ⟨2, .guard⟩ (by simp) rfl (by decide)
            refine step_wanted (wanted_of (j := 2) (t := 18) (b := true) rfl rfl w18) ?_
            have hk := Lib.hid (show ∀ v7 x', v7 = .pointer (some ⟨b, off + j * 15 + 4, none⟩) → Below x.heap.size x x' → K (a.put (some 23) v7) x' from hK)
            have Hbx := Lib.hid hbx
            clear hsame hpre hK hbx w18
            go_simp
            exact hk.out _ _ rfl (Below.refl _ _)
          · have q23 : a.tmps[23]?.getD undef = .pointer (some ⟨b, off + j * 15 + 4, none⟩) := hpre ⟨7, .data⟩ (by simp) rfl (by decide)
            have w18 : a.tmps[18]?.getD undef = .bool true := hpre ⟨2, .guard⟩ (by simp) rfl (by decide)
            refine step_wanted (wanted_of (j := 2) (t := 18) (b := true) rfl rfl w18) ?_
            have hk := Lib.hid (show ∀ v7 x', v7 = str y5.data → Below x.heap.size x x' → K (a.put (some 24) v7) x' from hK)
            have Hbx := Lib.hid hbx
            clear hsame hpre hK hbx w18
            have hcj := Hcj.out x (below_call Hbw1.out Hbx.out)
            go_simp
            exact hk.out _ _ (by first | rfl | (congr 1; first | omega | (rw [IntKind.wrap_i64] <;> omega) | exact decide_eq_true (by omega) | exact decide_eq_false (by omega))) (Below.refl _ _)
          · have q5 : a.tmps[5]?.getD undef = .pointer (some ⟨wr.heap.size, 0, none⟩) := (hsame 5 (by decide +kernel)).trans f5
            have w18 : a.tmps[18]?.getD undef = .bool true := hpre ⟨2, .guard⟩ (by simp) rfl (by decide)
            refine step_wanted (wanted_of (j := 2) (t := 18) (b := true) rfl rfl w18) ?_
            have hk := Lib.hid (show ∀ v7 x', v7 = .pointer (some ⟨wr.heap.size, 4, none⟩) → Below x.heap.size x x' → K (a.put (some 25) v7) x' from hK)
            have Hbx := Lib.hid hbx
            clear hsame hpre hK hbx w18
            go_simp
            exact hk.out _ _ rfl (Below.refl _ _)
          · have q25 : a.tmps[25]?.getD undef = .pointer (some ⟨wr.heap.size, 4, none⟩) := hpre ⟨9, .data⟩ (by simp) rfl (by decide)
            have w18 : a.tmps[18]?.getD undef = .bool true := hpre ⟨2, .guard⟩ (by simp) rfl (by decide)
            refine step_wanted (wanted_of (j := 2) (t := 18) (b := true) rfl rfl w18) ?_
            have hk := Lib.hid (show ∀ v7 x', v7 = str x5.data → Below x.heap.size x x' → K (a.put (some 26) v7) x' from hK)
            have Hbx := Lib.hid hbx
            clear hsame hpre hK hbx w18
            have hat := (Hat.out x Hbx.out).1
            go_simp
            exact hk.out _ _ (by first | rfl | (congr 1; first | omega | (rw [IntKind.wrap_i64] <;> omega) | exact decide_eq_true (by omega) | exact decide_eq_false (by omega))) (Below.refl _ _)
          · have q24 : a.tmps[24]?.getD undef = str y5.data := hpre ⟨8, .data⟩ (by simp) rfl (by decide)
            have q26 : a.tmps[26]?.getD undef = str x5.data := hpre ⟨10, .data⟩ (by simp) rfl (by decide)
            have w18 : a.tmps[18]?.getD undef = .bool true := hpre ⟨2, .guard⟩ (by simp) rfl (by decide)
            refine step_wanted (wanted_of (j := 2) (t := 18) (b := true) rfl rfl w18) ?_
            have hk := Lib.hid (show ∀ v7 x', v7 = .bool false → Below x.heap.size x x' → K (a.put (some 27) v7) x' from hK)
            have Hbx := Lib.hid hbx
            clear hsame hpre hK hbx w18
            go_simp
            exact hk.out _ _ (by first | rfl | (congr 1; first | omega | (rw [IntKind.wrap_i64] <;> omega) | exact decide_eq_true (by omega) | exact decide_eq_false (by omega))) (Below.refl _ _)
          · have q18 : a.tmps[18]?.getD undef = .bool true := hpre ⟨2, .data⟩ (by simp) rfl (by decide)
            have q27 : a.tmps[27]?.getD undef = .bool false := hpre ⟨11, .data⟩ (by simp) rfl (by decide)
            refine step_plain rfl ?_
            have hk := Lib.hid (show ∀ v7 x', v7 = .bool false → Below x.heap.size x x' → K (a.put (some 28) v7) x' from hK)
            have Hbx := Lib.hid hbx
            clear hsame hpre hK hbx
            go_simp
            exact hk.out _ _ rfl (Below.refl _ _)
        intro a16 x16 hbx hsame hG hsz16 hde16
        replace f11 := (hsame 11 (by decide +kernel)).trans f11
        replace f0 := (hsame 0 (by decide +kernel)).trans f0
        replace f3 := (hsame 3 (by decide +kernel)).trans f3
        replace f9 := (hsame 9 (by decide +kernel)).trans f9
        replace f10 := (hsame 10 (by decide +kernel)).trans f10
        replace f5 := (hsame 5 (by decide +kernel)).trans f5
        replace f4 := (hsame 4 (by decide +kernel)).trans f4
        have f28 : a16.tmps[28]?.getD undef = .bool false := hG 12 (by decide)
        have Hbx16 := Lib.hid hbx
        have hsz16h := Lib.hid hsz16
        have hde16h := Lib.hid (hde16.trans hde15.out)
        clear hsame hG hbx hsz16 hde16 hsz15 hde15
        clear hgt
        refine then_go ?_
        repeat with_reducible refine wp_seq ?_
        refine wp_cond_false (eval_at f28) ?_
        clear f28
        repeat with_reducible refine wp_seq ?_
        refine wp_region_lit ?_
        refine wpList_next rfl hsz16h hde16h 37 rfl (by decide) fun K hK => ?_
        go_simp
        refine hK _ _ fun a17 hsz17 hde17 f37 hk => ?_
        clear hK K
        replace f11 := (hk 11 (by decide)).trans f11
        replace f0 := (hk 0 (by decide)).trans f0
        replace f3 := (hk 3 (by decide)).trans f3
        replace f9 := (hk 9 (by decide)).trans f9
        replace f10 := (hk 10 (by decide)).trans f10
        replace f5 := (hk 5 (by decide)).trans f5
        replace f4 := (hk 4 (by decide)).trans f4
        replace f37 : a17.tmps[37]?.getD undef = .slice (some ⟨w.heap.size, 0, none⟩) n n := f37
        clear hk hsz16h hde16h
        refine wpList_next rfl hsz17 hde17 38 rfl (by decide) fun K hK => ?_
        go_simp
        refine hK _ _ fun a18 hsz18 hde18 f38 hk => ?_
        clear hK K
        replace f11 := (hk 11 (by decide)).trans f11
        replace f0 := (hk 0 (by decide)).trans f0
        replace f3 := (hk 3 (by decide)).trans f3
        replace f9 := (hk 9 (by decide)).trans f9
        replace f10 := (hk 10 (by decide)).trans f10
        replace f5 := (hk 5 (by decide)).trans f5
        replace f4 := (hk 4 (by decide)).trans f4
        replace f37 := (hk 37 (by decide)).trans f37
        replace f38 : a18.tmps[38]?.getD undef = .int .i64 ((j + 1) : Int) := f38
        clear hk hsz17 hde17
        refine wpList_next rfl hsz18 hde18 39 rfl (by decide) fun K hK => ?_
        go_simp
        refine hK _ _ fun a19 hsz19 hde19 f39 hk => ?_
        clear hK K
        replace f11 := (hk 11 (by decide)).trans f11
        replace f0 := (hk 0 (by decide)).trans f0
        replace f3 := (hk 3 (by decide)).trans f3
        replace f9 := (hk 9 (by decide)).trans f9
        replace f10 := (hk 10 (by decide)).trans f10
        replace f5 := (hk 5 (by decide)).trans f5
        replace f4 := (hk 4 (by decide)).trans f4
        replace f37 := (hk 37 (by decide)).trans f37
        replace f38 := (hk 38 (by decide)).trans f38
        replace f39 : a19.tmps[39]?.getD undef = .pointer (some ⟨wr.heap.size, 4, none⟩) := f39
        clear hk hsz18 hde18
        refine wpList_next rfl hsz19 hde19 40 rfl (by decide) fun K hK => ?_
        have hat := (Hat.out _ Hbx16.out).1
        go_simp
        refine hK _ _ fun a20 hsz20 hde20 f40 hk => ?_
        clear hK K
        replace f11 := (hk 11 (by decide)).trans f11
        replace f0 := (hk 0 (by decide)).trans f0
        replace f3 := (hk 3 (by decide)).trans f3
        replace f9 := (hk 9 (by decide)).trans f9
        replace f10 := (hk 10 (by decide)).trans f10
        replace f5 := (hk 5 (by decide)).trans f5
        replace f4 := (hk 4 (by decide)).trans f4
        replace f37 := (hk 37 (by decide)).trans f37
        replace f38 := (hk 38 (by decide)).trans f38
        replace f40 : a20.tmps[40]?.getD undef = str x5.data := f40
        clear hk hsz19 hde19 f39
        clear hat
        refine wpList_next rfl hsz20 hde20 41 rfl (by decide) fun K hK => ?_
        go_simp
        refine (Hcl.out x5.data (by have := Hxd.out; omega) _).mono ?_
        rintro e7 w7 ⟨rfl, hb7⟩
        go_simp
        refine hK _ _ fun a21 hsz21 hde21 f41 hk => ?_
        clear hK K
        replace f11 := (hk 11 (by decide)).trans f11
        replace f0 := (hk 0 (by decide)).trans f0
        replace f3 := (hk 3 (by decide)).trans f3
        replace f9 := (hk 9 (by decide)).trans f9
        replace f10 := (hk 10 (by decide)).trans f10
        replace f5 := (hk 5 (by decide)).trans f5
        replace f4 := (hk 4 (by decide)).trans f4
        replace f37 := (hk 37 (by decide)).trans f37
        replace f38 := (hk 38 (by decide)).trans f38
        replace f41 : a21.tmps[41]?.getD undef = str x5.data := f41
        clear hk hsz20 hde20 f40
        refine wpList_next rfl hsz21 hde21 42 rfl (by decide) fun K hK => ?_
        go_simp
        refine hK _ _ fun a22 hsz22 hde22 f42 hk => ?_
        clear hK K
        replace f11 := (hk 11 (by decide)).trans f11
        replace f0 := (hk 0 (by decide)).trans f0
        replace f3 := (hk 3 (by decide)).trans f3
        replace f9 := (hk 9 (by decide)).trans f9
        replace f10 := (hk 10 (by decide)).trans f10
        replace f5 := (hk 5 (by decide)).trans f5
        replace f4 := (hk 4 (by decide)).trans f4
        replace f41 := (hk 41 (by decide)).trans f41
        replace f42 : a22.tmps[42]?.getD undef = .pointer (some ⟨w.heap.size, (j + 1), none⟩) := f42
        clear hk hsz21 hde21 f37 f38
        refine wpList_next0 rfl rfl fun K hK => ?_
        have hcs := (Hblk1.out.grow (below_call Hbx16.out hb7)).cell (j + 1)
        have hfs := (Hblk1.out.grow (below_call Hbx16.out hb7)).frozen (j + 1)
        obtain ⟨s7, hs7⟩ := Hpg.out
        rw [hs7] at hcs
        clear hs7
        go_simp
        refine hK undef _ ?_
        clear hK K
        clear hcs hfs
        clear f41 f42
        refine wpList_nil ?_
        rw [← hNx]
        clear hNx
        have hblk9 := (Hblk1.out.grow (below_call Hbx16.out hb7)).set_ (j + 1) (str N[(j + 1)])
        rw [Hset.out] at hblk9
        have Hblk9 := Lib.hid hblk9
        have Hbw9 := Lib.hid ((below_call (below_call Hbw1.out Hbx16.out) hb7).setCell (p := ⟨w.heap.size, (j + 1), none⟩) (Nat.le_refl _) (str N[(j + 1)]))
        clear hblk9 hb7
        refine block_go ?_
        refine then_go ?_
        clear f4 f5
        refine wp_region_lit ?_
        refine wpList_next rfl hsz22 hde22 43 rfl (by decide) fun K hK => ?_
        go_simp
        refine hK _ _ fun a23 hsz23 hde23 f43 hk => ?_
        clear hK K
        replace f11 := (hk 11 (by decide)).trans f11
        replace f0 := (hk 0 (by decide)).trans f0
        replace f3 := (hk 3 (by decide)).trans f3
        replace f9 := (hk 9 (by decide)).trans f9
        replace f10 := (hk 10 (by decide)).trans f10
        clear hk hsz22 hde22
        replace f43 : a23.tmps[43]?.getD undef = .int .i64 (((j + 1) + 1 : Nat) : Int) := f43.trans (by first | (congr 1; done) | (congr 1; rw [IntKind.wrap_i64] <;> omega))
        refine wpList_next rfl hsz23 hde23 11 rfl (by decide) fun K hK => ?_
        go_simp
        refine hK _ _ fun a24 hsz24 hde24 f11 hk => ?_
        clear hK K
        replace f0 := (hk 0 (by decide)).trans f0
        replace f3 := (hk 3 (by decide)).trans f3
        replace f9 := (hk 9 (by decide)).trans f9
        replace f10 := (hk 10 (by decide)).trans f10
        replace f11 : a24.tmps[11]?.getD undef = .int .i64 (((j + 1) + 1 : Nat) : Int) := f11
        clear hk hsz23 hde23 f43
        refine wpList_nil ?_
        refine then_go ?_
        exact ⟨⟨(j + 1) + 1, by omega, hsz24, hde24, f11, f0, f3, f9, f10, Hblk9, Hbw9⟩, by rw [f11, F11o.out]; show n - (((j + 1) + 1 : Nat) : Int).toNat < n - (((j + 1) : Nat) : Int).toNat; omega⟩
      | true =>
        have hNx : N[j + 1] = tagI x5.data x5.rep x5.seq := by
          rw [Hnm.out]; unfold nameAt; rw [Hget.out]; dsimp only; rw [if_pos]
          refine ⟨by omega, ?_⟩
          rw [Nat.add_sub_cancel, Hgj.out]
          have := Heb.out
          have h3 : y5.data = x5.data := by simpa using this.symm
          show some y5.data = _
          rw [h3]
        have htg := fun (z : World) (hz : Pow z) => tag_any x5.data x5.rep x5.seq Hxs.out.rep Hxs.out.seq Hxd.out z hz
        rw [← hNx] at htg
        simp only [idv_idC, ← HIX.out] at htg
        have Htag := Lib.hid htg
        clear htg hNx
        clear Hnm Hget
        refine wp_region_goodg (tblG [(16, .int .i64 ((j + 1 : Nat) : Int)), (17, .bool true), (18, .bool true), (19, .slice (some ⟨b, off, none⟩) n c), (20, .int .i64 ((j + 1 : Nat) : Int)), (21, .int .i64 (j : Int)), (22, .pointer (some ⟨b, off + j * 15, none⟩)), (23, .pointer (some ⟨b, off + j * 15 + 4, none⟩)), (24, str y5.data), (25, .pointer (some ⟨wr.heap.size, 4, none⟩)), (26, str x5.data), (27, .bool true), (28, .bool true)]) 45 (by kernel_rfl) (by kernel_rfl) (by kernel_rfl) (by kernel_rfl) hsz15.out ?_ ?_ ?_
        · intro t v7 x x' h _ _
          exact h
        · intro i7 o hi7 a x hbx hsame hpre K hK
          have hlt7 : i7 < 13 := (Array.getElem?_eq_some_iff.1 hi7).1
          rcases (show i7 = 0 ∨ i7 = 1 ∨ i7 = 2 ∨ i7 = 3 ∨ i7 = 4 ∨ i7 = 5 ∨ i7 = 6 ∨ i7 = 7 ∨ i7 = 8 ∨ i7 = 9 ∨ i7 = 10 ∨ i7 = 11 ∨ i7 = 12 by omega) with rfl | rfl | rfl | rfl | rfl | rfl | rfl | rfl | rfl | rfl | rfl | rfl | rfl
          all_goals (have ho := Option.some.inj hi7; subst ho; clear hi7 hlt7)
          · have q4 : a.tmps[4]?.getD undef = .int .i64 ((j + 1 : Nat) : Int) := (hsame 4 (by decide +kernel)).trans f4
            refine step_plain rfl ?_
            have hk := Lib.hid (show ∀ v7 x', v7 = .int .i64 ((j + 1 : Nat) : Int) → Below x.heap.size x x' → K (a.put (some 16) v7) x' from hK)
            have Hbx := Lib.hid hbx
            clear hsame hpre hK hbx
            go_simp
            exact hk.out _ _ rfl (Below.refl _ _)
          · have q16 : a.tmps[16]?.getD undef = .int .i64 ((j + 1 : Nat) : Int) := hpre ⟨0, .data⟩ (by simp) rfl (by decide)
            refine step_plain rfl ?_
            have hk := Lib.hid (show ∀ v7 x', v7 = .bool true → Below x.heap.size x x' → K (a.put (some 17) v7) x' from hK)
            have Hbx := Lib.hid hbx
            clear hsame hpre hK hbx
            go_simp
            exact hk.out _ _ (by first | rfl | (congr 1; first | omega | (rw [IntKind.wrap_i64] <;> omega) | exact decide_eq_true (by omega) | exact decide_eq_false (by omega))) (Below.refl _ _)
          · have q17 : a.tmps[17]?.getD undef = .bool true := hpre ⟨1, .data⟩ (by simp) rfl (by decide)
            refine step_plain rfl ?_
            have hk := Lib.hid (show ∀ v7 x', v7 = .bool true → Below x.heap.size x x' → K (a.put (some 18) v7) x' from hK)
            have Hbx := Lib.hid hbx
            clear hsame hpre hK hbx
            go_simp
            exact hk.out _ _ rfl (Below.refl _ _)
          · have q0 : a.tmps[0]?.getD undef = .slice (some ⟨b, off, none⟩) n c := (hsame 0 (by decide +kernel)).trans f0
            have w18 : a.tmps[18]?.getD undef = .bool true := hpre ⟨2, .guard⟩ (by simp) rfl (by decide)
            refine step_wanted (wanted_of (j := 2) (t := 18) (b := true) rfl rfl w18) ?_
            have hk := Lib.hid (show ∀ v7 x', v7 = .slice (some ⟨b, off, none⟩) n c → Below x.heap.size x x' → K (a.put (some 19) v7) x' from hK)
            have Hbx := Lib.hid hbx
            clear hsame hpre hK hbx w18
            go_simp
            exact hk.out _ _ rfl (Below.refl _ _)
          · have q4 : a.tmps[4]?.getD undef = .int .i64 ((j + 1 : Nat) : Int) := (hsame 4 (by decide +kernel)).trans f4
            have w18 : a.tmps[18]?.getD undef = .bool true := hpre ⟨2, .guard⟩ (by simp) rfl (by decide)
            refine step_wanted (wanted_of (j := 2) (t := 18) (b := true) rfl rfl w18) ?_
            have hk := Lib.hid (show ∀ v7 x', v7 = .int .i64 ((j + 1 : Nat) : Int) → Below x.heap.size x x' → K (a.put (some 20) v7) x' from hK)
            have Hbx := Lib.hid hbx
            clear hsame hpre hK hbx w18
            go_simp
            exact hk.out _ _ rfl (Below.refl _ _)
          · have q20 : a.tmps[20]?.getD undef = .int .i64 ((j + 1 : Nat) : Int) := hpre ⟨4, .data⟩ (by simp) rfl (by decide)
            have w18 : a.tmps[18]?.getD undef = .bool true := hpre ⟨2, .guard⟩ (by simp) rfl (by decide)
            refine step_wanted (wanted_of (j := 2) (t := 18) (b := true) rfl rfl w18) ?_
            have hk := Lib.hid (show ∀ v7 x', v7 = .int .i64 (j : Int) → Below x.heap.size x x' → K (a.put (some 21) v7) x' from hK)
            have Hbx := Lib.hid hbx
            clear hsame hpre hK hbx w18
            go_simp
            exact hk.out _ _ (by first | rfl | (congr 1; first | omega | (rw [IntKind.wrap_i64] <;> omega) | exact decide_eq_true (by omega) | exact decide_eq_false (by omega))) (Below.refl _ _)
          · have q19 : a.tmps[19]?.getD undef = .slice (some ⟨b, off, none⟩) n c := hpre ⟨3, .data⟩ (by simp) rfl (by decide)
            have q21 : a.tmps[21]?.getD undef = .int .i64 (j : Int) := hpre ⟨5, .data⟩ (by simp) rfl (by decide)
            have w18 : a.tmps[18]?.getD undef = .bool true := hpre ⟨2, .guard⟩ (by simp) rfl (by decide)
            refine step_wanted (wanted_of (j := 2) (t := 18) (b := true) rfl rfl w18) ?_
            have hk := Lib.hid (show ∀ v7 x', v7 = .pointer (some ⟨b, off + j * 15, none⟩) → Below x.heap.size x x' → K (a.put (some 22) v7) x' from hK)
            have Hbx := Lib.hid hbx
            clear hsame hpre hK hbx w18
            go_simp
            exact hk.out _ _ (by first | rfl | (congr 1; first | omega | (rw [IntKind.wrap_i64] <;> omega) | exact decide_eq_true (by omega) | exact decide_eq_false (by omega))) (Below.refl _ _)
          · have q22 : a.tmps[22]?.getD undef = .pointer (some ⟨b, off + j * 15, none⟩) := hpre ⟨6, .data⟩ (by simp) rfl (by decide)
            have w18 : a.tmps[18]?.getD undef = .bool true := hpre ⟨2, .guard⟩ (by simp) rfl (by decide)
            refine step_wanted (wanted_of (j := 2) (t := 18) (b := true) rfl rfl w18) ?_
            have hk := Lib.hid (show ∀ v7 x', v7 = .pointer (some ⟨b, off + j * 15 + 4, none⟩) → Below x.heap.size x x' → K (a.put (some 23) v7) x' from hK)
            have Hbx := Lib.hid hbx
            clear hsame hpre hK hbx w18
            go_simp
            exact hk.out _ _ rfl (Below.refl _ _)
          · have q23 : a.tmps[23]?.getD undef = .pointer (some ⟨b, off + j * 15 + 4, none⟩) := hpre ⟨7, .data⟩ (by simp) rfl (by decide)
            have w18 : a.tmps[18]?.getD undef = .bool true := hpre ⟨2, .guard⟩ (by simp) rfl (by decide)
            refine step_wanted (wanted_of (j := 2) (t := 18) (b := true) rfl rfl w18) ?_
            have hk := Lib.hid (show ∀ v7 x', v7 = str y5.data → Below x.heap.size x x' → K (a.put (some 24) v7) x' from hK)
            have Hbx := Lib.hid hbx
            clear hsame hpre hK hbx w18
            have hcj := Hcj.out x (below_call Hbw1.out Hbx.out)
            go_simp
            exact hk.out _ _ (by first | rfl | (congr 1; first | omega | (rw [IntKind.wrap_i64] <;> omega) | exact decide_eq_true (by omega) | exact decide_eq_false (by omega))) (Below.refl _ _)
          · have q5 : a.tmps[5]?.getD undef = .pointer (some ⟨wr.heap.size, 0, none⟩) := (hsame 5 (by decide +kernel)).trans f5
            have w18 : a.tmps[18]?.getD undef = .bool true := hpre ⟨2, .guard⟩ (by simp) rfl (by decide)
            refine step_wanted (wanted_of (j := 2) (t := 18) (b := true) rfl rfl w18) ?_
            have hk := Lib.hid (show ∀ v7 x', v7 = .pointer (some ⟨wr.heap.size, 4, none⟩) → Below x.heap.size x x' → K (a.put (some 25) v7) x' from hK)
            have Hbx := Lib.hid hbx
            clear hsame hpre hK hbx w18
            go_simp
            exact hk.out _ _ rfl (Below.refl _ _)
          · have q25 : a.tmps[25]?.getD undef = .pointer (some ⟨wr.heap.size, 4, none⟩) := hpre ⟨9, .data⟩ (by simp) rfl (by decide)
            have w18 : a.tmps[18]?.getD undef = .bool true := hpre ⟨2, .guard⟩ (by simp) rfl (by decide)
            refine step_wanted (wanted_of (j := 2) (t := 18) (b := true) rfl rfl w18) ?_
            have hk := Lib.hid (show ∀ v7 x', v7 = str x5.data → Below x.heap.size x x' → K (a.put (some 26) v7) x' from hK)
            have Hbx := Lib.hid hbx
            clear hsame hpre hK hbx w18
            have hat := (Hat.out x Hbx.out).1
            go_simp
            exact hk.out _ _ (by first | rfl | (congr 1; first | omega | (rw [IntKind.wrap_i64] <;> omega) | exact decide_eq_true (by omega) | exact decide_eq_false (by omega))) (Below.refl _ _)
          · have q24 : a.tmps[24]?.getD undef = str y5.data := hpre ⟨8, .data⟩ (by simp) rfl (by decide)
            have q26 : a.tmps[26]?.getD undef = str x5.data := hpre ⟨10, .data⟩ (by simp) rfl (by decide)
            have w18 : a.tmps[18]?.getD undef = .bool true := hpre ⟨2, .guard⟩ (by simp) rfl (by decide)
            refine step_wanted (wanted_of (j := 2) (t := 18) (b := true) rfl rfl w18) ?_
            have hk := Lib.hid (show ∀ v7 x', v7 = .bool true → Below x.heap.size x x' → K (a.put (some 27) v7) x' from hK)
            have Hbx := Lib.hid hbx
            clear hsame hpre hK hbx w18
            go_simp
            exact hk.out _ _ (by first | rfl | (congr 1; first | omega | (rw [IntKind.wrap_i64] <;> omega) | exact decide_eq_true (by omega) | exact decide_eq_false (by omega))) (Below.refl _ _)
          · have q18 : a.tmps[18]?.getD undef = .bool true := hpre ⟨2, .data⟩ (by simp) rfl (by decide)
            have q27 : a.tmps[27]?.getD undef = .bool true := hpre ⟨11, .data⟩ (by simp) rfl (by decide)
            refine step_plain rfl ?_
            have hk := Lib.hid (show ∀ v7 x', v7 = .bool true → Below x.heap.size x x' → K (a.put (some 28) v7) x' from hK)
            have Hbx := Lib.hid hbx
            clear hsame hpre hK hbx
            go_simp
            exact hk.out _ _ rfl (Below.refl _ _)
        intro a16 x16 hbx hsame hG hsz16 hde16
        replace f11 := (hsame 11 (by decide +kernel)).trans f11
        replace f0 := (hsame 0 (by decide +kernel)).trans f0
        replace f3 := (hsame 3 (by decide +kernel)).trans f3
        replace f9 := (hsame 9 (by decide +kernel)).trans f9
        replace f10 := (hsame 10 (by decide +kernel)).trans f10
        replace f5 := (hsame 5 (by decide +kernel)).trans f5
        replace f4 := (hsame 4 (by decide +kernel)).trans f4
        have f28 : a16.tmps[28]?.getD undef = .bool true := hG 12 (by decide)
        have Hbx16 := Lib.hid hbx
        have hsz16h := Lib.hid hsz16
        have hde16h := Lib.hid (hde16.trans hde15.out)
        clear hsame hG hbx hsz16 hde16 hsz15 hde15
        clear hgt
        refine then_go ?_
        repeat with_reducible refine wp_seq ?_
        refine wp_cond_true (eval_at f28) ?_
        clear f28
        repeat with_reducible refine wp_seq ?_
        refine wp_region_lit ?_
        refine wpList_next rfl hsz16h hde16h 29 rfl (by decide) fun K hK => ?_
        go_simp
        refine hK _ _ fun a17 hsz17 hde17 f29 hk => ?_
        clear hK K
        replace f11 := (hk 11 (by decide)).trans f11
        replace f0 := (hk 0 (by decide)).trans f0
        replace f3 := (hk 3 (by decide)).trans f3
        replace f9 := (hk 9 (by decide)).trans f9
        replace f10 := (hk 10 (by decide)).trans f10
        replace f5 := (hk 5 (by decide)).trans f5
        replace f4 := (hk 4 (by decide)).trans f4
        replace f29 : a17.tmps[29]?.getD undef = .slice (some ⟨w.heap.size, 0, none⟩) n n := f29
        clear hk hsz16h hde16h
        refine wpList_next rfl hsz17 hde17 30 rfl (by decide) fun K hK => ?_
        go_simp
        refine hK _ _ fun a18 hsz18 hde18 f30 hk => ?_
        clear hK K
        replace f11 := (hk 11 (by decide)).trans f11
        replace f0 := (hk 0 (by decide)).trans f0
        replace f3 := (hk 3 (by decide)).trans f3
        replace f9 := (hk 9 (by decide)).trans f9
        replace f10 := (hk 10 (by decide)).trans f10
        replace f5 := (hk 5 (by decide)).trans f5
        replace f4 := (hk 4 (by decide)).trans f4
        replace f29 := (hk 29 (by decide)).trans f29
        replace f30 : a18.tmps[30]?.getD undef = .int .i64 ((j + 1) : Int) := f30
        clear hk hsz17 hde17
        refine wpList_next rfl hsz18 hde18 31 rfl (by decide) fun K hK => ?_
        go_simp
        refine hK _ _ fun a19 hsz19 hde19 f31 hk => ?_
        clear hK K
        replace f11 := (hk 11 (by decide)).trans f11
        replace f0 := (hk 0 (by decide)).trans f0
        replace f3 := (hk 3 (by decide)).trans f3
        replace f9 := (hk 9 (by decide)).trans f9
        replace f10 := (hk 10 (by decide)).trans f10
        replace f5 := (hk 5 (by decide)).trans f5
        replace f4 := (hk 4 (by decide)).trans f4
        replace f29 := (hk 29 (by decide)).trans f29
        replace f30 := (hk 30 (by decide)).trans f30
        replace f31 : a19.tmps[31]?.getD undef = .pointer (some ⟨wr.heap.size, 4, none⟩) := f31
        clear hk hsz18 hde18
        refine wpList_next rfl hsz19 hde19 32 rfl (by decide) fun K hK => ?_
        have hat := (Hat.out _ Hbx16.out).1
        go_simp
        refine hK _ _ fun a20 hsz20 hde20 f32 hk => ?_
        clear hK K
        replace f11 := (hk 11 (by decide)).trans f11
        replace f0 := (hk 0 (by decide)).trans f0
        replace f3 := (hk 3 (by decide)).trans f3
        replace f9 := (hk 9 (by decide)).trans f9
        replace f10 := (hk 10 (by decide)).trans f10
        replace f5 := (hk 5 (by decide)).trans f5
        replace f4 := (hk 4 (by decide)).trans f4
        replace f29 := (hk 29 (by decide)).trans f29
        replace f30 := (hk 30 (by decide)).trans f30
        replace f32 : a20.tmps[32]?.getD undef = str x5.data := f32
        clear hk hsz19 hde19 f31
        clear hat
        refine wpList_next rfl hsz20 hde20 33 rfl (by decide) fun K hK => ?_
        go_simp
        refine hK _ _ fun a21 hsz21 hde21 f33 hk => ?_
        clear hK K
        replace f11 := (hk 11 (by decide)).trans f11
        replace f0 := (hk 0 (by decide)).trans f0
        replace f3 := (hk 3 (by decide)).trans f3
        replace f9 := (hk 9 (by decide)).trans f9
        replace f10 := (hk 10 (by decide)).trans f10
        replace f5 := (hk 5 (by decide)).trans f5
        replace f4 := (hk 4 (by decide)).trans f4
        replace f29 := (hk 29 (by decide)).trans f29
        replace f30 := (hk 30 (by decide)).trans f30
        replace f32 := (hk 32 (by decide)).trans f32
        replace f33 : a21.tmps[33]?.getD undef = .pointer (some ⟨wr.heap.size, 0, none⟩) := f33
        clear hk hsz20 hde20
        refine wpList_next rfl hsz21 hde21 34 rfl (by decide) fun K hK => ?_
        refine wp_load_mid 25 (.tmp 33) rfl wr.heap.size 0 (eval_at f33) IX.toList _ (Hat.out _ Hbx16.out).2 Tryd.underlying25 rfl HinfI.out ?_
        refine hK _ _ fun a22 hsz22 hde22 f34 hk => ?_
        clear hK K
        replace f11 := (hk 11 (by decide)).trans f11
        replace f0 := (hk 0 (by decide)).trans f0
        replace f3 := (hk 3 (by decide)).trans f3
        replace f9 := (hk 9 (by decide)).trans f9
        replace f10 := (hk 10 (by decide)).trans f10
        replace f5 := (hk 5 (by decide)).trans f5
        replace f4 := (hk 4 (by decide)).trans f4
        replace f29 := (hk 29 (by decide)).trans f29
        replace f30 := (hk 30 (by decide)).trans f30
        replace f32 := (hk 32 (by decide)).trans f32
        replace f34 : a22.tmps[34]?.getD undef = .agg IX := f34
        clear hk hsz21 hde21 f33
        refine wpList_next rfl hsz22 hde22 35 rfl (by decide) fun K hK => ?_
        go_simp
        with_reducible refine (Htag.out _ (Hp.out.grow (below_call Hbw1.out Hbx16.out))).mono ?_
        rintro e7 w7 ⟨rfl, hb7⟩
        go_simp
        refine hK _ _ fun a23 hsz23 hde23 f35 hk => ?_
        clear hK K
        replace f11 := (hk 11 (by decide)).trans f11
        replace f0 := (hk 0 (by decide)).trans f0
        replace f3 := (hk 3 (by decide)).trans f3
        replace f9 := (hk 9 (by decide)).trans f9
        replace f10 := (hk 10 (by decide)).trans f10
        replace f5 := (hk 5 (by decide)).trans f5
        replace f4 := (hk 4 (by decide)).trans f4
        replace f29 := (hk 29 (by decide)).trans f29
        replace f30 := (hk 30 (by decide)).trans f30
        replace f35 : a23.tmps[35]?.getD undef = str N[(j + 1)] := f35
        clear hk hsz22 hde22 f32 f34
        refine wpList_next rfl hsz23 hde23 36 rfl (by decide) fun K hK => ?_
        go_simp
        refine hK _ _ fun a24 hsz24 hde24 f36 hk => ?_
        clear hK K
        replace f11 := (hk 11 (by decide)).trans f11
        replace f0 := (hk 0 (by decide)).trans f0
        replace f3 := (hk 3 (by decide)).trans f3
        replace f9 := (hk 9 (by decide)).trans f9
        replace f10 := (hk 10 (by decide)).trans f10
        replace f5 := (hk 5 (by decide)).trans f5
        replace f4 := (hk 4 (by decide)).trans f4
        replace f35 := (hk 35 (by decide)).trans f35
        replace f36 : a24.tmps[36]?.getD undef = .pointer (some ⟨w.heap.size, (j + 1), none⟩) := f36
        clear hk hsz23 hde23 f29 f30
        refine wpList_next0 rfl rfl fun K hK => ?_
        have hcs := (Hblk1.out.grow (below_call Hbx16.out hb7)).cell (j + 1)
        have hfs := (Hblk1.out.grow (below_call Hbx16.out hb7)).frozen (j + 1)
        obtain ⟨s7, hs7⟩ := Hpg.out
        rw [hs7] at hcs
        clear hs7
        go_simp
        refine hK undef _ ?_
        clear hK K
        clear hcs hfs
        clear f35 f36
        refine wpList_nil ?_
        have hblk9 := (Hblk1.out.grow (below_call Hbx16.out hb7)).set_ (j + 1) (str N[(j + 1)])
        rw [Hset.out] at hblk9
        have Hblk9 := Lib.hid hblk9
        have Hbw9 := Lib.hid ((below_call (below_call Hbw1.out Hbx16.out) hb7).setCell (p := ⟨w.heap.size, (j + 1), none⟩) (Nat.le_refl _) (str N[(j + 1)]))
        clear hblk9 hb7
        refine block_go ?_
        refine then_go ?_
        clear f4 f5
        refine wp_region_lit ?_
        refine wpList_next rfl hsz24 hde24 43 rfl (by decide) fun K hK => ?_
        go_simp
        refine hK _ _ fun a25 hsz25 hde25 f43 hk => ?_
        clear hK K
        replace f11 := (hk 11 (by decide)).trans f11
        replace f0 := (hk 0 (by decide)).trans f0
        replace f3 := (hk 3 (by decide)).trans f3
        replace f9 := (hk 9 (by decide)).trans f9
        replace f10 := (hk 10 (by decide)).trans f10
        clear hk hsz24 hde24
        replace f43 : a25.tmps[43]?.getD undef = .int .i64 (((j + 1) + 1 : Nat) : Int) := f43.trans (by first | (congr 1; done) | (congr 1; rw [IntKind.wrap_i64] <;> omega))
        refine wpList_next rfl hsz25 hde25 11 rfl (by decide) fun K hK => ?_
        go_simp
        refine hK _ _ fun a26 hsz26 hde26 f11 hk => ?_
        clear hK K
        replace f0 := (hk 0 (by decide)).trans f0
        replace f3 := (hk 3 (by decide)).trans f3
        replace f9 := (hk 9 (by decide)).trans f9
        replace f10 := (hk 10 (by decide)).trans f10
        replace f11 : a26.tmps[11]?.getD undef = .int .i64 (((j + 1) + 1 : Nat) : Int) := f11
        clear hk hsz25 hde25 f43
        refine wpList_nil ?_
        refine then_go ?_
        exact ⟨⟨(j + 1) + 1, by omega, hsz26, hde26, f11, f0, f3, f9, f10, Hblk9, Hbw9⟩, by rw [f11, F11o.out]; show n - (((j + 1) + 1 : Nat) : Int).toNat < n - (((j + 1) : Nat) : Int).toNat; omega⟩
  · obtain rfl : k = n := by omega
    have hlt1 : decide ((k : Int) < (k : Int)) = false := decide_eq_false (by omega)
    refine wp_region_lit ?_
    refine wpList_next rfl hsz9 hde9 12 rfl (by decide) fun K hK => ?_
    go_simp
    refine hK _ _ fun a10 hsz10 hde10 f12 hk => ?_
    clear hK K
    replace f11 := (hk 11 (by decide)).trans f11
    replace f0 := (hk 0 (by decide)).trans f0
    replace f3 := (hk 3 (by decide)).trans f3
    replace f9 := (hk 9 (by decide)).trans f9
    replace f10 := (hk 10 (by decide)).trans f10
    clear hk hsz9 hde9
    replace f12 : a10.tmps[12]?.getD undef = .bool false := f12.trans (by first | rfl | simp)
    refine wpList_nil ?_
    refine then_go ?_
    repeat with_reducible refine wp_seq ?_
    refine wp_cond_false (eval_at f12) ?_
    refine wp_exit ?_
    repeat with_reducible refine then_exit ?_
    refine block_exit ?_
    refine then_go ?_
    clear f12
    repeat with_reducible refine wp_seq ?_
    refine wp_region_lit ?_
    refine wpList_next rfl hsz10 hde10 44 rfl (by decide) fun K hK => ?_
    go_simp
    refine hK _ _ fun a11 hsz11 hde11 f44 hk => ?_
    clear hK K
    replace f11 := (hk 11 (by decide)).trans f11
    replace f0 := (hk 0 (by decide)).trans f0
    replace f3 := (hk 3 (by decide)).trans f3
    replace f9 := (hk 9 (by decide)).trans f9
    replace f10 := (hk 10 (by decide)).trans f10
    replace f44 : a11.tmps[44]?.getD undef = .slice (some ⟨w.heap.size, 0, none⟩) k k := f44
    clear hk hsz10 hde10
    refine wpList_next rfl hsz11 hde11 2 rfl (by decide) fun K hK => ?_
    go_simp
    refine hK _ _ fun a12 hsz12 hde12 f2 hk => ?_
    clear hK K
    replace f11 := (hk 11 (by decide)).trans f11
    replace f0 := (hk 0 (by decide)).trans f0
    replace f3 := (hk 3 (by decide)).trans f3
    replace f9 := (hk 9 (by decide)).trans f9
    replace f10 := (hk 10 (by decide)).trans f10
    replace f2 : a12.tmps[2]?.getD undef = .slice (some ⟨w.heap.size, 0, none⟩) k k := f2
    clear hk hsz11 hde11 f44
    refine wpList_nil ?_
    refine then_go ?_
    refine wp_ret ?_
    repeat first | with_reducible refine then_ret ?_ | with_reducible refine block_ret ?_
    refine ret_tmp Tryd.results23 hde12 f2 ?_
    exact ⟨⟨_, rfl, by have := Hblk.out; rwa [partC_all N k HNl.out] at this, Nat.le_refl _⟩, Hbw.out⟩
end Go.Proofs.YtcpjgohclncbkaaDoor
