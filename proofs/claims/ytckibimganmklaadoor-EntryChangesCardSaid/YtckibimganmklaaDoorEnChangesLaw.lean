/-
  The walk of EntryChanges.
-/
import Derived.Test.YtckibimganmklaaDoorEnLives
import Derived.Test.YtckibimganmklaaDoorEnHeads
import Derived.Test.YtckibimganmklaaDoorEnRefs
import Derived.Test.YtckibimganmklaaDoorEnAdd
import Derived.Test.YtckibimganmklaaDoorEnJoins
namespace Go.Proofs.YtckibimganmklaaDoor
open Go.RowKit
set_option maxRecDepth 100000

def chG (u7 v1 v2 PB P5 : Value) (C IX IJ : Array Value) (LA LK LJ : List Ent) (s : Nat) (u : Value) (x : World) : Prop := match s with
  | 31 => u = u7 | 32 => u = .agg C | 33 => IsL kEnt x (fun _ => True) u LA | 34 => u = v1 | 35 => u = .agg C | 36 => IsL kEnt x (fun _ => True) u LA | 37 => u = .bool true | 38 => u = .bool true
  | 39 => u = u7 | 40 => u = PB | 41 => u = .agg IX | 42 => u = P5 | 43 => u = .agg IJ | 44 => IsL kEnt x (fun _ => True) u LK | 45 => u = v1 | 46 => u = PB | 47 => u = .agg IX | 48 => u = P5 | 49 => u = .agg IJ | 50 => IsL kEnt x (fun _ => True) u LK | 51 => u = .bool true | 52 => u = .bool true | 53 => u = .bool true
  | 54 => u = u7 | 55 => u = v2 | 56 => IsL kEnt x (fun _ => True) u LJ | 57 => u = v1 | 58 => u = v2 | 59 => IsL kEnt x (fun _ => True) u LJ | 60 => u = .bool true | 61 => u = .bool true | 8 => u = .bool true | _ => True

set_option maxHeartbeats 16000000 in
theorem entrychanges_walk (v1 : Value) (L : List Ent) (v2 : Value) (M : List Ent) (X : Ent) (w : World) (hL : IsL kEnt w (fun _ => True) v1 L) (hM : IsL kEnt w (fun _ => True) v2 M) (hX : EntOk X) (hp : Pow w) :
    Calls Tryd.prog 3 #[v1, v2, .agg (entC X)] w fun e w' => e = .returned (.bool true) ∧ Below w.heap.size w w' := by
  have Hl := Lib.hid fun (z : World) (hz : Pow z) => lives10_any z hz
  obtain ⟨C, hC⟩ : ∃ C, C = entC X := ⟨_, rfl⟩
  obtain ⟨wb, hwb⟩ : ∃ wb, wb = w.alloc (.cells C 29) := ⟨_, rfl⟩
  have hbox : Blk wb w.heap.size 29 (entC X) := by rw [hwb, ← hC]; exact Blk.new w _ _
  have Hbox := Lib.hid hbox
  have Hbel := Lib.hid (show Below w.heap.size w wb by rw [hwb]; exact (Below.refl _ w).alloc (Nat.le_refl _) _)
  have HL := Lib.hid (hL.grow Hbel.out)
  have HM := Lib.hid (hM.grow Hbel.out)
  have Hp := Lib.hid (hp.grow Hbel.out)
  have HX := Lib.hid hX
  have HW := Lib.hid hwb
  have HC := Lib.hid hC
  obtain ⟨IX, hIX⟩ : ∃ I, I = idC X.rep X.seq := ⟨_, rfl⟩
  obtain ⟨IJ, hIJ⟩ : ∃ I, I = idC X.orep X.oseq := ⟨_, rfl⟩
  have HIX := Lib.hid hIX
  have HIJ := Lib.hid hIJ
  have HinfX := Lib.hid (show (Tryd.prog.info? 25).map (·.size) = some IX.toList.length by rw [hIX]; exact id_info)
  have HinfO := Lib.hid (show (Tryd.prog.info? 25).map (·.size) = some IJ.toList.length by rw [hIJ]; exact id_info)
  have HinfC := Lib.hid (show (Tryd.prog.info? 29).map (·.size) = some C.toList.length by rw [hC]; exact ent_info)
  have HrX := Lib.hid (show ∀ z, Below wb.heap.size wb z → z.rangeAt w.heap.size 0 IX.toList from fun z hz => by rw [HIX.out]; exact (Hbox.out.grow hz).ent.id)
  have HrO := Lib.hid (show ∀ z, Below wb.heap.size wb z → z.rangeAt w.heap.size 5 IJ.toList from fun z hz => by rw [HIJ.out]; have h := (Hbox.out.grow hz).ent.obj; rw [Nat.zero_add] at h; exact h)
  have HrC := Lib.hid (show ∀ z, Below wb.heap.size wb z → z.rangeAt w.heap.size 0 C.toList from fun z hz => by rw [HC.out]; exact (Hbox.out.grow hz).ent.all)
  have HrD := Lib.hid (show ∀ z, Below wb.heap.size wb z → z.cell? ⟨w.heap.size, 4, none⟩ = some (str X.data) from fun z hz => by have h := (Hbox.out.grow hz).ent.data; rw [Nat.zero_add] at h; exact h)
  rw [← hC]
  obtain ⟨A1, c1, rfl⟩ : ∃ A c, v1 = .slice A L.length c := let ⟨A, c, e, _⟩ := ent_at hL; ⟨A, c, e⟩
  obtain ⟨n1, hn1⟩ : ∃ n, n = L.length := ⟨_, rfl⟩
  rw [← hn1] at HL ⊢
  have Hn1 := Lib.hid hn1
  clear hL hM hp hX hwb hbox hC hIX hIJ hn1
  go_enter Tryd.func3, Tryd.ntmps3
  refine enter_abs (N := 75) rfl rfl fun a0 hsz0 hde0 hk => ?_
  have f0 : a0.tmps[0]?.getD undef = .slice A1 n1 c1 := hk 0
  have f1 : a0.tmps[1]?.getD undef = v2 := hk 1
  have f2 : a0.tmps[2]?.getD undef = .agg C := hk 2
  clear hk
  repeat with_reducible refine wp_seq ?_
  refine wp_region_lit ?_
  refine wpList_next rfl hsz0 hde0 5 rfl (by decide) fun K hK => ?_
  go_simp
  refine hK _ _ fun a1 hsz1 hde1 f5 hk => ?_
  clear hK K
  replace f0 := (hk 0 (by decide)).trans f0
  replace f1 := (hk 1 (by decide)).trans f1
  replace f2 := (hk 2 (by decide)).trans f2
  replace f5 : a1.tmps[5]?.getD undef = .pointer (some ⟨w.heap.size, 0, none⟩) := f5
  clear hk hsz0 hde0
  refine wpList_next rfl hsz1 hde1 6 rfl (by decide) fun K hK => ?_
  go_simp
  refine hK _ _ fun a2 hsz2 hde2 f6 hk => ?_
  clear hK K
  replace f0 := (hk 0 (by decide)).trans f0
  replace f1 := (hk 1 (by decide)).trans f1
  replace f2 := (hk 2 (by decide)).trans f2
  replace f5 := (hk 5 (by decide)).trans f5
  replace f6 : a2.tmps[6]?.getD undef = .bool false := f6
  clear hk hsz1 hde1
  refine wpList_nil ?_
  clear f2 f6
  rw [← HW.out]
  refine then_go ?_
  repeat with_reducible refine wp_seq ?_
  refine wp_region_lit ?_
  refine wpList_next rfl hsz2 hde2 9 rfl (by decide) fun K hK => ?_
  go_simp
  refine (Hl.out _ Hp.out).mono ?_
  rintro e1 w1 ⟨rfl, hb1⟩
  go_simp
  refine hK _ _ fun a3 hsz3 hde3 f9 hk => ?_
  clear hK K
  replace f0 := (hk 0 (by decide)).trans f0
  replace f1 := (hk 1 (by decide)).trans f1
  replace f5 := (hk 5 (by decide)).trans f5
  replace f9 : a3.tmps[9]?.getD undef = .bool true := f9
  clear hk hsz2 hde2
  refine wpList_next rfl hsz3 hde3 10 rfl (by decide) fun K hK => ?_
  go_simp
  refine hK _ _ fun a4 hsz4 hde4 f10 hk => ?_
  clear hK K
  replace f0 := (hk 0 (by decide)).trans f0
  replace f1 := (hk 1 (by decide)).trans f1
  replace f5 := (hk 5 (by decide)).trans f5
  replace f10 : a4.tmps[10]?.getD undef = .bool false := f10
  clear hk hsz3 hde3 f9
  refine wpList_next rfl hsz4 hde4 11 rfl (by decide) fun K hK => ?_
  go_simp
  refine hK _ _ fun a5 hsz5 hde5 f11 hk => ?_
  clear hK K
  replace f0 := (hk 0 (by decide)).trans f0
  replace f1 := (hk 1 (by decide)).trans f1
  replace f5 := (hk 5 (by decide)).trans f5
  replace f11 : a5.tmps[11]?.getD undef = .bool false := f11
  clear hk hsz4 hde4 f10
  refine wpList_nextg (wanted_of (j := 2) (t := 11) (b := false) rfl rfl f11) hsz5 hde5 12 rfl (by decide) fun K hK => ?_
  go_simp
  refine hK _ _ fun a6 hsz6 hde6 f12 hk => ?_
  clear hK K
  replace f0 := (hk 0 (by decide)).trans f0
  replace f1 := (hk 1 (by decide)).trans f1
  replace f5 := (hk 5 (by decide)).trans f5
  replace f11 := (hk 11 (by decide)).trans f11
  replace f12 : a6.tmps[12]?.getD undef = .slice A1 n1 c1 := f12
  clear hk hsz5 hde5
  refine wpList_nextg (wanted_of (j := 2) (t := 11) (b := false) rfl rfl f11) hsz6 hde6 13 rfl (by decide) fun K hK => ?_
  go_simp
  refine (fits10_any _ _ _ _ (HL.out.grow hb1)).mono ?_
  rintro e2 w2 ⟨⟨q1, rfl, hq1⟩, hb2⟩
  go_simp
  refine hK _ _ fun a7 hsz7 hde7 f13 hk => ?_
  clear hK K
  replace f0 := (hk 0 (by decide)).trans f0
  replace f1 := (hk 1 (by decide)).trans f1
  replace f5 := (hk 5 (by decide)).trans f5
  replace f11 := (hk 11 (by decide)).trans f11
  replace f13 : a7.tmps[13]?.getD undef = .bool q1 := f13
  clear hk hsz6 hde6 f12
  have Hb2 := Lib.hid (below_call hb1 hb2)
  have Hq1 := Lib.hid hq1
  clear hb1 hb2 hq1
  cases q1 with
  | false =>
    refine wpList_nextg (wanted_of (j := 2) (t := 11) (b := false) rfl rfl f11) hsz7 hde7 14 rfl (by decide) fun K hK => ?_
    go_simp
    refine hK _ _ fun a8 hsz8 hde8 f14 hk => ?_
    clear hK K
    replace f0 := (hk 0 (by decide)).trans f0
    replace f1 := (hk 1 (by decide)).trans f1
    replace f5 := (hk 5 (by decide)).trans f5
    replace f11 := (hk 11 (by decide)).trans f11
    replace f14 : a8.tmps[14]?.getD undef = .bool true := f14
    clear hk hsz7 hde7 f13
    refine wpList_next rfl hsz8 hde8 15 rfl (by decide) fun K hK => ?_
    go_simp
    refine hK _ _ fun a9 hsz9 hde9 f15 hk => ?_
    clear hK K
    replace f0 := (hk 0 (by decide)).trans f0
    replace f1 := (hk 1 (by decide)).trans f1
    replace f5 := (hk 5 (by decide)).trans f5
    replace f15 : a9.tmps[15]?.getD undef = .bool true := f15
    clear hk hsz8 hde8 f11 f14
    refine wpList_next rfl hsz9 hde9 16 rfl (by decide) fun K hK => ?_
    go_simp
    refine hK _ _ fun a10 hsz10 hde10 f16 hk => ?_
    clear hK K
    replace f0 := (hk 0 (by decide)).trans f0
    replace f1 := (hk 1 (by decide)).trans f1
    replace f5 := (hk 5 (by decide)).trans f5
    replace f16 : a10.tmps[16]?.getD undef = .bool true := f16
    clear hk hsz9 hde9 f15
    refine wpList_leave (not_wanted (j := 7) (t := 16) (b := false) rfl rfl (.inr f16)) hsz10 hde10 17 rfl (by decide) fun a11 hsz11 hde11 f17 hk => ?_
    replace f0 := (hk 0 (by decide)).trans f0
    replace f1 := (hk 1 (by decide)).trans f1
    replace f5 := (hk 5 (by decide)).trans f5
    replace f16 := (hk 16 (by decide)).trans f16
    clear hk hsz10 hde10
    refine wpList_leave (not_wanted (j := 7) (t := 16) (b := false) rfl rfl (.inr f16)) hsz11 hde11 18 rfl (by decide) fun a12 hsz12 hde12 f18 hk => ?_
    replace f0 := (hk 0 (by decide)).trans f0
    replace f1 := (hk 1 (by decide)).trans f1
    replace f5 := (hk 5 (by decide)).trans f5
    replace f16 := (hk 16 (by decide)).trans f16
    clear hk hsz11 hde11 f17
    refine wpList_leave (not_wanted (j := 7) (t := 16) (b := false) rfl rfl (.inr f16)) hsz12 hde12 19 rfl (by decide) fun a13 hsz13 hde13 f19 hk => ?_
    replace f0 := (hk 0 (by decide)).trans f0
    replace f1 := (hk 1 (by decide)).trans f1
    replace f5 := (hk 5 (by decide)).trans f5
    replace f16 := (hk 16 (by decide)).trans f16
    clear hk hsz12 hde12 f18
    refine wpList_next rfl hsz13 hde13 20 rfl (by decide) fun K hK => ?_
    go_simp
    refine hK _ _ fun a14 hsz14 hde14 f20 hk => ?_
    clear hK K
    replace f0 := (hk 0 (by decide)).trans f0
    replace f1 := (hk 1 (by decide)).trans f1
    replace f5 := (hk 5 (by decide)).trans f5
    replace f20 : a14.tmps[20]?.getD undef = .bool true := f20
    clear hk hsz13 hde13 f16 f19
    refine wpList_next rfl hsz14 hde14 21 rfl (by decide) fun K hK => ?_
    go_simp
    refine hK _ _ fun a15 hsz15 hde15 f21 hk => ?_
    clear hK K
    replace f0 := (hk 0 (by decide)).trans f0
    replace f1 := (hk 1 (by decide)).trans f1
    replace f5 := (hk 5 (by decide)).trans f5
    replace f21 : a15.tmps[21]?.getD undef = .bool true := f21
    clear hk hsz14 hde14 f20
    refine wpList_leave (not_wanted (j := 12) (t := 21) (b := false) rfl rfl (.inr f21)) hsz15 hde15 22 rfl (by decide) fun a16 hsz16 hde16 f22 hk => ?_
    replace f0 := (hk 0 (by decide)).trans f0
    replace f1 := (hk 1 (by decide)).trans f1
    replace f5 := (hk 5 (by decide)).trans f5
    replace f21 := (hk 21 (by decide)).trans f21
    clear hk hsz15 hde15
    refine wpList_leave (not_wanted (j := 12) (t := 21) (b := false) rfl rfl (.inr f21)) hsz16 hde16 23 rfl (by decide) fun a17 hsz17 hde17 f23 hk => ?_
    replace f0 := (hk 0 (by decide)).trans f0
    replace f1 := (hk 1 (by decide)).trans f1
    replace f5 := (hk 5 (by decide)).trans f5
    replace f21 := (hk 21 (by decide)).trans f21
    clear hk hsz16 hde16 f22
    refine wpList_leave (not_wanted (j := 12) (t := 21) (b := false) rfl rfl (.inr f21)) hsz17 hde17 24 rfl (by decide) fun a18 hsz18 hde18 f24 hk => ?_
    replace f0 := (hk 0 (by decide)).trans f0
    replace f1 := (hk 1 (by decide)).trans f1
    replace f5 := (hk 5 (by decide)).trans f5
    replace f21 := (hk 21 (by decide)).trans f21
    clear hk hsz17 hde17 f23
    refine wpList_leave (not_wanted (j := 12) (t := 21) (b := false) rfl rfl (.inr f21)) hsz18 hde18 25 rfl (by decide) fun a19 hsz19 hde19 f25 hk => ?_
    replace f0 := (hk 0 (by decide)).trans f0
    replace f1 := (hk 1 (by decide)).trans f1
    replace f5 := (hk 5 (by decide)).trans f5
    replace f21 := (hk 21 (by decide)).trans f21
    clear hk hsz18 hde18 f24
    refine wpList_next rfl hsz19 hde19 26 rfl (by decide) fun K hK => ?_
    go_simp
    refine hK _ _ fun a20 hsz20 hde20 f26 hk => ?_
    clear hK K
    replace f0 := (hk 0 (by decide)).trans f0
    replace f1 := (hk 1 (by decide)).trans f1
    replace f5 := (hk 5 (by decide)).trans f5
    replace f26 : a20.tmps[26]?.getD undef = .bool true := f26
    clear hk hsz19 hde19 f21 f25
    refine wpList_nil ?_
    refine then_go ?_
    repeat with_reducible refine wp_seq ?_
    refine wp_cond_true (eval_at f26) ?_
    clear f26
    repeat with_reducible refine wp_seq ?_
    refine wp_region_lit ?_
    refine wpList_next rfl hsz20 hde20 27 rfl (by decide) fun K hK => ?_
    go_simp
    refine (Hl.out _ (Hp.out.grow Hb2.out)).mono ?_
    rintro e9 w9 ⟨rfl, hb9⟩
    go_simp
    refine hK _ _ fun a21 hsz21 hde21 f27 hk => ?_
    clear hK K
    replace f0 := (hk 0 (by decide)).trans f0
    replace f1 := (hk 1 (by decide)).trans f1
    replace f5 := (hk 5 (by decide)).trans f5
    replace f27 : a21.tmps[27]?.getD undef = .bool true := f27
    clear hk hsz20 hde20
    refine wpList_next rfl hsz21 hde21 6 rfl (by decide) fun K hK => ?_
    go_simp
    refine hK _ _ fun a22 hsz22 hde22 f6 hk => ?_
    clear hK K
    replace f0 := (hk 0 (by decide)).trans f0
    replace f1 := (hk 1 (by decide)).trans f1
    replace f5 := (hk 5 (by decide)).trans f5
    replace f6 : a22.tmps[6]?.getD undef = .bool true := f6
    clear hk hsz21 hde21 f27
    refine wpList_nil ?_
    refine then_go ?_
    refine wp_ret ?_
    refine (ret_tmp (R := fun e2 w2 => e2 = .returned (.bool true) ∧ Below w.heap.size w w2) Tryd.results3 hde22 f6 ?_)
    exact ⟨rfl, below_call (below_call Hbel.out Hb2.out) hb9⟩
  | true =>
    refine wpList_nextg (wanted_of (j := 2) (t := 11) (b := false) rfl rfl f11) hsz7 hde7 14 rfl (by decide) fun K hK => ?_
    go_simp
    refine hK _ _ fun a8 hsz8 hde8 f14 hk => ?_
    clear hK K
    replace f0 := (hk 0 (by decide)).trans f0
    replace f1 := (hk 1 (by decide)).trans f1
    replace f5 := (hk 5 (by decide)).trans f5
    replace f11 := (hk 11 (by decide)).trans f11
    replace f14 : a8.tmps[14]?.getD undef = .bool false := f14
    clear hk hsz7 hde7 f13
    refine wpList_next rfl hsz8 hde8 15 rfl (by decide) fun K hK => ?_
    go_simp
    refine hK _ _ fun a9 hsz9 hde9 f15 hk => ?_
    clear hK K
    replace f0 := (hk 0 (by decide)).trans f0
    replace f1 := (hk 1 (by decide)).trans f1
    replace f5 := (hk 5 (by decide)).trans f5
    replace f15 : a9.tmps[15]?.getD undef = .bool false := f15
    clear hk hsz8 hde8 f11 f14
    refine wpList_next rfl hsz9 hde9 16 rfl (by decide) fun K hK => ?_
    go_simp
    refine hK _ _ fun a10 hsz10 hde10 f16 hk => ?_
    clear hK K
    replace f0 := (hk 0 (by decide)).trans f0
    replace f1 := (hk 1 (by decide)).trans f1
    replace f5 := (hk 5 (by decide)).trans f5
    replace f16 : a10.tmps[16]?.getD undef = .bool false := f16
    clear hk hsz9 hde9 f15
    refine wpList_nextg (wanted_of (j := 7) (t := 16) (b := false) rfl rfl f16) hsz10 hde10 17 rfl (by decide) fun K hK => ?_
    go_simp
    refine hK _ _ fun a11 hsz11 hde11 f17 hk => ?_
    clear hK K
    replace f0 := (hk 0 (by decide)).trans f0
    replace f1 := (hk 1 (by decide)).trans f1
    replace f5 := (hk 5 (by decide)).trans f5
    replace f16 := (hk 16 (by decide)).trans f16
    replace f17 : a11.tmps[17]?.getD undef = v2 := f17
    clear hk hsz10 hde10
    refine wpList_nextg (wanted_of (j := 7) (t := 16) (b := false) rfl rfl f16) hsz11 hde11 18 rfl (by decide) fun K hK => ?_
    go_simp
    refine (fits10_any _ _ _ _ (HM.out.grow Hb2.out)).mono ?_
    rintro e3 w3 ⟨⟨q2, rfl, hq2⟩, hb3⟩
    go_simp
    refine hK _ _ fun a12 hsz12 hde12 f18 hk => ?_
    clear hK K
    replace f0 := (hk 0 (by decide)).trans f0
    replace f1 := (hk 1 (by decide)).trans f1
    replace f5 := (hk 5 (by decide)).trans f5
    replace f16 := (hk 16 (by decide)).trans f16
    replace f18 : a12.tmps[18]?.getD undef = .bool q2 := f18
    clear hk hsz11 hde11 f17
    have Hb3 := Lib.hid (below_call Hb2.out hb3)
    have Hq2 := Lib.hid hq2
    clear hb3 hq2
    cases q2 with
    | false =>
      refine wpList_nextg (wanted_of (j := 7) (t := 16) (b := false) rfl rfl f16) hsz12 hde12 19 rfl (by decide) fun K hK => ?_
      go_simp
      refine hK _ _ fun a13 hsz13 hde13 f19 hk => ?_
      clear hK K
      replace f0 := (hk 0 (by decide)).trans f0
      replace f1 := (hk 1 (by decide)).trans f1
      replace f5 := (hk 5 (by decide)).trans f5
      replace f16 := (hk 16 (by decide)).trans f16
      replace f19 : a13.tmps[19]?.getD undef = .bool true := f19
      clear hk hsz12 hde12 f18
      refine wpList_next rfl hsz13 hde13 20 rfl (by decide) fun K hK => ?_
      go_simp
      refine hK _ _ fun a14 hsz14 hde14 f20 hk => ?_
      clear hK K
      replace f0 := (hk 0 (by decide)).trans f0
      replace f1 := (hk 1 (by decide)).trans f1
      replace f5 := (hk 5 (by decide)).trans f5
      replace f20 : a14.tmps[20]?.getD undef = .bool true := f20
      clear hk hsz13 hde13 f16 f19
      refine wpList_next rfl hsz14 hde14 21 rfl (by decide) fun K hK => ?_
      go_simp
      refine hK _ _ fun a15 hsz15 hde15 f21 hk => ?_
      clear hK K
      replace f0 := (hk 0 (by decide)).trans f0
      replace f1 := (hk 1 (by decide)).trans f1
      replace f5 := (hk 5 (by decide)).trans f5
      replace f21 : a15.tmps[21]?.getD undef = .bool true := f21
      clear hk hsz14 hde14 f20
      refine wpList_leave (not_wanted (j := 12) (t := 21) (b := false) rfl rfl (.inr f21)) hsz15 hde15 22 rfl (by decide) fun a16 hsz16 hde16 f22 hk => ?_
      replace f0 := (hk 0 (by decide)).trans f0
      replace f1 := (hk 1 (by decide)).trans f1
      replace f5 := (hk 5 (by decide)).trans f5
      replace f21 := (hk 21 (by decide)).trans f21
      clear hk hsz15 hde15
      refine wpList_leave (not_wanted (j := 12) (t := 21) (b := false) rfl rfl (.inr f21)) hsz16 hde16 23 rfl (by decide) fun a17 hsz17 hde17 f23 hk => ?_
      replace f0 := (hk 0 (by decide)).trans f0
      replace f1 := (hk 1 (by decide)).trans f1
      replace f5 := (hk 5 (by decide)).trans f5
      replace f21 := (hk 21 (by decide)).trans f21
      clear hk hsz16 hde16 f22
      refine wpList_leave (not_wanted (j := 12) (t := 21) (b := false) rfl rfl (.inr f21)) hsz17 hde17 24 rfl (by decide) fun a18 hsz18 hde18 f24 hk => ?_
      replace f0 := (hk 0 (by decide)).trans f0
      replace f1 := (hk 1 (by decide)).trans f1
      replace f5 := (hk 5 (by decide)).trans f5
      replace f21 := (hk 21 (by decide)).trans f21
      clear hk hsz17 hde17 f23
      refine wpList_leave (not_wanted (j := 12) (t := 21) (b := false) rfl rfl (.inr f21)) hsz18 hde18 25 rfl (by decide) fun a19 hsz19 hde19 f25 hk => ?_
      replace f0 := (hk 0 (by decide)).trans f0
      replace f1 := (hk 1 (by decide)).trans f1
      replace f5 := (hk 5 (by decide)).trans f5
      replace f21 := (hk 21 (by decide)).trans f21
      clear hk hsz18 hde18 f24
      refine wpList_next rfl hsz19 hde19 26 rfl (by decide) fun K hK => ?_
      go_simp
      refine hK _ _ fun a20 hsz20 hde20 f26 hk => ?_
      clear hK K
      replace f0 := (hk 0 (by decide)).trans f0
      replace f1 := (hk 1 (by decide)).trans f1
      replace f5 := (hk 5 (by decide)).trans f5
      replace f26 : a20.tmps[26]?.getD undef = .bool true := f26
      clear hk hsz19 hde19 f21 f25
      refine wpList_nil ?_
      refine then_go ?_
      repeat with_reducible refine wp_seq ?_
      refine wp_cond_true (eval_at f26) ?_
      clear f26
      repeat with_reducible refine wp_seq ?_
      refine wp_region_lit ?_
      refine wpList_next rfl hsz20 hde20 27 rfl (by decide) fun K hK => ?_
      go_simp
      refine (Hl.out _ (Hp.out.grow Hb3.out)).mono ?_
      rintro e9 w9 ⟨rfl, hb9⟩
      go_simp
      refine hK _ _ fun a21 hsz21 hde21 f27 hk => ?_
      clear hK K
      replace f0 := (hk 0 (by decide)).trans f0
      replace f1 := (hk 1 (by decide)).trans f1
      replace f5 := (hk 5 (by decide)).trans f5
      replace f27 : a21.tmps[27]?.getD undef = .bool true := f27
      clear hk hsz20 hde20
      refine wpList_next rfl hsz21 hde21 6 rfl (by decide) fun K hK => ?_
      go_simp
      refine hK _ _ fun a22 hsz22 hde22 f6 hk => ?_
      clear hK K
      replace f0 := (hk 0 (by decide)).trans f0
      replace f1 := (hk 1 (by decide)).trans f1
      replace f5 := (hk 5 (by decide)).trans f5
      replace f6 : a22.tmps[6]?.getD undef = .bool true := f6
      clear hk hsz21 hde21 f27
      refine wpList_nil ?_
      refine then_go ?_
      refine wp_ret ?_
      refine (ret_tmp (R := fun e2 w2 => e2 = .returned (.bool true) ∧ Below w.heap.size w w2) Tryd.results3 hde22 f6 ?_)
      exact ⟨rfl, below_call (below_call Hbel.out Hb3.out) hb9⟩
    | true =>
      refine wpList_nextg (wanted_of (j := 7) (t := 16) (b := false) rfl rfl f16) hsz12 hde12 19 rfl (by decide) fun K hK => ?_
      go_simp
      refine hK _ _ fun a13 hsz13 hde13 f19 hk => ?_
      clear hK K
      replace f0 := (hk 0 (by decide)).trans f0
      replace f1 := (hk 1 (by decide)).trans f1
      replace f5 := (hk 5 (by decide)).trans f5
      replace f16 := (hk 16 (by decide)).trans f16
      replace f19 : a13.tmps[19]?.getD undef = .bool false := f19
      clear hk hsz12 hde12 f18
      refine wpList_next rfl hsz13 hde13 20 rfl (by decide) fun K hK => ?_
      go_simp
      refine hK _ _ fun a14 hsz14 hde14 f20 hk => ?_
      clear hK K
      replace f0 := (hk 0 (by decide)).trans f0
      replace f1 := (hk 1 (by decide)).trans f1
      replace f5 := (hk 5 (by decide)).trans f5
      replace f20 : a14.tmps[20]?.getD undef = .bool false := f20
      clear hk hsz13 hde13 f16 f19
      refine wpList_next rfl hsz14 hde14 21 rfl (by decide) fun K hK => ?_
      go_simp
      refine hK _ _ fun a15 hsz15 hde15 f21 hk => ?_
      clear hK K
      replace f0 := (hk 0 (by decide)).trans f0
      replace f1 := (hk 1 (by decide)).trans f1
      replace f5 := (hk 5 (by decide)).trans f5
      replace f21 : a15.tmps[21]?.getD undef = .bool false := f21
      clear hk hsz14 hde14 f20
      refine wpList_nextg (wanted_of (j := 12) (t := 21) (b := false) rfl rfl f21) hsz15 hde15 22 rfl (by decide) fun K hK => ?_
      go_simp
      refine hK _ _ fun a16 hsz16 hde16 f22 hk => ?_
      clear hK K
      replace f0 := (hk 0 (by decide)).trans f0
      replace f1 := (hk 1 (by decide)).trans f1
      replace f5 := (hk 5 (by decide)).trans f5
      replace f21 := (hk 21 (by decide)).trans f21
      replace f22 : a16.tmps[22]?.getD undef = .pointer (some ⟨w.heap.size, 4, none⟩) := f22
      clear hk hsz15 hde15
      refine wpList_nextg (wanted_of (j := 12) (t := 21) (b := false) rfl rfl f21) hsz16 hde16 23 rfl (by decide) fun K hK => ?_
      have hat := HrD.out _ Hb3.out
      go_simp
      refine hK _ _ fun a17 hsz17 hde17 f23 hk => ?_
      clear hK K
      replace f0 := (hk 0 (by decide)).trans f0
      replace f1 := (hk 1 (by decide)).trans f1
      replace f5 := (hk 5 (by decide)).trans f5
      replace f21 := (hk 21 (by decide)).trans f21
      replace f23 : a17.tmps[23]?.getD undef = str X.data := f23
      clear hk hsz16 hde16 f22
      clear hat
      refine wpList_nextg (wanted_of (j := 12) (t := 21) (b := false) rfl rfl f21) hsz17 hde17 24 rfl (by decide) fun K hK => ?_
      go_simp
      refine hK _ _ fun a18 hsz18 hde18 f24 hk => ?_
      clear hK K
      replace f0 := (hk 0 (by decide)).trans f0
      replace f1 := (hk 1 (by decide)).trans f1
      replace f5 := (hk 5 (by decide)).trans f5
      replace f21 := (hk 21 (by decide)).trans f21
      replace f24 : a18.tmps[24]?.getD undef = .int .i64 (X.data.length : Int) := f24
      clear hk hsz17 hde17 f23
      by_cases hn : 40 < X.data.length
      · have Hn := Lib.hid hn
        clear hn
        refine wpList_nextg (wanted_of (j := 12) (t := 21) (b := false) rfl rfl f21) hsz18 hde18 25 rfl (by decide) fun K hK => ?_
        go_simp
        refine hK _ _ fun a19 hsz19 hde19 f25 hk => ?_
        clear hK K
        replace f0 := (hk 0 (by decide)).trans f0
        replace f1 := (hk 1 (by decide)).trans f1
        replace f5 := (hk 5 (by decide)).trans f5
        replace f21 := (hk 21 (by decide)).trans f21
        clear hk hsz18 hde18 f24
        replace f25 : a19.tmps[25]?.getD undef = .bool true := f25.trans (by have h := Hn.out; first | rfl | (congr 1; exact decide_eq_true (by omega)) | (congr 1; exact decide_eq_false (by omega)) | (simp; omega))
        refine wpList_next rfl hsz19 hde19 26 rfl (by decide) fun K hK => ?_
        go_simp
        refine hK _ _ fun a20 hsz20 hde20 f26 hk => ?_
        clear hK K
        replace f0 := (hk 0 (by decide)).trans f0
        replace f1 := (hk 1 (by decide)).trans f1
        replace f5 := (hk 5 (by decide)).trans f5
        replace f26 : a20.tmps[26]?.getD undef = .bool true := f26
        clear hk hsz19 hde19 f21 f25
        refine wpList_nil ?_
        refine then_go ?_
        repeat with_reducible refine wp_seq ?_
        refine wp_cond_true (eval_at f26) ?_
        clear f26
        repeat with_reducible refine wp_seq ?_
        refine wp_region_lit ?_
        refine wpList_next rfl hsz20 hde20 27 rfl (by decide) fun K hK => ?_
        go_simp
        refine (Hl.out _ (Hp.out.grow Hb3.out)).mono ?_
        rintro e9 w9 ⟨rfl, hb9⟩
        go_simp
        refine hK _ _ fun a21 hsz21 hde21 f27 hk => ?_
        clear hK K
        replace f0 := (hk 0 (by decide)).trans f0
        replace f1 := (hk 1 (by decide)).trans f1
        replace f5 := (hk 5 (by decide)).trans f5
        replace f27 : a21.tmps[27]?.getD undef = .bool true := f27
        clear hk hsz20 hde20
        refine wpList_next rfl hsz21 hde21 6 rfl (by decide) fun K hK => ?_
        go_simp
        refine hK _ _ fun a22 hsz22 hde22 f6 hk => ?_
        clear hK K
        replace f0 := (hk 0 (by decide)).trans f0
        replace f1 := (hk 1 (by decide)).trans f1
        replace f5 := (hk 5 (by decide)).trans f5
        replace f6 : a22.tmps[6]?.getD undef = .bool true := f6
        clear hk hsz21 hde21 f27
        refine wpList_nil ?_
        refine then_go ?_
        refine wp_ret ?_
        refine (ret_tmp (R := fun e2 w2 => e2 = .returned (.bool true) ∧ Below w.heap.size w w2) Tryd.results3 hde22 f6 ?_)
        exact ⟨rfl, below_call (below_call Hbel.out Hb3.out) hb9⟩
      have Hn := Lib.hid hn
      clear hn
      refine wpList_nextg (wanted_of (j := 12) (t := 21) (b := false) rfl rfl f21) hsz18 hde18 25 rfl (by decide) fun K hK => ?_
      go_simp
      refine hK _ _ fun a19 hsz19 hde19 f25 hk => ?_
      clear hK K
      replace f0 := (hk 0 (by decide)).trans f0
      replace f1 := (hk 1 (by decide)).trans f1
      replace f5 := (hk 5 (by decide)).trans f5
      replace f21 := (hk 21 (by decide)).trans f21
      clear hk hsz18 hde18 f24
      replace f25 : a19.tmps[25]?.getD undef = .bool false := f25.trans (by have h := Hn.out; first | rfl | (congr 1; exact decide_eq_true (by omega)) | (congr 1; exact decide_eq_false (by omega)) | (simp; omega))
      refine wpList_next rfl hsz19 hde19 26 rfl (by decide) fun K hK => ?_
      go_simp
      refine hK _ _ fun a20 hsz20 hde20 f26 hk => ?_
      clear hK K
      replace f0 := (hk 0 (by decide)).trans f0
      replace f1 := (hk 1 (by decide)).trans f1
      replace f5 := (hk 5 (by decide)).trans f5
      replace f26 : a20.tmps[26]?.getD undef = .bool false := f26
      clear hk hsz19 hde19 f21 f25
      refine wpList_nil ?_
      refine then_go ?_
      repeat with_reducible refine wp_seq ?_
      refine wp_cond_false (eval_at f26) ?_
      refine wp_skip ?_
      refine then_go ?_
      clear f26
      repeat with_reducible refine wp_seq ?_
      obtain ⟨hs1, hl1, hd1⟩ := Hq1.out rfl
      obtain ⟨hs2, hl2, hd2⟩ := Hq2.out rfl
      have Hs1 := Lib.hid hs1
      have Hs2 := Lib.hid hs2
      have Hl1 := Lib.hid hl1
      have Hl2 := Lib.hid hl2
      have Hd1 := Lib.hid (show ∀ x ∈ L, x.data.length ≤ 1000 from fun x hx => Nat.le_trans (hd1 x hx) (by omega))
      have Hd2 := Lib.hid (show ∀ x ∈ M, x.data.length ≤ 1000 from fun x hx => Nat.le_trans (hd2 x hx) (by omega))
      have HXd := Lib.hid (show X.data.length ≤ 1000 by have := Hn.out; omega)
      obtain ⟨hrd1, hpl1, hpm1, hpo1⟩ := IsL.rdE (HL.out.grow Hb3.out)
      have hba : Below w3.heap.size w3 (w3.alloc (.cells #[] 29)) := (Below.refl _ _).alloc (Nat.le_refl _) _
      have Hrd1 := Lib.hid (IsL.rdE ((HL.out.grow Hb3.out).grow hba)).1
      have Hpo1 := Lib.hid hpo1
      clear hs1 hl1 hd1 hs2 hl2 hd2 hrd1 hpl1 hpm1 hpo1 Hq1 Hq2
      refine wp_region_lit ?_
      refine wpList_next rfl hsz20 hde20 28 rfl (by decide) fun K hK => ?_
      go_simp
      refine hK _ _ fun a21 hsz21 hde21 f28 hk => ?_
      clear hK K
      replace f0 := (hk 0 (by decide)).trans f0
      replace f1 := (hk 1 (by decide)).trans f1
      replace f5 := (hk 5 (by decide)).trans f5
      replace f28 : a21.tmps[28]?.getD undef = .slice (some ⟨w3.heap.size, 0, none⟩) 0 0 := f28
      clear hk hsz20 hde20
      refine wpList_next rfl hsz21 hde21 29 rfl (by decide) fun K hK => ?_
      go_simp
      refine hK _ _ fun a22 hsz22 hde22 f29 hk => ?_
      clear hK K
      replace f0 := (hk 0 (by decide)).trans f0
      replace f1 := (hk 1 (by decide)).trans f1
      replace f5 := (hk 5 (by decide)).trans f5
      replace f28 := (hk 28 (by decide)).trans f28
      replace f29 : a22.tmps[29]?.getD undef = .slice A1 n1 c1 := f29
      clear hk hsz21 hde21
      refine wpList_next rfl hsz22 hde22 30 rfl (by decide) fun K hK => ?_
      refine wp_appK elemE (.tmp 28) (.tmp 29) rfl w3.heap.size 0 _ [] (eval_at f28) (OwnK.empty w3 _ _) (fun _ => True) A1 n1 c1 (entsC L) (by rw [entsC_length, Hn1.out]) (eval_at f29) Hrd1.out (entsC_each L) (by have := Hl1.out; have := Hn1.out; omega) (by have := Hl1.out; have := Hn1.out; omega) hba.size ?_
      intro u7 w7 hown7 hg7 _
      have Hb7 := Lib.hid (hba.trans ((OwnK.empty w3 29 15).below_of hg7 hba.size (Nat.le_refl _)))
      simp only [Nat.zero_add, List.nil_append] at hown7
      have HU7 := Lib.hid (show IsL kEnt w7 (fun _ => True) u7 L from IsL.weaken (OwnE.isL (base := w3.heap.size) ⟨by rw [← Hn1.out]; exact hown7, Hpo1.out⟩) fun _ _ => trivial)
      clear hown7 hg7
      refine hK _ _ fun a23 hsz23 hde23 f30 hk => ?_
      clear hK K
      replace f0 := (hk 0 (by decide)).trans f0
      replace f1 := (hk 1 (by decide)).trans f1
      replace f5 := (hk 5 (by decide)).trans f5
      replace f30 : a23.tmps[30]?.getD undef = u7 := f30
      clear hk hsz22 hde22 f28 f29
      refine wpList_next rfl hsz23 hde23 7 rfl (by decide) fun K hK => ?_
      go_simp
      refine hK _ _ fun a24 hsz24 hde24 f7 hk => ?_
      clear hK K
      replace f0 := (hk 0 (by decide)).trans f0
      replace f1 := (hk 1 (by decide)).trans f1
      replace f5 := (hk 5 (by decide)).trans f5
      replace f7 : a24.tmps[7]?.getD undef = u7 := f7
      clear hk hsz23 hde23 f30
      refine wpList_nil ?_
      have Hb8 := Lib.hid (below_call Hb3.out Hb7.out)
      have HL7 := Lib.hid (HL.out.grow Hb8.out)
      have HM7 := Lib.hid (HM.out.grow Hb8.out)
      clear hba Hrd1
      refine then_go ?_
      repeat with_reducible refine wp_seq ?_
      obtain ⟨LA, hLA⟩ : ∃ N, N = addE L X := ⟨_, rfl⟩
      obtain ⟨LK, hLK⟩ : ∃ N, N = killE L X.rep X.seq X.orep X.oseq := ⟨_, rfl⟩
      obtain ⟨LJ, hLJ⟩ : ∃ N, N = joinE L M := ⟨_, rfl⟩
      have hadd := fun (z : World) (hz : Below w7.heap.size w7 z) => eadd_any _ u7 L X z (HU7.out.grow hz) (by have := Hl1.out; omega) Hd1.out HXd.out Hs1.out HX.out
      have hradd := fun (z : World) (hz : Below w7.heap.size w7 z) => erefadd_any _ (.slice A1 n1 c1) L X z (HL7.out.grow hz) (by have := Hl1.out; omega) HX.out Hs1.out
      have hkill := fun (z : World) (hz : Below w7.heap.size w7 z) => kill_any _ u7 L X.rep X.seq X.orep X.oseq z (HU7.out.grow hz) (by have := Hl1.out; omega) Hd1.out Hs1.out HX.out.oseq
      have hrkill := fun (z : World) (hz : Below w7.heap.size w7 z) => erefkill_any _ (.slice A1 n1 c1) L X.rep X.seq X.orep X.oseq z (HL7.out.grow hz) (by have := Hl1.out; omega) HX.out.oseq
      have hjoin := fun (z : World) (hz : Below w7.heap.size w7 z) => ejoin_any _ _ u7 v2 L M z (HU7.out.grow hz) (HM7.out.grow hz) (by have := Hl1.out; have := Hl2.out; omega) Hd1.out Hd2.out
      have hrjoin := fun (z : World) (hz : Below w7.heap.size w7 z) => erefjoin_any _ _ (.slice A1 n1 c1) v2 L M z (HL7.out.grow hz) (HM7.out.grow hz) (by have := Hl1.out; have := Hl2.out; omega) Hs1.out
      rw [join_fold Hs1.out Hs2.out] at hrjoin
      rw [← HC.out, ← hLA] at hadd hradd
      rw [← HIX.out, ← HIJ.out, ← hLK] at hkill hrkill
      rw [← hLJ] at hjoin hrjoin
      have Hadd := Lib.hid hadd
      have Hradd := Lib.hid hradd
      have Hkill := Lib.hid hkill
      have Hrkill := Lib.hid hrkill
      have Hjoin := Lib.hid hjoin
      have Hrjoin := Lib.hid hrjoin
      clear hadd hradd hkill hrkill hjoin hrjoin hLA hLK hLJ
      refine wp_region_goodg (chG u7 (.slice A1 n1 c1) v2 (.pointer (some ⟨w.heap.size, 0, none⟩)) (.pointer (some ⟨w.heap.size, 5, none⟩)) C IX IJ LA LK LJ) 75 (by kernel_rfl) (by kernel_rfl) (by kernel_rfl) (by kernel_rfl) hsz24.out ?_ ?_ ?_
      · intro t v7 x x' h hb hb'
        unfold chG at *
        split at h <;> first | exact h | exact h.grow hb' | (obtain ⟨b9, o9, e9, h9⟩ := h; exact ⟨b9, o9, e9, range_ext h9 hb'⟩)
      · intro i o hi a x hbx hsame hpre K hK
        have hlt : i < 32 := (Array.getElem?_eq_some_iff.1 hi).1
        rcases (show i = 0 ∨ i = 1 ∨ i = 2 ∨ i = 3 ∨ i = 4 ∨ i = 5 ∨ i = 6 ∨ i = 7 ∨ i = 8 ∨ i = 9 ∨ i = 10 ∨ i = 11 ∨ i = 12 ∨ i = 13 ∨ i = 14 ∨ i = 15 ∨ i = 16 ∨ i = 17 ∨ i = 18 ∨ i = 19 ∨ i = 20 ∨ i = 21 ∨ i = 22 ∨ i = 23 ∨ i = 24 ∨ i = 25 ∨ i = 26 ∨ i = 27 ∨ i = 28 ∨ i = 29 ∨ i = 30 ∨ i = 31 by omega) with rfl | rfl | rfl | rfl | rfl | rfl | rfl | rfl | rfl | rfl | rfl | rfl | rfl | rfl | rfl | rfl | rfl | rfl | rfl | rfl | rfl | rfl | rfl | rfl | rfl | rfl | rfl | rfl | rfl | rfl | rfl | rfl
        all_goals (have ho := Option.some.inj hi; subst ho; clear hi hlt)
        · have q7 : a.tmps[7]?.getD undef = u7 := (hsame 7 (by decide +kernel)).trans f7
          refine step_plain rfl ?_
          have hk := Lib.hid (show ∀ v7 x', chG u7 (.slice A1 n1 c1) v2 (.pointer (some ⟨w.heap.size, 0, none⟩)) (.pointer (some ⟨w.heap.size, 5, none⟩)) C IX IJ LA LK LJ 31 v7 x' → Below x.heap.size x x' → K (a.put (some 31) v7) x' from hK)
          have Hbx := Lib.hid hbx
          clear hsame hpre hK hbx
          go_simp
          exact hk.out _ _ rfl (Below.refl _ _)
        · have q5 : a.tmps[5]?.getD undef = .pointer (some ⟨w.heap.size, 0, none⟩) := (hsame 5 (by decide +kernel)).trans f5
          refine step_plain rfl ?_
          have hk := Lib.hid (show ∀ v7 x', chG u7 (.slice A1 n1 c1) v2 (.pointer (some ⟨w.heap.size, 0, none⟩)) (.pointer (some ⟨w.heap.size, 5, none⟩)) C IX IJ LA LK LJ 32 v7 x' → Below x.heap.size x x' → K (a.put (some 32) v7) x' from hK)
          have Hbx := Lib.hid hbx
          clear hsame hpre hK hbx
          refine wp_load_mid 29 (.tmp 5) rfl w.heap.size 0 (eval_at q5) C.toList _ (HrC.out _ (below_call Hb8.out Hbx.out)) Tryd.underlying29 rfl HinfC.out ?_
          exact hk.out _ _ rfl (Below.refl _ _)
        · have q31 : a.tmps[31]?.getD undef = u7 := hpre ⟨0, .data⟩ (by simp) rfl (by decide)
          have q32 : a.tmps[32]?.getD undef = .agg C := hpre ⟨1, .data⟩ (by simp) rfl (by decide)
          refine step_plain rfl ?_
          have hk := Lib.hid (show ∀ v7 x', chG u7 (.slice A1 n1 c1) v2 (.pointer (some ⟨w.heap.size, 0, none⟩)) (.pointer (some ⟨w.heap.size, 5, none⟩)) C IX IJ LA LK LJ 33 v7 x' → Below x.heap.size x x' → K (a.put (some 33) v7) x' from hK)
          have Hbx := Lib.hid hbx
          clear hsame hpre hK hbx
          go_simp
          refine (Hadd.out _ Hbx.out).mono ?_
          rintro e9 w9 ⟨⟨u9, rfl, hown9⟩, hb9⟩
          go_simp
          exact hk.out _ _ (hown9.isL.weaken fun _ _ => trivial) hb9
        · have q0 : a.tmps[0]?.getD undef = .slice A1 n1 c1 := (hsame 0 (by decide +kernel)).trans f0
          refine step_plain rfl ?_
          have hk := Lib.hid (show ∀ v7 x', chG u7 (.slice A1 n1 c1) v2 (.pointer (some ⟨w.heap.size, 0, none⟩)) (.pointer (some ⟨w.heap.size, 5, none⟩)) C IX IJ LA LK LJ 34 v7 x' → Below x.heap.size x x' → K (a.put (some 34) v7) x' from hK)
          have Hbx := Lib.hid hbx
          clear hsame hpre hK hbx
          go_simp
          exact hk.out _ _ rfl (Below.refl _ _)
        · have q5 : a.tmps[5]?.getD undef = .pointer (some ⟨w.heap.size, 0, none⟩) := (hsame 5 (by decide +kernel)).trans f5
          refine step_plain rfl ?_
          have hk := Lib.hid (show ∀ v7 x', chG u7 (.slice A1 n1 c1) v2 (.pointer (some ⟨w.heap.size, 0, none⟩)) (.pointer (some ⟨w.heap.size, 5, none⟩)) C IX IJ LA LK LJ 35 v7 x' → Below x.heap.size x x' → K (a.put (some 35) v7) x' from hK)
          have Hbx := Lib.hid hbx
          clear hsame hpre hK hbx
          refine wp_load_mid 29 (.tmp 5) rfl w.heap.size 0 (eval_at q5) C.toList _ (HrC.out _ (below_call Hb8.out Hbx.out)) Tryd.underlying29 rfl HinfC.out ?_
          exact hk.out _ _ rfl (Below.refl _ _)
        · have q34 : a.tmps[34]?.getD undef = .slice A1 n1 c1 := hpre ⟨3, .data⟩ (by simp) rfl (by decide)
          have q35 : a.tmps[35]?.getD undef = .agg C := hpre ⟨4, .data⟩ (by simp) rfl (by decide)
          refine step_plain rfl ?_
          have hk := Lib.hid (show ∀ v7 x', chG u7 (.slice A1 n1 c1) v2 (.pointer (some ⟨w.heap.size, 0, none⟩)) (.pointer (some ⟨w.heap.size, 5, none⟩)) C IX IJ LA LK LJ 36 v7 x' → Below x.heap.size x x' → K (a.put (some 36) v7) x' from hK)
          have Hbx := Lib.hid hbx
          clear hsame hpre hK hbx
          go_simp
          refine (Hradd.out _ Hbx.out).mono ?_
          rintro e9 w9 ⟨⟨u9, ok9, rfl, hl9⟩, hb9⟩
          go_simp
          exact hk.out _ _ (hl9.weaken fun _ _ => trivial) hb9
        · have q33 : chG u7 (.slice A1 n1 c1) v2 (.pointer (some ⟨w.heap.size, 0, none⟩)) (.pointer (some ⟨w.heap.size, 5, none⟩)) C IX IJ LA LK LJ 33 (a.tmps[33]?.getD undef) x := hpre ⟨2, .data⟩ (by simp) rfl (by decide)
          have q36 : chG u7 (.slice A1 n1 c1) v2 (.pointer (some ⟨w.heap.size, 0, none⟩)) (.pointer (some ⟨w.heap.size, 5, none⟩)) C IX IJ LA LK LJ 36 (a.tmps[36]?.getD undef) x := hpre ⟨5, .data⟩ (by simp) rfl (by decide)
          refine step_plain rfl ?_
          have hk := Lib.hid (show ∀ v7 x', chG u7 (.slice A1 n1 c1) v2 (.pointer (some ⟨w.heap.size, 0, none⟩)) (.pointer (some ⟨w.heap.size, 5, none⟩)) C IX IJ LA LK LJ 37 v7 x' → Below x.heap.size x x' → K (a.put (some 37) v7) x' from hK)
          have Hbx := Lib.hid hbx
          clear hsame hpre hK hbx
          obtain ⟨y1, e1, g1⟩ : ∃ y, a.tmps[33]?.getD undef = y ∧ IsL kEnt x (fun _ => True) y LA := ⟨_, rfl, q33⟩
          obtain ⟨y2, e2, g2⟩ : ∃ y, a.tmps[36]?.getD undef = y ∧ IsL kEnt x (fun _ => True) y LA := ⟨_, rfl, q36⟩
          clear q33 q36
          have G1 := Lib.hid (erefsame_any _ _ y1 y2 LA x g1 g2)
          clear g1 g2
          go_simp
          refine G1.out.mono ?_
          rintro e9 w9 ⟨rfl, hb9⟩
          go_simp
          exact hk.out _ _ rfl hb9
        · have q37 : a.tmps[37]?.getD undef = .bool true := hpre ⟨6, .data⟩ (by simp) rfl (by decide)
          refine step_plain rfl ?_
          have hk := Lib.hid (show ∀ v7 x', chG u7 (.slice A1 n1 c1) v2 (.pointer (some ⟨w.heap.size, 0, none⟩)) (.pointer (some ⟨w.heap.size, 5, none⟩)) C IX IJ LA LK LJ 38 v7 x' → Below x.heap.size x x' → K (a.put (some 38) v7) x' from hK)
          have Hbx := Lib.hid hbx
          clear hsame hpre hK hbx
          go_simp
          exact hk.out _ _ rfl (Below.refl _ _)
        · have q7 : a.tmps[7]?.getD undef = u7 := (hsame 7 (by decide +kernel)).trans f7
          have w38 : a.tmps[38]?.getD undef = .bool true := hpre ⟨7, .guard⟩ (by simp) rfl (by decide)
          refine step_wanted (wanted_of (j := 7) (t := 38) (b := true) rfl rfl w38) ?_
          have hk := Lib.hid (show ∀ v7 x', chG u7 (.slice A1 n1 c1) v2 (.pointer (some ⟨w.heap.size, 0, none⟩)) (.pointer (some ⟨w.heap.size, 5, none⟩)) C IX IJ LA LK LJ 39 v7 x' → Below x.heap.size x x' → K (a.put (some 39) v7) x' from hK)
          have Hbx := Lib.hid hbx
          clear hsame hpre hK hbx w38
          go_simp
          exact hk.out _ _ rfl (Below.refl _ _)
        · have q5 : a.tmps[5]?.getD undef = .pointer (some ⟨w.heap.size, 0, none⟩) := (hsame 5 (by decide +kernel)).trans f5
          have w38 : a.tmps[38]?.getD undef = .bool true := hpre ⟨7, .guard⟩ (by simp) rfl (by decide)
          refine step_wanted (wanted_of (j := 7) (t := 38) (b := true) rfl rfl w38) ?_
          have hk := Lib.hid (show ∀ v7 x', chG u7 (.slice A1 n1 c1) v2 (.pointer (some ⟨w.heap.size, 0, none⟩)) (.pointer (some ⟨w.heap.size, 5, none⟩)) C IX IJ LA LK LJ 40 v7 x' → Below x.heap.size x x' → K (a.put (some 40) v7) x' from hK)
          have Hbx := Lib.hid hbx
          clear hsame hpre hK hbx w38
          go_simp
          exact hk.out _ _ rfl (Below.refl _ _)
        · have q40 : a.tmps[40]?.getD undef = .pointer (some ⟨w.heap.size, 0, none⟩) := hpre ⟨9, .data⟩ (by simp) rfl (by decide)
          have w38 : a.tmps[38]?.getD undef = .bool true := hpre ⟨7, .guard⟩ (by simp) rfl (by decide)
          refine step_wanted (wanted_of (j := 7) (t := 38) (b := true) rfl rfl w38) ?_
          have hk := Lib.hid (show ∀ v7 x', chG u7 (.slice A1 n1 c1) v2 (.pointer (some ⟨w.heap.size, 0, none⟩)) (.pointer (some ⟨w.heap.size, 5, none⟩)) C IX IJ LA LK LJ 41 v7 x' → Below x.heap.size x x' → K (a.put (some 41) v7) x' from hK)
          have Hbx := Lib.hid hbx
          clear hsame hpre hK hbx w38
          refine wp_load_mid 25 (.tmp 40) rfl w.heap.size 0 (eval_at q40) IX.toList _ (HrX.out _ (below_call Hb8.out Hbx.out)) Tryd.underlying25 rfl HinfX.out ?_
          exact hk.out _ _ rfl (Below.refl _ _)
        · have q5 : a.tmps[5]?.getD undef = .pointer (some ⟨w.heap.size, 0, none⟩) := (hsame 5 (by decide +kernel)).trans f5
          have w38 : a.tmps[38]?.getD undef = .bool true := hpre ⟨7, .guard⟩ (by simp) rfl (by decide)
          refine step_wanted (wanted_of (j := 7) (t := 38) (b := true) rfl rfl w38) ?_
          have hk := Lib.hid (show ∀ v7 x', chG u7 (.slice A1 n1 c1) v2 (.pointer (some ⟨w.heap.size, 0, none⟩)) (.pointer (some ⟨w.heap.size, 5, none⟩)) C IX IJ LA LK LJ 42 v7 x' → Below x.heap.size x x' → K (a.put (some 42) v7) x' from hK)
          have Hbx := Lib.hid hbx
          clear hsame hpre hK hbx w38
          go_simp
          exact hk.out _ _ rfl (Below.refl _ _)
        · have q42 : a.tmps[42]?.getD undef = .pointer (some ⟨w.heap.size, 5, none⟩) := hpre ⟨11, .data⟩ (by simp) rfl (by decide)
          have w38 : a.tmps[38]?.getD undef = .bool true := hpre ⟨7, .guard⟩ (by simp) rfl (by decide)
          refine step_wanted (wanted_of (j := 7) (t := 38) (b := true) rfl rfl w38) ?_
          have hk := Lib.hid (show ∀ v7 x', chG u7 (.slice A1 n1 c1) v2 (.pointer (some ⟨w.heap.size, 0, none⟩)) (.pointer (some ⟨w.heap.size, 5, none⟩)) C IX IJ LA LK LJ 43 v7 x' → Below x.heap.size x x' → K (a.put (some 43) v7) x' from hK)
          have Hbx := Lib.hid hbx
          clear hsame hpre hK hbx w38
          refine wp_load_mid 25 (.tmp 42) rfl w.heap.size 5 (eval_at q42) IJ.toList _ (HrO.out _ (below_call Hb8.out Hbx.out)) Tryd.underlying25 rfl HinfO.out ?_
          exact hk.out _ _ rfl (Below.refl _ _)
        · have q39 : a.tmps[39]?.getD undef = u7 := hpre ⟨8, .data⟩ (by simp) rfl (by decide)
          have q41 : a.tmps[41]?.getD undef = .agg IX := hpre ⟨10, .data⟩ (by simp) rfl (by decide)
          have q43 : a.tmps[43]?.getD undef = .agg IJ := hpre ⟨12, .data⟩ (by simp) rfl (by decide)
          have w38 : a.tmps[38]?.getD undef = .bool true := hpre ⟨7, .guard⟩ (by simp) rfl (by decide)
          refine step_wanted (wanted_of (j := 7) (t := 38) (b := true) rfl rfl w38) ?_
          have hk := Lib.hid (show ∀ v7 x', chG u7 (.slice A1 n1 c1) v2 (.pointer (some ⟨w.heap.size, 0, none⟩)) (.pointer (some ⟨w.heap.size, 5, none⟩)) C IX IJ LA LK LJ 44 v7 x' → Below x.heap.size x x' → K (a.put (some 44) v7) x' from hK)
          have Hbx := Lib.hid hbx
          clear hsame hpre hK hbx w38
          go_simp
          refine (Hkill.out _ Hbx.out).mono ?_
          rintro e9 w9 ⟨⟨u9, rfl, hown9⟩, hb9⟩
          go_simp
          exact hk.out _ _ (hown9.isL.weaken fun _ _ => trivial) hb9
        · have q0 : a.tmps[0]?.getD undef = .slice A1 n1 c1 := (hsame 0 (by decide +kernel)).trans f0
          have w38 : a.tmps[38]?.getD undef = .bool true := hpre ⟨7, .guard⟩ (by simp) rfl (by decide)
          refine step_wanted (wanted_of (j := 7) (t := 38) (b := true) rfl rfl w38) ?_
          have hk := Lib.hid (show ∀ v7 x', chG u7 (.slice A1 n1 c1) v2 (.pointer (some ⟨w.heap.size, 0, none⟩)) (.pointer (some ⟨w.heap.size, 5, none⟩)) C IX IJ LA LK LJ 45 v7 x' → Below x.heap.size x x' → K (a.put (some 45) v7) x' from hK)
          have Hbx := Lib.hid hbx
          clear hsame hpre hK hbx w38
          go_simp
          exact hk.out _ _ rfl (Below.refl _ _)
        · have q5 : a.tmps[5]?.getD undef = .pointer (some ⟨w.heap.size, 0, none⟩) := (hsame 5 (by decide +kernel)).trans f5
          have w38 : a.tmps[38]?.getD undef = .bool true := hpre ⟨7, .guard⟩ (by simp) rfl (by decide)
          refine step_wanted (wanted_of (j := 7) (t := 38) (b := true) rfl rfl w38) ?_
          have hk := Lib.hid (show ∀ v7 x', chG u7 (.slice A1 n1 c1) v2 (.pointer (some ⟨w.heap.size, 0, none⟩)) (.pointer (some ⟨w.heap.size, 5, none⟩)) C IX IJ LA LK LJ 46 v7 x' → Below x.heap.size x x' → K (a.put (some 46) v7) x' from hK)
          have Hbx := Lib.hid hbx
          clear hsame hpre hK hbx w38
          go_simp
          exact hk.out _ _ rfl (Below.refl _ _)
        · have q46 : a.tmps[46]?.getD undef = .pointer (some ⟨w.heap.size, 0, none⟩) := hpre ⟨15, .data⟩ (by simp) rfl (by decide)
          have w38 : a.tmps[38]?.getD undef = .bool true := hpre ⟨7, .guard⟩ (by simp) rfl (by decide)
          refine step_wanted (wanted_of (j := 7) (t := 38) (b := true) rfl rfl w38) ?_
          have hk := Lib.hid (show ∀ v7 x', chG u7 (.slice A1 n1 c1) v2 (.pointer (some ⟨w.heap.size, 0, none⟩)) (.pointer (some ⟨w.heap.size, 5, none⟩)) C IX IJ LA LK LJ 47 v7 x' → Below x.heap.size x x' → K (a.put (some 47) v7) x' from hK)
          have Hbx := Lib.hid hbx
          clear hsame hpre hK hbx w38
          refine wp_load_mid 25 (.tmp 46) rfl w.heap.size 0 (eval_at q46) IX.toList _ (HrX.out _ (below_call Hb8.out Hbx.out)) Tryd.underlying25 rfl HinfX.out ?_
          exact hk.out _ _ rfl (Below.refl _ _)
        · have q5 : a.tmps[5]?.getD undef = .pointer (some ⟨w.heap.size, 0, none⟩) := (hsame 5 (by decide +kernel)).trans f5
          have w38 : a.tmps[38]?.getD undef = .bool true := hpre ⟨7, .guard⟩ (by simp) rfl (by decide)
          refine step_wanted (wanted_of (j := 7) (t := 38) (b := true) rfl rfl w38) ?_
          have hk := Lib.hid (show ∀ v7 x', chG u7 (.slice A1 n1 c1) v2 (.pointer (some ⟨w.heap.size, 0, none⟩)) (.pointer (some ⟨w.heap.size, 5, none⟩)) C IX IJ LA LK LJ 48 v7 x' → Below x.heap.size x x' → K (a.put (some 48) v7) x' from hK)
          have Hbx := Lib.hid hbx
          clear hsame hpre hK hbx w38
          go_simp
          exact hk.out _ _ rfl (Below.refl _ _)
        · have q48 : a.tmps[48]?.getD undef = .pointer (some ⟨w.heap.size, 5, none⟩) := hpre ⟨17, .data⟩ (by simp) rfl (by decide)
          have w38 : a.tmps[38]?.getD undef = .bool true := hpre ⟨7, .guard⟩ (by simp) rfl (by decide)
          refine step_wanted (wanted_of (j := 7) (t := 38) (b := true) rfl rfl w38) ?_
          have hk := Lib.hid (show ∀ v7 x', chG u7 (.slice A1 n1 c1) v2 (.pointer (some ⟨w.heap.size, 0, none⟩)) (.pointer (some ⟨w.heap.size, 5, none⟩)) C IX IJ LA LK LJ 49 v7 x' → Below x.heap.size x x' → K (a.put (some 49) v7) x' from hK)
          have Hbx := Lib.hid hbx
          clear hsame hpre hK hbx w38
          refine wp_load_mid 25 (.tmp 48) rfl w.heap.size 5 (eval_at q48) IJ.toList _ (HrO.out _ (below_call Hb8.out Hbx.out)) Tryd.underlying25 rfl HinfO.out ?_
          exact hk.out _ _ rfl (Below.refl _ _)
        · have q45 : a.tmps[45]?.getD undef = .slice A1 n1 c1 := hpre ⟨14, .data⟩ (by simp) rfl (by decide)
          have q47 : a.tmps[47]?.getD undef = .agg IX := hpre ⟨16, .data⟩ (by simp) rfl (by decide)
          have q49 : a.tmps[49]?.getD undef = .agg IJ := hpre ⟨18, .data⟩ (by simp) rfl (by decide)
          have w38 : a.tmps[38]?.getD undef = .bool true := hpre ⟨7, .guard⟩ (by simp) rfl (by decide)
          refine step_wanted (wanted_of (j := 7) (t := 38) (b := true) rfl rfl w38) ?_
          have hk := Lib.hid (show ∀ v7 x', chG u7 (.slice A1 n1 c1) v2 (.pointer (some ⟨w.heap.size, 0, none⟩)) (.pointer (some ⟨w.heap.size, 5, none⟩)) C IX IJ LA LK LJ 50 v7 x' → Below x.heap.size x x' → K (a.put (some 50) v7) x' from hK)
          have Hbx := Lib.hid hbx
          clear hsame hpre hK hbx w38
          go_simp
          refine (Hrkill.out _ Hbx.out).mono ?_
          rintro e9 w9 ⟨⟨u9, rfl, hown9⟩, hb9⟩
          go_simp
          exact hk.out _ _ (hown9.isL.weaken fun _ _ => trivial) hb9
        · have q44 : chG u7 (.slice A1 n1 c1) v2 (.pointer (some ⟨w.heap.size, 0, none⟩)) (.pointer (some ⟨w.heap.size, 5, none⟩)) C IX IJ LA LK LJ 44 (a.tmps[44]?.getD undef) x := hpre ⟨13, .data⟩ (by simp) rfl (by decide)
          have q50 : chG u7 (.slice A1 n1 c1) v2 (.pointer (some ⟨w.heap.size, 0, none⟩)) (.pointer (some ⟨w.heap.size, 5, none⟩)) C IX IJ LA LK LJ 50 (a.tmps[50]?.getD undef) x := hpre ⟨19, .data⟩ (by simp) rfl (by decide)
          have w38 : a.tmps[38]?.getD undef = .bool true := hpre ⟨7, .guard⟩ (by simp) rfl (by decide)
          refine step_wanted (wanted_of (j := 7) (t := 38) (b := true) rfl rfl w38) ?_
          have hk := Lib.hid (show ∀ v7 x', chG u7 (.slice A1 n1 c1) v2 (.pointer (some ⟨w.heap.size, 0, none⟩)) (.pointer (some ⟨w.heap.size, 5, none⟩)) C IX IJ LA LK LJ 51 v7 x' → Below x.heap.size x x' → K (a.put (some 51) v7) x' from hK)
          have Hbx := Lib.hid hbx
          clear hsame hpre hK hbx w38
          obtain ⟨y1, e1, g1⟩ : ∃ y, a.tmps[44]?.getD undef = y ∧ IsL kEnt x (fun _ => True) y LK := ⟨_, rfl, q44⟩
          obtain ⟨y2, e2, g2⟩ : ∃ y, a.tmps[50]?.getD undef = y ∧ IsL kEnt x (fun _ => True) y LK := ⟨_, rfl, q50⟩
          clear q44 q50
          have G1 := Lib.hid (erefsame_any _ _ y1 y2 LK x g1 g2)
          clear g1 g2
          go_simp
          refine G1.out.mono ?_
          rintro e9 w9 ⟨rfl, hb9⟩
          go_simp
          exact hk.out _ _ rfl hb9
        · have q38 : a.tmps[38]?.getD undef = .bool true := hpre ⟨7, .data⟩ (by simp) rfl (by decide)
          have q51 : a.tmps[51]?.getD undef = .bool true := hpre ⟨20, .data⟩ (by simp) rfl (by decide)
          refine step_plain rfl ?_
          have hk := Lib.hid (show ∀ v7 x', chG u7 (.slice A1 n1 c1) v2 (.pointer (some ⟨w.heap.size, 0, none⟩)) (.pointer (some ⟨w.heap.size, 5, none⟩)) C IX IJ LA LK LJ 52 v7 x' → Below x.heap.size x x' → K (a.put (some 52) v7) x' from hK)
          have Hbx := Lib.hid hbx
          clear hsame hpre hK hbx
          go_simp
          exact hk.out _ _ rfl (Below.refl _ _)
        · have q52 : a.tmps[52]?.getD undef = .bool true := hpre ⟨21, .data⟩ (by simp) rfl (by decide)
          refine step_plain rfl ?_
          have hk := Lib.hid (show ∀ v7 x', chG u7 (.slice A1 n1 c1) v2 (.pointer (some ⟨w.heap.size, 0, none⟩)) (.pointer (some ⟨w.heap.size, 5, none⟩)) C IX IJ LA LK LJ 53 v7 x' → Below x.heap.size x x' → K (a.put (some 53) v7) x' from hK)
          have Hbx := Lib.hid hbx
          clear hsame hpre hK hbx
          go_simp
          exact hk.out _ _ rfl (Below.refl _ _)
        · have q7 : a.tmps[7]?.getD undef = u7 := (hsame 7 (by decide +kernel)).trans f7
          have w53 : a.tmps[53]?.getD undef = .bool true := hpre ⟨22, .guard⟩ (by simp) rfl (by decide)
          refine step_wanted (wanted_of (j := 22) (t := 53) (b := true) rfl rfl w53) ?_
          have hk := Lib.hid (show ∀ v7 x', chG u7 (.slice A1 n1 c1) v2 (.pointer (some ⟨w.heap.size, 0, none⟩)) (.pointer (some ⟨w.heap.size, 5, none⟩)) C IX IJ LA LK LJ 54 v7 x' → Below x.heap.size x x' → K (a.put (some 54) v7) x' from hK)
          have Hbx := Lib.hid hbx
          clear hsame hpre hK hbx w53
          go_simp
          exact hk.out _ _ rfl (Below.refl _ _)
        · have q1 : a.tmps[1]?.getD undef = v2 := (hsame 1 (by decide +kernel)).trans f1
          have w53 : a.tmps[53]?.getD undef = .bool true := hpre ⟨22, .guard⟩ (by simp) rfl (by decide)
          refine step_wanted (wanted_of (j := 22) (t := 53) (b := true) rfl rfl w53) ?_
          have hk := Lib.hid (show ∀ v7 x', chG u7 (.slice A1 n1 c1) v2 (.pointer (some ⟨w.heap.size, 0, none⟩)) (.pointer (some ⟨w.heap.size, 5, none⟩)) C IX IJ LA LK LJ 55 v7 x' → Below x.heap.size x x' → K (a.put (some 55) v7) x' from hK)
          have Hbx := Lib.hid hbx
          clear hsame hpre hK hbx w53
          go_simp
          exact hk.out _ _ rfl (Below.refl _ _)
        · have q54 : a.tmps[54]?.getD undef = u7 := hpre ⟨23, .data⟩ (by simp) rfl (by decide)
          have q55 : a.tmps[55]?.getD undef = v2 := hpre ⟨24, .data⟩ (by simp) rfl (by decide)
          have w53 : a.tmps[53]?.getD undef = .bool true := hpre ⟨22, .guard⟩ (by simp) rfl (by decide)
          refine step_wanted (wanted_of (j := 22) (t := 53) (b := true) rfl rfl w53) ?_
          have hk := Lib.hid (show ∀ v7 x', chG u7 (.slice A1 n1 c1) v2 (.pointer (some ⟨w.heap.size, 0, none⟩)) (.pointer (some ⟨w.heap.size, 5, none⟩)) C IX IJ LA LK LJ 56 v7 x' → Below x.heap.size x x' → K (a.put (some 56) v7) x' from hK)
          have Hbx := Lib.hid hbx
          clear hsame hpre hK hbx w53
          go_simp
          refine (Hjoin.out _ Hbx.out).mono ?_
          rintro e9 w9 ⟨⟨u9, rfl, hown9⟩, hb9⟩
          go_simp
          exact hk.out _ _ (hown9.isL.weaken fun _ _ => trivial) hb9
        · have q0 : a.tmps[0]?.getD undef = .slice A1 n1 c1 := (hsame 0 (by decide +kernel)).trans f0
          have w53 : a.tmps[53]?.getD undef = .bool true := hpre ⟨22, .guard⟩ (by simp) rfl (by decide)
          refine step_wanted (wanted_of (j := 22) (t := 53) (b := true) rfl rfl w53) ?_
          have hk := Lib.hid (show ∀ v7 x', chG u7 (.slice A1 n1 c1) v2 (.pointer (some ⟨w.heap.size, 0, none⟩)) (.pointer (some ⟨w.heap.size, 5, none⟩)) C IX IJ LA LK LJ 57 v7 x' → Below x.heap.size x x' → K (a.put (some 57) v7) x' from hK)
          have Hbx := Lib.hid hbx
          clear hsame hpre hK hbx w53
          go_simp
          exact hk.out _ _ rfl (Below.refl _ _)
        · have q1 : a.tmps[1]?.getD undef = v2 := (hsame 1 (by decide +kernel)).trans f1
          have w53 : a.tmps[53]?.getD undef = .bool true := hpre ⟨22, .guard⟩ (by simp) rfl (by decide)
          refine step_wanted (wanted_of (j := 22) (t := 53) (b := true) rfl rfl w53) ?_
          have hk := Lib.hid (show ∀ v7 x', chG u7 (.slice A1 n1 c1) v2 (.pointer (some ⟨w.heap.size, 0, none⟩)) (.pointer (some ⟨w.heap.size, 5, none⟩)) C IX IJ LA LK LJ 58 v7 x' → Below x.heap.size x x' → K (a.put (some 58) v7) x' from hK)
          have Hbx := Lib.hid hbx
          clear hsame hpre hK hbx w53
          go_simp
          exact hk.out _ _ rfl (Below.refl _ _)
        · have q57 : a.tmps[57]?.getD undef = .slice A1 n1 c1 := hpre ⟨26, .data⟩ (by simp) rfl (by decide)
          have q58 : a.tmps[58]?.getD undef = v2 := hpre ⟨27, .data⟩ (by simp) rfl (by decide)
          have w53 : a.tmps[53]?.getD undef = .bool true := hpre ⟨22, .guard⟩ (by simp) rfl (by decide)
          refine step_wanted (wanted_of (j := 22) (t := 53) (b := true) rfl rfl w53) ?_
          have hk := Lib.hid (show ∀ v7 x', chG u7 (.slice A1 n1 c1) v2 (.pointer (some ⟨w.heap.size, 0, none⟩)) (.pointer (some ⟨w.heap.size, 5, none⟩)) C IX IJ LA LK LJ 59 v7 x' → Below x.heap.size x x' → K (a.put (some 59) v7) x' from hK)
          have Hbx := Lib.hid hbx
          clear hsame hpre hK hbx w53
          go_simp
          refine (Hrjoin.out _ Hbx.out).mono ?_
          rintro e9 w9 ⟨⟨u9, ok9, rfl, hl9⟩, hb9⟩
          go_simp
          exact hk.out _ _ (hl9.weaken fun _ _ => trivial) hb9
        · have q56 : chG u7 (.slice A1 n1 c1) v2 (.pointer (some ⟨w.heap.size, 0, none⟩)) (.pointer (some ⟨w.heap.size, 5, none⟩)) C IX IJ LA LK LJ 56 (a.tmps[56]?.getD undef) x := hpre ⟨25, .data⟩ (by simp) rfl (by decide)
          have q59 : chG u7 (.slice A1 n1 c1) v2 (.pointer (some ⟨w.heap.size, 0, none⟩)) (.pointer (some ⟨w.heap.size, 5, none⟩)) C IX IJ LA LK LJ 59 (a.tmps[59]?.getD undef) x := hpre ⟨28, .data⟩ (by simp) rfl (by decide)
          have w53 : a.tmps[53]?.getD undef = .bool true := hpre ⟨22, .guard⟩ (by simp) rfl (by decide)
          refine step_wanted (wanted_of (j := 22) (t := 53) (b := true) rfl rfl w53) ?_
          have hk := Lib.hid (show ∀ v7 x', chG u7 (.slice A1 n1 c1) v2 (.pointer (some ⟨w.heap.size, 0, none⟩)) (.pointer (some ⟨w.heap.size, 5, none⟩)) C IX IJ LA LK LJ 60 v7 x' → Below x.heap.size x x' → K (a.put (some 60) v7) x' from hK)
          have Hbx := Lib.hid hbx
          clear hsame hpre hK hbx w53
          obtain ⟨y1, e1, g1⟩ : ∃ y, a.tmps[56]?.getD undef = y ∧ IsL kEnt x (fun _ => True) y LJ := ⟨_, rfl, q56⟩
          obtain ⟨y2, e2, g2⟩ : ∃ y, a.tmps[59]?.getD undef = y ∧ IsL kEnt x (fun _ => True) y LJ := ⟨_, rfl, q59⟩
          clear q56 q59
          have G1 := Lib.hid (erefsame_any _ _ y1 y2 LJ x g1 g2)
          clear g1 g2
          go_simp
          refine G1.out.mono ?_
          rintro e9 w9 ⟨rfl, hb9⟩
          go_simp
          exact hk.out _ _ rfl hb9
        · have q53 : a.tmps[53]?.getD undef = .bool true := hpre ⟨22, .data⟩ (by simp) rfl (by decide)
          have q60 : a.tmps[60]?.getD undef = .bool true := hpre ⟨29, .data⟩ (by simp) rfl (by decide)
          refine step_plain rfl ?_
          have hk := Lib.hid (show ∀ v7 x', chG u7 (.slice A1 n1 c1) v2 (.pointer (some ⟨w.heap.size, 0, none⟩)) (.pointer (some ⟨w.heap.size, 5, none⟩)) C IX IJ LA LK LJ 61 v7 x' → Below x.heap.size x x' → K (a.put (some 61) v7) x' from hK)
          have Hbx := Lib.hid hbx
          clear hsame hpre hK hbx
          go_simp
          exact hk.out _ _ rfl (Below.refl _ _)
        · have q61 : a.tmps[61]?.getD undef = .bool true := hpre ⟨30, .data⟩ (by simp) rfl (by decide)
          refine step_plain rfl ?_
          have hk := Lib.hid (show ∀ v7 x', chG u7 (.slice A1 n1 c1) v2 (.pointer (some ⟨w.heap.size, 0, none⟩)) (.pointer (some ⟨w.heap.size, 5, none⟩)) C IX IJ LA LK LJ 8 v7 x' → Below x.heap.size x x' → K (a.put (some 8) v7) x' from hK)
          have Hbx := Lib.hid hbx
          clear hsame hpre hK hbx
          go_simp
          exact hk.out _ _ rfl (Below.refl _ _)
      intro a25 x25 hbx hsame hG hsz25 hde25
      replace f0 := (hsame 0 (by decide +kernel)).trans f0
      replace f1 := (hsame 1 (by decide +kernel)).trans f1
      replace f5 := (hsame 5 (by decide +kernel)).trans f5
      replace f7 := (hsame 7 (by decide +kernel)).trans f7
      have f8 : a25.tmps[8]?.getD undef = .bool true := hG 31 (by decide)
      have Hbx25 := Lib.hid hbx
      have hsz25h := Lib.hid hsz25
      have hde25h := Lib.hid (hde25.trans hde24.out)
      clear hsame hG hbx hsz25 hde25 hsz24 hde24
      have HU9 := Lib.hid (HU7.out.grow Hbx25.out)
      have HL9 := Lib.hid (HL7.out.grow Hbx25.out)
      have Hb9 := Lib.hid (below_call Hb8.out Hbx25.out)
      clear Hbx25
      refine then_go ?_
      repeat with_reducible refine wp_seq ?_
      have hhd := fun z => ehead_any X z
      have hrhd := fun z => erefhead_any X z
      rw [← HC.out] at hhd hrhd
      have Hhd := Lib.hid hhd
      have Hrhd := Lib.hid hrhd
      obtain ⟨hb, hhb⟩ : ∃ b, b = headE X := ⟨_, rfl⟩
      rw [← hhb] at Hhd Hrhd
      clear hhd hrhd hhb
      refine wp_region_goodg (tblG [(62, .bool true), (63, .bool true), (64, u7), (65, .slice A1 n1 c1), (66, .bool true), (67, .bool true), (68, .bool true), (69, .agg C), (70, .bool hb), (71, .agg C), (72, .bool hb), (73, .bool true), (74, .bool true), (6, .bool true)]) 75 (by kernel_rfl) (by kernel_rfl) (by kernel_rfl) (by kernel_rfl) hsz25h.out ?_ ?_ ?_
      · intro t v7 x x' h _ _
        exact h
      · intro i7 o hi7 a x hbx hsame hpre K hK
        have hlt7 : i7 < 14 := (Array.getElem?_eq_some_iff.1 hi7).1
        rcases (show i7 = 0 ∨ i7 = 1 ∨ i7 = 2 ∨ i7 = 3 ∨ i7 = 4 ∨ i7 = 5 ∨ i7 = 6 ∨ i7 = 7 ∨ i7 = 8 ∨ i7 = 9 ∨ i7 = 10 ∨ i7 = 11 ∨ i7 = 12 ∨ i7 = 13 by omega) with rfl | rfl | rfl | rfl | rfl | rfl | rfl | rfl | rfl | rfl | rfl | rfl | rfl | rfl
        all_goals (have ho := Option.some.inj hi7; subst ho; clear hi7 hlt7)
        · have q8 : a.tmps[8]?.getD undef = .bool true := (hsame 8 (by decide +kernel)).trans f8
          refine step_plain rfl ?_
          have hk := Lib.hid (show ∀ v7 x', v7 = .bool true → Below x.heap.size x x' → K (a.put (some 62) v7) x' from hK)
          have Hbx := Lib.hid hbx
          clear hsame hpre hK hbx
          go_simp
          exact hk.out _ _ rfl (Below.refl _ _)
        · have q62 : a.tmps[62]?.getD undef = .bool true := hpre ⟨0, .data⟩ (by simp) rfl (by decide)
          refine step_plain rfl ?_
          have hk := Lib.hid (show ∀ v7 x', v7 = .bool true → Below x.heap.size x x' → K (a.put (some 63) v7) x' from hK)
          have Hbx := Lib.hid hbx
          clear hsame hpre hK hbx
          go_simp
          exact hk.out _ _ rfl (Below.refl _ _)
        · have q7 : a.tmps[7]?.getD undef = u7 := (hsame 7 (by decide +kernel)).trans f7
          have w63 : a.tmps[63]?.getD undef = .bool true := hpre ⟨1, .guard⟩ (by simp) rfl (by decide)
          refine step_wanted (wanted_of (j := 1) (t := 63) (b := true) rfl rfl w63) ?_
          have hk := Lib.hid (show ∀ v7 x', v7 = u7 → Below x.heap.size x x' → K (a.put (some 64) v7) x' from hK)
          have Hbx := Lib.hid hbx
          clear hsame hpre hK hbx w63
          go_simp
          exact hk.out _ _ rfl (Below.refl _ _)
        · have q0 : a.tmps[0]?.getD undef = .slice A1 n1 c1 := (hsame 0 (by decide +kernel)).trans f0
          have w63 : a.tmps[63]?.getD undef = .bool true := hpre ⟨1, .guard⟩ (by simp) rfl (by decide)
          refine step_wanted (wanted_of (j := 1) (t := 63) (b := true) rfl rfl w63) ?_
          have hk := Lib.hid (show ∀ v7 x', v7 = .slice A1 n1 c1 → Below x.heap.size x x' → K (a.put (some 65) v7) x' from hK)
          have Hbx := Lib.hid hbx
          clear hsame hpre hK hbx w63
          go_simp
          exact hk.out _ _ rfl (Below.refl _ _)
        · have q64 : a.tmps[64]?.getD undef = u7 := hpre ⟨2, .data⟩ (by simp) rfl (by decide)
          have q65 : a.tmps[65]?.getD undef = .slice A1 n1 c1 := hpre ⟨3, .data⟩ (by simp) rfl (by decide)
          have w63 : a.tmps[63]?.getD undef = .bool true := hpre ⟨1, .guard⟩ (by simp) rfl (by decide)
          refine step_wanted (wanted_of (j := 1) (t := 63) (b := true) rfl rfl w63) ?_
          have hk := Lib.hid (show ∀ v7 x', v7 = .bool true → Below x.heap.size x x' → K (a.put (some 66) v7) x' from hK)
          have Hbx := Lib.hid hbx
          clear hsame hpre hK hbx w63
          go_simp
          refine (erefsame_any _ _ _ _ L _ (HU9.out.grow Hbx.out) (HL9.out.grow Hbx.out)).mono ?_
          rintro e9 w9 ⟨rfl, hb9⟩
          go_simp
          exact hk.out _ _ rfl hb9
        · have q63 : a.tmps[63]?.getD undef = .bool true := hpre ⟨1, .data⟩ (by simp) rfl (by decide)
          have q66 : a.tmps[66]?.getD undef = .bool true := hpre ⟨4, .data⟩ (by simp) rfl (by decide)
          refine step_plain rfl ?_
          have hk := Lib.hid (show ∀ v7 x', v7 = .bool true → Below x.heap.size x x' → K (a.put (some 67) v7) x' from hK)
          have Hbx := Lib.hid hbx
          clear hsame hpre hK hbx
          go_simp
          exact hk.out _ _ rfl (Below.refl _ _)
        · have q67 : a.tmps[67]?.getD undef = .bool true := hpre ⟨5, .data⟩ (by simp) rfl (by decide)
          refine step_plain rfl ?_
          have hk := Lib.hid (show ∀ v7 x', v7 = .bool true → Below x.heap.size x x' → K (a.put (some 68) v7) x' from hK)
          have Hbx := Lib.hid hbx
          clear hsame hpre hK hbx
          go_simp
          exact hk.out _ _ rfl (Below.refl _ _)
        · have q5 : a.tmps[5]?.getD undef = .pointer (some ⟨w.heap.size, 0, none⟩) := (hsame 5 (by decide +kernel)).trans f5
          have w68 : a.tmps[68]?.getD undef = .bool true := hpre ⟨6, .guard⟩ (by simp) rfl (by decide)
          refine step_wanted (wanted_of (j := 6) (t := 68) (b := true) rfl rfl w68) ?_
          have hk := Lib.hid (show ∀ v7 x', v7 = .agg C → Below x.heap.size x x' → K (a.put (some 69) v7) x' from hK)
          have Hbx := Lib.hid hbx
          clear hsame hpre hK hbx w68
          refine wp_load_mid 29 (.tmp 5) rfl w.heap.size 0 (eval_at q5) C.toList _ (HrC.out _ (below_call Hb9.out Hbx.out)) Tryd.underlying29 rfl HinfC.out ?_
          exact hk.out _ _ rfl (Below.refl _ _)
        · have q69 : a.tmps[69]?.getD undef = .agg C := hpre ⟨7, .data⟩ (by simp) rfl (by decide)
          have w68 : a.tmps[68]?.getD undef = .bool true := hpre ⟨6, .guard⟩ (by simp) rfl (by decide)
          refine step_wanted (wanted_of (j := 6) (t := 68) (b := true) rfl rfl w68) ?_
          have hk := Lib.hid (show ∀ v7 x', v7 = .bool hb → Below x.heap.size x x' → K (a.put (some 70) v7) x' from hK)
          have Hbx := Lib.hid hbx
          clear hsame hpre hK hbx w68
          go_simp
          refine (Hhd.out _).mono ?_
          rintro e9 w9 ⟨rfl, hb9⟩
          go_simp
          exact hk.out _ _ rfl hb9
        · have q5 : a.tmps[5]?.getD undef = .pointer (some ⟨w.heap.size, 0, none⟩) := (hsame 5 (by decide +kernel)).trans f5
          have w68 : a.tmps[68]?.getD undef = .bool true := hpre ⟨6, .guard⟩ (by simp) rfl (by decide)
          refine step_wanted (wanted_of (j := 6) (t := 68) (b := true) rfl rfl w68) ?_
          have hk := Lib.hid (show ∀ v7 x', v7 = .agg C → Below x.heap.size x x' → K (a.put (some 71) v7) x' from hK)
          have Hbx := Lib.hid hbx
          clear hsame hpre hK hbx w68
          refine wp_load_mid 29 (.tmp 5) rfl w.heap.size 0 (eval_at q5) C.toList _ (HrC.out _ (below_call Hb9.out Hbx.out)) Tryd.underlying29 rfl HinfC.out ?_
          exact hk.out _ _ rfl (Below.refl _ _)
        · have q71 : a.tmps[71]?.getD undef = .agg C := hpre ⟨9, .data⟩ (by simp) rfl (by decide)
          have w68 : a.tmps[68]?.getD undef = .bool true := hpre ⟨6, .guard⟩ (by simp) rfl (by decide)
          refine step_wanted (wanted_of (j := 6) (t := 68) (b := true) rfl rfl w68) ?_
          have hk := Lib.hid (show ∀ v7 x', v7 = .bool hb → Below x.heap.size x x' → K (a.put (some 72) v7) x' from hK)
          have Hbx := Lib.hid hbx
          clear hsame hpre hK hbx w68
          go_simp
          refine (Hrhd.out _).mono ?_
          rintro e9 w9 ⟨rfl, hb9⟩
          go_simp
          exact hk.out _ _ rfl hb9
        · have q70 : a.tmps[70]?.getD undef = .bool hb := hpre ⟨8, .data⟩ (by simp) rfl (by decide)
          have q72 : a.tmps[72]?.getD undef = .bool hb := hpre ⟨10, .data⟩ (by simp) rfl (by decide)
          have w68 : a.tmps[68]?.getD undef = .bool true := hpre ⟨6, .guard⟩ (by simp) rfl (by decide)
          refine step_wanted (wanted_of (j := 6) (t := 68) (b := true) rfl rfl w68) ?_
          have hk := Lib.hid (show ∀ v7 x', v7 = .bool true → Below x.heap.size x x' → K (a.put (some 73) v7) x' from hK)
          have Hbx := Lib.hid hbx
          clear hsame hpre hK hbx w68
          cases hb
          all_goals go_simp
          all_goals exact hk.out _ _ rfl (Below.refl _ _)
        · have q68 : a.tmps[68]?.getD undef = .bool true := hpre ⟨6, .data⟩ (by simp) rfl (by decide)
          have q73 : a.tmps[73]?.getD undef = .bool true := hpre ⟨11, .data⟩ (by simp) rfl (by decide)
          refine step_plain rfl ?_
          have hk := Lib.hid (show ∀ v7 x', v7 = .bool true → Below x.heap.size x x' → K (a.put (some 74) v7) x' from hK)
          have Hbx := Lib.hid hbx
          clear hsame hpre hK hbx
          go_simp
          exact hk.out _ _ rfl (Below.refl _ _)
        · have q74 : a.tmps[74]?.getD undef = .bool true := hpre ⟨12, .data⟩ (by simp) rfl (by decide)
          refine step_plain rfl ?_
          have hk := Lib.hid (show ∀ v7 x', v7 = .bool true → Below x.heap.size x x' → K (a.put (some 6) v7) x' from hK)
          have Hbx := Lib.hid hbx
          clear hsame hpre hK hbx
          go_simp
          exact hk.out _ _ rfl (Below.refl _ _)
      intro a26 x26 hbx hsame hG hsz26 hde26
      replace f0 := (hsame 0 (by decide +kernel)).trans f0
      replace f1 := (hsame 1 (by decide +kernel)).trans f1
      replace f5 := (hsame 5 (by decide +kernel)).trans f5
      replace f7 := (hsame 7 (by decide +kernel)).trans f7
      replace f8 := (hsame 8 (by decide +kernel)).trans f8
      have f6 : a26.tmps[6]?.getD undef = .bool true := hG 13 (by decide)
      have Hbx26 := Lib.hid hbx
      have hsz26h := Lib.hid hsz26
      have hde26h := Lib.hid (hde26.trans hde25h.out)
      clear hsame hG hbx hsz26 hde26 hsz25h hde25h
      have Hb10 := Lib.hid (below_call Hb9.out Hbx26.out)
      clear Hbx26
      refine then_go ?_
      refine wp_ret ?_
      refine (ret_tmp (R := fun e2 w2 => e2 = .returned (.bool true) ∧ Below w.heap.size w w2) Tryd.results3 hde26h f6 ?_)
      exact ⟨rfl, below_call Hbel.out Hb10.out⟩
end Go.Proofs.YtckibimganmklaaDoor
