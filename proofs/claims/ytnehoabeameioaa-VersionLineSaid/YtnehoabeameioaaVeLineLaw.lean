/-
  The walk of VersionLine.
-/
import Derived.Test.YtnehoabeameioaaVeLives
import Derived.Test.YtnehoabeameioaaVeHeads
import Derived.Test.YtnehoabeameioaaVeRef
import Derived.Test.YtnehoabeameioaaVeLineMath
import Derived.BigFrame
namespace Go.Proofs.Ytnehoabeameioaa
open Go.RowKit
set_option maxRecDepth 100000

set_option maxHeartbeats 40000000 in
theorem versionline_walk (v : Value) (SS : List (List UInt8)) (off : Int) (w : World) (hL : IsL kStr w (fun _ => True) v SS) :
    Calls Try.prog 7 #[v, .int .i64 off] w fun e w' => e = .returned (.bool true) ∧ Below w.heap.size w w' := by
  have Hl := Lib.hid fun z => lives11_any z
  obtain ⟨A, c, hve, hc1, hc2, hE⟩ := hL.elem (by show 0 < 1; omega)
  subst hve
  have Hel := Lib.hid hE
  obtain ⟨n, hn⟩ : ∃ n, n = SS.length := ⟨_, rfl⟩
  rw [← hn] at hc1 ⊢
  have Hn := Lib.hid hn
  have hm : maxLen ≤ 9223372036854775807 := by decide
  clear hE hn hL
  go_enter Try.func7, Try.ntmps7
  refine enter_abs (N := 171) rfl rfl fun a0 hsz0 hde0 hk => ?_
  have f0 : a0.tmps[0]?.getD undef = .slice A n c := hk 0
  have f1 : a0.tmps[1]?.getD undef = .int .i64 off := hk 1
  clear hk
  repeat with_reducible refine wp_seq ?_
  refine wp_region_lit ?_
  refine wpList_next rfl hsz0 hde0 4 rfl (by decide) fun K hK => ?_
  go_simp
  refine hK _ _ fun a1 hsz1 hde1 f4 hk => ?_
  clear hK K
  replace f0 := (hk 0 (by decide)).trans f0
  replace f1 := (hk 1 (by decide)).trans f1
  replace f4 : a1.tmps[4]?.getD undef = .bool false := f4
  clear hk hsz0 hde0
  refine wpList_nil ?_
  refine then_go ?_
  repeat with_reducible refine wp_seq ?_
  by_cases hn20 : 20 < n
  · have hd20 : decide ((20 : Int) < (n : Int)) = true := decide_eq_true (by omega)
    refine wp_region_lit ?_
    refine wpList_next rfl hsz1 hde1 18 rfl (by decide) fun K hK => ?_
    go_simp
    refine (Hl.out _).mono ?_
    rintro e1 w1 ⟨rfl, hb1⟩
    go_simp
    refine hK _ _ fun a2 hsz2 hde2 f18 hk => ?_
    clear hK K
    replace f0 := (hk 0 (by decide)).trans f0
    replace f1 := (hk 1 (by decide)).trans f1
    replace f4 := (hk 4 (by decide)).trans f4
    replace f18 : a2.tmps[18]?.getD undef = .bool true := f18
    clear hk hsz1 hde1
    refine wpList_next rfl hsz2 hde2 19 rfl (by decide) fun K hK => ?_
    go_simp
    refine hK _ _ fun a3 hsz3 hde3 f19 hk => ?_
    clear hK K
    replace f0 := (hk 0 (by decide)).trans f0
    replace f1 := (hk 1 (by decide)).trans f1
    replace f4 := (hk 4 (by decide)).trans f4
    replace f19 : a3.tmps[19]?.getD undef = .bool false := f19
    clear hk hsz2 hde2 f18
    refine wpList_next rfl hsz3 hde3 20 rfl (by decide) fun K hK => ?_
    go_simp
    refine hK _ _ fun a4 hsz4 hde4 f20 hk => ?_
    clear hK K
    replace f0 := (hk 0 (by decide)).trans f0
    replace f1 := (hk 1 (by decide)).trans f1
    replace f4 := (hk 4 (by decide)).trans f4
    replace f20 : a4.tmps[20]?.getD undef = .bool false := f20
    clear hk hsz3 hde3 f19
    refine wpList_nextg (wanted_of (j := 2) (t := 20) (b := false) rfl rfl f20) hsz4 hde4 21 rfl (by decide) fun K hK => ?_
    go_simp
    refine hK _ _ fun a5 hsz5 hde5 f21 hk => ?_
    clear hK K
    replace f0 := (hk 0 (by decide)).trans f0
    replace f1 := (hk 1 (by decide)).trans f1
    replace f4 := (hk 4 (by decide)).trans f4
    replace f20 := (hk 20 (by decide)).trans f20
    clear hk hsz4 hde4
    refine wpList_nextg (wanted_of (j := 2) (t := 20) (b := false) rfl rfl f20) hsz5 hde5 22 rfl (by decide) fun K hK => ?_
    go_simp
    refine hK _ _ fun a6 hsz6 hde6 f22 hk => ?_
    clear hK K
    replace f0 := (hk 0 (by decide)).trans f0
    replace f1 := (hk 1 (by decide)).trans f1
    replace f4 := (hk 4 (by decide)).trans f4
    replace f20 := (hk 20 (by decide)).trans f20
    clear hk hsz5 hde5 f21
    refine wpList_nextg (wanted_of (j := 2) (t := 20) (b := false) rfl rfl f20) hsz6 hde6 23 rfl (by decide) fun K hK => ?_
    go_simp
    refine hK _ _ fun a7 hsz7 hde7 f23 hk => ?_
    clear hK K
    replace f0 := (hk 0 (by decide)).trans f0
    replace f1 := (hk 1 (by decide)).trans f1
    replace f4 := (hk 4 (by decide)).trans f4
    replace f20 := (hk 20 (by decide)).trans f20
    clear hk hsz6 hde6 f22
    replace f23 : a7.tmps[23]?.getD undef = .bool true := f23.trans (by first | rfl | simp [hn20])
    refine wpList_next rfl hsz7 hde7 24 rfl (by decide) fun K hK => ?_
    go_simp
    refine hK _ _ fun a8 hsz8 hde8 f24 hk => ?_
    clear hK K
    replace f0 := (hk 0 (by decide)).trans f0
    replace f1 := (hk 1 (by decide)).trans f1
    replace f4 := (hk 4 (by decide)).trans f4
    clear hk hsz7 hde7 f20 f23
    replace f24 : a8.tmps[24]?.getD undef = .bool true := f24
    refine wpList_nil ?_
    refine then_go ?_
    repeat with_reducible refine wp_seq ?_
    refine wp_cond_true (eval_at f24) ?_
    clear f24
    repeat with_reducible refine wp_seq ?_
    refine wp_region_lit ?_
    refine wpList_next rfl hsz8 hde8 25 rfl (by decide) fun K hK => ?_
    go_simp
    refine (Hl.out _).mono ?_
    rintro e2 w2 ⟨rfl, hb2⟩
    go_simp
    refine hK _ _ fun a9 hsz9 hde9 f25 hk => ?_
    clear hK K
    replace f0 := (hk 0 (by decide)).trans f0
    replace f1 := (hk 1 (by decide)).trans f1
    replace f4 := (hk 4 (by decide)).trans f4
    replace f25 : a9.tmps[25]?.getD undef = .bool true := f25
    clear hk hsz8 hde8
    refine wpList_next rfl hsz9 hde9 4 rfl (by decide) fun K hK => ?_
    go_simp
    refine hK _ _ fun a10 hsz10 hde10 f4 hk => ?_
    clear hK K
    replace f0 := (hk 0 (by decide)).trans f0
    replace f1 := (hk 1 (by decide)).trans f1
    replace f4 : a10.tmps[4]?.getD undef = .bool true := f4
    clear hk hsz9 hde9 f25
    refine wpList_nil ?_
    refine then_go ?_
    refine wp_ret ?_
    refine (ret_tmp (R := fun e2 w2 => e2 = .returned (.bool true) ∧ Below w.heap.size w w2) Try.results7 hde10 f4 ?_)
    exact ⟨rfl, below_call hb1 hb2⟩
  · have hd20 : decide ((20 : Int) < (n : Int)) = false := decide_eq_false (by omega)
    refine wp_region_lit ?_
    refine wpList_next rfl hsz1 hde1 18 rfl (by decide) fun K hK => ?_
    go_simp
    refine (Hl.out _).mono ?_
    rintro e1 w1 ⟨rfl, hb1⟩
    go_simp
    refine hK _ _ fun a2 hsz2 hde2 f18 hk => ?_
    clear hK K
    replace f0 := (hk 0 (by decide)).trans f0
    replace f1 := (hk 1 (by decide)).trans f1
    replace f4 := (hk 4 (by decide)).trans f4
    replace f18 : a2.tmps[18]?.getD undef = .bool true := f18
    clear hk hsz1 hde1
    refine wpList_next rfl hsz2 hde2 19 rfl (by decide) fun K hK => ?_
    go_simp
    refine hK _ _ fun a3 hsz3 hde3 f19 hk => ?_
    clear hK K
    replace f0 := (hk 0 (by decide)).trans f0
    replace f1 := (hk 1 (by decide)).trans f1
    replace f4 := (hk 4 (by decide)).trans f4
    replace f19 : a3.tmps[19]?.getD undef = .bool false := f19
    clear hk hsz2 hde2 f18
    refine wpList_next rfl hsz3 hde3 20 rfl (by decide) fun K hK => ?_
    go_simp
    refine hK _ _ fun a4 hsz4 hde4 f20 hk => ?_
    clear hK K
    replace f0 := (hk 0 (by decide)).trans f0
    replace f1 := (hk 1 (by decide)).trans f1
    replace f4 := (hk 4 (by decide)).trans f4
    replace f20 : a4.tmps[20]?.getD undef = .bool false := f20
    clear hk hsz3 hde3 f19
    refine wpList_nextg (wanted_of (j := 2) (t := 20) (b := false) rfl rfl f20) hsz4 hde4 21 rfl (by decide) fun K hK => ?_
    go_simp
    refine hK _ _ fun a5 hsz5 hde5 f21 hk => ?_
    clear hK K
    replace f0 := (hk 0 (by decide)).trans f0
    replace f1 := (hk 1 (by decide)).trans f1
    replace f4 := (hk 4 (by decide)).trans f4
    replace f20 := (hk 20 (by decide)).trans f20
    clear hk hsz4 hde4
    refine wpList_nextg (wanted_of (j := 2) (t := 20) (b := false) rfl rfl f20) hsz5 hde5 22 rfl (by decide) fun K hK => ?_
    go_simp
    refine hK _ _ fun a6 hsz6 hde6 f22 hk => ?_
    clear hK K
    replace f0 := (hk 0 (by decide)).trans f0
    replace f1 := (hk 1 (by decide)).trans f1
    replace f4 := (hk 4 (by decide)).trans f4
    replace f20 := (hk 20 (by decide)).trans f20
    clear hk hsz5 hde5 f21
    refine wpList_nextg (wanted_of (j := 2) (t := 20) (b := false) rfl rfl f20) hsz6 hde6 23 rfl (by decide) fun K hK => ?_
    go_simp
    refine hK _ _ fun a7 hsz7 hde7 f23 hk => ?_
    clear hK K
    replace f0 := (hk 0 (by decide)).trans f0
    replace f1 := (hk 1 (by decide)).trans f1
    replace f4 := (hk 4 (by decide)).trans f4
    replace f20 := (hk 20 (by decide)).trans f20
    clear hk hsz6 hde6 f22
    replace f23 : a7.tmps[23]?.getD undef = .bool false := f23.trans (by first | rfl | simp [hn20])
    refine wpList_next rfl hsz7 hde7 24 rfl (by decide) fun K hK => ?_
    go_simp
    refine hK _ _ fun a8 hsz8 hde8 f24 hk => ?_
    clear hK K
    replace f0 := (hk 0 (by decide)).trans f0
    replace f1 := (hk 1 (by decide)).trans f1
    replace f4 := (hk 4 (by decide)).trans f4
    clear hk hsz7 hde7 f20 f23
    replace f24 : a8.tmps[24]?.getD undef = .bool false := f24
    refine wpList_nil ?_
    refine then_go ?_
    repeat with_reducible refine wp_seq ?_
    refine wp_cond_false (eval_at f24) ?_
    refine wp_skip ?_
    refine then_go ?_
    clear f24
    repeat with_reducible refine wp_seq ?_
    have Hb1 := Lib.hid hb1
    clear hb1 hd20
    refine wp_region_lit ?_
    refine wpList_next rfl hsz8 hde8 5 rfl (by decide) fun K hK => ?_
    go_simp
    refine hK _ _ fun a9 hsz9 hde9 f5 hk => ?_
    clear hK K
    replace f0 := (hk 0 (by decide)).trans f0
    replace f1 := (hk 1 (by decide)).trans f1
    replace f4 := (hk 4 (by decide)).trans f4
    replace f5 : a9.tmps[5]?.getD undef = .slice none 0 0 := f5
    clear hk hsz8 hde8
    refine wpList_nil ?_
    refine then_go ?_
    repeat with_reducible refine wp_seq ?_
    refine wp_region_lit ?_
    refine wpList_next rfl hsz9 hde9 6 rfl (by decide) fun K hK => ?_
    go_simp
    refine hK _ _ fun a10 hsz10 hde10 f6 hk => ?_
    clear hK K
    replace f0 := (hk 0 (by decide)).trans f0
    replace f1 := (hk 1 (by decide)).trans f1
    replace f4 := (hk 4 (by decide)).trans f4
    replace f5 := (hk 5 (by decide)).trans f5
    replace f6 : a10.tmps[6]?.getD undef = str [] := f6
    clear hk hsz9 hde9
    refine wpList_nil ?_
    refine then_go ?_
    repeat with_reducible refine wp_seq ?_
    refine wp_region_lit ?_
    refine wpList_next rfl hsz10 hde10 26 rfl (by decide) fun K hK => ?_
    go_simp
    refine hK _ _ fun a11 hsz11 hde11 f26 hk => ?_
    clear hK K
    replace f0 := (hk 0 (by decide)).trans f0
    replace f1 := (hk 1 (by decide)).trans f1
    replace f4 := (hk 4 (by decide)).trans f4
    replace f5 := (hk 5 (by decide)).trans f5
    replace f6 := (hk 6 (by decide)).trans f6
    replace f26 : a11.tmps[26]?.getD undef = .slice A n c := f26
    clear hk hsz10 hde10
    refine wpList_next rfl hsz11 hde11 27 rfl (by decide) fun K hK => ?_
    go_simp
    refine hK _ _ fun a12 hsz12 hde12 f27 hk => ?_
    clear hK K
    replace f0 := (hk 0 (by decide)).trans f0
    replace f1 := (hk 1 (by decide)).trans f1
    replace f4 := (hk 4 (by decide)).trans f4
    replace f5 := (hk 5 (by decide)).trans f5
    replace f6 := (hk 6 (by decide)).trans f6
    replace f26 := (hk 26 (by decide)).trans f26
    replace f27 : a12.tmps[27]?.getD undef = .int .i64 (n : Int) := f27
    clear hk hsz11 hde11
    refine wpList_next rfl hsz12 hde12 28 rfl (by decide) fun K hK => ?_
    go_simp
    refine hK _ _ fun a13 hsz13 hde13 f28 hk => ?_
    clear hK K
    replace f0 := (hk 0 (by decide)).trans f0
    replace f1 := (hk 1 (by decide)).trans f1
    replace f4 := (hk 4 (by decide)).trans f4
    replace f5 := (hk 5 (by decide)).trans f5
    replace f6 := (hk 6 (by decide)).trans f6
    replace f26 := (hk 26 (by decide)).trans f26
    replace f27 := (hk 27 (by decide)).trans f27
    replace f28 : a13.tmps[28]?.getD undef = .int .i64 ((0 : Nat) : Int) := f28
    clear hk hsz12 hde12
    refine wpList_nil ?_
    refine then_go ?_
    repeat with_reducible refine wp_seq ?_
    clear f0 f4
    refine wp_block ?_
    refine wp_loop (fun a wr => ∃ i : Nat, ∃ s5 : Value, ∃ D : List UInt8, ∃ L : List Ver, i ≤ n ∧ Hid (a.tmps.size = 171) ∧ Hid (a.defers = []) ∧ a.tmps[28]?.getD undef = .int .i64 (i : Int) ∧ a.tmps[5]?.getD undef = s5 ∧ a.tmps[6]?.getD undef = str D ∧ a.tmps[1]?.getD undef = .int .i64 off ∧ a.tmps[26]?.getD undef = .slice A n c ∧ a.tmps[27]?.getD undef = .int .i64 (n : Int) ∧ Hid (IsL kVer wr (fun _ => True) s5 L) ∧ Hid (LineOk i D L) ∧ Hid (Below w.heap.size w wr)) (fun a _ => n - (intOf (a.tmps[28]?.getD undef)).toNat) ?_ ?_
    · exact ⟨0, _, _, _, by omega, hsz13, hde13, f28, f5, f6, f1, f26, f27, (Lib.hid IsL.nil), (Lib.hid line_nil), Hb1⟩
    clear hsz13 hde13 f1 f5 f6 f26 f27 f28
    intro a14 wr hI
    obtain ⟨i, s5, D, L, hi, hsz14, hde14, f28, f5, f6, f1, f26, f27, HL, Hok, Hbw⟩ := hI
    have F28o := Lib.hid f28
    repeat with_reducible refine wp_seq ?_
    by_cases hlt : i < n
    · have hdi : decide ((i : Int) < (n : Int)) = true := decide_eq_true (by omega)
      have hil : i < SS.length := by rw [← Hn.out]; exact hlt
      obtain ⟨b, o, rfl, _, hbs, hel⟩ := Hel.out (by intro e; subst e; simp at hil)
      obtain ⟨cs, ⟨rfl, _⟩, hcs⟩ := hel i hil
      obtain ⟨s, hs⟩ : ∃ s, s = SS[i] := ⟨_, rfl⟩
      rw [← hs] at hcs
      have hcw : w.cell? ⟨b, o + i, none⟩ = some (str s) := by
        have := hcs 0 (by simp)
        simpa [kStr] using this
      have hcell : wr.cell? ⟨b, o + i, none⟩ = some (str s) := (Hbw.out.cell (World.block_lt_of_cell? w _ hcw)).trans hcw
      have hi20 := hn20
      clear hel hcs hcw hs hbs
      refine wp_region_lit ?_
      refine wpList_next rfl hsz14 hde14 29 rfl (by decide) fun K hK => ?_
      go_simp
      refine hK _ _ fun a15 hsz15 hde15 f29 hk => ?_
      clear hK K
      replace f28 := (hk 28 (by decide)).trans f28
      replace f5 := (hk 5 (by decide)).trans f5
      replace f6 := (hk 6 (by decide)).trans f6
      replace f1 := (hk 1 (by decide)).trans f1
      replace f26 := (hk 26 (by decide)).trans f26
      replace f27 := (hk 27 (by decide)).trans f27
      clear hk hsz14 hde14
      replace f29 : a15.tmps[29]?.getD undef = .bool true := f29.trans (by first | rfl | simp [hlt])
      refine wpList_nil ?_
      refine then_go ?_
      repeat with_reducible refine wp_seq ?_
      refine wp_cond_true (eval_at f29) ?_
      refine wp_skip ?_
      refine then_go ?_
      clear f29
      repeat with_reducible refine wp_seq ?_
      refine wp_block ?_
      repeat with_reducible refine wp_seq ?_
      refine wp_region_lit ?_
      refine wpList_next rfl hsz15 hde15 30 rfl (by decide) fun K hK => ?_
      go_simp
      refine hK _ _ fun a16 hsz16 hde16 f30 hk => ?_
      clear hK K
      replace f28 := (hk 28 (by decide)).trans f28
      replace f5 := (hk 5 (by decide)).trans f5
      replace f6 := (hk 6 (by decide)).trans f6
      replace f1 := (hk 1 (by decide)).trans f1
      replace f26 := (hk 26 (by decide)).trans f26
      replace f27 := (hk 27 (by decide)).trans f27
      replace f30 : a16.tmps[30]?.getD undef = .int .i64 (i : Int) := f30
      clear hk hsz15 hde15
      refine wpList_next rfl hsz16 hde16 31 rfl (by decide) fun K hK => ?_
      go_simp
      refine hK _ _ fun a17 hsz17 hde17 f31 hk => ?_
      clear hK K
      replace f28 := (hk 28 (by decide)).trans f28
      replace f5 := (hk 5 (by decide)).trans f5
      replace f6 := (hk 6 (by decide)).trans f6
      replace f1 := (hk 1 (by decide)).trans f1
      replace f26 := (hk 26 (by decide)).trans f26
      replace f27 := (hk 27 (by decide)).trans f27
      replace f30 := (hk 30 (by decide)).trans f30
      replace f31 : a17.tmps[31]?.getD undef = .pointer (some ⟨b, o + i, none⟩) := f31
      clear hk hsz16 hde16
      refine wpList_next rfl hsz17 hde17 32 rfl (by decide) fun K hK => ?_
      go_simp
      refine hK _ _ fun a18 hsz18 hde18 f32 hk => ?_
      clear hK K
      replace f28 := (hk 28 (by decide)).trans f28
      replace f5 := (hk 5 (by decide)).trans f5
      replace f6 := (hk 6 (by decide)).trans f6
      replace f1 := (hk 1 (by decide)).trans f1
      replace f26 := (hk 26 (by decide)).trans f26
      replace f27 := (hk 27 (by decide)).trans f27
      replace f30 := (hk 30 (by decide)).trans f30
      replace f32 : a18.tmps[32]?.getD undef = str s := f32
      clear hk hsz17 hde17 f31
      refine wpList_next rfl hsz18 hde18 7 rfl (by decide) fun K hK => ?_
      go_simp
      refine hK _ _ fun a19 hsz19 hde19 f7 hk => ?_
      clear hK K
      replace f28 := (hk 28 (by decide)).trans f28
      replace f5 := (hk 5 (by decide)).trans f5
      replace f6 := (hk 6 (by decide)).trans f6
      replace f1 := (hk 1 (by decide)).trans f1
      replace f26 := (hk 26 (by decide)).trans f26
      replace f27 := (hk 27 (by decide)).trans f27
      replace f32 := (hk 32 (by decide)).trans f32
      replace f7 : a19.tmps[7]?.getD undef = .int .i64 (i : Int) := f7
      clear hk hsz18 hde18 f30
      refine wpList_next rfl hsz19 hde19 8 rfl (by decide) fun K hK => ?_
      go_simp
      refine hK _ _ fun a20 hsz20 hde20 f8 hk => ?_
      clear hK K
      replace f28 := (hk 28 (by decide)).trans f28
      replace f5 := (hk 5 (by decide)).trans f5
      replace f6 := (hk 6 (by decide)).trans f6
      replace f1 := (hk 1 (by decide)).trans f1
      replace f26 := (hk 26 (by decide)).trans f26
      replace f27 := (hk 27 (by decide)).trans f27
      replace f7 := (hk 7 (by decide)).trans f7
      replace f8 : a20.tmps[8]?.getD undef = str s := f8
      clear hk hsz19 hde19 f32
      refine wpList_nil ?_
      refine then_go ?_
      repeat with_reducible refine wp_seq ?_
      clear hcell
      by_cases h100 : 100 < s.length
      · have hd1 : decide ((100 : Int) < (s.length : Int)) = true := decide_eq_true (by omega)
        refine wp_region_lit ?_
        refine wpList_next rfl hsz20 hde20 33 rfl (by decide) fun K hK => ?_
        go_simp
        refine hK _ _ fun a21 hsz21 hde21 f33 hk => ?_
        clear hK K
        replace f28 := (hk 28 (by decide)).trans f28
        replace f5 := (hk 5 (by decide)).trans f5
        replace f6 := (hk 6 (by decide)).trans f6
        replace f1 := (hk 1 (by decide)).trans f1
        replace f26 := (hk 26 (by decide)).trans f26
        replace f27 := (hk 27 (by decide)).trans f27
        replace f7 := (hk 7 (by decide)).trans f7
        replace f8 := (hk 8 (by decide)).trans f8
        replace f33 : a21.tmps[33]?.getD undef = str s := f33
        clear hk hsz20 hde20
        refine wpList_next rfl hsz21 hde21 34 rfl (by decide) fun K hK => ?_
        go_simp
        refine hK _ _ fun a22 hsz22 hde22 f34 hk => ?_
        clear hK K
        replace f28 := (hk 28 (by decide)).trans f28
        replace f5 := (hk 5 (by decide)).trans f5
        replace f6 := (hk 6 (by decide)).trans f6
        replace f1 := (hk 1 (by decide)).trans f1
        replace f26 := (hk 26 (by decide)).trans f26
        replace f27 := (hk 27 (by decide)).trans f27
        replace f7 := (hk 7 (by decide)).trans f7
        replace f8 := (hk 8 (by decide)).trans f8
        clear hk hsz21 hde21 f33
        replace f34 : a22.tmps[34]?.getD undef = .int .i64 (s.length : Int) := f34.trans (by first | rfl | simp)
        refine wpList_next rfl hsz22 hde22 35 rfl (by decide) fun K hK => ?_
        go_simp
        refine hK _ _ fun a23 hsz23 hde23 f35 hk => ?_
        clear hK K
        replace f28 := (hk 28 (by decide)).trans f28
        replace f5 := (hk 5 (by decide)).trans f5
        replace f6 := (hk 6 (by decide)).trans f6
        replace f1 := (hk 1 (by decide)).trans f1
        replace f26 := (hk 26 (by decide)).trans f26
        replace f27 := (hk 27 (by decide)).trans f27
        replace f7 := (hk 7 (by decide)).trans f7
        replace f8 := (hk 8 (by decide)).trans f8
        clear hk hsz22 hde22 f34
        replace f35 : a23.tmps[35]?.getD undef = .bool true := f35.trans (by first | rfl | simp [h100])
        refine wpList_nil ?_
        refine then_go ?_
        repeat with_reducible refine wp_seq ?_
        refine wp_cond_true (eval_at f35) ?_
        repeat with_reducible refine wp_seq ?_
        refine wp_region_lit ?_
        refine wpList_next rfl hsz23 hde23 4 rfl (by decide) fun K hK => ?_
        go_simp
        refine hK _ _ fun a24 hsz24 hde24 f4 hk => ?_
        clear hK K
        replace f28 := (hk 28 (by decide)).trans f28
        replace f5 := (hk 5 (by decide)).trans f5
        replace f6 := (hk 6 (by decide)).trans f6
        replace f1 := (hk 1 (by decide)).trans f1
        replace f26 := (hk 26 (by decide)).trans f26
        replace f27 := (hk 27 (by decide)).trans f27
        replace f7 := (hk 7 (by decide)).trans f7
        replace f8 := (hk 8 (by decide)).trans f8
        replace f35 := (hk 35 (by decide)).trans f35
        replace f4 : a24.tmps[4]?.getD undef = .bool true := f4
        clear hk hsz23 hde23
        refine wpList_nil ?_
        refine then_go ?_
        refine wp_ret ?_
        refine (ret_tmp (R := fun e2 w2 => e2 = .returned (.bool true) ∧ Below w.heap.size w w2) Try.results7 hde24 f4 ?_)
        exact ⟨rfl, Hbw.out⟩
      · have hd1 : decide ((100 : Int) < (s.length : Int)) = false := decide_eq_false (by omega)
        refine wp_region_lit ?_
        refine wpList_next rfl hsz20 hde20 33 rfl (by decide) fun K hK => ?_
        go_simp
        refine hK _ _ fun a21 hsz21 hde21 f33 hk => ?_
        clear hK K
        replace f28 := (hk 28 (by decide)).trans f28
        replace f5 := (hk 5 (by decide)).trans f5
        replace f6 := (hk 6 (by decide)).trans f6
        replace f1 := (hk 1 (by decide)).trans f1
        replace f26 := (hk 26 (by decide)).trans f26
        replace f27 := (hk 27 (by decide)).trans f27
        replace f7 := (hk 7 (by decide)).trans f7
        replace f8 := (hk 8 (by decide)).trans f8
        replace f33 : a21.tmps[33]?.getD undef = str s := f33
        clear hk hsz20 hde20
        refine wpList_next rfl hsz21 hde21 34 rfl (by decide) fun K hK => ?_
        go_simp
        refine hK _ _ fun a22 hsz22 hde22 f34 hk => ?_
        clear hK K
        replace f28 := (hk 28 (by decide)).trans f28
        replace f5 := (hk 5 (by decide)).trans f5
        replace f6 := (hk 6 (by decide)).trans f6
        replace f1 := (hk 1 (by decide)).trans f1
        replace f26 := (hk 26 (by decide)).trans f26
        replace f27 := (hk 27 (by decide)).trans f27
        replace f7 := (hk 7 (by decide)).trans f7
        replace f8 := (hk 8 (by decide)).trans f8
        clear hk hsz21 hde21 f33
        replace f34 : a22.tmps[34]?.getD undef = .int .i64 (s.length : Int) := f34.trans (by first | rfl | simp)
        refine wpList_next rfl hsz22 hde22 35 rfl (by decide) fun K hK => ?_
        go_simp
        refine hK _ _ fun a23 hsz23 hde23 f35 hk => ?_
        clear hK K
        replace f28 := (hk 28 (by decide)).trans f28
        replace f5 := (hk 5 (by decide)).trans f5
        replace f6 := (hk 6 (by decide)).trans f6
        replace f1 := (hk 1 (by decide)).trans f1
        replace f26 := (hk 26 (by decide)).trans f26
        replace f27 := (hk 27 (by decide)).trans f27
        replace f7 := (hk 7 (by decide)).trans f7
        replace f8 := (hk 8 (by decide)).trans f8
        clear hk hsz22 hde22 f34
        replace f35 : a23.tmps[35]?.getD undef = .bool false := f35.trans (by first | rfl | simp [h100])
        refine wpList_nil ?_
        refine then_go ?_
        repeat with_reducible refine wp_seq ?_
        refine wp_cond_false (eval_at f35) ?_
        refine wp_skip ?_
        refine then_go ?_
        clear f35
        repeat with_reducible refine wp_seq ?_
        clear hd1
        refine wp_region_lit ?_
        refine wpList_next rfl hsz23 hde23 36 rfl (by decide) fun K hK => ?_
        go_simp
        refine hK _ _ fun a24 hsz24 hde24 f36 hk => ?_
        clear hK K
        replace f28 := (hk 28 (by decide)).trans f28
        replace f5 := (hk 5 (by decide)).trans f5
        replace f6 := (hk 6 (by decide)).trans f6
        replace f1 := (hk 1 (by decide)).trans f1
        replace f26 := (hk 26 (by decide)).trans f26
        replace f27 := (hk 27 (by decide)).trans f27
        replace f7 := (hk 7 (by decide)).trans f7
        replace f8 := (hk 8 (by decide)).trans f8
        replace f36 : a24.tmps[36]?.getD undef = .int .i64 off := f36
        clear hk hsz23 hde23
        refine wpList_next rfl hsz24 hde24 37 rfl (by decide) fun K hK => ?_
        go_simp
        refine hK _ _ fun a25 hsz25 hde25 f37 hk => ?_
        clear hK K
        replace f28 := (hk 28 (by decide)).trans f28
        replace f5 := (hk 5 (by decide)).trans f5
        replace f6 := (hk 6 (by decide)).trans f6
        replace f1 := (hk 1 (by decide)).trans f1
        replace f26 := (hk 26 (by decide)).trans f26
        replace f27 := (hk 27 (by decide)).trans f27
        replace f7 := (hk 7 (by decide)).trans f7
        replace f8 := (hk 8 (by decide)).trans f8
        replace f36 := (hk 36 (by decide)).trans f36
        replace f37 : a25.tmps[37]?.getD undef = .int .i64 (i : Int) := f37
        clear hk hsz24 hde24
        refine wpList_next rfl hsz25 hde25 38 rfl (by decide) fun K hK => ?_
        go_simp
        refine hK _ _ fun a26 hsz26 hde26 f38 hk => ?_
        clear hK K
        replace f28 := (hk 28 (by decide)).trans f28
        replace f5 := (hk 5 (by decide)).trans f5
        replace f6 := (hk 6 (by decide)).trans f6
        replace f1 := (hk 1 (by decide)).trans f1
        replace f26 := (hk 26 (by decide)).trans f26
        replace f27 := (hk 27 (by decide)).trans f27
        replace f7 := (hk 7 (by decide)).trans f7
        replace f8 := (hk 8 (by decide)).trans f8
        clear hk hsz25 hde25 f36 f37
        refine wpList_next rfl hsz26 hde26 39 rfl (by decide) fun K hK => ?_
        go_simp
        refine hK _ _ fun a27 hsz27 hde27 f39 hk => ?_
        clear hK K
        replace f28 := (hk 28 (by decide)).trans f28
        replace f5 := (hk 5 (by decide)).trans f5
        replace f6 := (hk 6 (by decide)).trans f6
        replace f1 := (hk 1 (by decide)).trans f1
        replace f26 := (hk 26 (by decide)).trans f26
        replace f27 := (hk 27 (by decide)).trans f27
        replace f7 := (hk 7 (by decide)).trans f7
        replace f8 := (hk 8 (by decide)).trans f8
        clear hk hsz26 hde26 f38
        refine wpList_next rfl hsz27 hde27 40 rfl (by decide) fun K hK => ?_
        go_simp
        refine hK _ _ fun a28 hsz28 hde28 f40 hk => ?_
        clear hK K
        replace f28 := (hk 28 (by decide)).trans f28
        replace f5 := (hk 5 (by decide)).trans f5
        replace f6 := (hk 6 (by decide)).trans f6
        replace f1 := (hk 1 (by decide)).trans f1
        replace f26 := (hk 26 (by decide)).trans f26
        replace f27 := (hk 27 (by decide)).trans f27
        replace f7 := (hk 7 (by decide)).trans f7
        replace f8 := (hk 8 (by decide)).trans f8
        clear hk hsz27 hde27 f39
        refine wpList_next rfl hsz28 hde28 41 rfl (by decide) fun K hK => ?_
        go_simp
        refine hK _ _ fun a29 hsz29 hde29 f41 hk => ?_
        clear hK K
        replace f28 := (hk 28 (by decide)).trans f28
        replace f5 := (hk 5 (by decide)).trans f5
        replace f6 := (hk 6 (by decide)).trans f6
        replace f1 := (hk 1 (by decide)).trans f1
        replace f26 := (hk 26 (by decide)).trans f26
        replace f27 := (hk 27 (by decide)).trans f27
        replace f7 := (hk 7 (by decide)).trans f7
        replace f8 := (hk 8 (by decide)).trans f8
        clear hk hsz28 hde28 f40
        refine wpList_next rfl hsz29 hde29 9 rfl (by decide) fun K hK => ?_
        go_simp
        refine hK _ _ fun a30 hsz30 hde30 f9 hk => ?_
        clear hK K
        replace f28 := (hk 28 (by decide)).trans f28
        replace f5 := (hk 5 (by decide)).trans f5
        replace f6 := (hk 6 (by decide)).trans f6
        replace f1 := (hk 1 (by decide)).trans f1
        replace f26 := (hk 26 (by decide)).trans f26
        replace f27 := (hk 27 (by decide)).trans f27
        replace f7 := (hk 7 (by decide)).trans f7
        replace f8 := (hk 8 (by decide)).trans f8
        clear hk hsz29 hde29 f41
        refine wpList_nil ?_
        obtain ⟨t, ht90, hte⟩ := at90 (IntKind.i64.wrap (off + (i : Int)))
        rw [hte] at f9
        clear hte
        refine then_go ?_
        repeat with_reducible refine wp_seq ?_
        have hD := Hok.out.last
        have hp := fun z : World => patch_any D (t : Int) s z (by omega) (by omega) (by omega)
        have hpv : patchV D (t : Int) s = (putB D t s, 0) := by unfold patchV; rw [if_neg (by omega), Int.toNat_natCast]
        rw [hpv] at hp
        have Hp := Lib.hid hp
        have hXl := putB_length D t s
        have Hat := Lib.hid (putB_at D t s)
        have Hels := Lib.hid (fun k hk ho => putB_else D t s k hk ho)
        obtain ⟨X, hX⟩ : ∃ X, X = putB D t s := ⟨_, rfl⟩
        rw [← hX] at Hp hXl Hat Hels
        have HXl := Lib.hid hXl
        clear hX hp hpv hXl
        refine wp_region_lit ?_
        refine wpList_next rfl hsz30 hde30 43 rfl (by decide) fun K hK => ?_
        go_simp
        refine hK _ _ fun a31 hsz31 hde31 f43 hk => ?_
        clear hK K
        replace f28 := (hk 28 (by decide)).trans f28
        replace f5 := (hk 5 (by decide)).trans f5
        replace f6 := (hk 6 (by decide)).trans f6
        replace f1 := (hk 1 (by decide)).trans f1
        replace f26 := (hk 26 (by decide)).trans f26
        replace f27 := (hk 27 (by decide)).trans f27
        replace f7 := (hk 7 (by decide)).trans f7
        replace f8 := (hk 8 (by decide)).trans f8
        replace f9 := (hk 9 (by decide)).trans f9
        replace f43 : a31.tmps[43]?.getD undef = str D := f43
        clear hk hsz30 hde30
        refine wpList_next rfl hsz31 hde31 44 rfl (by decide) fun K hK => ?_
        go_simp
        refine hK _ _ fun a32 hsz32 hde32 f44 hk => ?_
        clear hK K
        replace f28 := (hk 28 (by decide)).trans f28
        replace f5 := (hk 5 (by decide)).trans f5
        replace f6 := (hk 6 (by decide)).trans f6
        replace f1 := (hk 1 (by decide)).trans f1
        replace f26 := (hk 26 (by decide)).trans f26
        replace f27 := (hk 27 (by decide)).trans f27
        replace f7 := (hk 7 (by decide)).trans f7
        replace f8 := (hk 8 (by decide)).trans f8
        replace f9 := (hk 9 (by decide)).trans f9
        replace f43 := (hk 43 (by decide)).trans f43
        replace f44 : a32.tmps[44]?.getD undef = .int .i64 (t : Int) := f44
        clear hk hsz31 hde31
        refine wpList_next rfl hsz32 hde32 45 rfl (by decide) fun K hK => ?_
        go_simp
        refine hK _ _ fun a33 hsz33 hde33 f45 hk => ?_
        clear hK K
        replace f28 := (hk 28 (by decide)).trans f28
        replace f5 := (hk 5 (by decide)).trans f5
        replace f6 := (hk 6 (by decide)).trans f6
        replace f1 := (hk 1 (by decide)).trans f1
        replace f26 := (hk 26 (by decide)).trans f26
        replace f27 := (hk 27 (by decide)).trans f27
        replace f7 := (hk 7 (by decide)).trans f7
        replace f8 := (hk 8 (by decide)).trans f8
        replace f9 := (hk 9 (by decide)).trans f9
        replace f43 := (hk 43 (by decide)).trans f43
        replace f44 := (hk 44 (by decide)).trans f44
        replace f45 : a33.tmps[45]?.getD undef = str s := f45
        clear hk hsz32 hde32
        refine wpList_next rfl hsz33 hde33 46 rfl (by decide) fun K hK => ?_
        go_simp
        refine (Hp.out _).mono ?_
        rintro e2 w2 ⟨rfl, hb2⟩
        go_simp
        refine hK _ _ fun a34 hsz34 hde34 f46 hk => ?_
        clear hK K
        replace f28 := (hk 28 (by decide)).trans f28
        replace f5 := (hk 5 (by decide)).trans f5
        replace f6 := (hk 6 (by decide)).trans f6
        replace f1 := (hk 1 (by decide)).trans f1
        replace f26 := (hk 26 (by decide)).trans f26
        replace f27 := (hk 27 (by decide)).trans f27
        replace f7 := (hk 7 (by decide)).trans f7
        replace f8 := (hk 8 (by decide)).trans f8
        replace f9 := (hk 9 (by decide)).trans f9
        replace f46 : a34.tmps[46]?.getD undef = .tuple #[str X, .int .i64 0] := f46
        clear hk hsz33 hde33 f43 f44 f45
        refine wpList_next rfl hsz34 hde34 42 rfl (by decide) fun K hK => ?_
        go_simp
        refine hK _ _ fun a35 hsz35 hde35 f42 hk => ?_
        clear hK K
        replace f28 := (hk 28 (by decide)).trans f28
        replace f5 := (hk 5 (by decide)).trans f5
        replace f6 := (hk 6 (by decide)).trans f6
        replace f1 := (hk 1 (by decide)).trans f1
        replace f26 := (hk 26 (by decide)).trans f26
        replace f27 := (hk 27 (by decide)).trans f27
        replace f7 := (hk 7 (by decide)).trans f7
        replace f8 := (hk 8 (by decide)).trans f8
        replace f9 := (hk 9 (by decide)).trans f9
        replace f42 : a35.tmps[42]?.getD undef = .tuple #[str X, .int .i64 0] := f42
        clear hk hsz34 hde34 f46
        refine wpList_next rfl hsz35 hde35 47 rfl (by decide) fun K hK => ?_
        go_simp
        refine hK _ _ fun a36 hsz36 hde36 f47 hk => ?_
        clear hK K
        replace f28 := (hk 28 (by decide)).trans f28
        replace f5 := (hk 5 (by decide)).trans f5
        replace f6 := (hk 6 (by decide)).trans f6
        replace f1 := (hk 1 (by decide)).trans f1
        replace f26 := (hk 26 (by decide)).trans f26
        replace f27 := (hk 27 (by decide)).trans f27
        replace f7 := (hk 7 (by decide)).trans f7
        replace f8 := (hk 8 (by decide)).trans f8
        replace f9 := (hk 9 (by decide)).trans f9
        replace f42 := (hk 42 (by decide)).trans f42
        replace f47 : a36.tmps[47]?.getD undef = str X := f47
        clear hk hsz35 hde35
        refine wpList_next rfl hsz36 hde36 48 rfl (by decide) fun K hK => ?_
        go_simp
        refine hK _ _ fun a37 hsz37 hde37 f48 hk => ?_
        clear hK K
        replace f28 := (hk 28 (by decide)).trans f28
        replace f5 := (hk 5 (by decide)).trans f5
        replace f6 := (hk 6 (by decide)).trans f6
        replace f1 := (hk 1 (by decide)).trans f1
        replace f26 := (hk 26 (by decide)).trans f26
        replace f27 := (hk 27 (by decide)).trans f27
        replace f7 := (hk 7 (by decide)).trans f7
        replace f8 := (hk 8 (by decide)).trans f8
        replace f9 := (hk 9 (by decide)).trans f9
        replace f47 := (hk 47 (by decide)).trans f47
        replace f48 : a37.tmps[48]?.getD undef = .int .i64 0 := f48
        clear hk hsz36 hde36 f42
        refine wpList_next rfl hsz37 hde37 10 rfl (by decide) fun K hK => ?_
        go_simp
        refine hK _ _ fun a38 hsz38 hde38 f10 hk => ?_
        clear hK K
        replace f28 := (hk 28 (by decide)).trans f28
        replace f5 := (hk 5 (by decide)).trans f5
        replace f6 := (hk 6 (by decide)).trans f6
        replace f1 := (hk 1 (by decide)).trans f1
        replace f26 := (hk 26 (by decide)).trans f26
        replace f27 := (hk 27 (by decide)).trans f27
        replace f7 := (hk 7 (by decide)).trans f7
        replace f8 := (hk 8 (by decide)).trans f8
        replace f9 := (hk 9 (by decide)).trans f9
        replace f48 := (hk 48 (by decide)).trans f48
        replace f10 : a38.tmps[10]?.getD undef = str X := f10
        clear hk hsz37 hde37 f47
        refine wpList_next rfl hsz38 hde38 11 rfl (by decide) fun K hK => ?_
        go_simp
        refine hK _ _ fun a39 hsz39 hde39 f11 hk => ?_
        clear hK K
        replace f28 := (hk 28 (by decide)).trans f28
        replace f5 := (hk 5 (by decide)).trans f5
        replace f6 := (hk 6 (by decide)).trans f6
        replace f1 := (hk 1 (by decide)).trans f1
        replace f26 := (hk 26 (by decide)).trans f26
        replace f27 := (hk 27 (by decide)).trans f27
        replace f7 := (hk 7 (by decide)).trans f7
        replace f8 := (hk 8 (by decide)).trans f8
        replace f9 := (hk 9 (by decide)).trans f9
        replace f10 := (hk 10 (by decide)).trans f10
        replace f11 : a39.tmps[11]?.getD undef = .int .i64 0 := f11
        clear hk hsz38 hde38 f48
        refine wpList_nil ?_
        have Hb2 := Lib.hid (below_call Hbw.out hb2)
        have HL2 := Lib.hid (HL.out.grow hb2)
        clear hb2
        refine then_go ?_
        repeat with_reducible refine wp_seq ?_
        have hmx : max (D.length : Int) ((t : Int) + (s.length : Int)) = (X.length : Int) := by rw [HXl.out]; omega
        have hwr : IntKind.i64.wrap ((t : Int) + (s.length : Int)) = ((t + s.length : Nat) : Int) := by rw [IntKind.wrap_i64] <;> omega
        have hXt : t + s.length ≤ X.length := by rw [HXl.out]; omega
        have hsl := fun z => slice_at X t s.length hXt z
        rw [Hat.out] at hsl
        unfold str at hsl
        refine wp_region_lit ?_
        refine wpList_next rfl hsz39 hde39 49 rfl (by decide) fun K hK => ?_
        go_simp
        refine hK _ _ fun a40 hsz40 hde40 f49 hk => ?_
        clear hK K
        replace f28 := (hk 28 (by decide)).trans f28
        replace f5 := (hk 5 (by decide)).trans f5
        replace f6 := (hk 6 (by decide)).trans f6
        replace f1 := (hk 1 (by decide)).trans f1
        replace f26 := (hk 26 (by decide)).trans f26
        replace f27 := (hk 27 (by decide)).trans f27
        replace f7 := (hk 7 (by decide)).trans f7
        replace f8 := (hk 8 (by decide)).trans f8
        replace f9 := (hk 9 (by decide)).trans f9
        replace f10 := (hk 10 (by decide)).trans f10
        replace f11 := (hk 11 (by decide)).trans f11
        replace f49 : a40.tmps[49]?.getD undef = .int .i64 0 := f49
        clear hk hsz39 hde39
        refine wpList_next rfl hsz40 hde40 50 rfl (by decide) fun K hK => ?_
        go_simp
        refine hK _ _ fun a41 hsz41 hde41 f50 hk => ?_
        clear hK K
        replace f28 := (hk 28 (by decide)).trans f28
        replace f5 := (hk 5 (by decide)).trans f5
        replace f6 := (hk 6 (by decide)).trans f6
        replace f1 := (hk 1 (by decide)).trans f1
        replace f26 := (hk 26 (by decide)).trans f26
        replace f27 := (hk 27 (by decide)).trans f27
        replace f7 := (hk 7 (by decide)).trans f7
        replace f8 := (hk 8 (by decide)).trans f8
        replace f9 := (hk 9 (by decide)).trans f9
        replace f10 := (hk 10 (by decide)).trans f10
        replace f11 := (hk 11 (by decide)).trans f11
        replace f50 : a41.tmps[50]?.getD undef = .bool false := f50
        clear hk hsz40 hde40 f49
        refine wpList_next rfl hsz41 hde41 51 rfl (by decide) fun K hK => ?_
        go_simp
        refine hK _ _ fun a42 hsz42 hde42 f51 hk => ?_
        clear hK K
        replace f28 := (hk 28 (by decide)).trans f28
        replace f5 := (hk 5 (by decide)).trans f5
        replace f6 := (hk 6 (by decide)).trans f6
        replace f1 := (hk 1 (by decide)).trans f1
        replace f26 := (hk 26 (by decide)).trans f26
        replace f27 := (hk 27 (by decide)).trans f27
        replace f7 := (hk 7 (by decide)).trans f7
        replace f8 := (hk 8 (by decide)).trans f8
        replace f9 := (hk 9 (by decide)).trans f9
        replace f10 := (hk 10 (by decide)).trans f10
        replace f11 := (hk 11 (by decide)).trans f11
        replace f51 : a42.tmps[51]?.getD undef = .bool false := f51
        clear hk hsz41 hde41 f50
        refine wpList_nextg (wanted_of (j := 2) (t := 51) (b := false) rfl rfl f51) hsz42 hde42 52 rfl (by decide) fun K hK => ?_
        go_simp
        refine hK _ _ fun a43 hsz43 hde43 f52 hk => ?_
        clear hK K
        replace f28 := (hk 28 (by decide)).trans f28
        replace f5 := (hk 5 (by decide)).trans f5
        replace f6 := (hk 6 (by decide)).trans f6
        replace f1 := (hk 1 (by decide)).trans f1
        replace f26 := (hk 26 (by decide)).trans f26
        replace f27 := (hk 27 (by decide)).trans f27
        replace f7 := (hk 7 (by decide)).trans f7
        replace f8 := (hk 8 (by decide)).trans f8
        replace f9 := (hk 9 (by decide)).trans f9
        replace f10 := (hk 10 (by decide)).trans f10
        replace f11 := (hk 11 (by decide)).trans f11
        replace f51 := (hk 51 (by decide)).trans f51
        replace f52 : a43.tmps[52]?.getD undef = str X := f52
        clear hk hsz42 hde42
        refine wpList_nextg (wanted_of (j := 2) (t := 51) (b := false) rfl rfl f51) hsz43 hde43 53 rfl (by decide) fun K hK => ?_
        go_simp
        refine hK _ _ fun a44 hsz44 hde44 f53 hk => ?_
        clear hK K
        replace f28 := (hk 28 (by decide)).trans f28
        replace f5 := (hk 5 (by decide)).trans f5
        replace f6 := (hk 6 (by decide)).trans f6
        replace f1 := (hk 1 (by decide)).trans f1
        replace f26 := (hk 26 (by decide)).trans f26
        replace f27 := (hk 27 (by decide)).trans f27
        replace f7 := (hk 7 (by decide)).trans f7
        replace f8 := (hk 8 (by decide)).trans f8
        replace f9 := (hk 9 (by decide)).trans f9
        replace f10 := (hk 10 (by decide)).trans f10
        replace f11 := (hk 11 (by decide)).trans f11
        replace f51 := (hk 51 (by decide)).trans f51
        clear hk hsz43 hde43 f52
        replace f53 : a44.tmps[53]?.getD undef = .int .i64 (X.length : Int) := f53.trans (by first | rfl | simp)
        refine wpList_nextg (wanted_of (j := 2) (t := 51) (b := false) rfl rfl f51) hsz44 hde44 54 rfl (by decide) fun K hK => ?_
        go_simp
        refine hK _ _ fun a45 hsz45 hde45 f54 hk => ?_
        clear hK K
        replace f28 := (hk 28 (by decide)).trans f28
        replace f5 := (hk 5 (by decide)).trans f5
        replace f6 := (hk 6 (by decide)).trans f6
        replace f1 := (hk 1 (by decide)).trans f1
        replace f26 := (hk 26 (by decide)).trans f26
        replace f27 := (hk 27 (by decide)).trans f27
        replace f7 := (hk 7 (by decide)).trans f7
        replace f8 := (hk 8 (by decide)).trans f8
        replace f9 := (hk 9 (by decide)).trans f9
        replace f10 := (hk 10 (by decide)).trans f10
        replace f11 := (hk 11 (by decide)).trans f11
        replace f51 := (hk 51 (by decide)).trans f51
        replace f53 := (hk 53 (by decide)).trans f53
        replace f54 : a45.tmps[54]?.getD undef = str D := f54
        clear hk hsz44 hde44
        refine wpList_nextg (wanted_of (j := 2) (t := 51) (b := false) rfl rfl f51) hsz45 hde45 55 rfl (by decide) fun K hK => ?_
        go_simp
        refine hK _ _ fun a46 hsz46 hde46 f55 hk => ?_
        clear hK K
        replace f28 := (hk 28 (by decide)).trans f28
        replace f5 := (hk 5 (by decide)).trans f5
        replace f6 := (hk 6 (by decide)).trans f6
        replace f1 := (hk 1 (by decide)).trans f1
        replace f26 := (hk 26 (by decide)).trans f26
        replace f27 := (hk 27 (by decide)).trans f27
        replace f7 := (hk 7 (by decide)).trans f7
        replace f8 := (hk 8 (by decide)).trans f8
        replace f9 := (hk 9 (by decide)).trans f9
        replace f10 := (hk 10 (by decide)).trans f10
        replace f11 := (hk 11 (by decide)).trans f11
        replace f51 := (hk 51 (by decide)).trans f51
        replace f53 := (hk 53 (by decide)).trans f53
        clear hk hsz45 hde45 f54
        replace f55 : a46.tmps[55]?.getD undef = .int .i64 (D.length : Int) := f55.trans (by first | rfl | simp)
        refine wpList_nextg (wanted_of (j := 2) (t := 51) (b := false) rfl rfl f51) hsz46 hde46 56 rfl (by decide) fun K hK => ?_
        go_simp
        refine hK _ _ fun a47 hsz47 hde47 f56 hk => ?_
        clear hK K
        replace f28 := (hk 28 (by decide)).trans f28
        replace f5 := (hk 5 (by decide)).trans f5
        replace f6 := (hk 6 (by decide)).trans f6
        replace f1 := (hk 1 (by decide)).trans f1
        replace f26 := (hk 26 (by decide)).trans f26
        replace f27 := (hk 27 (by decide)).trans f27
        replace f7 := (hk 7 (by decide)).trans f7
        replace f8 := (hk 8 (by decide)).trans f8
        replace f9 := (hk 9 (by decide)).trans f9
        replace f10 := (hk 10 (by decide)).trans f10
        replace f11 := (hk 11 (by decide)).trans f11
        replace f51 := (hk 51 (by decide)).trans f51
        replace f53 := (hk 53 (by decide)).trans f53
        replace f55 := (hk 55 (by decide)).trans f55
        replace f56 : a47.tmps[56]?.getD undef = .int .i64 (t : Int) := f56
        clear hk hsz46 hde46
        refine wpList_nextg (wanted_of (j := 2) (t := 51) (b := false) rfl rfl f51) hsz47 hde47 57 rfl (by decide) fun K hK => ?_
        go_simp
        refine hK _ _ fun a48 hsz48 hde48 f57 hk => ?_
        clear hK K
        replace f28 := (hk 28 (by decide)).trans f28
        replace f5 := (hk 5 (by decide)).trans f5
        replace f6 := (hk 6 (by decide)).trans f6
        replace f1 := (hk 1 (by decide)).trans f1
        replace f26 := (hk 26 (by decide)).trans f26
        replace f27 := (hk 27 (by decide)).trans f27
        replace f7 := (hk 7 (by decide)).trans f7
        replace f8 := (hk 8 (by decide)).trans f8
        replace f9 := (hk 9 (by decide)).trans f9
        replace f10 := (hk 10 (by decide)).trans f10
        replace f11 := (hk 11 (by decide)).trans f11
        replace f51 := (hk 51 (by decide)).trans f51
        replace f53 := (hk 53 (by decide)).trans f53
        replace f55 := (hk 55 (by decide)).trans f55
        replace f56 := (hk 56 (by decide)).trans f56
        replace f57 : a48.tmps[57]?.getD undef = str s := f57
        clear hk hsz47 hde47
        refine wpList_nextg (wanted_of (j := 2) (t := 51) (b := false) rfl rfl f51) hsz48 hde48 58 rfl (by decide) fun K hK => ?_
        go_simp
        refine hK _ _ fun a49 hsz49 hde49 f58 hk => ?_
        clear hK K
        replace f28 := (hk 28 (by decide)).trans f28
        replace f5 := (hk 5 (by decide)).trans f5
        replace f6 := (hk 6 (by decide)).trans f6
        replace f1 := (hk 1 (by decide)).trans f1
        replace f26 := (hk 26 (by decide)).trans f26
        replace f27 := (hk 27 (by decide)).trans f27
        replace f7 := (hk 7 (by decide)).trans f7
        replace f8 := (hk 8 (by decide)).trans f8
        replace f9 := (hk 9 (by decide)).trans f9
        replace f10 := (hk 10 (by decide)).trans f10
        replace f11 := (hk 11 (by decide)).trans f11
        replace f51 := (hk 51 (by decide)).trans f51
        replace f53 := (hk 53 (by decide)).trans f53
        replace f55 := (hk 55 (by decide)).trans f55
        replace f56 := (hk 56 (by decide)).trans f56
        clear hk hsz48 hde48 f57
        replace f58 : a49.tmps[58]?.getD undef = .int .i64 (s.length : Int) := f58.trans (by first | rfl | simp)
        refine wpList_nextg (wanted_of (j := 2) (t := 51) (b := false) rfl rfl f51) hsz49 hde49 59 rfl (by decide) fun K hK => ?_
        go_simp
        refine hK _ _ fun a50 hsz50 hde50 f59 hk => ?_
        clear hK K
        replace f28 := (hk 28 (by decide)).trans f28
        replace f5 := (hk 5 (by decide)).trans f5
        replace f6 := (hk 6 (by decide)).trans f6
        replace f1 := (hk 1 (by decide)).trans f1
        replace f26 := (hk 26 (by decide)).trans f26
        replace f27 := (hk 27 (by decide)).trans f27
        replace f7 := (hk 7 (by decide)).trans f7
        replace f8 := (hk 8 (by decide)).trans f8
        replace f9 := (hk 9 (by decide)).trans f9
        replace f10 := (hk 10 (by decide)).trans f10
        replace f11 := (hk 11 (by decide)).trans f11
        replace f51 := (hk 51 (by decide)).trans f51
        replace f53 := (hk 53 (by decide)).trans f53
        replace f55 := (hk 55 (by decide)).trans f55
        clear hk hsz49 hde49 f56 f58
        replace f59 : a50.tmps[59]?.getD undef = .int .i64 ((t + s.length : Nat) : Int) := f59.trans (by first | (congr 1; done) | (congr 1; first | exact hwr | omega))
        refine wpList_nextg (wanted_of (j := 2) (t := 51) (b := false) rfl rfl f51) hsz50 hde50 60 rfl (by decide) fun K hK => ?_
        go_simp
        refine hK _ _ fun a51 hsz51 hde51 f60 hk => ?_
        clear hK K
        replace f28 := (hk 28 (by decide)).trans f28
        replace f5 := (hk 5 (by decide)).trans f5
        replace f6 := (hk 6 (by decide)).trans f6
        replace f1 := (hk 1 (by decide)).trans f1
        replace f26 := (hk 26 (by decide)).trans f26
        replace f27 := (hk 27 (by decide)).trans f27
        replace f7 := (hk 7 (by decide)).trans f7
        replace f8 := (hk 8 (by decide)).trans f8
        replace f9 := (hk 9 (by decide)).trans f9
        replace f10 := (hk 10 (by decide)).trans f10
        replace f11 := (hk 11 (by decide)).trans f11
        replace f51 := (hk 51 (by decide)).trans f51
        replace f53 := (hk 53 (by decide)).trans f53
        clear hk hsz50 hde50 f55 f59
        replace f60 : a51.tmps[60]?.getD undef = .int .i64 (X.length : Int) := f60.trans (by first | (congr 1; done) | (congr 1; rw [HXl.out]; omega))
        refine wpList_nextg (wanted_of (j := 2) (t := 51) (b := false) rfl rfl f51) hsz51 hde51 61 rfl (by decide) fun K hK => ?_
        go_simp
        refine hK _ _ fun a52 hsz52 hde52 f61 hk => ?_
        clear hK K
        replace f28 := (hk 28 (by decide)).trans f28
        replace f5 := (hk 5 (by decide)).trans f5
        replace f6 := (hk 6 (by decide)).trans f6
        replace f1 := (hk 1 (by decide)).trans f1
        replace f26 := (hk 26 (by decide)).trans f26
        replace f27 := (hk 27 (by decide)).trans f27
        replace f7 := (hk 7 (by decide)).trans f7
        replace f8 := (hk 8 (by decide)).trans f8
        replace f9 := (hk 9 (by decide)).trans f9
        replace f10 := (hk 10 (by decide)).trans f10
        replace f11 := (hk 11 (by decide)).trans f11
        replace f51 := (hk 51 (by decide)).trans f51
        clear hk hsz51 hde51 f53 f60
        replace f61 : a52.tmps[61]?.getD undef = .bool false := f61.trans (by first | rfl | simp)
        refine wpList_next rfl hsz52 hde52 62 rfl (by decide) fun K hK => ?_
        go_simp
        refine hK _ _ fun a53 hsz53 hde53 f62 hk => ?_
        clear hK K
        replace f28 := (hk 28 (by decide)).trans f28
        replace f5 := (hk 5 (by decide)).trans f5
        replace f6 := (hk 6 (by decide)).trans f6
        replace f1 := (hk 1 (by decide)).trans f1
        replace f26 := (hk 26 (by decide)).trans f26
        replace f27 := (hk 27 (by decide)).trans f27
        replace f7 := (hk 7 (by decide)).trans f7
        replace f8 := (hk 8 (by decide)).trans f8
        replace f9 := (hk 9 (by decide)).trans f9
        replace f10 := (hk 10 (by decide)).trans f10
        replace f11 := (hk 11 (by decide)).trans f11
        replace f62 : a53.tmps[62]?.getD undef = .bool false := f62
        clear hk hsz52 hde52 f51 f61
        refine wpList_next rfl hsz53 hde53 63 rfl (by decide) fun K hK => ?_
        go_simp
        refine hK _ _ fun a54 hsz54 hde54 f63 hk => ?_
        clear hK K
        replace f28 := (hk 28 (by decide)).trans f28
        replace f5 := (hk 5 (by decide)).trans f5
        replace f6 := (hk 6 (by decide)).trans f6
        replace f1 := (hk 1 (by decide)).trans f1
        replace f26 := (hk 26 (by decide)).trans f26
        replace f27 := (hk 27 (by decide)).trans f27
        replace f7 := (hk 7 (by decide)).trans f7
        replace f8 := (hk 8 (by decide)).trans f8
        replace f9 := (hk 9 (by decide)).trans f9
        replace f10 := (hk 10 (by decide)).trans f10
        replace f11 := (hk 11 (by decide)).trans f11
        replace f63 : a54.tmps[63]?.getD undef = .bool false := f63
        clear hk hsz53 hde53 f62
        refine wpList_nextg (wanted_of (j := 14) (t := 63) (b := false) rfl rfl f63) hsz54 hde54 64 rfl (by decide) fun K hK => ?_
        go_simp
        refine hK _ _ fun a55 hsz55 hde55 f64 hk => ?_
        clear hK K
        replace f28 := (hk 28 (by decide)).trans f28
        replace f5 := (hk 5 (by decide)).trans f5
        replace f6 := (hk 6 (by decide)).trans f6
        replace f1 := (hk 1 (by decide)).trans f1
        replace f26 := (hk 26 (by decide)).trans f26
        replace f27 := (hk 27 (by decide)).trans f27
        replace f7 := (hk 7 (by decide)).trans f7
        replace f8 := (hk 8 (by decide)).trans f8
        replace f9 := (hk 9 (by decide)).trans f9
        replace f10 := (hk 10 (by decide)).trans f10
        replace f11 := (hk 11 (by decide)).trans f11
        replace f63 := (hk 63 (by decide)).trans f63
        replace f64 : a55.tmps[64]?.getD undef = str X := f64
        clear hk hsz54 hde54
        refine wpList_nextg (wanted_of (j := 14) (t := 63) (b := false) rfl rfl f63) hsz55 hde55 65 rfl (by decide) fun K hK => ?_
        go_simp
        refine hK _ _ fun a56 hsz56 hde56 f65 hk => ?_
        clear hK K
        replace f28 := (hk 28 (by decide)).trans f28
        replace f5 := (hk 5 (by decide)).trans f5
        replace f6 := (hk 6 (by decide)).trans f6
        replace f1 := (hk 1 (by decide)).trans f1
        replace f26 := (hk 26 (by decide)).trans f26
        replace f27 := (hk 27 (by decide)).trans f27
        replace f7 := (hk 7 (by decide)).trans f7
        replace f8 := (hk 8 (by decide)).trans f8
        replace f9 := (hk 9 (by decide)).trans f9
        replace f10 := (hk 10 (by decide)).trans f10
        replace f11 := (hk 11 (by decide)).trans f11
        replace f63 := (hk 63 (by decide)).trans f63
        replace f64 := (hk 64 (by decide)).trans f64
        replace f65 : a56.tmps[65]?.getD undef = .int .i64 (t : Int) := f65
        clear hk hsz55 hde55
        refine wpList_nextg (wanted_of (j := 14) (t := 63) (b := false) rfl rfl f63) hsz56 hde56 66 rfl (by decide) fun K hK => ?_
        go_simp
        refine hK _ _ fun a57 hsz57 hde57 f66 hk => ?_
        clear hK K
        replace f28 := (hk 28 (by decide)).trans f28
        replace f5 := (hk 5 (by decide)).trans f5
        replace f6 := (hk 6 (by decide)).trans f6
        replace f1 := (hk 1 (by decide)).trans f1
        replace f26 := (hk 26 (by decide)).trans f26
        replace f27 := (hk 27 (by decide)).trans f27
        replace f7 := (hk 7 (by decide)).trans f7
        replace f8 := (hk 8 (by decide)).trans f8
        replace f9 := (hk 9 (by decide)).trans f9
        replace f10 := (hk 10 (by decide)).trans f10
        replace f11 := (hk 11 (by decide)).trans f11
        replace f63 := (hk 63 (by decide)).trans f63
        replace f64 := (hk 64 (by decide)).trans f64
        replace f65 := (hk 65 (by decide)).trans f65
        replace f66 : a57.tmps[66]?.getD undef = .int .i64 (t : Int) := f66
        clear hk hsz56 hde56
        refine wpList_nextg (wanted_of (j := 14) (t := 63) (b := false) rfl rfl f63) hsz57 hde57 67 rfl (by decide) fun K hK => ?_
        go_simp
        refine hK _ _ fun a58 hsz58 hde58 f67 hk => ?_
        clear hK K
        replace f28 := (hk 28 (by decide)).trans f28
        replace f5 := (hk 5 (by decide)).trans f5
        replace f6 := (hk 6 (by decide)).trans f6
        replace f1 := (hk 1 (by decide)).trans f1
        replace f26 := (hk 26 (by decide)).trans f26
        replace f27 := (hk 27 (by decide)).trans f27
        replace f7 := (hk 7 (by decide)).trans f7
        replace f8 := (hk 8 (by decide)).trans f8
        replace f9 := (hk 9 (by decide)).trans f9
        replace f10 := (hk 10 (by decide)).trans f10
        replace f11 := (hk 11 (by decide)).trans f11
        replace f63 := (hk 63 (by decide)).trans f63
        replace f64 := (hk 64 (by decide)).trans f64
        replace f65 := (hk 65 (by decide)).trans f65
        replace f66 := (hk 66 (by decide)).trans f66
        replace f67 : a58.tmps[67]?.getD undef = str s := f67
        clear hk hsz57 hde57
        refine wpList_nextg (wanted_of (j := 14) (t := 63) (b := false) rfl rfl f63) hsz58 hde58 68 rfl (by decide) fun K hK => ?_
        go_simp
        refine hK _ _ fun a59 hsz59 hde59 f68 hk => ?_
        clear hK K
        replace f28 := (hk 28 (by decide)).trans f28
        replace f5 := (hk 5 (by decide)).trans f5
        replace f6 := (hk 6 (by decide)).trans f6
        replace f1 := (hk 1 (by decide)).trans f1
        replace f26 := (hk 26 (by decide)).trans f26
        replace f27 := (hk 27 (by decide)).trans f27
        replace f7 := (hk 7 (by decide)).trans f7
        replace f8 := (hk 8 (by decide)).trans f8
        replace f9 := (hk 9 (by decide)).trans f9
        replace f10 := (hk 10 (by decide)).trans f10
        replace f11 := (hk 11 (by decide)).trans f11
        replace f63 := (hk 63 (by decide)).trans f63
        replace f64 := (hk 64 (by decide)).trans f64
        replace f65 := (hk 65 (by decide)).trans f65
        replace f66 := (hk 66 (by decide)).trans f66
        clear hk hsz58 hde58 f67
        replace f68 : a59.tmps[68]?.getD undef = .int .i64 (s.length : Int) := f68.trans (by first | rfl | simp)
        refine wpList_nextg (wanted_of (j := 14) (t := 63) (b := false) rfl rfl f63) hsz59 hde59 69 rfl (by decide) fun K hK => ?_
        go_simp
        refine hK _ _ fun a60 hsz60 hde60 f69 hk => ?_
        clear hK K
        replace f28 := (hk 28 (by decide)).trans f28
        replace f5 := (hk 5 (by decide)).trans f5
        replace f6 := (hk 6 (by decide)).trans f6
        replace f1 := (hk 1 (by decide)).trans f1
        replace f26 := (hk 26 (by decide)).trans f26
        replace f27 := (hk 27 (by decide)).trans f27
        replace f7 := (hk 7 (by decide)).trans f7
        replace f8 := (hk 8 (by decide)).trans f8
        replace f9 := (hk 9 (by decide)).trans f9
        replace f10 := (hk 10 (by decide)).trans f10
        replace f11 := (hk 11 (by decide)).trans f11
        replace f63 := (hk 63 (by decide)).trans f63
        replace f64 := (hk 64 (by decide)).trans f64
        replace f65 := (hk 65 (by decide)).trans f65
        clear hk hsz59 hde59 f66 f68
        replace f69 : a60.tmps[69]?.getD undef = .int .i64 ((t + s.length : Nat) : Int) := f69.trans (by first | (congr 1; done) | (congr 1; first | exact hwr | omega))
        refine wpList_nextg (wanted_of (j := 14) (t := 63) (b := false) rfl rfl f63) hsz60 hde60 70 rfl (by decide) fun K hK => ?_
        go_simp
        refine hK _ _ fun a61 hsz61 hde61 f70 hk => ?_
        clear hK K
        replace f28 := (hk 28 (by decide)).trans f28
        replace f5 := (hk 5 (by decide)).trans f5
        replace f6 := (hk 6 (by decide)).trans f6
        replace f1 := (hk 1 (by decide)).trans f1
        replace f26 := (hk 26 (by decide)).trans f26
        replace f27 := (hk 27 (by decide)).trans f27
        replace f7 := (hk 7 (by decide)).trans f7
        replace f8 := (hk 8 (by decide)).trans f8
        replace f9 := (hk 9 (by decide)).trans f9
        replace f10 := (hk 10 (by decide)).trans f10
        replace f11 := (hk 11 (by decide)).trans f11
        replace f63 := (hk 63 (by decide)).trans f63
        clear hk hsz60 hde60 f64 f65 f69
        replace f70 : a61.tmps[70]?.getD undef = str s := f70
        refine wpList_nextg (wanted_of (j := 14) (t := 63) (b := false) rfl rfl f63) hsz61 hde61 71 rfl (by decide) fun K hK => ?_
        go_simp
        refine hK _ _ fun a62 hsz62 hde62 f71 hk => ?_
        clear hK K
        replace f28 := (hk 28 (by decide)).trans f28
        replace f5 := (hk 5 (by decide)).trans f5
        replace f6 := (hk 6 (by decide)).trans f6
        replace f1 := (hk 1 (by decide)).trans f1
        replace f26 := (hk 26 (by decide)).trans f26
        replace f27 := (hk 27 (by decide)).trans f27
        replace f7 := (hk 7 (by decide)).trans f7
        replace f8 := (hk 8 (by decide)).trans f8
        replace f9 := (hk 9 (by decide)).trans f9
        replace f10 := (hk 10 (by decide)).trans f10
        replace f11 := (hk 11 (by decide)).trans f11
        replace f63 := (hk 63 (by decide)).trans f63
        replace f70 := (hk 70 (by decide)).trans f70
        replace f71 : a62.tmps[71]?.getD undef = str s := f71
        clear hk hsz61 hde61
        refine wpList_nextg (wanted_of (j := 14) (t := 63) (b := false) rfl rfl f63) hsz62 hde62 72 rfl (by decide) fun K hK => ?_
        go_simp
        refine hK _ _ fun a63 hsz63 hde63 f72 hk => ?_
        clear hK K
        replace f28 := (hk 28 (by decide)).trans f28
        replace f5 := (hk 5 (by decide)).trans f5
        replace f6 := (hk 6 (by decide)).trans f6
        replace f1 := (hk 1 (by decide)).trans f1
        replace f26 := (hk 26 (by decide)).trans f26
        replace f27 := (hk 27 (by decide)).trans f27
        replace f7 := (hk 7 (by decide)).trans f7
        replace f8 := (hk 8 (by decide)).trans f8
        replace f9 := (hk 9 (by decide)).trans f9
        replace f10 := (hk 10 (by decide)).trans f10
        replace f11 := (hk 11 (by decide)).trans f11
        replace f63 := (hk 63 (by decide)).trans f63
        clear hk hsz62 hde62 f70 f71
        replace f72 : a63.tmps[72]?.getD undef = .bool false := f72.trans (by first | rfl | simp)
        refine wpList_next rfl hsz63 hde63 73 rfl (by decide) fun K hK => ?_
        go_simp
        refine hK _ _ fun a64 hsz64 hde64 f73 hk => ?_
        clear hK K
        replace f28 := (hk 28 (by decide)).trans f28
        replace f5 := (hk 5 (by decide)).trans f5
        replace f6 := (hk 6 (by decide)).trans f6
        replace f1 := (hk 1 (by decide)).trans f1
        replace f26 := (hk 26 (by decide)).trans f26
        replace f27 := (hk 27 (by decide)).trans f27
        replace f7 := (hk 7 (by decide)).trans f7
        replace f8 := (hk 8 (by decide)).trans f8
        replace f9 := (hk 9 (by decide)).trans f9
        replace f10 := (hk 10 (by decide)).trans f10
        replace f11 := (hk 11 (by decide)).trans f11
        replace f73 : a64.tmps[73]?.getD undef = .bool false := f73
        clear hk hsz63 hde63 f63 f72
        refine wpList_nil ?_
        refine then_go ?_
        repeat with_reducible refine wp_seq ?_
        refine wp_cond_false (eval_at f73) ?_
        refine wp_skip ?_
        refine then_go ?_
        clear f73
        repeat with_reducible refine wp_seq ?_
        refine wp_region_lit ?_
        refine wpList_next rfl hsz64 hde64 74 rfl (by decide) fun K hK => ?_
        go_simp
        refine hK _ _ fun a65 hsz65 hde65 f74 hk => ?_
        clear hK K
        replace f28 := (hk 28 (by decide)).trans f28
        replace f5 := (hk 5 (by decide)).trans f5
        replace f6 := (hk 6 (by decide)).trans f6
        replace f1 := (hk 1 (by decide)).trans f1
        replace f26 := (hk 26 (by decide)).trans f26
        replace f27 := (hk 27 (by decide)).trans f27
        replace f7 := (hk 7 (by decide)).trans f7
        replace f8 := (hk 8 (by decide)).trans f8
        replace f9 := (hk 9 (by decide)).trans f9
        replace f10 := (hk 10 (by decide)).trans f10
        replace f11 := (hk 11 (by decide)).trans f11
        replace f74 : a65.tmps[74]?.getD undef = str X := f74
        clear hk hsz64 hde64
        refine wpList_next rfl hsz65 hde65 75 rfl (by decide) fun K hK => ?_
        go_simp
        refine hK _ _ fun a66 hsz66 hde66 f75 hk => ?_
        clear hK K
        replace f28 := (hk 28 (by decide)).trans f28
        replace f5 := (hk 5 (by decide)).trans f5
        replace f6 := (hk 6 (by decide)).trans f6
        replace f1 := (hk 1 (by decide)).trans f1
        replace f26 := (hk 26 (by decide)).trans f26
        replace f27 := (hk 27 (by decide)).trans f27
        replace f7 := (hk 7 (by decide)).trans f7
        replace f8 := (hk 8 (by decide)).trans f8
        replace f9 := (hk 9 (by decide)).trans f9
        replace f10 := (hk 10 (by decide)).trans f10
        replace f11 := (hk 11 (by decide)).trans f11
        clear hk hsz65 hde65 f74
        replace f75 : a66.tmps[75]?.getD undef = .int .i64 (X.length : Int) := f75.trans (by first | rfl | simp)
        refine wpList_next rfl hsz66 hde66 76 rfl (by decide) fun K hK => ?_
        go_simp
        refine hK _ _ fun a67 hsz67 hde67 f76 hk => ?_
        clear hK K
        replace f28 := (hk 28 (by decide)).trans f28
        replace f5 := (hk 5 (by decide)).trans f5
        replace f6 := (hk 6 (by decide)).trans f6
        replace f1 := (hk 1 (by decide)).trans f1
        replace f26 := (hk 26 (by decide)).trans f26
        replace f27 := (hk 27 (by decide)).trans f27
        replace f7 := (hk 7 (by decide)).trans f7
        replace f8 := (hk 8 (by decide)).trans f8
        replace f9 := (hk 9 (by decide)).trans f9
        replace f10 := (hk 10 (by decide)).trans f10
        replace f11 := (hk 11 (by decide)).trans f11
        replace f75 := (hk 75 (by decide)).trans f75
        replace f76 : a67.tmps[76]?.getD undef = .int .i64 ((0 : Nat) : Int) := f76
        clear hk hsz66 hde66
        refine wpList_nil ?_
        clear hmx hsl
        have hX200 : X.length ≤ 200 := by rw [HXl.out]; omega
        refine then_go ?_
        repeat with_reducible refine wp_seq ?_
        refine wp_block ?_
        refine wp_loop (fun a wk => ∃ k : Nat, k ≤ X.length ∧ Hid (a.tmps.size = 171) ∧ Hid (a.defers = []) ∧ a.tmps[76]?.getD undef = .int .i64 (k : Int) ∧ a.tmps[28]?.getD undef = .int .i64 (i : Int) ∧ a.tmps[5]?.getD undef = s5 ∧ a.tmps[6]?.getD undef = str D ∧ a.tmps[1]?.getD undef = .int .i64 off ∧ a.tmps[26]?.getD undef = .slice (some ⟨b, o, none⟩) n c ∧ a.tmps[27]?.getD undef = .int .i64 (n : Int) ∧ a.tmps[7]?.getD undef = .int .i64 (i : Int) ∧ a.tmps[8]?.getD undef = str s ∧ a.tmps[9]?.getD undef = .int .i64 (t : Int) ∧ a.tmps[10]?.getD undef = str X ∧ a.tmps[11]?.getD undef = .int .i64 0 ∧ a.tmps[75]?.getD undef = .int .i64 (X.length : Int) ∧ Hid (Below w2.heap.size w2 wk)) (fun a _ => X.length - (intOf (a.tmps[76]?.getD undef)).toNat) ?_ ?_
        · exact ⟨0, by omega, hsz67, hde67, f76, f28, f5, f6, f1, f26, f27, f7, f8, f9, f10, f11, f75, Lib.hid (Below.refl _ _)⟩
        clear hsz67 hde67 f28 f5 f6 f1 f26 f27 f7 f8 f9 f10 f11 f75 f76
        intro a68 wk hI
        obtain ⟨k, hk, hsz68, hde68, f76, f28, f5, f6, f1, f26, f27, f7, f8, f9, f10, f11, f75, Hbk⟩ := hI
        have F76o := Lib.hid f76
        repeat with_reducible refine wp_seq ?_
        by_cases hkx : k < X.length
        · have hdk : decide ((k : Int) < (X.length : Int)) = true := decide_eq_true (by omega)
          refine wp_region_lit ?_
          refine wpList_next rfl hsz68 hde68 77 rfl (by decide) fun K hK => ?_
          go_simp
          refine hK _ _ fun a69 hsz69 hde69 f77 hk => ?_
          clear hK K
          replace f76 := (hk 76 (by decide)).trans f76
          replace f28 := (hk 28 (by decide)).trans f28
          replace f5 := (hk 5 (by decide)).trans f5
          replace f6 := (hk 6 (by decide)).trans f6
          replace f1 := (hk 1 (by decide)).trans f1
          replace f26 := (hk 26 (by decide)).trans f26
          replace f27 := (hk 27 (by decide)).trans f27
          replace f7 := (hk 7 (by decide)).trans f7
          replace f8 := (hk 8 (by decide)).trans f8
          replace f9 := (hk 9 (by decide)).trans f9
          replace f10 := (hk 10 (by decide)).trans f10
          replace f11 := (hk 11 (by decide)).trans f11
          replace f75 := (hk 75 (by decide)).trans f75
          clear hk hsz68 hde68
          replace f77 : a69.tmps[77]?.getD undef = .bool true := f77.trans (by first | rfl | simp [hkx])
          refine wpList_nil ?_
          refine then_go ?_
          repeat with_reducible refine wp_seq ?_
          refine wp_cond_true (eval_at f77) ?_
          refine wp_skip ?_
          refine then_go ?_
          clear f77
          repeat with_reducible refine wp_seq ?_
          refine wp_block ?_
          repeat with_reducible refine wp_seq ?_
          refine wp_region_lit ?_
          refine wpList_next rfl hsz69 hde69 78 rfl (by decide) fun K hK => ?_
          go_simp
          refine hK _ _ fun a70 hsz70 hde70 f78 hk => ?_
          clear hK K
          replace f76 := (hk 76 (by decide)).trans f76
          replace f28 := (hk 28 (by decide)).trans f28
          replace f5 := (hk 5 (by decide)).trans f5
          replace f6 := (hk 6 (by decide)).trans f6
          replace f1 := (hk 1 (by decide)).trans f1
          replace f26 := (hk 26 (by decide)).trans f26
          replace f27 := (hk 27 (by decide)).trans f27
          replace f7 := (hk 7 (by decide)).trans f7
          replace f8 := (hk 8 (by decide)).trans f8
          replace f9 := (hk 9 (by decide)).trans f9
          replace f10 := (hk 10 (by decide)).trans f10
          replace f11 := (hk 11 (by decide)).trans f11
          replace f75 := (hk 75 (by decide)).trans f75
          replace f78 : a70.tmps[78]?.getD undef = .int .i64 (k : Int) := f78
          clear hk hsz69 hde69
          refine wpList_next rfl hsz70 hde70 12 rfl (by decide) fun K hK => ?_
          go_simp
          refine hK _ _ fun a71 hsz71 hde71 f12 hk => ?_
          clear hK K
          replace f76 := (hk 76 (by decide)).trans f76
          replace f28 := (hk 28 (by decide)).trans f28
          replace f5 := (hk 5 (by decide)).trans f5
          replace f6 := (hk 6 (by decide)).trans f6
          replace f1 := (hk 1 (by decide)).trans f1
          replace f26 := (hk 26 (by decide)).trans f26
          replace f27 := (hk 27 (by decide)).trans f27
          replace f7 := (hk 7 (by decide)).trans f7
          replace f8 := (hk 8 (by decide)).trans f8
          replace f9 := (hk 9 (by decide)).trans f9
          replace f10 := (hk 10 (by decide)).trans f10
          replace f11 := (hk 11 (by decide)).trans f11
          replace f75 := (hk 75 (by decide)).trans f75
          replace f12 : a71.tmps[12]?.getD undef = .int .i64 (k : Int) := f12
          clear hk hsz70 hde70 f78
          refine wpList_nil ?_
          refine then_go ?_
          repeat with_reducible refine wp_seq ?_
          obtain ⟨bx, hbx⟩ : ∃ z : Nat, z = X[k].toNat := ⟨_, rfl⟩
          have hix := fun z => index_at X k hkx z
          rw [← hbx] at hix
          clear hdk
          by_cases hc1 : k < t
          · by_cases hc3 : k < D.length
            · skip
              have hel := (Hels.out k hkx (.inl hc1)).1 hc3
              have hid := fun z => index_at D k hc3 z
              rw [← hel, ← hbx] at hid
              clear hel hbx
              refine wp_region_goodg (tblG [(79, .int .i64 (k : Int)), (80, .int .i64 (t : Int)), (81, .bool true), (82, .bool true), (83, undef), (84, undef), (85, undef), (86, undef), (87, undef), (88, undef), (89, .bool true), (90, .bool true), (91, .int .i64 (k : Int)), (92, str D), (93, .int .i64 (D.length : Int)), (94, .bool true), (95, .bool true), (96, str X), (97, .int .i64 (k : Int)), (98, .int .u8 (bx : Int)), (99, str D), (100, .int .i64 (k : Int)), (101, .int .u8 (bx : Int)), (102, .bool false), (103, .bool false), (104, .bool false), (105, .int .i64 (k : Int)), (106, str D), (107, .int .i64 (D.length : Int)), (108, .bool false), (109, .bool false), (110, undef), (111, undef), (112, undef), (113, undef), (114, .bool false), (115, .bool false), (116, .bool false)]) 171 (by kernel_rfl) (by kernel_rfl) (by kernel_rfl) (by kernel_rfl) hsz71.out ?_ ?_ ?_
              · intro t v7 x x' h _ _
                exact h
              · intro i7 o hi7 a x hbx hsame hpre K hK
                have hlt7 : i7 < 38 := (Array.getElem?_eq_some_iff.1 hi7).1
                rcases (show i7 = 0 ∨ i7 = 1 ∨ i7 = 2 ∨ i7 = 3 ∨ i7 = 4 ∨ i7 = 5 ∨ i7 = 6 ∨ i7 = 7 ∨ i7 = 8 ∨ i7 = 9 ∨ i7 = 10 ∨ i7 = 11 ∨ i7 = 12 ∨ i7 = 13 ∨ i7 = 14 ∨ i7 = 15 ∨ i7 = 16 ∨ i7 = 17 ∨ i7 = 18 ∨ i7 = 19 ∨ i7 = 20 ∨ i7 = 21 ∨ i7 = 22 ∨ i7 = 23 ∨ i7 = 24 ∨ i7 = 25 ∨ i7 = 26 ∨ i7 = 27 ∨ i7 = 28 ∨ i7 = 29 ∨ i7 = 30 ∨ i7 = 31 ∨ i7 = 32 ∨ i7 = 33 ∨ i7 = 34 ∨ i7 = 35 ∨ i7 = 36 ∨ i7 = 37 by omega) with rfl | rfl | rfl | rfl | rfl | rfl | rfl | rfl | rfl | rfl | rfl | rfl | rfl | rfl | rfl | rfl | rfl | rfl | rfl | rfl | rfl | rfl | rfl | rfl | rfl | rfl | rfl | rfl | rfl | rfl | rfl | rfl | rfl | rfl | rfl | rfl | rfl | rfl
                all_goals (have ho := Option.some.inj hi7; subst ho; clear hi7 hlt7)
                · have q12 : a.tmps[12]?.getD undef = .int .i64 (k : Int) := (hsame 12 (by decide +kernel)).trans f12
                  refine step_plain rfl ?_
                  have hk := Lib.hid (show ∀ v7 x', v7 = .int .i64 (k : Int) → Below x.heap.size x x' → K (a.put (some 79) v7) x' from hK)
                  have Hbx := Lib.hid hbx
                  clear hsame hpre hK hbx
                  go_simp
                  exact hk.out _ _ rfl (Below.refl _ _)
                · have q9 : a.tmps[9]?.getD undef = .int .i64 (t : Int) := (hsame 9 (by decide +kernel)).trans f9
                  refine step_plain rfl ?_
                  have hk := Lib.hid (show ∀ v7 x', v7 = .int .i64 (t : Int) → Below x.heap.size x x' → K (a.put (some 80) v7) x' from hK)
                  have Hbx := Lib.hid hbx
                  clear hsame hpre hK hbx
                  go_simp
                  exact hk.out _ _ rfl (Below.refl _ _)
                · have q79 : a.tmps[79]?.getD undef = .int .i64 (k : Int) := hpre ⟨0, .data⟩ (by simp) rfl (by decide)
                  have q80 : a.tmps[80]?.getD undef = .int .i64 (t : Int) := hpre ⟨1, .data⟩ (by simp) rfl (by decide)
                  refine step_plain rfl ?_
                  have hk := Lib.hid (show ∀ v7 x', v7 = .bool true → Below x.heap.size x x' → K (a.put (some 81) v7) x' from hK)
                  have Hbx := Lib.hid hbx
                  clear hsame hpre hK hbx
                  go_simp
                  exact hk.out _ _ (by first | rfl | (congr 1; first | omega | exact decide_eq_true (by omega) | exact decide_eq_false (by omega) | exact hwr)) (Below.refl _ _)
                · have q81 : a.tmps[81]?.getD undef = .bool true := hpre ⟨2, .data⟩ (by simp) rfl (by decide)
                  refine step_plain rfl ?_
                  have hk := Lib.hid (show ∀ v7 x', v7 = .bool true → Below x.heap.size x x' → K (a.put (some 82) v7) x' from hK)
                  have Hbx := Lib.hid hbx
                  clear hsame hpre hK hbx
                  go_simp
                  exact hk.out _ _ rfl (Below.refl _ _)
                · have w82 : a.tmps[82]?.getD undef = .bool true := hpre ⟨3, .guard⟩ (by simp) rfl (by decide)
                  refine step_left (not_wanted (j := 3) (t := 82) (b := false) rfl rfl (.inr w82)) ?_
                  have hk := Lib.hid (show ∀ v7 x', v7 = undef → Below x.heap.size x x' → K (a.put (some 83) v7) x' from hK)
                  have Hbx := Lib.hid hbx
                  clear hsame hpre hK hbx w82
                  exact hk.out _ _ rfl (Below.refl _ _)
                · have w82 : a.tmps[82]?.getD undef = .bool true := hpre ⟨3, .guard⟩ (by simp) rfl (by decide)
                  refine step_left (not_wanted (j := 3) (t := 82) (b := false) rfl rfl (.inr w82)) ?_
                  have hk := Lib.hid (show ∀ v7 x', v7 = undef → Below x.heap.size x x' → K (a.put (some 84) v7) x' from hK)
                  have Hbx := Lib.hid hbx
                  clear hsame hpre hK hbx w82
                  exact hk.out _ _ rfl (Below.refl _ _)
                · have w82 : a.tmps[82]?.getD undef = .bool true := hpre ⟨3, .guard⟩ (by simp) rfl (by decide)
                  refine step_left (not_wanted (j := 3) (t := 82) (b := false) rfl rfl (.inr w82)) ?_
                  have hk := Lib.hid (show ∀ v7 x', v7 = undef → Below x.heap.size x x' → K (a.put (some 85) v7) x' from hK)
                  have Hbx := Lib.hid hbx
                  clear hsame hpre hK hbx w82
                  exact hk.out _ _ rfl (Below.refl _ _)
                · have w82 : a.tmps[82]?.getD undef = .bool true := hpre ⟨3, .guard⟩ (by simp) rfl (by decide)
                  refine step_left (not_wanted (j := 3) (t := 82) (b := false) rfl rfl (.inr w82)) ?_
                  have hk := Lib.hid (show ∀ v7 x', v7 = undef → Below x.heap.size x x' → K (a.put (some 86) v7) x' from hK)
                  have Hbx := Lib.hid hbx
                  clear hsame hpre hK hbx w82
                  exact hk.out _ _ rfl (Below.refl _ _)
                · have w82 : a.tmps[82]?.getD undef = .bool true := hpre ⟨3, .guard⟩ (by simp) rfl (by decide)
                  refine step_left (not_wanted (j := 3) (t := 82) (b := false) rfl rfl (.inr w82)) ?_
                  have hk := Lib.hid (show ∀ v7 x', v7 = undef → Below x.heap.size x x' → K (a.put (some 87) v7) x' from hK)
                  have Hbx := Lib.hid hbx
                  clear hsame hpre hK hbx w82
                  exact hk.out _ _ rfl (Below.refl _ _)
                · have w82 : a.tmps[82]?.getD undef = .bool true := hpre ⟨3, .guard⟩ (by simp) rfl (by decide)
                  refine step_left (not_wanted (j := 3) (t := 82) (b := false) rfl rfl (.inr w82)) ?_
                  have hk := Lib.hid (show ∀ v7 x', v7 = undef → Below x.heap.size x x' → K (a.put (some 88) v7) x' from hK)
                  have Hbx := Lib.hid hbx
                  clear hsame hpre hK hbx w82
                  exact hk.out _ _ rfl (Below.refl _ _)
                · have q82 : a.tmps[82]?.getD undef = .bool true := hpre ⟨3, .data⟩ (by simp) rfl (by decide)
                  have q88 : a.tmps[88]?.getD undef = undef := hpre ⟨9, .data⟩ (by simp) rfl (by decide)
                  refine step_plain rfl ?_
                  have hk := Lib.hid (show ∀ v7 x', v7 = .bool true → Below x.heap.size x x' → K (a.put (some 89) v7) x' from hK)
                  have Hbx := Lib.hid hbx
                  clear hsame hpre hK hbx
                  go_simp
                  exact hk.out _ _ rfl (Below.refl _ _)
                · have q89 : a.tmps[89]?.getD undef = .bool true := hpre ⟨10, .data⟩ (by simp) rfl (by decide)
                  refine step_plain rfl ?_
                  have hk := Lib.hid (show ∀ v7 x', v7 = .bool true → Below x.heap.size x x' → K (a.put (some 90) v7) x' from hK)
                  have Hbx := Lib.hid hbx
                  clear hsame hpre hK hbx
                  go_simp
                  exact hk.out _ _ rfl (Below.refl _ _)
                · have q12 : a.tmps[12]?.getD undef = .int .i64 (k : Int) := (hsame 12 (by decide +kernel)).trans f12
                  have w90 : a.tmps[90]?.getD undef = .bool true := hpre ⟨11, .guard⟩ (by simp) rfl (by decide)
                  refine step_wanted (wanted_of (j := 11) (t := 90) (b := true) rfl rfl w90) ?_
                  have hk := Lib.hid (show ∀ v7 x', v7 = .int .i64 (k : Int) → Below x.heap.size x x' → K (a.put (some 91) v7) x' from hK)
                  have Hbx := Lib.hid hbx
                  clear hsame hpre hK hbx w90
                  go_simp
                  exact hk.out _ _ rfl (Below.refl _ _)
                · have q6 : a.tmps[6]?.getD undef = str D := (hsame 6 (by decide +kernel)).trans f6
                  have w90 : a.tmps[90]?.getD undef = .bool true := hpre ⟨11, .guard⟩ (by simp) rfl (by decide)
                  refine step_wanted (wanted_of (j := 11) (t := 90) (b := true) rfl rfl w90) ?_
                  have hk := Lib.hid (show ∀ v7 x', v7 = str D → Below x.heap.size x x' → K (a.put (some 92) v7) x' from hK)
                  have Hbx := Lib.hid hbx
                  clear hsame hpre hK hbx w90
                  go_simp
                  exact hk.out _ _ rfl (Below.refl _ _)
                · have q92 : a.tmps[92]?.getD undef = str D := hpre ⟨13, .data⟩ (by simp) rfl (by decide)
                  have w90 : a.tmps[90]?.getD undef = .bool true := hpre ⟨11, .guard⟩ (by simp) rfl (by decide)
                  refine step_wanted (wanted_of (j := 11) (t := 90) (b := true) rfl rfl w90) ?_
                  have hk := Lib.hid (show ∀ v7 x', v7 = .int .i64 (D.length : Int) → Below x.heap.size x x' → K (a.put (some 93) v7) x' from hK)
                  have Hbx := Lib.hid hbx
                  clear hsame hpre hK hbx w90
                  go_simp
                  exact hk.out _ _ (by first | rfl | (congr 1; first | omega | exact decide_eq_true (by omega) | exact decide_eq_false (by omega) | exact hwr)) (Below.refl _ _)
                · have q91 : a.tmps[91]?.getD undef = .int .i64 (k : Int) := hpre ⟨12, .data⟩ (by simp) rfl (by decide)
                  have q93 : a.tmps[93]?.getD undef = .int .i64 (D.length : Int) := hpre ⟨14, .data⟩ (by simp) rfl (by decide)
                  have w90 : a.tmps[90]?.getD undef = .bool true := hpre ⟨11, .guard⟩ (by simp) rfl (by decide)
                  refine step_wanted (wanted_of (j := 11) (t := 90) (b := true) rfl rfl w90) ?_
                  have hk := Lib.hid (show ∀ v7 x', v7 = .bool true → Below x.heap.size x x' → K (a.put (some 94) v7) x' from hK)
                  have Hbx := Lib.hid hbx
                  clear hsame hpre hK hbx w90
                  go_simp
                  exact hk.out _ _ (by first | rfl | (congr 1; first | omega | exact decide_eq_true (by omega) | exact decide_eq_false (by omega) | exact hwr)) (Below.refl _ _)
                · have q94 : a.tmps[94]?.getD undef = .bool true := hpre ⟨15, .data⟩ (by simp) rfl (by decide)
                  have w90 : a.tmps[90]?.getD undef = .bool true := hpre ⟨11, .guard⟩ (by simp) rfl (by decide)
                  refine step_wanted (wanted_of (j := 11) (t := 90) (b := true) rfl rfl w90) ?_
                  have hk := Lib.hid (show ∀ v7 x', v7 = .bool true → Below x.heap.size x x' → K (a.put (some 95) v7) x' from hK)
                  have Hbx := Lib.hid hbx
                  clear hsame hpre hK hbx w90
                  go_simp
                  exact hk.out _ _ rfl (Below.refl _ _)
                · have q10 : a.tmps[10]?.getD undef = str X := (hsame 10 (by decide +kernel)).trans f10
                  have w95 : a.tmps[95]?.getD undef = .bool true := hpre ⟨16, .guard⟩ (by simp) rfl (by decide)
                  refine step_wanted (wanted_of (j := 16) (t := 95) (b := true) rfl rfl w95) ?_
                  have hk := Lib.hid (show ∀ v7 x', v7 = str X → Below x.heap.size x x' → K (a.put (some 96) v7) x' from hK)
                  have Hbx := Lib.hid hbx
                  clear hsame hpre hK hbx w95
                  go_simp
                  exact hk.out _ _ rfl (Below.refl _ _)
                · have q12 : a.tmps[12]?.getD undef = .int .i64 (k : Int) := (hsame 12 (by decide +kernel)).trans f12
                  have w95 : a.tmps[95]?.getD undef = .bool true := hpre ⟨16, .guard⟩ (by simp) rfl (by decide)
                  refine step_wanted (wanted_of (j := 16) (t := 95) (b := true) rfl rfl w95) ?_
                  have hk := Lib.hid (show ∀ v7 x', v7 = .int .i64 (k : Int) → Below x.heap.size x x' → K (a.put (some 97) v7) x' from hK)
                  have Hbx := Lib.hid hbx
                  clear hsame hpre hK hbx w95
                  go_simp
                  exact hk.out _ _ rfl (Below.refl _ _)
                · have q96 : a.tmps[96]?.getD undef = str X := hpre ⟨17, .data⟩ (by simp) rfl (by decide)
                  have q97 : a.tmps[97]?.getD undef = .int .i64 (k : Int) := hpre ⟨18, .data⟩ (by simp) rfl (by decide)
                  have w95 : a.tmps[95]?.getD undef = .bool true := hpre ⟨16, .guard⟩ (by simp) rfl (by decide)
                  refine step_wanted (wanted_of (j := 16) (t := 95) (b := true) rfl rfl w95) ?_
                  have hk := Lib.hid (show ∀ v7 x', v7 = .int .u8 (bx : Int) → Below x.heap.size x x' → K (a.put (some 98) v7) x' from hK)
                  have Hbx := Lib.hid hbx
                  clear hsame hpre hK hbx w95
                  go_simp
                  exact hk.out _ _ (by first | rfl | (congr 1; first | omega | exact decide_eq_true (by omega) | exact decide_eq_false (by omega) | exact hwr)) (Below.refl _ _)
                · have q6 : a.tmps[6]?.getD undef = str D := (hsame 6 (by decide +kernel)).trans f6
                  have w95 : a.tmps[95]?.getD undef = .bool true := hpre ⟨16, .guard⟩ (by simp) rfl (by decide)
                  refine step_wanted (wanted_of (j := 16) (t := 95) (b := true) rfl rfl w95) ?_
                  have hk := Lib.hid (show ∀ v7 x', v7 = str D → Below x.heap.size x x' → K (a.put (some 99) v7) x' from hK)
                  have Hbx := Lib.hid hbx
                  clear hsame hpre hK hbx w95
                  go_simp
                  exact hk.out _ _ rfl (Below.refl _ _)
                · have q12 : a.tmps[12]?.getD undef = .int .i64 (k : Int) := (hsame 12 (by decide +kernel)).trans f12
                  have w95 : a.tmps[95]?.getD undef = .bool true := hpre ⟨16, .guard⟩ (by simp) rfl (by decide)
                  refine step_wanted (wanted_of (j := 16) (t := 95) (b := true) rfl rfl w95) ?_
                  have hk := Lib.hid (show ∀ v7 x', v7 = .int .i64 (k : Int) → Below x.heap.size x x' → K (a.put (some 100) v7) x' from hK)
                  have Hbx := Lib.hid hbx
                  clear hsame hpre hK hbx w95
                  go_simp
                  exact hk.out _ _ rfl (Below.refl _ _)
                · have q99 : a.tmps[99]?.getD undef = str D := hpre ⟨20, .data⟩ (by simp) rfl (by decide)
                  have q100 : a.tmps[100]?.getD undef = .int .i64 (k : Int) := hpre ⟨21, .data⟩ (by simp) rfl (by decide)
                  have w95 : a.tmps[95]?.getD undef = .bool true := hpre ⟨16, .guard⟩ (by simp) rfl (by decide)
                  refine step_wanted (wanted_of (j := 16) (t := 95) (b := true) rfl rfl w95) ?_
                  have hk := Lib.hid (show ∀ v7 x', v7 = .int .u8 (bx : Int) → Below x.heap.size x x' → K (a.put (some 101) v7) x' from hK)
                  have Hbx := Lib.hid hbx
                  clear hsame hpre hK hbx w95
                  go_simp
                  exact hk.out _ _ (by first | rfl | (congr 1; first | omega | exact decide_eq_true (by omega) | exact decide_eq_false (by omega) | exact hwr)) (Below.refl _ _)
                · have q98 : a.tmps[98]?.getD undef = .int .u8 (bx : Int) := hpre ⟨19, .data⟩ (by simp) rfl (by decide)
                  have q101 : a.tmps[101]?.getD undef = .int .u8 (bx : Int) := hpre ⟨22, .data⟩ (by simp) rfl (by decide)
                  have w95 : a.tmps[95]?.getD undef = .bool true := hpre ⟨16, .guard⟩ (by simp) rfl (by decide)
                  refine step_wanted (wanted_of (j := 16) (t := 95) (b := true) rfl rfl w95) ?_
                  have hk := Lib.hid (show ∀ v7 x', v7 = .bool false → Below x.heap.size x x' → K (a.put (some 102) v7) x' from hK)
                  have Hbx := Lib.hid hbx
                  clear hsame hpre hK hbx w95
                  go_simp
                  exact hk.out _ _ (by first | rfl | (congr 1; first | omega | exact decide_eq_true (by omega) | exact decide_eq_false (by omega) | exact hwr)) (Below.refl _ _)
                · have q95 : a.tmps[95]?.getD undef = .bool true := hpre ⟨16, .data⟩ (by simp) rfl (by decide)
                  have q102 : a.tmps[102]?.getD undef = .bool false := hpre ⟨23, .data⟩ (by simp) rfl (by decide)
                  have w90 : a.tmps[90]?.getD undef = .bool true := hpre ⟨11, .guard⟩ (by simp) rfl (by decide)
                  refine step_wanted (wanted_of (j := 11) (t := 90) (b := true) rfl rfl w90) ?_
                  have hk := Lib.hid (show ∀ v7 x', v7 = .bool false → Below x.heap.size x x' → K (a.put (some 103) v7) x' from hK)
                  have Hbx := Lib.hid hbx
                  clear hsame hpre hK hbx w90
                  go_simp
                  exact hk.out _ _ rfl (Below.refl _ _)
                · have q103 : a.tmps[103]?.getD undef = .bool false := hpre ⟨24, .data⟩ (by simp) rfl (by decide)
                  have w90 : a.tmps[90]?.getD undef = .bool true := hpre ⟨11, .guard⟩ (by simp) rfl (by decide)
                  refine step_wanted (wanted_of (j := 11) (t := 90) (b := true) rfl rfl w90) ?_
                  have hk := Lib.hid (show ∀ v7 x', v7 = .bool false → Below x.heap.size x x' → K (a.put (some 104) v7) x' from hK)
                  have Hbx := Lib.hid hbx
                  clear hsame hpre hK hbx w90
                  go_simp
                  exact hk.out _ _ rfl (Below.refl _ _)
                · have q12 : a.tmps[12]?.getD undef = .int .i64 (k : Int) := (hsame 12 (by decide +kernel)).trans f12
                  have w104 : a.tmps[104]?.getD undef = .bool false := hpre ⟨25, .guard⟩ (by simp) rfl (by decide)
                  refine step_wanted (wanted_of (j := 25) (t := 104) (b := false) rfl rfl w104) ?_
                  have hk := Lib.hid (show ∀ v7 x', v7 = .int .i64 (k : Int) → Below x.heap.size x x' → K (a.put (some 105) v7) x' from hK)
                  have Hbx := Lib.hid hbx
                  clear hsame hpre hK hbx w104
                  go_simp
                  exact hk.out _ _ rfl (Below.refl _ _)
                · have q6 : a.tmps[6]?.getD undef = str D := (hsame 6 (by decide +kernel)).trans f6
                  have w104 : a.tmps[104]?.getD undef = .bool false := hpre ⟨25, .guard⟩ (by simp) rfl (by decide)
                  refine step_wanted (wanted_of (j := 25) (t := 104) (b := false) rfl rfl w104) ?_
                  have hk := Lib.hid (show ∀ v7 x', v7 = str D → Below x.heap.size x x' → K (a.put (some 106) v7) x' from hK)
                  have Hbx := Lib.hid hbx
                  clear hsame hpre hK hbx w104
                  go_simp
                  exact hk.out _ _ rfl (Below.refl _ _)
                · have q106 : a.tmps[106]?.getD undef = str D := hpre ⟨27, .data⟩ (by simp) rfl (by decide)
                  have w104 : a.tmps[104]?.getD undef = .bool false := hpre ⟨25, .guard⟩ (by simp) rfl (by decide)
                  refine step_wanted (wanted_of (j := 25) (t := 104) (b := false) rfl rfl w104) ?_
                  have hk := Lib.hid (show ∀ v7 x', v7 = .int .i64 (D.length : Int) → Below x.heap.size x x' → K (a.put (some 107) v7) x' from hK)
                  have Hbx := Lib.hid hbx
                  clear hsame hpre hK hbx w104
                  go_simp
                  exact hk.out _ _ (by first | rfl | (congr 1; first | omega | exact decide_eq_true (by omega) | exact decide_eq_false (by omega) | exact hwr)) (Below.refl _ _)
                · have q105 : a.tmps[105]?.getD undef = .int .i64 (k : Int) := hpre ⟨26, .data⟩ (by simp) rfl (by decide)
                  have q107 : a.tmps[107]?.getD undef = .int .i64 (D.length : Int) := hpre ⟨28, .data⟩ (by simp) rfl (by decide)
                  have w104 : a.tmps[104]?.getD undef = .bool false := hpre ⟨25, .guard⟩ (by simp) rfl (by decide)
                  refine step_wanted (wanted_of (j := 25) (t := 104) (b := false) rfl rfl w104) ?_
                  have hk := Lib.hid (show ∀ v7 x', v7 = .bool false → Below x.heap.size x x' → K (a.put (some 108) v7) x' from hK)
                  have Hbx := Lib.hid hbx
                  clear hsame hpre hK hbx w104
                  go_simp
                  exact hk.out _ _ (by first | rfl | (congr 1; first | omega | exact decide_eq_true (by omega) | exact decide_eq_false (by omega) | exact hwr)) (Below.refl _ _)
                · have q108 : a.tmps[108]?.getD undef = .bool false := hpre ⟨29, .data⟩ (by simp) rfl (by decide)
                  have w104 : a.tmps[104]?.getD undef = .bool false := hpre ⟨25, .guard⟩ (by simp) rfl (by decide)
                  refine step_wanted (wanted_of (j := 25) (t := 104) (b := false) rfl rfl w104) ?_
                  have hk := Lib.hid (show ∀ v7 x', v7 = .bool false → Below x.heap.size x x' → K (a.put (some 109) v7) x' from hK)
                  have Hbx := Lib.hid hbx
                  clear hsame hpre hK hbx w104
                  go_simp
                  exact hk.out _ _ rfl (Below.refl _ _)
                · have w109 : a.tmps[109]?.getD undef = .bool false := hpre ⟨30, .guard⟩ (by simp) rfl (by decide)
                  refine step_left (not_wanted (j := 30) (t := 109) (b := true) rfl rfl (.inr w109)) ?_
                  have hk := Lib.hid (show ∀ v7 x', v7 = undef → Below x.heap.size x x' → K (a.put (some 110) v7) x' from hK)
                  have Hbx := Lib.hid hbx
                  clear hsame hpre hK hbx w109
                  exact hk.out _ _ rfl (Below.refl _ _)
                · have w109 : a.tmps[109]?.getD undef = .bool false := hpre ⟨30, .guard⟩ (by simp) rfl (by decide)
                  refine step_left (not_wanted (j := 30) (t := 109) (b := true) rfl rfl (.inr w109)) ?_
                  have hk := Lib.hid (show ∀ v7 x', v7 = undef → Below x.heap.size x x' → K (a.put (some 111) v7) x' from hK)
                  have Hbx := Lib.hid hbx
                  clear hsame hpre hK hbx w109
                  exact hk.out _ _ rfl (Below.refl _ _)
                · have w109 : a.tmps[109]?.getD undef = .bool false := hpre ⟨30, .guard⟩ (by simp) rfl (by decide)
                  refine step_left (not_wanted (j := 30) (t := 109) (b := true) rfl rfl (.inr w109)) ?_
                  have hk := Lib.hid (show ∀ v7 x', v7 = undef → Below x.heap.size x x' → K (a.put (some 112) v7) x' from hK)
                  have Hbx := Lib.hid hbx
                  clear hsame hpre hK hbx w109
                  exact hk.out _ _ rfl (Below.refl _ _)
                · have w109 : a.tmps[109]?.getD undef = .bool false := hpre ⟨30, .guard⟩ (by simp) rfl (by decide)
                  refine step_left (not_wanted (j := 30) (t := 109) (b := true) rfl rfl (.inr w109)) ?_
                  have hk := Lib.hid (show ∀ v7 x', v7 = undef → Below x.heap.size x x' → K (a.put (some 113) v7) x' from hK)
                  have Hbx := Lib.hid hbx
                  clear hsame hpre hK hbx w109
                  exact hk.out _ _ rfl (Below.refl _ _)
                · have q109 : a.tmps[109]?.getD undef = .bool false := hpre ⟨30, .data⟩ (by simp) rfl (by decide)
                  have q113 : a.tmps[113]?.getD undef = undef := hpre ⟨34, .data⟩ (by simp) rfl (by decide)
                  have w104 : a.tmps[104]?.getD undef = .bool false := hpre ⟨25, .guard⟩ (by simp) rfl (by decide)
                  refine step_wanted (wanted_of (j := 25) (t := 104) (b := false) rfl rfl w104) ?_
                  have hk := Lib.hid (show ∀ v7 x', v7 = .bool false → Below x.heap.size x x' → K (a.put (some 114) v7) x' from hK)
                  have Hbx := Lib.hid hbx
                  clear hsame hpre hK hbx w104
                  go_simp
                  exact hk.out _ _ rfl (Below.refl _ _)
                · have q104 : a.tmps[104]?.getD undef = .bool false := hpre ⟨25, .data⟩ (by simp) rfl (by decide)
                  have q114 : a.tmps[114]?.getD undef = .bool false := hpre ⟨35, .data⟩ (by simp) rfl (by decide)
                  have w90 : a.tmps[90]?.getD undef = .bool true := hpre ⟨11, .guard⟩ (by simp) rfl (by decide)
                  refine step_wanted (wanted_of (j := 11) (t := 90) (b := true) rfl rfl w90) ?_
                  have hk := Lib.hid (show ∀ v7 x', v7 = .bool false → Below x.heap.size x x' → K (a.put (some 115) v7) x' from hK)
                  have Hbx := Lib.hid hbx
                  clear hsame hpre hK hbx w90
                  go_simp
                  exact hk.out _ _ rfl (Below.refl _ _)
                · have q90 : a.tmps[90]?.getD undef = .bool true := hpre ⟨11, .data⟩ (by simp) rfl (by decide)
                  have q115 : a.tmps[115]?.getD undef = .bool false := hpre ⟨36, .data⟩ (by simp) rfl (by decide)
                  refine step_plain rfl ?_
                  have hk := Lib.hid (show ∀ v7 x', v7 = .bool false → Below x.heap.size x x' → K (a.put (some 116) v7) x' from hK)
                  have Hbx := Lib.hid hbx
                  clear hsame hpre hK hbx
                  go_simp
                  exact hk.out _ _ rfl (Below.refl _ _)
              intro a72 x72 hbx hsame hG hsz72 hde72
              replace f76 := (hsame 76 (by decide +kernel)).trans f76
              replace f28 := (hsame 28 (by decide +kernel)).trans f28
              replace f5 := (hsame 5 (by decide +kernel)).trans f5
              replace f6 := (hsame 6 (by decide +kernel)).trans f6
              replace f1 := (hsame 1 (by decide +kernel)).trans f1
              replace f26 := (hsame 26 (by decide +kernel)).trans f26
              replace f27 := (hsame 27 (by decide +kernel)).trans f27
              replace f7 := (hsame 7 (by decide +kernel)).trans f7
              replace f8 := (hsame 8 (by decide +kernel)).trans f8
              replace f9 := (hsame 9 (by decide +kernel)).trans f9
              replace f10 := (hsame 10 (by decide +kernel)).trans f10
              replace f11 := (hsame 11 (by decide +kernel)).trans f11
              replace f75 := (hsame 75 (by decide +kernel)).trans f75
              replace f12 := (hsame 12 (by decide +kernel)).trans f12
              have f116 : a72.tmps[116]?.getD undef = .bool false := hG 37 (by decide)
              have Hbx72 := Lib.hid hbx
              have hsz72h := Lib.hid hsz72
              have hde72h := Lib.hid (hde72.trans hde71.out)
              clear hsame hG hbx hsz72 hde72 hsz71 hde71
              refine then_go ?_
              repeat with_reducible refine wp_seq ?_
              refine wp_cond_false (eval_at f116) ?_
              refine wp_skip ?_
              refine block_go ?_
              refine then_go ?_
              clear f116
              refine wp_region_lit ?_
              refine wpList_next rfl hsz72h hde72h 117 rfl (by decide) fun K hK => ?_
              go_simp
              refine hK _ _ fun a73 hsz73 hde73 f117 hk => ?_
              clear hK K
              replace f76 := (hk 76 (by decide)).trans f76
              replace f28 := (hk 28 (by decide)).trans f28
              replace f5 := (hk 5 (by decide)).trans f5
              replace f6 := (hk 6 (by decide)).trans f6
              replace f1 := (hk 1 (by decide)).trans f1
              replace f26 := (hk 26 (by decide)).trans f26
              replace f27 := (hk 27 (by decide)).trans f27
              replace f7 := (hk 7 (by decide)).trans f7
              replace f8 := (hk 8 (by decide)).trans f8
              replace f9 := (hk 9 (by decide)).trans f9
              replace f10 := (hk 10 (by decide)).trans f10
              replace f11 := (hk 11 (by decide)).trans f11
              replace f75 := (hk 75 (by decide)).trans f75
              replace f12 := (hk 12 (by decide)).trans f12
              clear hk hsz72h hde72h
              replace f117 : a73.tmps[117]?.getD undef = .int .i64 ((k + 1 : Nat) : Int) := f117.trans (by first | (congr 1; done) | (congr 1; rw [IntKind.wrap_i64] <;> omega))
              refine wpList_next rfl hsz73 hde73 76 rfl (by decide) fun K hK => ?_
              go_simp
              refine hK _ _ fun a74 hsz74 hde74 f76 hk => ?_
              clear hK K
              replace f28 := (hk 28 (by decide)).trans f28
              replace f5 := (hk 5 (by decide)).trans f5
              replace f6 := (hk 6 (by decide)).trans f6
              replace f1 := (hk 1 (by decide)).trans f1
              replace f26 := (hk 26 (by decide)).trans f26
              replace f27 := (hk 27 (by decide)).trans f27
              replace f7 := (hk 7 (by decide)).trans f7
              replace f8 := (hk 8 (by decide)).trans f8
              replace f9 := (hk 9 (by decide)).trans f9
              replace f10 := (hk 10 (by decide)).trans f10
              replace f11 := (hk 11 (by decide)).trans f11
              replace f75 := (hk 75 (by decide)).trans f75
              replace f12 := (hk 12 (by decide)).trans f12
              replace f76 : a74.tmps[76]?.getD undef = .int .i64 ((k + 1 : Nat) : Int) := f76
              clear hk hsz73 hde73 f117
              refine wpList_nil ?_
              refine then_go ?_
              exact ⟨⟨k + 1, by omega, hsz74, hde74, f76, f28, f5, f6, f1, f26, f27, f7, f8, f9, f10, f11, f75, (Lib.hid (below_call Hbk.out Hbx72.out))⟩, by rw [f76, F76o.out]; show X.length - ((k + 1 : Nat) : Int).toNat < X.length - ((k : Nat) : Int).toNat; omega⟩
            · skip
              have hel := (Hels.out k hkx (.inl hc1)).2 (by omega)
              rw [hel] at hbx
              have hb0 : bx = 0 := hbx
              subst hb0
              clear hel hbx
              refine wp_region_goodg (tblG [(79, .int .i64 (k : Int)), (80, .int .i64 (t : Int)), (81, .bool true), (82, .bool true), (83, undef), (84, undef), (85, undef), (86, undef), (87, undef), (88, undef), (89, .bool true), (90, .bool true), (91, .int .i64 (k : Int)), (92, str D), (93, .int .i64 (D.length : Int)), (94, .bool false), (95, .bool false), (96, undef), (97, undef), (98, undef), (99, undef), (100, undef), (101, undef), (102, undef), (103, .bool false), (104, .bool false), (105, .int .i64 (k : Int)), (106, str D), (107, .int .i64 (D.length : Int)), (108, .bool true), (109, .bool true), (110, str X), (111, .int .i64 (k : Int)), (112, .int .u8 0), (113, .bool false), (114, .bool false), (115, .bool false), (116, .bool false)]) 171 (by kernel_rfl) (by kernel_rfl) (by kernel_rfl) (by kernel_rfl) hsz71.out ?_ ?_ ?_
              · intro t v7 x x' h _ _
                exact h
              · intro i7 o hi7 a x hbx hsame hpre K hK
                have hlt7 : i7 < 38 := (Array.getElem?_eq_some_iff.1 hi7).1
                rcases (show i7 = 0 ∨ i7 = 1 ∨ i7 = 2 ∨ i7 = 3 ∨ i7 = 4 ∨ i7 = 5 ∨ i7 = 6 ∨ i7 = 7 ∨ i7 = 8 ∨ i7 = 9 ∨ i7 = 10 ∨ i7 = 11 ∨ i7 = 12 ∨ i7 = 13 ∨ i7 = 14 ∨ i7 = 15 ∨ i7 = 16 ∨ i7 = 17 ∨ i7 = 18 ∨ i7 = 19 ∨ i7 = 20 ∨ i7 = 21 ∨ i7 = 22 ∨ i7 = 23 ∨ i7 = 24 ∨ i7 = 25 ∨ i7 = 26 ∨ i7 = 27 ∨ i7 = 28 ∨ i7 = 29 ∨ i7 = 30 ∨ i7 = 31 ∨ i7 = 32 ∨ i7 = 33 ∨ i7 = 34 ∨ i7 = 35 ∨ i7 = 36 ∨ i7 = 37 by omega) with rfl | rfl | rfl | rfl | rfl | rfl | rfl | rfl | rfl | rfl | rfl | rfl | rfl | rfl | rfl | rfl | rfl | rfl | rfl | rfl | rfl | rfl | rfl | rfl | rfl | rfl | rfl | rfl | rfl | rfl | rfl | rfl | rfl | rfl | rfl | rfl | rfl | rfl
                all_goals (have ho := Option.some.inj hi7; subst ho; clear hi7 hlt7)
                · have q12 : a.tmps[12]?.getD undef = .int .i64 (k : Int) := (hsame 12 (by decide +kernel)).trans f12
                  refine step_plain rfl ?_
                  have hk := Lib.hid (show ∀ v7 x', v7 = .int .i64 (k : Int) → Below x.heap.size x x' → K (a.put (some 79) v7) x' from hK)
                  have Hbx := Lib.hid hbx
                  clear hsame hpre hK hbx
                  go_simp
                  exact hk.out _ _ rfl (Below.refl _ _)
                · have q9 : a.tmps[9]?.getD undef = .int .i64 (t : Int) := (hsame 9 (by decide +kernel)).trans f9
                  refine step_plain rfl ?_
                  have hk := Lib.hid (show ∀ v7 x', v7 = .int .i64 (t : Int) → Below x.heap.size x x' → K (a.put (some 80) v7) x' from hK)
                  have Hbx := Lib.hid hbx
                  clear hsame hpre hK hbx
                  go_simp
                  exact hk.out _ _ rfl (Below.refl _ _)
                · have q79 : a.tmps[79]?.getD undef = .int .i64 (k : Int) := hpre ⟨0, .data⟩ (by simp) rfl (by decide)
                  have q80 : a.tmps[80]?.getD undef = .int .i64 (t : Int) := hpre ⟨1, .data⟩ (by simp) rfl (by decide)
                  refine step_plain rfl ?_
                  have hk := Lib.hid (show ∀ v7 x', v7 = .bool true → Below x.heap.size x x' → K (a.put (some 81) v7) x' from hK)
                  have Hbx := Lib.hid hbx
                  clear hsame hpre hK hbx
                  go_simp
                  exact hk.out _ _ (by first | rfl | (congr 1; first | omega | exact decide_eq_true (by omega) | exact decide_eq_false (by omega) | exact hwr)) (Below.refl _ _)
                · have q81 : a.tmps[81]?.getD undef = .bool true := hpre ⟨2, .data⟩ (by simp) rfl (by decide)
                  refine step_plain rfl ?_
                  have hk := Lib.hid (show ∀ v7 x', v7 = .bool true → Below x.heap.size x x' → K (a.put (some 82) v7) x' from hK)
                  have Hbx := Lib.hid hbx
                  clear hsame hpre hK hbx
                  go_simp
                  exact hk.out _ _ rfl (Below.refl _ _)
                · have w82 : a.tmps[82]?.getD undef = .bool true := hpre ⟨3, .guard⟩ (by simp) rfl (by decide)
                  refine step_left (not_wanted (j := 3) (t := 82) (b := false) rfl rfl (.inr w82)) ?_
                  have hk := Lib.hid (show ∀ v7 x', v7 = undef → Below x.heap.size x x' → K (a.put (some 83) v7) x' from hK)
                  have Hbx := Lib.hid hbx
                  clear hsame hpre hK hbx w82
                  exact hk.out _ _ rfl (Below.refl _ _)
                · have w82 : a.tmps[82]?.getD undef = .bool true := hpre ⟨3, .guard⟩ (by simp) rfl (by decide)
                  refine step_left (not_wanted (j := 3) (t := 82) (b := false) rfl rfl (.inr w82)) ?_
                  have hk := Lib.hid (show ∀ v7 x', v7 = undef → Below x.heap.size x x' → K (a.put (some 84) v7) x' from hK)
                  have Hbx := Lib.hid hbx
                  clear hsame hpre hK hbx w82
                  exact hk.out _ _ rfl (Below.refl _ _)
                · have w82 : a.tmps[82]?.getD undef = .bool true := hpre ⟨3, .guard⟩ (by simp) rfl (by decide)
                  refine step_left (not_wanted (j := 3) (t := 82) (b := false) rfl rfl (.inr w82)) ?_
                  have hk := Lib.hid (show ∀ v7 x', v7 = undef → Below x.heap.size x x' → K (a.put (some 85) v7) x' from hK)
                  have Hbx := Lib.hid hbx
                  clear hsame hpre hK hbx w82
                  exact hk.out _ _ rfl (Below.refl _ _)
                · have w82 : a.tmps[82]?.getD undef = .bool true := hpre ⟨3, .guard⟩ (by simp) rfl (by decide)
                  refine step_left (not_wanted (j := 3) (t := 82) (b := false) rfl rfl (.inr w82)) ?_
                  have hk := Lib.hid (show ∀ v7 x', v7 = undef → Below x.heap.size x x' → K (a.put (some 86) v7) x' from hK)
                  have Hbx := Lib.hid hbx
                  clear hsame hpre hK hbx w82
                  exact hk.out _ _ rfl (Below.refl _ _)
                · have w82 : a.tmps[82]?.getD undef = .bool true := hpre ⟨3, .guard⟩ (by simp) rfl (by decide)
                  refine step_left (not_wanted (j := 3) (t := 82) (b := false) rfl rfl (.inr w82)) ?_
                  have hk := Lib.hid (show ∀ v7 x', v7 = undef → Below x.heap.size x x' → K (a.put (some 87) v7) x' from hK)
                  have Hbx := Lib.hid hbx
                  clear hsame hpre hK hbx w82
                  exact hk.out _ _ rfl (Below.refl _ _)
                · have w82 : a.tmps[82]?.getD undef = .bool true := hpre ⟨3, .guard⟩ (by simp) rfl (by decide)
                  refine step_left (not_wanted (j := 3) (t := 82) (b := false) rfl rfl (.inr w82)) ?_
                  have hk := Lib.hid (show ∀ v7 x', v7 = undef → Below x.heap.size x x' → K (a.put (some 88) v7) x' from hK)
                  have Hbx := Lib.hid hbx
                  clear hsame hpre hK hbx w82
                  exact hk.out _ _ rfl (Below.refl _ _)
                · have q82 : a.tmps[82]?.getD undef = .bool true := hpre ⟨3, .data⟩ (by simp) rfl (by decide)
                  have q88 : a.tmps[88]?.getD undef = undef := hpre ⟨9, .data⟩ (by simp) rfl (by decide)
                  refine step_plain rfl ?_
                  have hk := Lib.hid (show ∀ v7 x', v7 = .bool true → Below x.heap.size x x' → K (a.put (some 89) v7) x' from hK)
                  have Hbx := Lib.hid hbx
                  clear hsame hpre hK hbx
                  go_simp
                  exact hk.out _ _ rfl (Below.refl _ _)
                · have q89 : a.tmps[89]?.getD undef = .bool true := hpre ⟨10, .data⟩ (by simp) rfl (by decide)
                  refine step_plain rfl ?_
                  have hk := Lib.hid (show ∀ v7 x', v7 = .bool true → Below x.heap.size x x' → K (a.put (some 90) v7) x' from hK)
                  have Hbx := Lib.hid hbx
                  clear hsame hpre hK hbx
                  go_simp
                  exact hk.out _ _ rfl (Below.refl _ _)
                · have q12 : a.tmps[12]?.getD undef = .int .i64 (k : Int) := (hsame 12 (by decide +kernel)).trans f12
                  have w90 : a.tmps[90]?.getD undef = .bool true := hpre ⟨11, .guard⟩ (by simp) rfl (by decide)
                  refine step_wanted (wanted_of (j := 11) (t := 90) (b := true) rfl rfl w90) ?_
                  have hk := Lib.hid (show ∀ v7 x', v7 = .int .i64 (k : Int) → Below x.heap.size x x' → K (a.put (some 91) v7) x' from hK)
                  have Hbx := Lib.hid hbx
                  clear hsame hpre hK hbx w90
                  go_simp
                  exact hk.out _ _ rfl (Below.refl _ _)
                · have q6 : a.tmps[6]?.getD undef = str D := (hsame 6 (by decide +kernel)).trans f6
                  have w90 : a.tmps[90]?.getD undef = .bool true := hpre ⟨11, .guard⟩ (by simp) rfl (by decide)
                  refine step_wanted (wanted_of (j := 11) (t := 90) (b := true) rfl rfl w90) ?_
                  have hk := Lib.hid (show ∀ v7 x', v7 = str D → Below x.heap.size x x' → K (a.put (some 92) v7) x' from hK)
                  have Hbx := Lib.hid hbx
                  clear hsame hpre hK hbx w90
                  go_simp
                  exact hk.out _ _ rfl (Below.refl _ _)
                · have q92 : a.tmps[92]?.getD undef = str D := hpre ⟨13, .data⟩ (by simp) rfl (by decide)
                  have w90 : a.tmps[90]?.getD undef = .bool true := hpre ⟨11, .guard⟩ (by simp) rfl (by decide)
                  refine step_wanted (wanted_of (j := 11) (t := 90) (b := true) rfl rfl w90) ?_
                  have hk := Lib.hid (show ∀ v7 x', v7 = .int .i64 (D.length : Int) → Below x.heap.size x x' → K (a.put (some 93) v7) x' from hK)
                  have Hbx := Lib.hid hbx
                  clear hsame hpre hK hbx w90
                  go_simp
                  exact hk.out _ _ (by first | rfl | (congr 1; first | omega | exact decide_eq_true (by omega) | exact decide_eq_false (by omega) | exact hwr)) (Below.refl _ _)
                · have q91 : a.tmps[91]?.getD undef = .int .i64 (k : Int) := hpre ⟨12, .data⟩ (by simp) rfl (by decide)
                  have q93 : a.tmps[93]?.getD undef = .int .i64 (D.length : Int) := hpre ⟨14, .data⟩ (by simp) rfl (by decide)
                  have w90 : a.tmps[90]?.getD undef = .bool true := hpre ⟨11, .guard⟩ (by simp) rfl (by decide)
                  refine step_wanted (wanted_of (j := 11) (t := 90) (b := true) rfl rfl w90) ?_
                  have hk := Lib.hid (show ∀ v7 x', v7 = .bool false → Below x.heap.size x x' → K (a.put (some 94) v7) x' from hK)
                  have Hbx := Lib.hid hbx
                  clear hsame hpre hK hbx w90
                  go_simp
                  exact hk.out _ _ (by first | rfl | (congr 1; first | omega | exact decide_eq_true (by omega) | exact decide_eq_false (by omega) | exact hwr)) (Below.refl _ _)
                · have q94 : a.tmps[94]?.getD undef = .bool false := hpre ⟨15, .data⟩ (by simp) rfl (by decide)
                  have w90 : a.tmps[90]?.getD undef = .bool true := hpre ⟨11, .guard⟩ (by simp) rfl (by decide)
                  refine step_wanted (wanted_of (j := 11) (t := 90) (b := true) rfl rfl w90) ?_
                  have hk := Lib.hid (show ∀ v7 x', v7 = .bool false → Below x.heap.size x x' → K (a.put (some 95) v7) x' from hK)
                  have Hbx := Lib.hid hbx
                  clear hsame hpre hK hbx w90
                  go_simp
                  exact hk.out _ _ rfl (Below.refl _ _)
                · have w95 : a.tmps[95]?.getD undef = .bool false := hpre ⟨16, .guard⟩ (by simp) rfl (by decide)
                  refine step_left (not_wanted (j := 16) (t := 95) (b := true) rfl rfl (.inr w95)) ?_
                  have hk := Lib.hid (show ∀ v7 x', v7 = undef → Below x.heap.size x x' → K (a.put (some 96) v7) x' from hK)
                  have Hbx := Lib.hid hbx
                  clear hsame hpre hK hbx w95
                  exact hk.out _ _ rfl (Below.refl _ _)
                · have w95 : a.tmps[95]?.getD undef = .bool false := hpre ⟨16, .guard⟩ (by simp) rfl (by decide)
                  refine step_left (not_wanted (j := 16) (t := 95) (b := true) rfl rfl (.inr w95)) ?_
                  have hk := Lib.hid (show ∀ v7 x', v7 = undef → Below x.heap.size x x' → K (a.put (some 97) v7) x' from hK)
                  have Hbx := Lib.hid hbx
                  clear hsame hpre hK hbx w95
                  exact hk.out _ _ rfl (Below.refl _ _)
                · have w95 : a.tmps[95]?.getD undef = .bool false := hpre ⟨16, .guard⟩ (by simp) rfl (by decide)
                  refine step_left (not_wanted (j := 16) (t := 95) (b := true) rfl rfl (.inr w95)) ?_
                  have hk := Lib.hid (show ∀ v7 x', v7 = undef → Below x.heap.size x x' → K (a.put (some 98) v7) x' from hK)
                  have Hbx := Lib.hid hbx
                  clear hsame hpre hK hbx w95
                  exact hk.out _ _ rfl (Below.refl _ _)
                · have w95 : a.tmps[95]?.getD undef = .bool false := hpre ⟨16, .guard⟩ (by simp) rfl (by decide)
                  refine step_left (not_wanted (j := 16) (t := 95) (b := true) rfl rfl (.inr w95)) ?_
                  have hk := Lib.hid (show ∀ v7 x', v7 = undef → Below x.heap.size x x' → K (a.put (some 99) v7) x' from hK)
                  have Hbx := Lib.hid hbx
                  clear hsame hpre hK hbx w95
                  exact hk.out _ _ rfl (Below.refl _ _)
                · have w95 : a.tmps[95]?.getD undef = .bool false := hpre ⟨16, .guard⟩ (by simp) rfl (by decide)
                  refine step_left (not_wanted (j := 16) (t := 95) (b := true) rfl rfl (.inr w95)) ?_
                  have hk := Lib.hid (show ∀ v7 x', v7 = undef → Below x.heap.size x x' → K (a.put (some 100) v7) x' from hK)
                  have Hbx := Lib.hid hbx
                  clear hsame hpre hK hbx w95
                  exact hk.out _ _ rfl (Below.refl _ _)
                · have w95 : a.tmps[95]?.getD undef = .bool false := hpre ⟨16, .guard⟩ (by simp) rfl (by decide)
                  refine step_left (not_wanted (j := 16) (t := 95) (b := true) rfl rfl (.inr w95)) ?_
                  have hk := Lib.hid (show ∀ v7 x', v7 = undef → Below x.heap.size x x' → K (a.put (some 101) v7) x' from hK)
                  have Hbx := Lib.hid hbx
                  clear hsame hpre hK hbx w95
                  exact hk.out _ _ rfl (Below.refl _ _)
                · have w95 : a.tmps[95]?.getD undef = .bool false := hpre ⟨16, .guard⟩ (by simp) rfl (by decide)
                  refine step_left (not_wanted (j := 16) (t := 95) (b := true) rfl rfl (.inr w95)) ?_
                  have hk := Lib.hid (show ∀ v7 x', v7 = undef → Below x.heap.size x x' → K (a.put (some 102) v7) x' from hK)
                  have Hbx := Lib.hid hbx
                  clear hsame hpre hK hbx w95
                  exact hk.out _ _ rfl (Below.refl _ _)
                · have q95 : a.tmps[95]?.getD undef = .bool false := hpre ⟨16, .data⟩ (by simp) rfl (by decide)
                  have q102 : a.tmps[102]?.getD undef = undef := hpre ⟨23, .data⟩ (by simp) rfl (by decide)
                  have w90 : a.tmps[90]?.getD undef = .bool true := hpre ⟨11, .guard⟩ (by simp) rfl (by decide)
                  refine step_wanted (wanted_of (j := 11) (t := 90) (b := true) rfl rfl w90) ?_
                  have hk := Lib.hid (show ∀ v7 x', v7 = .bool false → Below x.heap.size x x' → K (a.put (some 103) v7) x' from hK)
                  have Hbx := Lib.hid hbx
                  clear hsame hpre hK hbx w90
                  go_simp
                  exact hk.out _ _ rfl (Below.refl _ _)
                · have q103 : a.tmps[103]?.getD undef = .bool false := hpre ⟨24, .data⟩ (by simp) rfl (by decide)
                  have w90 : a.tmps[90]?.getD undef = .bool true := hpre ⟨11, .guard⟩ (by simp) rfl (by decide)
                  refine step_wanted (wanted_of (j := 11) (t := 90) (b := true) rfl rfl w90) ?_
                  have hk := Lib.hid (show ∀ v7 x', v7 = .bool false → Below x.heap.size x x' → K (a.put (some 104) v7) x' from hK)
                  have Hbx := Lib.hid hbx
                  clear hsame hpre hK hbx w90
                  go_simp
                  exact hk.out _ _ rfl (Below.refl _ _)
                · have q12 : a.tmps[12]?.getD undef = .int .i64 (k : Int) := (hsame 12 (by decide +kernel)).trans f12
                  have w104 : a.tmps[104]?.getD undef = .bool false := hpre ⟨25, .guard⟩ (by simp) rfl (by decide)
                  refine step_wanted (wanted_of (j := 25) (t := 104) (b := false) rfl rfl w104) ?_
                  have hk := Lib.hid (show ∀ v7 x', v7 = .int .i64 (k : Int) → Below x.heap.size x x' → K (a.put (some 105) v7) x' from hK)
                  have Hbx := Lib.hid hbx
                  clear hsame hpre hK hbx w104
                  go_simp
                  exact hk.out _ _ rfl (Below.refl _ _)
                · have q6 : a.tmps[6]?.getD undef = str D := (hsame 6 (by decide +kernel)).trans f6
                  have w104 : a.tmps[104]?.getD undef = .bool false := hpre ⟨25, .guard⟩ (by simp) rfl (by decide)
                  refine step_wanted (wanted_of (j := 25) (t := 104) (b := false) rfl rfl w104) ?_
                  have hk := Lib.hid (show ∀ v7 x', v7 = str D → Below x.heap.size x x' → K (a.put (some 106) v7) x' from hK)
                  have Hbx := Lib.hid hbx
                  clear hsame hpre hK hbx w104
                  go_simp
                  exact hk.out _ _ rfl (Below.refl _ _)
                · have q106 : a.tmps[106]?.getD undef = str D := hpre ⟨27, .data⟩ (by simp) rfl (by decide)
                  have w104 : a.tmps[104]?.getD undef = .bool false := hpre ⟨25, .guard⟩ (by simp) rfl (by decide)
                  refine step_wanted (wanted_of (j := 25) (t := 104) (b := false) rfl rfl w104) ?_
                  have hk := Lib.hid (show ∀ v7 x', v7 = .int .i64 (D.length : Int) → Below x.heap.size x x' → K (a.put (some 107) v7) x' from hK)
                  have Hbx := Lib.hid hbx
                  clear hsame hpre hK hbx w104
                  go_simp
                  exact hk.out _ _ (by first | rfl | (congr 1; first | omega | exact decide_eq_true (by omega) | exact decide_eq_false (by omega) | exact hwr)) (Below.refl _ _)
                · have q105 : a.tmps[105]?.getD undef = .int .i64 (k : Int) := hpre ⟨26, .data⟩ (by simp) rfl (by decide)
                  have q107 : a.tmps[107]?.getD undef = .int .i64 (D.length : Int) := hpre ⟨28, .data⟩ (by simp) rfl (by decide)
                  have w104 : a.tmps[104]?.getD undef = .bool false := hpre ⟨25, .guard⟩ (by simp) rfl (by decide)
                  refine step_wanted (wanted_of (j := 25) (t := 104) (b := false) rfl rfl w104) ?_
                  have hk := Lib.hid (show ∀ v7 x', v7 = .bool true → Below x.heap.size x x' → K (a.put (some 108) v7) x' from hK)
                  have Hbx := Lib.hid hbx
                  clear hsame hpre hK hbx w104
                  go_simp
                  exact hk.out _ _ (by first | rfl | (congr 1; first | omega | exact decide_eq_true (by omega) | exact decide_eq_false (by omega) | exact hwr)) (Below.refl _ _)
                · have q108 : a.tmps[108]?.getD undef = .bool true := hpre ⟨29, .data⟩ (by simp) rfl (by decide)
                  have w104 : a.tmps[104]?.getD undef = .bool false := hpre ⟨25, .guard⟩ (by simp) rfl (by decide)
                  refine step_wanted (wanted_of (j := 25) (t := 104) (b := false) rfl rfl w104) ?_
                  have hk := Lib.hid (show ∀ v7 x', v7 = .bool true → Below x.heap.size x x' → K (a.put (some 109) v7) x' from hK)
                  have Hbx := Lib.hid hbx
                  clear hsame hpre hK hbx w104
                  go_simp
                  exact hk.out _ _ rfl (Below.refl _ _)
                · have q10 : a.tmps[10]?.getD undef = str X := (hsame 10 (by decide +kernel)).trans f10
                  have w109 : a.tmps[109]?.getD undef = .bool true := hpre ⟨30, .guard⟩ (by simp) rfl (by decide)
                  refine step_wanted (wanted_of (j := 30) (t := 109) (b := true) rfl rfl w109) ?_
                  have hk := Lib.hid (show ∀ v7 x', v7 = str X → Below x.heap.size x x' → K (a.put (some 110) v7) x' from hK)
                  have Hbx := Lib.hid hbx
                  clear hsame hpre hK hbx w109
                  go_simp
                  exact hk.out _ _ rfl (Below.refl _ _)
                · have q12 : a.tmps[12]?.getD undef = .int .i64 (k : Int) := (hsame 12 (by decide +kernel)).trans f12
                  have w109 : a.tmps[109]?.getD undef = .bool true := hpre ⟨30, .guard⟩ (by simp) rfl (by decide)
                  refine step_wanted (wanted_of (j := 30) (t := 109) (b := true) rfl rfl w109) ?_
                  have hk := Lib.hid (show ∀ v7 x', v7 = .int .i64 (k : Int) → Below x.heap.size x x' → K (a.put (some 111) v7) x' from hK)
                  have Hbx := Lib.hid hbx
                  clear hsame hpre hK hbx w109
                  go_simp
                  exact hk.out _ _ rfl (Below.refl _ _)
                · have q110 : a.tmps[110]?.getD undef = str X := hpre ⟨31, .data⟩ (by simp) rfl (by decide)
                  have q111 : a.tmps[111]?.getD undef = .int .i64 (k : Int) := hpre ⟨32, .data⟩ (by simp) rfl (by decide)
                  have w109 : a.tmps[109]?.getD undef = .bool true := hpre ⟨30, .guard⟩ (by simp) rfl (by decide)
                  refine step_wanted (wanted_of (j := 30) (t := 109) (b := true) rfl rfl w109) ?_
                  have hk := Lib.hid (show ∀ v7 x', v7 = .int .u8 0 → Below x.heap.size x x' → K (a.put (some 112) v7) x' from hK)
                  have Hbx := Lib.hid hbx
                  clear hsame hpre hK hbx w109
                  go_simp
                  exact hk.out _ _ (by first | rfl | (congr 1; first | omega | exact decide_eq_true (by omega) | exact decide_eq_false (by omega) | exact hwr)) (Below.refl _ _)
                · have q112 : a.tmps[112]?.getD undef = .int .u8 0 := hpre ⟨33, .data⟩ (by simp) rfl (by decide)
                  have w109 : a.tmps[109]?.getD undef = .bool true := hpre ⟨30, .guard⟩ (by simp) rfl (by decide)
                  refine step_wanted (wanted_of (j := 30) (t := 109) (b := true) rfl rfl w109) ?_
                  have hk := Lib.hid (show ∀ v7 x', v7 = .bool false → Below x.heap.size x x' → K (a.put (some 113) v7) x' from hK)
                  have Hbx := Lib.hid hbx
                  clear hsame hpre hK hbx w109
                  go_simp
                  exact hk.out _ _ (by first | rfl | (congr 1; first | omega | exact decide_eq_true (by omega) | exact decide_eq_false (by omega) | exact hwr)) (Below.refl _ _)
                · have q109 : a.tmps[109]?.getD undef = .bool true := hpre ⟨30, .data⟩ (by simp) rfl (by decide)
                  have q113 : a.tmps[113]?.getD undef = .bool false := hpre ⟨34, .data⟩ (by simp) rfl (by decide)
                  have w104 : a.tmps[104]?.getD undef = .bool false := hpre ⟨25, .guard⟩ (by simp) rfl (by decide)
                  refine step_wanted (wanted_of (j := 25) (t := 104) (b := false) rfl rfl w104) ?_
                  have hk := Lib.hid (show ∀ v7 x', v7 = .bool false → Below x.heap.size x x' → K (a.put (some 114) v7) x' from hK)
                  have Hbx := Lib.hid hbx
                  clear hsame hpre hK hbx w104
                  go_simp
                  exact hk.out _ _ rfl (Below.refl _ _)
                · have q104 : a.tmps[104]?.getD undef = .bool false := hpre ⟨25, .data⟩ (by simp) rfl (by decide)
                  have q114 : a.tmps[114]?.getD undef = .bool false := hpre ⟨35, .data⟩ (by simp) rfl (by decide)
                  have w90 : a.tmps[90]?.getD undef = .bool true := hpre ⟨11, .guard⟩ (by simp) rfl (by decide)
                  refine step_wanted (wanted_of (j := 11) (t := 90) (b := true) rfl rfl w90) ?_
                  have hk := Lib.hid (show ∀ v7 x', v7 = .bool false → Below x.heap.size x x' → K (a.put (some 115) v7) x' from hK)
                  have Hbx := Lib.hid hbx
                  clear hsame hpre hK hbx w90
                  go_simp
                  exact hk.out _ _ rfl (Below.refl _ _)
                · have q90 : a.tmps[90]?.getD undef = .bool true := hpre ⟨11, .data⟩ (by simp) rfl (by decide)
                  have q115 : a.tmps[115]?.getD undef = .bool false := hpre ⟨36, .data⟩ (by simp) rfl (by decide)
                  refine step_plain rfl ?_
                  have hk := Lib.hid (show ∀ v7 x', v7 = .bool false → Below x.heap.size x x' → K (a.put (some 116) v7) x' from hK)
                  have Hbx := Lib.hid hbx
                  clear hsame hpre hK hbx
                  go_simp
                  exact hk.out _ _ rfl (Below.refl _ _)
              intro a72 x72 hbx hsame hG hsz72 hde72
              replace f76 := (hsame 76 (by decide +kernel)).trans f76
              replace f28 := (hsame 28 (by decide +kernel)).trans f28
              replace f5 := (hsame 5 (by decide +kernel)).trans f5
              replace f6 := (hsame 6 (by decide +kernel)).trans f6
              replace f1 := (hsame 1 (by decide +kernel)).trans f1
              replace f26 := (hsame 26 (by decide +kernel)).trans f26
              replace f27 := (hsame 27 (by decide +kernel)).trans f27
              replace f7 := (hsame 7 (by decide +kernel)).trans f7
              replace f8 := (hsame 8 (by decide +kernel)).trans f8
              replace f9 := (hsame 9 (by decide +kernel)).trans f9
              replace f10 := (hsame 10 (by decide +kernel)).trans f10
              replace f11 := (hsame 11 (by decide +kernel)).trans f11
              replace f75 := (hsame 75 (by decide +kernel)).trans f75
              replace f12 := (hsame 12 (by decide +kernel)).trans f12
              have f116 : a72.tmps[116]?.getD undef = .bool false := hG 37 (by decide)
              have Hbx72 := Lib.hid hbx
              have hsz72h := Lib.hid hsz72
              have hde72h := Lib.hid (hde72.trans hde71.out)
              clear hsame hG hbx hsz72 hde72 hsz71 hde71
              refine then_go ?_
              repeat with_reducible refine wp_seq ?_
              refine wp_cond_false (eval_at f116) ?_
              refine wp_skip ?_
              refine block_go ?_
              refine then_go ?_
              clear f116
              refine wp_region_lit ?_
              refine wpList_next rfl hsz72h hde72h 117 rfl (by decide) fun K hK => ?_
              go_simp
              refine hK _ _ fun a73 hsz73 hde73 f117 hk => ?_
              clear hK K
              replace f76 := (hk 76 (by decide)).trans f76
              replace f28 := (hk 28 (by decide)).trans f28
              replace f5 := (hk 5 (by decide)).trans f5
              replace f6 := (hk 6 (by decide)).trans f6
              replace f1 := (hk 1 (by decide)).trans f1
              replace f26 := (hk 26 (by decide)).trans f26
              replace f27 := (hk 27 (by decide)).trans f27
              replace f7 := (hk 7 (by decide)).trans f7
              replace f8 := (hk 8 (by decide)).trans f8
              replace f9 := (hk 9 (by decide)).trans f9
              replace f10 := (hk 10 (by decide)).trans f10
              replace f11 := (hk 11 (by decide)).trans f11
              replace f75 := (hk 75 (by decide)).trans f75
              replace f12 := (hk 12 (by decide)).trans f12
              clear hk hsz72h hde72h
              replace f117 : a73.tmps[117]?.getD undef = .int .i64 ((k + 1 : Nat) : Int) := f117.trans (by first | (congr 1; done) | (congr 1; rw [IntKind.wrap_i64] <;> omega))
              refine wpList_next rfl hsz73 hde73 76 rfl (by decide) fun K hK => ?_
              go_simp
              refine hK _ _ fun a74 hsz74 hde74 f76 hk => ?_
              clear hK K
              replace f28 := (hk 28 (by decide)).trans f28
              replace f5 := (hk 5 (by decide)).trans f5
              replace f6 := (hk 6 (by decide)).trans f6
              replace f1 := (hk 1 (by decide)).trans f1
              replace f26 := (hk 26 (by decide)).trans f26
              replace f27 := (hk 27 (by decide)).trans f27
              replace f7 := (hk 7 (by decide)).trans f7
              replace f8 := (hk 8 (by decide)).trans f8
              replace f9 := (hk 9 (by decide)).trans f9
              replace f10 := (hk 10 (by decide)).trans f10
              replace f11 := (hk 11 (by decide)).trans f11
              replace f75 := (hk 75 (by decide)).trans f75
              replace f12 := (hk 12 (by decide)).trans f12
              replace f76 : a74.tmps[76]?.getD undef = .int .i64 ((k + 1 : Nat) : Int) := f76
              clear hk hsz73 hde73 f117
              refine wpList_nil ?_
              refine then_go ?_
              exact ⟨⟨k + 1, by omega, hsz74, hde74, f76, f28, f5, f6, f1, f26, f27, f7, f8, f9, f10, f11, f75, (Lib.hid (below_call Hbk.out Hbx72.out))⟩, by rw [f76, F76o.out]; show X.length - ((k + 1 : Nat) : Int).toNat < X.length - ((k : Nat) : Int).toNat; omega⟩
          · by_cases hc2 : t + s.length ≤ k
            · by_cases hc3 : k < D.length
              · skip
                have hel := (Hels.out k hkx (.inr hc2)).1 hc3
                have hid := fun z => index_at D k hc3 z
                rw [← hel, ← hbx] at hid
                clear hel hbx
                refine wp_region_goodg (tblG [(79, .int .i64 (k : Int)), (80, .int .i64 (t : Int)), (81, .bool false), (82, .bool false), (83, .int .i64 (k : Int)), (84, .int .i64 (t : Int)), (85, str s), (86, .int .i64 (s.length : Int)), (87, .int .i64 ((t + s.length : Nat) : Int)), (88, .bool true), (89, .bool true), (90, .bool true), (91, .int .i64 (k : Int)), (92, str D), (93, .int .i64 (D.length : Int)), (94, .bool true), (95, .bool true), (96, str X), (97, .int .i64 (k : Int)), (98, .int .u8 (bx : Int)), (99, str D), (100, .int .i64 (k : Int)), (101, .int .u8 (bx : Int)), (102, .bool false), (103, .bool false), (104, .bool false), (105, .int .i64 (k : Int)), (106, str D), (107, .int .i64 (D.length : Int)), (108, .bool false), (109, .bool false), (110, undef), (111, undef), (112, undef), (113, undef), (114, .bool false), (115, .bool false), (116, .bool false)]) 171 (by kernel_rfl) (by kernel_rfl) (by kernel_rfl) (by kernel_rfl) hsz71.out ?_ ?_ ?_
                · intro t v7 x x' h _ _
                  exact h
                · intro i7 o hi7 a x hbx hsame hpre K hK
                  have hlt7 : i7 < 38 := (Array.getElem?_eq_some_iff.1 hi7).1
                  rcases (show i7 = 0 ∨ i7 = 1 ∨ i7 = 2 ∨ i7 = 3 ∨ i7 = 4 ∨ i7 = 5 ∨ i7 = 6 ∨ i7 = 7 ∨ i7 = 8 ∨ i7 = 9 ∨ i7 = 10 ∨ i7 = 11 ∨ i7 = 12 ∨ i7 = 13 ∨ i7 = 14 ∨ i7 = 15 ∨ i7 = 16 ∨ i7 = 17 ∨ i7 = 18 ∨ i7 = 19 ∨ i7 = 20 ∨ i7 = 21 ∨ i7 = 22 ∨ i7 = 23 ∨ i7 = 24 ∨ i7 = 25 ∨ i7 = 26 ∨ i7 = 27 ∨ i7 = 28 ∨ i7 = 29 ∨ i7 = 30 ∨ i7 = 31 ∨ i7 = 32 ∨ i7 = 33 ∨ i7 = 34 ∨ i7 = 35 ∨ i7 = 36 ∨ i7 = 37 by omega) with rfl | rfl | rfl | rfl | rfl | rfl | rfl | rfl | rfl | rfl | rfl | rfl | rfl | rfl | rfl | rfl | rfl | rfl | rfl | rfl | rfl | rfl | rfl | rfl | rfl | rfl | rfl | rfl | rfl | rfl | rfl | rfl | rfl | rfl | rfl | rfl | rfl | rfl
                  all_goals (have ho := Option.some.inj hi7; subst ho; clear hi7 hlt7)
                  · have q12 : a.tmps[12]?.getD undef = .int .i64 (k : Int) := (hsame 12 (by decide +kernel)).trans f12
                    refine step_plain rfl ?_
                    have hk := Lib.hid (show ∀ v7 x', v7 = .int .i64 (k : Int) → Below x.heap.size x x' → K (a.put (some 79) v7) x' from hK)
                    have Hbx := Lib.hid hbx
                    clear hsame hpre hK hbx
                    go_simp
                    exact hk.out _ _ rfl (Below.refl _ _)
                  · have q9 : a.tmps[9]?.getD undef = .int .i64 (t : Int) := (hsame 9 (by decide +kernel)).trans f9
                    refine step_plain rfl ?_
                    have hk := Lib.hid (show ∀ v7 x', v7 = .int .i64 (t : Int) → Below x.heap.size x x' → K (a.put (some 80) v7) x' from hK)
                    have Hbx := Lib.hid hbx
                    clear hsame hpre hK hbx
                    go_simp
                    exact hk.out _ _ rfl (Below.refl _ _)
                  · have q79 : a.tmps[79]?.getD undef = .int .i64 (k : Int) := hpre ⟨0, .data⟩ (by simp) rfl (by decide)
                    have q80 : a.tmps[80]?.getD undef = .int .i64 (t : Int) := hpre ⟨1, .data⟩ (by simp) rfl (by decide)
                    refine step_plain rfl ?_
                    have hk := Lib.hid (show ∀ v7 x', v7 = .bool false → Below x.heap.size x x' → K (a.put (some 81) v7) x' from hK)
                    have Hbx := Lib.hid hbx
                    clear hsame hpre hK hbx
                    go_simp
                    exact hk.out _ _ (by first | rfl | (congr 1; first | omega | exact decide_eq_true (by omega) | exact decide_eq_false (by omega) | exact hwr)) (Below.refl _ _)
                  · have q81 : a.tmps[81]?.getD undef = .bool false := hpre ⟨2, .data⟩ (by simp) rfl (by decide)
                    refine step_plain rfl ?_
                    have hk := Lib.hid (show ∀ v7 x', v7 = .bool false → Below x.heap.size x x' → K (a.put (some 82) v7) x' from hK)
                    have Hbx := Lib.hid hbx
                    clear hsame hpre hK hbx
                    go_simp
                    exact hk.out _ _ rfl (Below.refl _ _)
                  · have q12 : a.tmps[12]?.getD undef = .int .i64 (k : Int) := (hsame 12 (by decide +kernel)).trans f12
                    have w82 : a.tmps[82]?.getD undef = .bool false := hpre ⟨3, .guard⟩ (by simp) rfl (by decide)
                    refine step_wanted (wanted_of (j := 3) (t := 82) (b := false) rfl rfl w82) ?_
                    have hk := Lib.hid (show ∀ v7 x', v7 = .int .i64 (k : Int) → Below x.heap.size x x' → K (a.put (some 83) v7) x' from hK)
                    have Hbx := Lib.hid hbx
                    clear hsame hpre hK hbx w82
                    go_simp
                    exact hk.out _ _ rfl (Below.refl _ _)
                  · have q9 : a.tmps[9]?.getD undef = .int .i64 (t : Int) := (hsame 9 (by decide +kernel)).trans f9
                    have w82 : a.tmps[82]?.getD undef = .bool false := hpre ⟨3, .guard⟩ (by simp) rfl (by decide)
                    refine step_wanted (wanted_of (j := 3) (t := 82) (b := false) rfl rfl w82) ?_
                    have hk := Lib.hid (show ∀ v7 x', v7 = .int .i64 (t : Int) → Below x.heap.size x x' → K (a.put (some 84) v7) x' from hK)
                    have Hbx := Lib.hid hbx
                    clear hsame hpre hK hbx w82
                    go_simp
                    exact hk.out _ _ rfl (Below.refl _ _)
                  · have q8 : a.tmps[8]?.getD undef = str s := (hsame 8 (by decide +kernel)).trans f8
                    have w82 : a.tmps[82]?.getD undef = .bool false := hpre ⟨3, .guard⟩ (by simp) rfl (by decide)
                    refine step_wanted (wanted_of (j := 3) (t := 82) (b := false) rfl rfl w82) ?_
                    have hk := Lib.hid (show ∀ v7 x', v7 = str s → Below x.heap.size x x' → K (a.put (some 85) v7) x' from hK)
                    have Hbx := Lib.hid hbx
                    clear hsame hpre hK hbx w82
                    go_simp
                    exact hk.out _ _ rfl (Below.refl _ _)
                  · have q85 : a.tmps[85]?.getD undef = str s := hpre ⟨6, .data⟩ (by simp) rfl (by decide)
                    have w82 : a.tmps[82]?.getD undef = .bool false := hpre ⟨3, .guard⟩ (by simp) rfl (by decide)
                    refine step_wanted (wanted_of (j := 3) (t := 82) (b := false) rfl rfl w82) ?_
                    have hk := Lib.hid (show ∀ v7 x', v7 = .int .i64 (s.length : Int) → Below x.heap.size x x' → K (a.put (some 86) v7) x' from hK)
                    have Hbx := Lib.hid hbx
                    clear hsame hpre hK hbx w82
                    go_simp
                    exact hk.out _ _ (by first | rfl | (congr 1; first | omega | exact decide_eq_true (by omega) | exact decide_eq_false (by omega) | exact hwr)) (Below.refl _ _)
                  · have q84 : a.tmps[84]?.getD undef = .int .i64 (t : Int) := hpre ⟨5, .data⟩ (by simp) rfl (by decide)
                    have q86 : a.tmps[86]?.getD undef = .int .i64 (s.length : Int) := hpre ⟨7, .data⟩ (by simp) rfl (by decide)
                    have w82 : a.tmps[82]?.getD undef = .bool false := hpre ⟨3, .guard⟩ (by simp) rfl (by decide)
                    refine step_wanted (wanted_of (j := 3) (t := 82) (b := false) rfl rfl w82) ?_
                    have hk := Lib.hid (show ∀ v7 x', v7 = .int .i64 ((t + s.length : Nat) : Int) → Below x.heap.size x x' → K (a.put (some 87) v7) x' from hK)
                    have Hbx := Lib.hid hbx
                    clear hsame hpre hK hbx w82
                    go_simp
                    exact hk.out _ _ (by first | rfl | (congr 1; first | omega | exact decide_eq_true (by omega) | exact decide_eq_false (by omega) | exact hwr)) (Below.refl _ _)
                  · have q83 : a.tmps[83]?.getD undef = .int .i64 (k : Int) := hpre ⟨4, .data⟩ (by simp) rfl (by decide)
                    have q87 : a.tmps[87]?.getD undef = .int .i64 ((t + s.length : Nat) : Int) := hpre ⟨8, .data⟩ (by simp) rfl (by decide)
                    have w82 : a.tmps[82]?.getD undef = .bool false := hpre ⟨3, .guard⟩ (by simp) rfl (by decide)
                    refine step_wanted (wanted_of (j := 3) (t := 82) (b := false) rfl rfl w82) ?_
                    have hk := Lib.hid (show ∀ v7 x', v7 = .bool true → Below x.heap.size x x' → K (a.put (some 88) v7) x' from hK)
                    have Hbx := Lib.hid hbx
                    clear hsame hpre hK hbx w82
                    go_simp
                    exact hk.out _ _ (by first | rfl | (congr 1; first | omega | exact decide_eq_true (by omega) | exact decide_eq_false (by omega) | exact hwr)) (Below.refl _ _)
                  · have q82 : a.tmps[82]?.getD undef = .bool false := hpre ⟨3, .data⟩ (by simp) rfl (by decide)
                    have q88 : a.tmps[88]?.getD undef = .bool true := hpre ⟨9, .data⟩ (by simp) rfl (by decide)
                    refine step_plain rfl ?_
                    have hk := Lib.hid (show ∀ v7 x', v7 = .bool true → Below x.heap.size x x' → K (a.put (some 89) v7) x' from hK)
                    have Hbx := Lib.hid hbx
                    clear hsame hpre hK hbx
                    go_simp
                    exact hk.out _ _ rfl (Below.refl _ _)
                  · have q89 : a.tmps[89]?.getD undef = .bool true := hpre ⟨10, .data⟩ (by simp) rfl (by decide)
                    refine step_plain rfl ?_
                    have hk := Lib.hid (show ∀ v7 x', v7 = .bool true → Below x.heap.size x x' → K (a.put (some 90) v7) x' from hK)
                    have Hbx := Lib.hid hbx
                    clear hsame hpre hK hbx
                    go_simp
                    exact hk.out _ _ rfl (Below.refl _ _)
                  · have q12 : a.tmps[12]?.getD undef = .int .i64 (k : Int) := (hsame 12 (by decide +kernel)).trans f12
                    have w90 : a.tmps[90]?.getD undef = .bool true := hpre ⟨11, .guard⟩ (by simp) rfl (by decide)
                    refine step_wanted (wanted_of (j := 11) (t := 90) (b := true) rfl rfl w90) ?_
                    have hk := Lib.hid (show ∀ v7 x', v7 = .int .i64 (k : Int) → Below x.heap.size x x' → K (a.put (some 91) v7) x' from hK)
                    have Hbx := Lib.hid hbx
                    clear hsame hpre hK hbx w90
                    go_simp
                    exact hk.out _ _ rfl (Below.refl _ _)
                  · have q6 : a.tmps[6]?.getD undef = str D := (hsame 6 (by decide +kernel)).trans f6
                    have w90 : a.tmps[90]?.getD undef = .bool true := hpre ⟨11, .guard⟩ (by simp) rfl (by decide)
                    refine step_wanted (wanted_of (j := 11) (t := 90) (b := true) rfl rfl w90) ?_
                    have hk := Lib.hid (show ∀ v7 x', v7 = str D → Below x.heap.size x x' → K (a.put (some 92) v7) x' from hK)
                    have Hbx := Lib.hid hbx
                    clear hsame hpre hK hbx w90
                    go_simp
                    exact hk.out _ _ rfl (Below.refl _ _)
                  · have q92 : a.tmps[92]?.getD undef = str D := hpre ⟨13, .data⟩ (by simp) rfl (by decide)
                    have w90 : a.tmps[90]?.getD undef = .bool true := hpre ⟨11, .guard⟩ (by simp) rfl (by decide)
                    refine step_wanted (wanted_of (j := 11) (t := 90) (b := true) rfl rfl w90) ?_
                    have hk := Lib.hid (show ∀ v7 x', v7 = .int .i64 (D.length : Int) → Below x.heap.size x x' → K (a.put (some 93) v7) x' from hK)
                    have Hbx := Lib.hid hbx
                    clear hsame hpre hK hbx w90
                    go_simp
                    exact hk.out _ _ (by first | rfl | (congr 1; first | omega | exact decide_eq_true (by omega) | exact decide_eq_false (by omega) | exact hwr)) (Below.refl _ _)
                  · have q91 : a.tmps[91]?.getD undef = .int .i64 (k : Int) := hpre ⟨12, .data⟩ (by simp) rfl (by decide)
                    have q93 : a.tmps[93]?.getD undef = .int .i64 (D.length : Int) := hpre ⟨14, .data⟩ (by simp) rfl (by decide)
                    have w90 : a.tmps[90]?.getD undef = .bool true := hpre ⟨11, .guard⟩ (by simp) rfl (by decide)
                    refine step_wanted (wanted_of (j := 11) (t := 90) (b := true) rfl rfl w90) ?_
                    have hk := Lib.hid (show ∀ v7 x', v7 = .bool true → Below x.heap.size x x' → K (a.put (some 94) v7) x' from hK)
                    have Hbx := Lib.hid hbx
                    clear hsame hpre hK hbx w90
                    go_simp
                    exact hk.out _ _ (by first | rfl | (congr 1; first | omega | exact decide_eq_true (by omega) | exact decide_eq_false (by omega) | exact hwr)) (Below.refl _ _)
                  · have q94 : a.tmps[94]?.getD undef = .bool true := hpre ⟨15, .data⟩ (by simp) rfl (by decide)
                    have w90 : a.tmps[90]?.getD undef = .bool true := hpre ⟨11, .guard⟩ (by simp) rfl (by decide)
                    refine step_wanted (wanted_of (j := 11) (t := 90) (b := true) rfl rfl w90) ?_
                    have hk := Lib.hid (show ∀ v7 x', v7 = .bool true → Below x.heap.size x x' → K (a.put (some 95) v7) x' from hK)
                    have Hbx := Lib.hid hbx
                    clear hsame hpre hK hbx w90
                    go_simp
                    exact hk.out _ _ rfl (Below.refl _ _)
                  · have q10 : a.tmps[10]?.getD undef = str X := (hsame 10 (by decide +kernel)).trans f10
                    have w95 : a.tmps[95]?.getD undef = .bool true := hpre ⟨16, .guard⟩ (by simp) rfl (by decide)
                    refine step_wanted (wanted_of (j := 16) (t := 95) (b := true) rfl rfl w95) ?_
                    have hk := Lib.hid (show ∀ v7 x', v7 = str X → Below x.heap.size x x' → K (a.put (some 96) v7) x' from hK)
                    have Hbx := Lib.hid hbx
                    clear hsame hpre hK hbx w95
                    go_simp
                    exact hk.out _ _ rfl (Below.refl _ _)
                  · have q12 : a.tmps[12]?.getD undef = .int .i64 (k : Int) := (hsame 12 (by decide +kernel)).trans f12
                    have w95 : a.tmps[95]?.getD undef = .bool true := hpre ⟨16, .guard⟩ (by simp) rfl (by decide)
                    refine step_wanted (wanted_of (j := 16) (t := 95) (b := true) rfl rfl w95) ?_
                    have hk := Lib.hid (show ∀ v7 x', v7 = .int .i64 (k : Int) → Below x.heap.size x x' → K (a.put (some 97) v7) x' from hK)
                    have Hbx := Lib.hid hbx
                    clear hsame hpre hK hbx w95
                    go_simp
                    exact hk.out _ _ rfl (Below.refl _ _)
                  · have q96 : a.tmps[96]?.getD undef = str X := hpre ⟨17, .data⟩ (by simp) rfl (by decide)
                    have q97 : a.tmps[97]?.getD undef = .int .i64 (k : Int) := hpre ⟨18, .data⟩ (by simp) rfl (by decide)
                    have w95 : a.tmps[95]?.getD undef = .bool true := hpre ⟨16, .guard⟩ (by simp) rfl (by decide)
                    refine step_wanted (wanted_of (j := 16) (t := 95) (b := true) rfl rfl w95) ?_
                    have hk := Lib.hid (show ∀ v7 x', v7 = .int .u8 (bx : Int) → Below x.heap.size x x' → K (a.put (some 98) v7) x' from hK)
                    have Hbx := Lib.hid hbx
                    clear hsame hpre hK hbx w95
                    go_simp
                    exact hk.out _ _ (by first | rfl | (congr 1; first | omega | exact decide_eq_true (by omega) | exact decide_eq_false (by omega) | exact hwr)) (Below.refl _ _)
                  · have q6 : a.tmps[6]?.getD undef = str D := (hsame 6 (by decide +kernel)).trans f6
                    have w95 : a.tmps[95]?.getD undef = .bool true := hpre ⟨16, .guard⟩ (by simp) rfl (by decide)
                    refine step_wanted (wanted_of (j := 16) (t := 95) (b := true) rfl rfl w95) ?_
                    have hk := Lib.hid (show ∀ v7 x', v7 = str D → Below x.heap.size x x' → K (a.put (some 99) v7) x' from hK)
                    have Hbx := Lib.hid hbx
                    clear hsame hpre hK hbx w95
                    go_simp
                    exact hk.out _ _ rfl (Below.refl _ _)
                  · have q12 : a.tmps[12]?.getD undef = .int .i64 (k : Int) := (hsame 12 (by decide +kernel)).trans f12
                    have w95 : a.tmps[95]?.getD undef = .bool true := hpre ⟨16, .guard⟩ (by simp) rfl (by decide)
                    refine step_wanted (wanted_of (j := 16) (t := 95) (b := true) rfl rfl w95) ?_
                    have hk := Lib.hid (show ∀ v7 x', v7 = .int .i64 (k : Int) → Below x.heap.size x x' → K (a.put (some 100) v7) x' from hK)
                    have Hbx := Lib.hid hbx
                    clear hsame hpre hK hbx w95
                    go_simp
                    exact hk.out _ _ rfl (Below.refl _ _)
                  · have q99 : a.tmps[99]?.getD undef = str D := hpre ⟨20, .data⟩ (by simp) rfl (by decide)
                    have q100 : a.tmps[100]?.getD undef = .int .i64 (k : Int) := hpre ⟨21, .data⟩ (by simp) rfl (by decide)
                    have w95 : a.tmps[95]?.getD undef = .bool true := hpre ⟨16, .guard⟩ (by simp) rfl (by decide)
                    refine step_wanted (wanted_of (j := 16) (t := 95) (b := true) rfl rfl w95) ?_
                    have hk := Lib.hid (show ∀ v7 x', v7 = .int .u8 (bx : Int) → Below x.heap.size x x' → K (a.put (some 101) v7) x' from hK)
                    have Hbx := Lib.hid hbx
                    clear hsame hpre hK hbx w95
                    go_simp
                    exact hk.out _ _ (by first | rfl | (congr 1; first | omega | exact decide_eq_true (by omega) | exact decide_eq_false (by omega) | exact hwr)) (Below.refl _ _)
                  · have q98 : a.tmps[98]?.getD undef = .int .u8 (bx : Int) := hpre ⟨19, .data⟩ (by simp) rfl (by decide)
                    have q101 : a.tmps[101]?.getD undef = .int .u8 (bx : Int) := hpre ⟨22, .data⟩ (by simp) rfl (by decide)
                    have w95 : a.tmps[95]?.getD undef = .bool true := hpre ⟨16, .guard⟩ (by simp) rfl (by decide)
                    refine step_wanted (wanted_of (j := 16) (t := 95) (b := true) rfl rfl w95) ?_
                    have hk := Lib.hid (show ∀ v7 x', v7 = .bool false → Below x.heap.size x x' → K (a.put (some 102) v7) x' from hK)
                    have Hbx := Lib.hid hbx
                    clear hsame hpre hK hbx w95
                    go_simp
                    exact hk.out _ _ (by first | rfl | (congr 1; first | omega | exact decide_eq_true (by omega) | exact decide_eq_false (by omega) | exact hwr)) (Below.refl _ _)
                  · have q95 : a.tmps[95]?.getD undef = .bool true := hpre ⟨16, .data⟩ (by simp) rfl (by decide)
                    have q102 : a.tmps[102]?.getD undef = .bool false := hpre ⟨23, .data⟩ (by simp) rfl (by decide)
                    have w90 : a.tmps[90]?.getD undef = .bool true := hpre ⟨11, .guard⟩ (by simp) rfl (by decide)
                    refine step_wanted (wanted_of (j := 11) (t := 90) (b := true) rfl rfl w90) ?_
                    have hk := Lib.hid (show ∀ v7 x', v7 = .bool false → Below x.heap.size x x' → K (a.put (some 103) v7) x' from hK)
                    have Hbx := Lib.hid hbx
                    clear hsame hpre hK hbx w90
                    go_simp
                    exact hk.out _ _ rfl (Below.refl _ _)
                  · have q103 : a.tmps[103]?.getD undef = .bool false := hpre ⟨24, .data⟩ (by simp) rfl (by decide)
                    have w90 : a.tmps[90]?.getD undef = .bool true := hpre ⟨11, .guard⟩ (by simp) rfl (by decide)
                    refine step_wanted (wanted_of (j := 11) (t := 90) (b := true) rfl rfl w90) ?_
                    have hk := Lib.hid (show ∀ v7 x', v7 = .bool false → Below x.heap.size x x' → K (a.put (some 104) v7) x' from hK)
                    have Hbx := Lib.hid hbx
                    clear hsame hpre hK hbx w90
                    go_simp
                    exact hk.out _ _ rfl (Below.refl _ _)
                  · have q12 : a.tmps[12]?.getD undef = .int .i64 (k : Int) := (hsame 12 (by decide +kernel)).trans f12
                    have w104 : a.tmps[104]?.getD undef = .bool false := hpre ⟨25, .guard⟩ (by simp) rfl (by decide)
                    refine step_wanted (wanted_of (j := 25) (t := 104) (b := false) rfl rfl w104) ?_
                    have hk := Lib.hid (show ∀ v7 x', v7 = .int .i64 (k : Int) → Below x.heap.size x x' → K (a.put (some 105) v7) x' from hK)
                    have Hbx := Lib.hid hbx
                    clear hsame hpre hK hbx w104
                    go_simp
                    exact hk.out _ _ rfl (Below.refl _ _)
                  · have q6 : a.tmps[6]?.getD undef = str D := (hsame 6 (by decide +kernel)).trans f6
                    have w104 : a.tmps[104]?.getD undef = .bool false := hpre ⟨25, .guard⟩ (by simp) rfl (by decide)
                    refine step_wanted (wanted_of (j := 25) (t := 104) (b := false) rfl rfl w104) ?_
                    have hk := Lib.hid (show ∀ v7 x', v7 = str D → Below x.heap.size x x' → K (a.put (some 106) v7) x' from hK)
                    have Hbx := Lib.hid hbx
                    clear hsame hpre hK hbx w104
                    go_simp
                    exact hk.out _ _ rfl (Below.refl _ _)
                  · have q106 : a.tmps[106]?.getD undef = str D := hpre ⟨27, .data⟩ (by simp) rfl (by decide)
                    have w104 : a.tmps[104]?.getD undef = .bool false := hpre ⟨25, .guard⟩ (by simp) rfl (by decide)
                    refine step_wanted (wanted_of (j := 25) (t := 104) (b := false) rfl rfl w104) ?_
                    have hk := Lib.hid (show ∀ v7 x', v7 = .int .i64 (D.length : Int) → Below x.heap.size x x' → K (a.put (some 107) v7) x' from hK)
                    have Hbx := Lib.hid hbx
                    clear hsame hpre hK hbx w104
                    go_simp
                    exact hk.out _ _ (by first | rfl | (congr 1; first | omega | exact decide_eq_true (by omega) | exact decide_eq_false (by omega) | exact hwr)) (Below.refl _ _)
                  · have q105 : a.tmps[105]?.getD undef = .int .i64 (k : Int) := hpre ⟨26, .data⟩ (by simp) rfl (by decide)
                    have q107 : a.tmps[107]?.getD undef = .int .i64 (D.length : Int) := hpre ⟨28, .data⟩ (by simp) rfl (by decide)
                    have w104 : a.tmps[104]?.getD undef = .bool false := hpre ⟨25, .guard⟩ (by simp) rfl (by decide)
                    refine step_wanted (wanted_of (j := 25) (t := 104) (b := false) rfl rfl w104) ?_
                    have hk := Lib.hid (show ∀ v7 x', v7 = .bool false → Below x.heap.size x x' → K (a.put (some 108) v7) x' from hK)
                    have Hbx := Lib.hid hbx
                    clear hsame hpre hK hbx w104
                    go_simp
                    exact hk.out _ _ (by first | rfl | (congr 1; first | omega | exact decide_eq_true (by omega) | exact decide_eq_false (by omega) | exact hwr)) (Below.refl _ _)
                  · have q108 : a.tmps[108]?.getD undef = .bool false := hpre ⟨29, .data⟩ (by simp) rfl (by decide)
                    have w104 : a.tmps[104]?.getD undef = .bool false := hpre ⟨25, .guard⟩ (by simp) rfl (by decide)
                    refine step_wanted (wanted_of (j := 25) (t := 104) (b := false) rfl rfl w104) ?_
                    have hk := Lib.hid (show ∀ v7 x', v7 = .bool false → Below x.heap.size x x' → K (a.put (some 109) v7) x' from hK)
                    have Hbx := Lib.hid hbx
                    clear hsame hpre hK hbx w104
                    go_simp
                    exact hk.out _ _ rfl (Below.refl _ _)
                  · have w109 : a.tmps[109]?.getD undef = .bool false := hpre ⟨30, .guard⟩ (by simp) rfl (by decide)
                    refine step_left (not_wanted (j := 30) (t := 109) (b := true) rfl rfl (.inr w109)) ?_
                    have hk := Lib.hid (show ∀ v7 x', v7 = undef → Below x.heap.size x x' → K (a.put (some 110) v7) x' from hK)
                    have Hbx := Lib.hid hbx
                    clear hsame hpre hK hbx w109
                    exact hk.out _ _ rfl (Below.refl _ _)
                  · have w109 : a.tmps[109]?.getD undef = .bool false := hpre ⟨30, .guard⟩ (by simp) rfl (by decide)
                    refine step_left (not_wanted (j := 30) (t := 109) (b := true) rfl rfl (.inr w109)) ?_
                    have hk := Lib.hid (show ∀ v7 x', v7 = undef → Below x.heap.size x x' → K (a.put (some 111) v7) x' from hK)
                    have Hbx := Lib.hid hbx
                    clear hsame hpre hK hbx w109
                    exact hk.out _ _ rfl (Below.refl _ _)
                  · have w109 : a.tmps[109]?.getD undef = .bool false := hpre ⟨30, .guard⟩ (by simp) rfl (by decide)
                    refine step_left (not_wanted (j := 30) (t := 109) (b := true) rfl rfl (.inr w109)) ?_
                    have hk := Lib.hid (show ∀ v7 x', v7 = undef → Below x.heap.size x x' → K (a.put (some 112) v7) x' from hK)
                    have Hbx := Lib.hid hbx
                    clear hsame hpre hK hbx w109
                    exact hk.out _ _ rfl (Below.refl _ _)
                  · have w109 : a.tmps[109]?.getD undef = .bool false := hpre ⟨30, .guard⟩ (by simp) rfl (by decide)
                    refine step_left (not_wanted (j := 30) (t := 109) (b := true) rfl rfl (.inr w109)) ?_
                    have hk := Lib.hid (show ∀ v7 x', v7 = undef → Below x.heap.size x x' → K (a.put (some 113) v7) x' from hK)
                    have Hbx := Lib.hid hbx
                    clear hsame hpre hK hbx w109
                    exact hk.out _ _ rfl (Below.refl _ _)
                  · have q109 : a.tmps[109]?.getD undef = .bool false := hpre ⟨30, .data⟩ (by simp) rfl (by decide)
                    have q113 : a.tmps[113]?.getD undef = undef := hpre ⟨34, .data⟩ (by simp) rfl (by decide)
                    have w104 : a.tmps[104]?.getD undef = .bool false := hpre ⟨25, .guard⟩ (by simp) rfl (by decide)
                    refine step_wanted (wanted_of (j := 25) (t := 104) (b := false) rfl rfl w104) ?_
                    have hk := Lib.hid (show ∀ v7 x', v7 = .bool false → Below x.heap.size x x' → K (a.put (some 114) v7) x' from hK)
                    have Hbx := Lib.hid hbx
                    clear hsame hpre hK hbx w104
                    go_simp
                    exact hk.out _ _ rfl (Below.refl _ _)
                  · have q104 : a.tmps[104]?.getD undef = .bool false := hpre ⟨25, .data⟩ (by simp) rfl (by decide)
                    have q114 : a.tmps[114]?.getD undef = .bool false := hpre ⟨35, .data⟩ (by simp) rfl (by decide)
                    have w90 : a.tmps[90]?.getD undef = .bool true := hpre ⟨11, .guard⟩ (by simp) rfl (by decide)
                    refine step_wanted (wanted_of (j := 11) (t := 90) (b := true) rfl rfl w90) ?_
                    have hk := Lib.hid (show ∀ v7 x', v7 = .bool false → Below x.heap.size x x' → K (a.put (some 115) v7) x' from hK)
                    have Hbx := Lib.hid hbx
                    clear hsame hpre hK hbx w90
                    go_simp
                    exact hk.out _ _ rfl (Below.refl _ _)
                  · have q90 : a.tmps[90]?.getD undef = .bool true := hpre ⟨11, .data⟩ (by simp) rfl (by decide)
                    have q115 : a.tmps[115]?.getD undef = .bool false := hpre ⟨36, .data⟩ (by simp) rfl (by decide)
                    refine step_plain rfl ?_
                    have hk := Lib.hid (show ∀ v7 x', v7 = .bool false → Below x.heap.size x x' → K (a.put (some 116) v7) x' from hK)
                    have Hbx := Lib.hid hbx
                    clear hsame hpre hK hbx
                    go_simp
                    exact hk.out _ _ rfl (Below.refl _ _)
                intro a72 x72 hbx hsame hG hsz72 hde72
                replace f76 := (hsame 76 (by decide +kernel)).trans f76
                replace f28 := (hsame 28 (by decide +kernel)).trans f28
                replace f5 := (hsame 5 (by decide +kernel)).trans f5
                replace f6 := (hsame 6 (by decide +kernel)).trans f6
                replace f1 := (hsame 1 (by decide +kernel)).trans f1
                replace f26 := (hsame 26 (by decide +kernel)).trans f26
                replace f27 := (hsame 27 (by decide +kernel)).trans f27
                replace f7 := (hsame 7 (by decide +kernel)).trans f7
                replace f8 := (hsame 8 (by decide +kernel)).trans f8
                replace f9 := (hsame 9 (by decide +kernel)).trans f9
                replace f10 := (hsame 10 (by decide +kernel)).trans f10
                replace f11 := (hsame 11 (by decide +kernel)).trans f11
                replace f75 := (hsame 75 (by decide +kernel)).trans f75
                replace f12 := (hsame 12 (by decide +kernel)).trans f12
                have f116 : a72.tmps[116]?.getD undef = .bool false := hG 37 (by decide)
                have Hbx72 := Lib.hid hbx
                have hsz72h := Lib.hid hsz72
                have hde72h := Lib.hid (hde72.trans hde71.out)
                clear hsame hG hbx hsz72 hde72 hsz71 hde71
                refine then_go ?_
                repeat with_reducible refine wp_seq ?_
                refine wp_cond_false (eval_at f116) ?_
                refine wp_skip ?_
                refine block_go ?_
                refine then_go ?_
                clear f116
                refine wp_region_lit ?_
                refine wpList_next rfl hsz72h hde72h 117 rfl (by decide) fun K hK => ?_
                go_simp
                refine hK _ _ fun a73 hsz73 hde73 f117 hk => ?_
                clear hK K
                replace f76 := (hk 76 (by decide)).trans f76
                replace f28 := (hk 28 (by decide)).trans f28
                replace f5 := (hk 5 (by decide)).trans f5
                replace f6 := (hk 6 (by decide)).trans f6
                replace f1 := (hk 1 (by decide)).trans f1
                replace f26 := (hk 26 (by decide)).trans f26
                replace f27 := (hk 27 (by decide)).trans f27
                replace f7 := (hk 7 (by decide)).trans f7
                replace f8 := (hk 8 (by decide)).trans f8
                replace f9 := (hk 9 (by decide)).trans f9
                replace f10 := (hk 10 (by decide)).trans f10
                replace f11 := (hk 11 (by decide)).trans f11
                replace f75 := (hk 75 (by decide)).trans f75
                replace f12 := (hk 12 (by decide)).trans f12
                clear hk hsz72h hde72h
                replace f117 : a73.tmps[117]?.getD undef = .int .i64 ((k + 1 : Nat) : Int) := f117.trans (by first | (congr 1; done) | (congr 1; rw [IntKind.wrap_i64] <;> omega))
                refine wpList_next rfl hsz73 hde73 76 rfl (by decide) fun K hK => ?_
                go_simp
                refine hK _ _ fun a74 hsz74 hde74 f76 hk => ?_
                clear hK K
                replace f28 := (hk 28 (by decide)).trans f28
                replace f5 := (hk 5 (by decide)).trans f5
                replace f6 := (hk 6 (by decide)).trans f6
                replace f1 := (hk 1 (by decide)).trans f1
                replace f26 := (hk 26 (by decide)).trans f26
                replace f27 := (hk 27 (by decide)).trans f27
                replace f7 := (hk 7 (by decide)).trans f7
                replace f8 := (hk 8 (by decide)).trans f8
                replace f9 := (hk 9 (by decide)).trans f9
                replace f10 := (hk 10 (by decide)).trans f10
                replace f11 := (hk 11 (by decide)).trans f11
                replace f75 := (hk 75 (by decide)).trans f75
                replace f12 := (hk 12 (by decide)).trans f12
                replace f76 : a74.tmps[76]?.getD undef = .int .i64 ((k + 1 : Nat) : Int) := f76
                clear hk hsz73 hde73 f117
                refine wpList_nil ?_
                refine then_go ?_
                exact ⟨⟨k + 1, by omega, hsz74, hde74, f76, f28, f5, f6, f1, f26, f27, f7, f8, f9, f10, f11, f75, (Lib.hid (below_call Hbk.out Hbx72.out))⟩, by rw [f76, F76o.out]; show X.length - ((k + 1 : Nat) : Int).toNat < X.length - ((k : Nat) : Int).toNat; omega⟩
              · skip
                have hel := (Hels.out k hkx (.inr hc2)).2 (by omega)
                rw [hel] at hbx
                have hb0 : bx = 0 := hbx
                subst hb0
                clear hel hbx
                refine wp_region_goodg (tblG [(79, .int .i64 (k : Int)), (80, .int .i64 (t : Int)), (81, .bool false), (82, .bool false), (83, .int .i64 (k : Int)), (84, .int .i64 (t : Int)), (85, str s), (86, .int .i64 (s.length : Int)), (87, .int .i64 ((t + s.length : Nat) : Int)), (88, .bool true), (89, .bool true), (90, .bool true), (91, .int .i64 (k : Int)), (92, str D), (93, .int .i64 (D.length : Int)), (94, .bool false), (95, .bool false), (96, undef), (97, undef), (98, undef), (99, undef), (100, undef), (101, undef), (102, undef), (103, .bool false), (104, .bool false), (105, .int .i64 (k : Int)), (106, str D), (107, .int .i64 (D.length : Int)), (108, .bool true), (109, .bool true), (110, str X), (111, .int .i64 (k : Int)), (112, .int .u8 0), (113, .bool false), (114, .bool false), (115, .bool false), (116, .bool false)]) 171 (by kernel_rfl) (by kernel_rfl) (by kernel_rfl) (by kernel_rfl) hsz71.out ?_ ?_ ?_
                · intro t v7 x x' h _ _
                  exact h
                · intro i7 o hi7 a x hbx hsame hpre K hK
                  have hlt7 : i7 < 38 := (Array.getElem?_eq_some_iff.1 hi7).1
                  rcases (show i7 = 0 ∨ i7 = 1 ∨ i7 = 2 ∨ i7 = 3 ∨ i7 = 4 ∨ i7 = 5 ∨ i7 = 6 ∨ i7 = 7 ∨ i7 = 8 ∨ i7 = 9 ∨ i7 = 10 ∨ i7 = 11 ∨ i7 = 12 ∨ i7 = 13 ∨ i7 = 14 ∨ i7 = 15 ∨ i7 = 16 ∨ i7 = 17 ∨ i7 = 18 ∨ i7 = 19 ∨ i7 = 20 ∨ i7 = 21 ∨ i7 = 22 ∨ i7 = 23 ∨ i7 = 24 ∨ i7 = 25 ∨ i7 = 26 ∨ i7 = 27 ∨ i7 = 28 ∨ i7 = 29 ∨ i7 = 30 ∨ i7 = 31 ∨ i7 = 32 ∨ i7 = 33 ∨ i7 = 34 ∨ i7 = 35 ∨ i7 = 36 ∨ i7 = 37 by omega) with rfl | rfl | rfl | rfl | rfl | rfl | rfl | rfl | rfl | rfl | rfl | rfl | rfl | rfl | rfl | rfl | rfl | rfl | rfl | rfl | rfl | rfl | rfl | rfl | rfl | rfl | rfl | rfl | rfl | rfl | rfl | rfl | rfl | rfl | rfl | rfl | rfl | rfl
                  all_goals (have ho := Option.some.inj hi7; subst ho; clear hi7 hlt7)
                  · have q12 : a.tmps[12]?.getD undef = .int .i64 (k : Int) := (hsame 12 (by decide +kernel)).trans f12
                    refine step_plain rfl ?_
                    have hk := Lib.hid (show ∀ v7 x', v7 = .int .i64 (k : Int) → Below x.heap.size x x' → K (a.put (some 79) v7) x' from hK)
                    have Hbx := Lib.hid hbx
                    clear hsame hpre hK hbx
                    go_simp
                    exact hk.out _ _ rfl (Below.refl _ _)
                  · have q9 : a.tmps[9]?.getD undef = .int .i64 (t : Int) := (hsame 9 (by decide +kernel)).trans f9
                    refine step_plain rfl ?_
                    have hk := Lib.hid (show ∀ v7 x', v7 = .int .i64 (t : Int) → Below x.heap.size x x' → K (a.put (some 80) v7) x' from hK)
                    have Hbx := Lib.hid hbx
                    clear hsame hpre hK hbx
                    go_simp
                    exact hk.out _ _ rfl (Below.refl _ _)
                  · have q79 : a.tmps[79]?.getD undef = .int .i64 (k : Int) := hpre ⟨0, .data⟩ (by simp) rfl (by decide)
                    have q80 : a.tmps[80]?.getD undef = .int .i64 (t : Int) := hpre ⟨1, .data⟩ (by simp) rfl (by decide)
                    refine step_plain rfl ?_
                    have hk := Lib.hid (show ∀ v7 x', v7 = .bool false → Below x.heap.size x x' → K (a.put (some 81) v7) x' from hK)
                    have Hbx := Lib.hid hbx
                    clear hsame hpre hK hbx
                    go_simp
                    exact hk.out _ _ (by first | rfl | (congr 1; first | omega | exact decide_eq_true (by omega) | exact decide_eq_false (by omega) | exact hwr)) (Below.refl _ _)
                  · have q81 : a.tmps[81]?.getD undef = .bool false := hpre ⟨2, .data⟩ (by simp) rfl (by decide)
                    refine step_plain rfl ?_
                    have hk := Lib.hid (show ∀ v7 x', v7 = .bool false → Below x.heap.size x x' → K (a.put (some 82) v7) x' from hK)
                    have Hbx := Lib.hid hbx
                    clear hsame hpre hK hbx
                    go_simp
                    exact hk.out _ _ rfl (Below.refl _ _)
                  · have q12 : a.tmps[12]?.getD undef = .int .i64 (k : Int) := (hsame 12 (by decide +kernel)).trans f12
                    have w82 : a.tmps[82]?.getD undef = .bool false := hpre ⟨3, .guard⟩ (by simp) rfl (by decide)
                    refine step_wanted (wanted_of (j := 3) (t := 82) (b := false) rfl rfl w82) ?_
                    have hk := Lib.hid (show ∀ v7 x', v7 = .int .i64 (k : Int) → Below x.heap.size x x' → K (a.put (some 83) v7) x' from hK)
                    have Hbx := Lib.hid hbx
                    clear hsame hpre hK hbx w82
                    go_simp
                    exact hk.out _ _ rfl (Below.refl _ _)
                  · have q9 : a.tmps[9]?.getD undef = .int .i64 (t : Int) := (hsame 9 (by decide +kernel)).trans f9
                    have w82 : a.tmps[82]?.getD undef = .bool false := hpre ⟨3, .guard⟩ (by simp) rfl (by decide)
                    refine step_wanted (wanted_of (j := 3) (t := 82) (b := false) rfl rfl w82) ?_
                    have hk := Lib.hid (show ∀ v7 x', v7 = .int .i64 (t : Int) → Below x.heap.size x x' → K (a.put (some 84) v7) x' from hK)
                    have Hbx := Lib.hid hbx
                    clear hsame hpre hK hbx w82
                    go_simp
                    exact hk.out _ _ rfl (Below.refl _ _)
                  · have q8 : a.tmps[8]?.getD undef = str s := (hsame 8 (by decide +kernel)).trans f8
                    have w82 : a.tmps[82]?.getD undef = .bool false := hpre ⟨3, .guard⟩ (by simp) rfl (by decide)
                    refine step_wanted (wanted_of (j := 3) (t := 82) (b := false) rfl rfl w82) ?_
                    have hk := Lib.hid (show ∀ v7 x', v7 = str s → Below x.heap.size x x' → K (a.put (some 85) v7) x' from hK)
                    have Hbx := Lib.hid hbx
                    clear hsame hpre hK hbx w82
                    go_simp
                    exact hk.out _ _ rfl (Below.refl _ _)
                  · have q85 : a.tmps[85]?.getD undef = str s := hpre ⟨6, .data⟩ (by simp) rfl (by decide)
                    have w82 : a.tmps[82]?.getD undef = .bool false := hpre ⟨3, .guard⟩ (by simp) rfl (by decide)
                    refine step_wanted (wanted_of (j := 3) (t := 82) (b := false) rfl rfl w82) ?_
                    have hk := Lib.hid (show ∀ v7 x', v7 = .int .i64 (s.length : Int) → Below x.heap.size x x' → K (a.put (some 86) v7) x' from hK)
                    have Hbx := Lib.hid hbx
                    clear hsame hpre hK hbx w82
                    go_simp
                    exact hk.out _ _ (by first | rfl | (congr 1; first | omega | exact decide_eq_true (by omega) | exact decide_eq_false (by omega) | exact hwr)) (Below.refl _ _)
                  · have q84 : a.tmps[84]?.getD undef = .int .i64 (t : Int) := hpre ⟨5, .data⟩ (by simp) rfl (by decide)
                    have q86 : a.tmps[86]?.getD undef = .int .i64 (s.length : Int) := hpre ⟨7, .data⟩ (by simp) rfl (by decide)
                    have w82 : a.tmps[82]?.getD undef = .bool false := hpre ⟨3, .guard⟩ (by simp) rfl (by decide)
                    refine step_wanted (wanted_of (j := 3) (t := 82) (b := false) rfl rfl w82) ?_
                    have hk := Lib.hid (show ∀ v7 x', v7 = .int .i64 ((t + s.length : Nat) : Int) → Below x.heap.size x x' → K (a.put (some 87) v7) x' from hK)
                    have Hbx := Lib.hid hbx
                    clear hsame hpre hK hbx w82
                    go_simp
                    exact hk.out _ _ (by first | rfl | (congr 1; first | omega | exact decide_eq_true (by omega) | exact decide_eq_false (by omega) | exact hwr)) (Below.refl _ _)
                  · have q83 : a.tmps[83]?.getD undef = .int .i64 (k : Int) := hpre ⟨4, .data⟩ (by simp) rfl (by decide)
                    have q87 : a.tmps[87]?.getD undef = .int .i64 ((t + s.length : Nat) : Int) := hpre ⟨8, .data⟩ (by simp) rfl (by decide)
                    have w82 : a.tmps[82]?.getD undef = .bool false := hpre ⟨3, .guard⟩ (by simp) rfl (by decide)
                    refine step_wanted (wanted_of (j := 3) (t := 82) (b := false) rfl rfl w82) ?_
                    have hk := Lib.hid (show ∀ v7 x', v7 = .bool true → Below x.heap.size x x' → K (a.put (some 88) v7) x' from hK)
                    have Hbx := Lib.hid hbx
                    clear hsame hpre hK hbx w82
                    go_simp
                    exact hk.out _ _ (by first | rfl | (congr 1; first | omega | exact decide_eq_true (by omega) | exact decide_eq_false (by omega) | exact hwr)) (Below.refl _ _)
                  · have q82 : a.tmps[82]?.getD undef = .bool false := hpre ⟨3, .data⟩ (by simp) rfl (by decide)
                    have q88 : a.tmps[88]?.getD undef = .bool true := hpre ⟨9, .data⟩ (by simp) rfl (by decide)
                    refine step_plain rfl ?_
                    have hk := Lib.hid (show ∀ v7 x', v7 = .bool true → Below x.heap.size x x' → K (a.put (some 89) v7) x' from hK)
                    have Hbx := Lib.hid hbx
                    clear hsame hpre hK hbx
                    go_simp
                    exact hk.out _ _ rfl (Below.refl _ _)
                  · have q89 : a.tmps[89]?.getD undef = .bool true := hpre ⟨10, .data⟩ (by simp) rfl (by decide)
                    refine step_plain rfl ?_
                    have hk := Lib.hid (show ∀ v7 x', v7 = .bool true → Below x.heap.size x x' → K (a.put (some 90) v7) x' from hK)
                    have Hbx := Lib.hid hbx
                    clear hsame hpre hK hbx
                    go_simp
                    exact hk.out _ _ rfl (Below.refl _ _)
                  · have q12 : a.tmps[12]?.getD undef = .int .i64 (k : Int) := (hsame 12 (by decide +kernel)).trans f12
                    have w90 : a.tmps[90]?.getD undef = .bool true := hpre ⟨11, .guard⟩ (by simp) rfl (by decide)
                    refine step_wanted (wanted_of (j := 11) (t := 90) (b := true) rfl rfl w90) ?_
                    have hk := Lib.hid (show ∀ v7 x', v7 = .int .i64 (k : Int) → Below x.heap.size x x' → K (a.put (some 91) v7) x' from hK)
                    have Hbx := Lib.hid hbx
                    clear hsame hpre hK hbx w90
                    go_simp
                    exact hk.out _ _ rfl (Below.refl _ _)
                  · have q6 : a.tmps[6]?.getD undef = str D := (hsame 6 (by decide +kernel)).trans f6
                    have w90 : a.tmps[90]?.getD undef = .bool true := hpre ⟨11, .guard⟩ (by simp) rfl (by decide)
                    refine step_wanted (wanted_of (j := 11) (t := 90) (b := true) rfl rfl w90) ?_
                    have hk := Lib.hid (show ∀ v7 x', v7 = str D → Below x.heap.size x x' → K (a.put (some 92) v7) x' from hK)
                    have Hbx := Lib.hid hbx
                    clear hsame hpre hK hbx w90
                    go_simp
                    exact hk.out _ _ rfl (Below.refl _ _)
                  · have q92 : a.tmps[92]?.getD undef = str D := hpre ⟨13, .data⟩ (by simp) rfl (by decide)
                    have w90 : a.tmps[90]?.getD undef = .bool true := hpre ⟨11, .guard⟩ (by simp) rfl (by decide)
                    refine step_wanted (wanted_of (j := 11) (t := 90) (b := true) rfl rfl w90) ?_
                    have hk := Lib.hid (show ∀ v7 x', v7 = .int .i64 (D.length : Int) → Below x.heap.size x x' → K (a.put (some 93) v7) x' from hK)
                    have Hbx := Lib.hid hbx
                    clear hsame hpre hK hbx w90
                    go_simp
                    exact hk.out _ _ (by first | rfl | (congr 1; first | omega | exact decide_eq_true (by omega) | exact decide_eq_false (by omega) | exact hwr)) (Below.refl _ _)
                  · have q91 : a.tmps[91]?.getD undef = .int .i64 (k : Int) := hpre ⟨12, .data⟩ (by simp) rfl (by decide)
                    have q93 : a.tmps[93]?.getD undef = .int .i64 (D.length : Int) := hpre ⟨14, .data⟩ (by simp) rfl (by decide)
                    have w90 : a.tmps[90]?.getD undef = .bool true := hpre ⟨11, .guard⟩ (by simp) rfl (by decide)
                    refine step_wanted (wanted_of (j := 11) (t := 90) (b := true) rfl rfl w90) ?_
                    have hk := Lib.hid (show ∀ v7 x', v7 = .bool false → Below x.heap.size x x' → K (a.put (some 94) v7) x' from hK)
                    have Hbx := Lib.hid hbx
                    clear hsame hpre hK hbx w90
                    go_simp
                    exact hk.out _ _ (by first | rfl | (congr 1; first | omega | exact decide_eq_true (by omega) | exact decide_eq_false (by omega) | exact hwr)) (Below.refl _ _)
                  · have q94 : a.tmps[94]?.getD undef = .bool false := hpre ⟨15, .data⟩ (by simp) rfl (by decide)
                    have w90 : a.tmps[90]?.getD undef = .bool true := hpre ⟨11, .guard⟩ (by simp) rfl (by decide)
                    refine step_wanted (wanted_of (j := 11) (t := 90) (b := true) rfl rfl w90) ?_
                    have hk := Lib.hid (show ∀ v7 x', v7 = .bool false → Below x.heap.size x x' → K (a.put (some 95) v7) x' from hK)
                    have Hbx := Lib.hid hbx
                    clear hsame hpre hK hbx w90
                    go_simp
                    exact hk.out _ _ rfl (Below.refl _ _)
                  · have w95 : a.tmps[95]?.getD undef = .bool false := hpre ⟨16, .guard⟩ (by simp) rfl (by decide)
                    refine step_left (not_wanted (j := 16) (t := 95) (b := true) rfl rfl (.inr w95)) ?_
                    have hk := Lib.hid (show ∀ v7 x', v7 = undef → Below x.heap.size x x' → K (a.put (some 96) v7) x' from hK)
                    have Hbx := Lib.hid hbx
                    clear hsame hpre hK hbx w95
                    exact hk.out _ _ rfl (Below.refl _ _)
                  · have w95 : a.tmps[95]?.getD undef = .bool false := hpre ⟨16, .guard⟩ (by simp) rfl (by decide)
                    refine step_left (not_wanted (j := 16) (t := 95) (b := true) rfl rfl (.inr w95)) ?_
                    have hk := Lib.hid (show ∀ v7 x', v7 = undef → Below x.heap.size x x' → K (a.put (some 97) v7) x' from hK)
                    have Hbx := Lib.hid hbx
                    clear hsame hpre hK hbx w95
                    exact hk.out _ _ rfl (Below.refl _ _)
                  · have w95 : a.tmps[95]?.getD undef = .bool false := hpre ⟨16, .guard⟩ (by simp) rfl (by decide)
                    refine step_left (not_wanted (j := 16) (t := 95) (b := true) rfl rfl (.inr w95)) ?_
                    have hk := Lib.hid (show ∀ v7 x', v7 = undef → Below x.heap.size x x' → K (a.put (some 98) v7) x' from hK)
                    have Hbx := Lib.hid hbx
                    clear hsame hpre hK hbx w95
                    exact hk.out _ _ rfl (Below.refl _ _)
                  · have w95 : a.tmps[95]?.getD undef = .bool false := hpre ⟨16, .guard⟩ (by simp) rfl (by decide)
                    refine step_left (not_wanted (j := 16) (t := 95) (b := true) rfl rfl (.inr w95)) ?_
                    have hk := Lib.hid (show ∀ v7 x', v7 = undef → Below x.heap.size x x' → K (a.put (some 99) v7) x' from hK)
                    have Hbx := Lib.hid hbx
                    clear hsame hpre hK hbx w95
                    exact hk.out _ _ rfl (Below.refl _ _)
                  · have w95 : a.tmps[95]?.getD undef = .bool false := hpre ⟨16, .guard⟩ (by simp) rfl (by decide)
                    refine step_left (not_wanted (j := 16) (t := 95) (b := true) rfl rfl (.inr w95)) ?_
                    have hk := Lib.hid (show ∀ v7 x', v7 = undef → Below x.heap.size x x' → K (a.put (some 100) v7) x' from hK)
                    have Hbx := Lib.hid hbx
                    clear hsame hpre hK hbx w95
                    exact hk.out _ _ rfl (Below.refl _ _)
                  · have w95 : a.tmps[95]?.getD undef = .bool false := hpre ⟨16, .guard⟩ (by simp) rfl (by decide)
                    refine step_left (not_wanted (j := 16) (t := 95) (b := true) rfl rfl (.inr w95)) ?_
                    have hk := Lib.hid (show ∀ v7 x', v7 = undef → Below x.heap.size x x' → K (a.put (some 101) v7) x' from hK)
                    have Hbx := Lib.hid hbx
                    clear hsame hpre hK hbx w95
                    exact hk.out _ _ rfl (Below.refl _ _)
                  · have w95 : a.tmps[95]?.getD undef = .bool false := hpre ⟨16, .guard⟩ (by simp) rfl (by decide)
                    refine step_left (not_wanted (j := 16) (t := 95) (b := true) rfl rfl (.inr w95)) ?_
                    have hk := Lib.hid (show ∀ v7 x', v7 = undef → Below x.heap.size x x' → K (a.put (some 102) v7) x' from hK)
                    have Hbx := Lib.hid hbx
                    clear hsame hpre hK hbx w95
                    exact hk.out _ _ rfl (Below.refl _ _)
                  · have q95 : a.tmps[95]?.getD undef = .bool false := hpre ⟨16, .data⟩ (by simp) rfl (by decide)
                    have q102 : a.tmps[102]?.getD undef = undef := hpre ⟨23, .data⟩ (by simp) rfl (by decide)
                    have w90 : a.tmps[90]?.getD undef = .bool true := hpre ⟨11, .guard⟩ (by simp) rfl (by decide)
                    refine step_wanted (wanted_of (j := 11) (t := 90) (b := true) rfl rfl w90) ?_
                    have hk := Lib.hid (show ∀ v7 x', v7 = .bool false → Below x.heap.size x x' → K (a.put (some 103) v7) x' from hK)
                    have Hbx := Lib.hid hbx
                    clear hsame hpre hK hbx w90
                    go_simp
                    exact hk.out _ _ rfl (Below.refl _ _)
                  · have q103 : a.tmps[103]?.getD undef = .bool false := hpre ⟨24, .data⟩ (by simp) rfl (by decide)
                    have w90 : a.tmps[90]?.getD undef = .bool true := hpre ⟨11, .guard⟩ (by simp) rfl (by decide)
                    refine step_wanted (wanted_of (j := 11) (t := 90) (b := true) rfl rfl w90) ?_
                    have hk := Lib.hid (show ∀ v7 x', v7 = .bool false → Below x.heap.size x x' → K (a.put (some 104) v7) x' from hK)
                    have Hbx := Lib.hid hbx
                    clear hsame hpre hK hbx w90
                    go_simp
                    exact hk.out _ _ rfl (Below.refl _ _)
                  · have q12 : a.tmps[12]?.getD undef = .int .i64 (k : Int) := (hsame 12 (by decide +kernel)).trans f12
                    have w104 : a.tmps[104]?.getD undef = .bool false := hpre ⟨25, .guard⟩ (by simp) rfl (by decide)
                    refine step_wanted (wanted_of (j := 25) (t := 104) (b := false) rfl rfl w104) ?_
                    have hk := Lib.hid (show ∀ v7 x', v7 = .int .i64 (k : Int) → Below x.heap.size x x' → K (a.put (some 105) v7) x' from hK)
                    have Hbx := Lib.hid hbx
                    clear hsame hpre hK hbx w104
                    go_simp
                    exact hk.out _ _ rfl (Below.refl _ _)
                  · have q6 : a.tmps[6]?.getD undef = str D := (hsame 6 (by decide +kernel)).trans f6
                    have w104 : a.tmps[104]?.getD undef = .bool false := hpre ⟨25, .guard⟩ (by simp) rfl (by decide)
                    refine step_wanted (wanted_of (j := 25) (t := 104) (b := false) rfl rfl w104) ?_
                    have hk := Lib.hid (show ∀ v7 x', v7 = str D → Below x.heap.size x x' → K (a.put (some 106) v7) x' from hK)
                    have Hbx := Lib.hid hbx
                    clear hsame hpre hK hbx w104
                    go_simp
                    exact hk.out _ _ rfl (Below.refl _ _)
                  · have q106 : a.tmps[106]?.getD undef = str D := hpre ⟨27, .data⟩ (by simp) rfl (by decide)
                    have w104 : a.tmps[104]?.getD undef = .bool false := hpre ⟨25, .guard⟩ (by simp) rfl (by decide)
                    refine step_wanted (wanted_of (j := 25) (t := 104) (b := false) rfl rfl w104) ?_
                    have hk := Lib.hid (show ∀ v7 x', v7 = .int .i64 (D.length : Int) → Below x.heap.size x x' → K (a.put (some 107) v7) x' from hK)
                    have Hbx := Lib.hid hbx
                    clear hsame hpre hK hbx w104
                    go_simp
                    exact hk.out _ _ (by first | rfl | (congr 1; first | omega | exact decide_eq_true (by omega) | exact decide_eq_false (by omega) | exact hwr)) (Below.refl _ _)
                  · have q105 : a.tmps[105]?.getD undef = .int .i64 (k : Int) := hpre ⟨26, .data⟩ (by simp) rfl (by decide)
                    have q107 : a.tmps[107]?.getD undef = .int .i64 (D.length : Int) := hpre ⟨28, .data⟩ (by simp) rfl (by decide)
                    have w104 : a.tmps[104]?.getD undef = .bool false := hpre ⟨25, .guard⟩ (by simp) rfl (by decide)
                    refine step_wanted (wanted_of (j := 25) (t := 104) (b := false) rfl rfl w104) ?_
                    have hk := Lib.hid (show ∀ v7 x', v7 = .bool true → Below x.heap.size x x' → K (a.put (some 108) v7) x' from hK)
                    have Hbx := Lib.hid hbx
                    clear hsame hpre hK hbx w104
                    go_simp
                    exact hk.out _ _ (by first | rfl | (congr 1; first | omega | exact decide_eq_true (by omega) | exact decide_eq_false (by omega) | exact hwr)) (Below.refl _ _)
                  · have q108 : a.tmps[108]?.getD undef = .bool true := hpre ⟨29, .data⟩ (by simp) rfl (by decide)
                    have w104 : a.tmps[104]?.getD undef = .bool false := hpre ⟨25, .guard⟩ (by simp) rfl (by decide)
                    refine step_wanted (wanted_of (j := 25) (t := 104) (b := false) rfl rfl w104) ?_
                    have hk := Lib.hid (show ∀ v7 x', v7 = .bool true → Below x.heap.size x x' → K (a.put (some 109) v7) x' from hK)
                    have Hbx := Lib.hid hbx
                    clear hsame hpre hK hbx w104
                    go_simp
                    exact hk.out _ _ rfl (Below.refl _ _)
                  · have q10 : a.tmps[10]?.getD undef = str X := (hsame 10 (by decide +kernel)).trans f10
                    have w109 : a.tmps[109]?.getD undef = .bool true := hpre ⟨30, .guard⟩ (by simp) rfl (by decide)
                    refine step_wanted (wanted_of (j := 30) (t := 109) (b := true) rfl rfl w109) ?_
                    have hk := Lib.hid (show ∀ v7 x', v7 = str X → Below x.heap.size x x' → K (a.put (some 110) v7) x' from hK)
                    have Hbx := Lib.hid hbx
                    clear hsame hpre hK hbx w109
                    go_simp
                    exact hk.out _ _ rfl (Below.refl _ _)
                  · have q12 : a.tmps[12]?.getD undef = .int .i64 (k : Int) := (hsame 12 (by decide +kernel)).trans f12
                    have w109 : a.tmps[109]?.getD undef = .bool true := hpre ⟨30, .guard⟩ (by simp) rfl (by decide)
                    refine step_wanted (wanted_of (j := 30) (t := 109) (b := true) rfl rfl w109) ?_
                    have hk := Lib.hid (show ∀ v7 x', v7 = .int .i64 (k : Int) → Below x.heap.size x x' → K (a.put (some 111) v7) x' from hK)
                    have Hbx := Lib.hid hbx
                    clear hsame hpre hK hbx w109
                    go_simp
                    exact hk.out _ _ rfl (Below.refl _ _)
                  · have q110 : a.tmps[110]?.getD undef = str X := hpre ⟨31, .data⟩ (by simp) rfl (by decide)
                    have q111 : a.tmps[111]?.getD undef = .int .i64 (k : Int) := hpre ⟨32, .data⟩ (by simp) rfl (by decide)
                    have w109 : a.tmps[109]?.getD undef = .bool true := hpre ⟨30, .guard⟩ (by simp) rfl (by decide)
                    refine step_wanted (wanted_of (j := 30) (t := 109) (b := true) rfl rfl w109) ?_
                    have hk := Lib.hid (show ∀ v7 x', v7 = .int .u8 0 → Below x.heap.size x x' → K (a.put (some 112) v7) x' from hK)
                    have Hbx := Lib.hid hbx
                    clear hsame hpre hK hbx w109
                    go_simp
                    exact hk.out _ _ (by first | rfl | (congr 1; first | omega | exact decide_eq_true (by omega) | exact decide_eq_false (by omega) | exact hwr)) (Below.refl _ _)
                  · have q112 : a.tmps[112]?.getD undef = .int .u8 0 := hpre ⟨33, .data⟩ (by simp) rfl (by decide)
                    have w109 : a.tmps[109]?.getD undef = .bool true := hpre ⟨30, .guard⟩ (by simp) rfl (by decide)
                    refine step_wanted (wanted_of (j := 30) (t := 109) (b := true) rfl rfl w109) ?_
                    have hk := Lib.hid (show ∀ v7 x', v7 = .bool false → Below x.heap.size x x' → K (a.put (some 113) v7) x' from hK)
                    have Hbx := Lib.hid hbx
                    clear hsame hpre hK hbx w109
                    go_simp
                    exact hk.out _ _ (by first | rfl | (congr 1; first | omega | exact decide_eq_true (by omega) | exact decide_eq_false (by omega) | exact hwr)) (Below.refl _ _)
                  · have q109 : a.tmps[109]?.getD undef = .bool true := hpre ⟨30, .data⟩ (by simp) rfl (by decide)
                    have q113 : a.tmps[113]?.getD undef = .bool false := hpre ⟨34, .data⟩ (by simp) rfl (by decide)
                    have w104 : a.tmps[104]?.getD undef = .bool false := hpre ⟨25, .guard⟩ (by simp) rfl (by decide)
                    refine step_wanted (wanted_of (j := 25) (t := 104) (b := false) rfl rfl w104) ?_
                    have hk := Lib.hid (show ∀ v7 x', v7 = .bool false → Below x.heap.size x x' → K (a.put (some 114) v7) x' from hK)
                    have Hbx := Lib.hid hbx
                    clear hsame hpre hK hbx w104
                    go_simp
                    exact hk.out _ _ rfl (Below.refl _ _)
                  · have q104 : a.tmps[104]?.getD undef = .bool false := hpre ⟨25, .data⟩ (by simp) rfl (by decide)
                    have q114 : a.tmps[114]?.getD undef = .bool false := hpre ⟨35, .data⟩ (by simp) rfl (by decide)
                    have w90 : a.tmps[90]?.getD undef = .bool true := hpre ⟨11, .guard⟩ (by simp) rfl (by decide)
                    refine step_wanted (wanted_of (j := 11) (t := 90) (b := true) rfl rfl w90) ?_
                    have hk := Lib.hid (show ∀ v7 x', v7 = .bool false → Below x.heap.size x x' → K (a.put (some 115) v7) x' from hK)
                    have Hbx := Lib.hid hbx
                    clear hsame hpre hK hbx w90
                    go_simp
                    exact hk.out _ _ rfl (Below.refl _ _)
                  · have q90 : a.tmps[90]?.getD undef = .bool true := hpre ⟨11, .data⟩ (by simp) rfl (by decide)
                    have q115 : a.tmps[115]?.getD undef = .bool false := hpre ⟨36, .data⟩ (by simp) rfl (by decide)
                    refine step_plain rfl ?_
                    have hk := Lib.hid (show ∀ v7 x', v7 = .bool false → Below x.heap.size x x' → K (a.put (some 116) v7) x' from hK)
                    have Hbx := Lib.hid hbx
                    clear hsame hpre hK hbx
                    go_simp
                    exact hk.out _ _ rfl (Below.refl _ _)
                intro a72 x72 hbx hsame hG hsz72 hde72
                replace f76 := (hsame 76 (by decide +kernel)).trans f76
                replace f28 := (hsame 28 (by decide +kernel)).trans f28
                replace f5 := (hsame 5 (by decide +kernel)).trans f5
                replace f6 := (hsame 6 (by decide +kernel)).trans f6
                replace f1 := (hsame 1 (by decide +kernel)).trans f1
                replace f26 := (hsame 26 (by decide +kernel)).trans f26
                replace f27 := (hsame 27 (by decide +kernel)).trans f27
                replace f7 := (hsame 7 (by decide +kernel)).trans f7
                replace f8 := (hsame 8 (by decide +kernel)).trans f8
                replace f9 := (hsame 9 (by decide +kernel)).trans f9
                replace f10 := (hsame 10 (by decide +kernel)).trans f10
                replace f11 := (hsame 11 (by decide +kernel)).trans f11
                replace f75 := (hsame 75 (by decide +kernel)).trans f75
                replace f12 := (hsame 12 (by decide +kernel)).trans f12
                have f116 : a72.tmps[116]?.getD undef = .bool false := hG 37 (by decide)
                have Hbx72 := Lib.hid hbx
                have hsz72h := Lib.hid hsz72
                have hde72h := Lib.hid (hde72.trans hde71.out)
                clear hsame hG hbx hsz72 hde72 hsz71 hde71
                refine then_go ?_
                repeat with_reducible refine wp_seq ?_
                refine wp_cond_false (eval_at f116) ?_
                refine wp_skip ?_
                refine block_go ?_
                refine then_go ?_
                clear f116
                refine wp_region_lit ?_
                refine wpList_next rfl hsz72h hde72h 117 rfl (by decide) fun K hK => ?_
                go_simp
                refine hK _ _ fun a73 hsz73 hde73 f117 hk => ?_
                clear hK K
                replace f76 := (hk 76 (by decide)).trans f76
                replace f28 := (hk 28 (by decide)).trans f28
                replace f5 := (hk 5 (by decide)).trans f5
                replace f6 := (hk 6 (by decide)).trans f6
                replace f1 := (hk 1 (by decide)).trans f1
                replace f26 := (hk 26 (by decide)).trans f26
                replace f27 := (hk 27 (by decide)).trans f27
                replace f7 := (hk 7 (by decide)).trans f7
                replace f8 := (hk 8 (by decide)).trans f8
                replace f9 := (hk 9 (by decide)).trans f9
                replace f10 := (hk 10 (by decide)).trans f10
                replace f11 := (hk 11 (by decide)).trans f11
                replace f75 := (hk 75 (by decide)).trans f75
                replace f12 := (hk 12 (by decide)).trans f12
                clear hk hsz72h hde72h
                replace f117 : a73.tmps[117]?.getD undef = .int .i64 ((k + 1 : Nat) : Int) := f117.trans (by first | (congr 1; done) | (congr 1; rw [IntKind.wrap_i64] <;> omega))
                refine wpList_next rfl hsz73 hde73 76 rfl (by decide) fun K hK => ?_
                go_simp
                refine hK _ _ fun a74 hsz74 hde74 f76 hk => ?_
                clear hK K
                replace f28 := (hk 28 (by decide)).trans f28
                replace f5 := (hk 5 (by decide)).trans f5
                replace f6 := (hk 6 (by decide)).trans f6
                replace f1 := (hk 1 (by decide)).trans f1
                replace f26 := (hk 26 (by decide)).trans f26
                replace f27 := (hk 27 (by decide)).trans f27
                replace f7 := (hk 7 (by decide)).trans f7
                replace f8 := (hk 8 (by decide)).trans f8
                replace f9 := (hk 9 (by decide)).trans f9
                replace f10 := (hk 10 (by decide)).trans f10
                replace f11 := (hk 11 (by decide)).trans f11
                replace f75 := (hk 75 (by decide)).trans f75
                replace f12 := (hk 12 (by decide)).trans f12
                replace f76 : a74.tmps[76]?.getD undef = .int .i64 ((k + 1 : Nat) : Int) := f76
                clear hk hsz73 hde73 f117
                refine wpList_nil ?_
                refine then_go ?_
                exact ⟨⟨k + 1, by omega, hsz74, hde74, f76, f28, f5, f6, f1, f26, f27, f7, f8, f9, f10, f11, f75, (Lib.hid (below_call Hbk.out Hbx72.out))⟩, by rw [f76, F76o.out]; show X.length - ((k + 1 : Nat) : Int).toNat < X.length - ((k : Nat) : Int).toNat; omega⟩
            · skip
              clear hbx hix
              refine wp_region_goodg (tblG [(79, .int .i64 (k : Int)), (80, .int .i64 (t : Int)), (81, .bool false), (82, .bool false), (83, .int .i64 (k : Int)), (84, .int .i64 (t : Int)), (85, str s), (86, .int .i64 (s.length : Int)), (87, .int .i64 ((t + s.length : Nat) : Int)), (88, .bool false), (89, .bool false), (90, .bool false), (91, undef), (92, undef), (93, undef), (94, undef), (95, undef), (96, undef), (97, undef), (98, undef), (99, undef), (100, undef), (101, undef), (102, undef), (103, undef), (104, undef), (105, undef), (106, undef), (107, undef), (108, undef), (109, undef), (110, undef), (111, undef), (112, undef), (113, undef), (114, undef), (115, undef), (116, .bool false)]) 171 (by kernel_rfl) (by kernel_rfl) (by kernel_rfl) (by kernel_rfl) hsz71.out ?_ ?_ ?_
              · intro t v7 x x' h _ _
                exact h
              · intro i7 o hi7 a x hbx hsame hpre K hK
                have hlt7 : i7 < 38 := (Array.getElem?_eq_some_iff.1 hi7).1
                rcases (show i7 = 0 ∨ i7 = 1 ∨ i7 = 2 ∨ i7 = 3 ∨ i7 = 4 ∨ i7 = 5 ∨ i7 = 6 ∨ i7 = 7 ∨ i7 = 8 ∨ i7 = 9 ∨ i7 = 10 ∨ i7 = 11 ∨ i7 = 12 ∨ i7 = 13 ∨ i7 = 14 ∨ i7 = 15 ∨ i7 = 16 ∨ i7 = 17 ∨ i7 = 18 ∨ i7 = 19 ∨ i7 = 20 ∨ i7 = 21 ∨ i7 = 22 ∨ i7 = 23 ∨ i7 = 24 ∨ i7 = 25 ∨ i7 = 26 ∨ i7 = 27 ∨ i7 = 28 ∨ i7 = 29 ∨ i7 = 30 ∨ i7 = 31 ∨ i7 = 32 ∨ i7 = 33 ∨ i7 = 34 ∨ i7 = 35 ∨ i7 = 36 ∨ i7 = 37 by omega) with rfl | rfl | rfl | rfl | rfl | rfl | rfl | rfl | rfl | rfl | rfl | rfl | rfl | rfl | rfl | rfl | rfl | rfl | rfl | rfl | rfl | rfl | rfl | rfl | rfl | rfl | rfl | rfl | rfl | rfl | rfl | rfl | rfl | rfl | rfl | rfl | rfl | rfl
                all_goals (have ho := Option.some.inj hi7; subst ho; clear hi7 hlt7)
                · have q12 : a.tmps[12]?.getD undef = .int .i64 (k : Int) := (hsame 12 (by decide +kernel)).trans f12
                  refine step_plain rfl ?_
                  have hk := Lib.hid (show ∀ v7 x', v7 = .int .i64 (k : Int) → Below x.heap.size x x' → K (a.put (some 79) v7) x' from hK)
                  have Hbx := Lib.hid hbx
                  clear hsame hpre hK hbx
                  go_simp
                  exact hk.out _ _ rfl (Below.refl _ _)
                · have q9 : a.tmps[9]?.getD undef = .int .i64 (t : Int) := (hsame 9 (by decide +kernel)).trans f9
                  refine step_plain rfl ?_
                  have hk := Lib.hid (show ∀ v7 x', v7 = .int .i64 (t : Int) → Below x.heap.size x x' → K (a.put (some 80) v7) x' from hK)
                  have Hbx := Lib.hid hbx
                  clear hsame hpre hK hbx
                  go_simp
                  exact hk.out _ _ rfl (Below.refl _ _)
                · have q79 : a.tmps[79]?.getD undef = .int .i64 (k : Int) := hpre ⟨0, .data⟩ (by simp) rfl (by decide)
                  have q80 : a.tmps[80]?.getD undef = .int .i64 (t : Int) := hpre ⟨1, .data⟩ (by simp) rfl (by decide)
                  refine step_plain rfl ?_
                  have hk := Lib.hid (show ∀ v7 x', v7 = .bool false → Below x.heap.size x x' → K (a.put (some 81) v7) x' from hK)
                  have Hbx := Lib.hid hbx
                  clear hsame hpre hK hbx
                  go_simp
                  exact hk.out _ _ (by first | rfl | (congr 1; first | omega | exact decide_eq_true (by omega) | exact decide_eq_false (by omega) | exact hwr)) (Below.refl _ _)
                · have q81 : a.tmps[81]?.getD undef = .bool false := hpre ⟨2, .data⟩ (by simp) rfl (by decide)
                  refine step_plain rfl ?_
                  have hk := Lib.hid (show ∀ v7 x', v7 = .bool false → Below x.heap.size x x' → K (a.put (some 82) v7) x' from hK)
                  have Hbx := Lib.hid hbx
                  clear hsame hpre hK hbx
                  go_simp
                  exact hk.out _ _ rfl (Below.refl _ _)
                · have q12 : a.tmps[12]?.getD undef = .int .i64 (k : Int) := (hsame 12 (by decide +kernel)).trans f12
                  have w82 : a.tmps[82]?.getD undef = .bool false := hpre ⟨3, .guard⟩ (by simp) rfl (by decide)
                  refine step_wanted (wanted_of (j := 3) (t := 82) (b := false) rfl rfl w82) ?_
                  have hk := Lib.hid (show ∀ v7 x', v7 = .int .i64 (k : Int) → Below x.heap.size x x' → K (a.put (some 83) v7) x' from hK)
                  have Hbx := Lib.hid hbx
                  clear hsame hpre hK hbx w82
                  go_simp
                  exact hk.out _ _ rfl (Below.refl _ _)
                · have q9 : a.tmps[9]?.getD undef = .int .i64 (t : Int) := (hsame 9 (by decide +kernel)).trans f9
                  have w82 : a.tmps[82]?.getD undef = .bool false := hpre ⟨3, .guard⟩ (by simp) rfl (by decide)
                  refine step_wanted (wanted_of (j := 3) (t := 82) (b := false) rfl rfl w82) ?_
                  have hk := Lib.hid (show ∀ v7 x', v7 = .int .i64 (t : Int) → Below x.heap.size x x' → K (a.put (some 84) v7) x' from hK)
                  have Hbx := Lib.hid hbx
                  clear hsame hpre hK hbx w82
                  go_simp
                  exact hk.out _ _ rfl (Below.refl _ _)
                · have q8 : a.tmps[8]?.getD undef = str s := (hsame 8 (by decide +kernel)).trans f8
                  have w82 : a.tmps[82]?.getD undef = .bool false := hpre ⟨3, .guard⟩ (by simp) rfl (by decide)
                  refine step_wanted (wanted_of (j := 3) (t := 82) (b := false) rfl rfl w82) ?_
                  have hk := Lib.hid (show ∀ v7 x', v7 = str s → Below x.heap.size x x' → K (a.put (some 85) v7) x' from hK)
                  have Hbx := Lib.hid hbx
                  clear hsame hpre hK hbx w82
                  go_simp
                  exact hk.out _ _ rfl (Below.refl _ _)
                · have q85 : a.tmps[85]?.getD undef = str s := hpre ⟨6, .data⟩ (by simp) rfl (by decide)
                  have w82 : a.tmps[82]?.getD undef = .bool false := hpre ⟨3, .guard⟩ (by simp) rfl (by decide)
                  refine step_wanted (wanted_of (j := 3) (t := 82) (b := false) rfl rfl w82) ?_
                  have hk := Lib.hid (show ∀ v7 x', v7 = .int .i64 (s.length : Int) → Below x.heap.size x x' → K (a.put (some 86) v7) x' from hK)
                  have Hbx := Lib.hid hbx
                  clear hsame hpre hK hbx w82
                  go_simp
                  exact hk.out _ _ (by first | rfl | (congr 1; first | omega | exact decide_eq_true (by omega) | exact decide_eq_false (by omega) | exact hwr)) (Below.refl _ _)
                · have q84 : a.tmps[84]?.getD undef = .int .i64 (t : Int) := hpre ⟨5, .data⟩ (by simp) rfl (by decide)
                  have q86 : a.tmps[86]?.getD undef = .int .i64 (s.length : Int) := hpre ⟨7, .data⟩ (by simp) rfl (by decide)
                  have w82 : a.tmps[82]?.getD undef = .bool false := hpre ⟨3, .guard⟩ (by simp) rfl (by decide)
                  refine step_wanted (wanted_of (j := 3) (t := 82) (b := false) rfl rfl w82) ?_
                  have hk := Lib.hid (show ∀ v7 x', v7 = .int .i64 ((t + s.length : Nat) : Int) → Below x.heap.size x x' → K (a.put (some 87) v7) x' from hK)
                  have Hbx := Lib.hid hbx
                  clear hsame hpre hK hbx w82
                  go_simp
                  exact hk.out _ _ (by first | rfl | (congr 1; first | omega | exact decide_eq_true (by omega) | exact decide_eq_false (by omega) | exact hwr)) (Below.refl _ _)
                · have q83 : a.tmps[83]?.getD undef = .int .i64 (k : Int) := hpre ⟨4, .data⟩ (by simp) rfl (by decide)
                  have q87 : a.tmps[87]?.getD undef = .int .i64 ((t + s.length : Nat) : Int) := hpre ⟨8, .data⟩ (by simp) rfl (by decide)
                  have w82 : a.tmps[82]?.getD undef = .bool false := hpre ⟨3, .guard⟩ (by simp) rfl (by decide)
                  refine step_wanted (wanted_of (j := 3) (t := 82) (b := false) rfl rfl w82) ?_
                  have hk := Lib.hid (show ∀ v7 x', v7 = .bool false → Below x.heap.size x x' → K (a.put (some 88) v7) x' from hK)
                  have Hbx := Lib.hid hbx
                  clear hsame hpre hK hbx w82
                  go_simp
                  exact hk.out _ _ (by first | rfl | (congr 1; first | omega | exact decide_eq_true (by omega) | exact decide_eq_false (by omega) | exact hwr)) (Below.refl _ _)
                · have q82 : a.tmps[82]?.getD undef = .bool false := hpre ⟨3, .data⟩ (by simp) rfl (by decide)
                  have q88 : a.tmps[88]?.getD undef = .bool false := hpre ⟨9, .data⟩ (by simp) rfl (by decide)
                  refine step_plain rfl ?_
                  have hk := Lib.hid (show ∀ v7 x', v7 = .bool false → Below x.heap.size x x' → K (a.put (some 89) v7) x' from hK)
                  have Hbx := Lib.hid hbx
                  clear hsame hpre hK hbx
                  go_simp
                  exact hk.out _ _ rfl (Below.refl _ _)
                · have q89 : a.tmps[89]?.getD undef = .bool false := hpre ⟨10, .data⟩ (by simp) rfl (by decide)
                  refine step_plain rfl ?_
                  have hk := Lib.hid (show ∀ v7 x', v7 = .bool false → Below x.heap.size x x' → K (a.put (some 90) v7) x' from hK)
                  have Hbx := Lib.hid hbx
                  clear hsame hpre hK hbx
                  go_simp
                  exact hk.out _ _ rfl (Below.refl _ _)
                · have w90 : a.tmps[90]?.getD undef = .bool false := hpre ⟨11, .guard⟩ (by simp) rfl (by decide)
                  refine step_left (not_wanted (j := 11) (t := 90) (b := true) rfl rfl (.inr w90)) ?_
                  have hk := Lib.hid (show ∀ v7 x', v7 = undef → Below x.heap.size x x' → K (a.put (some 91) v7) x' from hK)
                  have Hbx := Lib.hid hbx
                  clear hsame hpre hK hbx w90
                  exact hk.out _ _ rfl (Below.refl _ _)
                · have w90 : a.tmps[90]?.getD undef = .bool false := hpre ⟨11, .guard⟩ (by simp) rfl (by decide)
                  refine step_left (not_wanted (j := 11) (t := 90) (b := true) rfl rfl (.inr w90)) ?_
                  have hk := Lib.hid (show ∀ v7 x', v7 = undef → Below x.heap.size x x' → K (a.put (some 92) v7) x' from hK)
                  have Hbx := Lib.hid hbx
                  clear hsame hpre hK hbx w90
                  exact hk.out _ _ rfl (Below.refl _ _)
                · have w90 : a.tmps[90]?.getD undef = .bool false := hpre ⟨11, .guard⟩ (by simp) rfl (by decide)
                  refine step_left (not_wanted (j := 11) (t := 90) (b := true) rfl rfl (.inr w90)) ?_
                  have hk := Lib.hid (show ∀ v7 x', v7 = undef → Below x.heap.size x x' → K (a.put (some 93) v7) x' from hK)
                  have Hbx := Lib.hid hbx
                  clear hsame hpre hK hbx w90
                  exact hk.out _ _ rfl (Below.refl _ _)
                · have w90 : a.tmps[90]?.getD undef = .bool false := hpre ⟨11, .guard⟩ (by simp) rfl (by decide)
                  refine step_left (not_wanted (j := 11) (t := 90) (b := true) rfl rfl (.inr w90)) ?_
                  have hk := Lib.hid (show ∀ v7 x', v7 = undef → Below x.heap.size x x' → K (a.put (some 94) v7) x' from hK)
                  have Hbx := Lib.hid hbx
                  clear hsame hpre hK hbx w90
                  exact hk.out _ _ rfl (Below.refl _ _)
                · have w90 : a.tmps[90]?.getD undef = .bool false := hpre ⟨11, .guard⟩ (by simp) rfl (by decide)
                  refine step_left (not_wanted (j := 11) (t := 90) (b := true) rfl rfl (.inr w90)) ?_
                  have hk := Lib.hid (show ∀ v7 x', v7 = undef → Below x.heap.size x x' → K (a.put (some 95) v7) x' from hK)
                  have Hbx := Lib.hid hbx
                  clear hsame hpre hK hbx w90
                  exact hk.out _ _ rfl (Below.refl _ _)
                · have w95 : a.tmps[95]?.getD undef = undef := hpre ⟨16, .guard⟩ (by simp) rfl (by decide)
                  refine step_left (not_wanted (j := 16) (t := 95) (b := true) rfl rfl (.inl w95)) ?_
                  have hk := Lib.hid (show ∀ v7 x', v7 = undef → Below x.heap.size x x' → K (a.put (some 96) v7) x' from hK)
                  have Hbx := Lib.hid hbx
                  clear hsame hpre hK hbx w95
                  exact hk.out _ _ rfl (Below.refl _ _)
                · have w95 : a.tmps[95]?.getD undef = undef := hpre ⟨16, .guard⟩ (by simp) rfl (by decide)
                  refine step_left (not_wanted (j := 16) (t := 95) (b := true) rfl rfl (.inl w95)) ?_
                  have hk := Lib.hid (show ∀ v7 x', v7 = undef → Below x.heap.size x x' → K (a.put (some 97) v7) x' from hK)
                  have Hbx := Lib.hid hbx
                  clear hsame hpre hK hbx w95
                  exact hk.out _ _ rfl (Below.refl _ _)
                · have w95 : a.tmps[95]?.getD undef = undef := hpre ⟨16, .guard⟩ (by simp) rfl (by decide)
                  refine step_left (not_wanted (j := 16) (t := 95) (b := true) rfl rfl (.inl w95)) ?_
                  have hk := Lib.hid (show ∀ v7 x', v7 = undef → Below x.heap.size x x' → K (a.put (some 98) v7) x' from hK)
                  have Hbx := Lib.hid hbx
                  clear hsame hpre hK hbx w95
                  exact hk.out _ _ rfl (Below.refl _ _)
                · have w95 : a.tmps[95]?.getD undef = undef := hpre ⟨16, .guard⟩ (by simp) rfl (by decide)
                  refine step_left (not_wanted (j := 16) (t := 95) (b := true) rfl rfl (.inl w95)) ?_
                  have hk := Lib.hid (show ∀ v7 x', v7 = undef → Below x.heap.size x x' → K (a.put (some 99) v7) x' from hK)
                  have Hbx := Lib.hid hbx
                  clear hsame hpre hK hbx w95
                  exact hk.out _ _ rfl (Below.refl _ _)
                · have w95 : a.tmps[95]?.getD undef = undef := hpre ⟨16, .guard⟩ (by simp) rfl (by decide)
                  refine step_left (not_wanted (j := 16) (t := 95) (b := true) rfl rfl (.inl w95)) ?_
                  have hk := Lib.hid (show ∀ v7 x', v7 = undef → Below x.heap.size x x' → K (a.put (some 100) v7) x' from hK)
                  have Hbx := Lib.hid hbx
                  clear hsame hpre hK hbx w95
                  exact hk.out _ _ rfl (Below.refl _ _)
                · have w95 : a.tmps[95]?.getD undef = undef := hpre ⟨16, .guard⟩ (by simp) rfl (by decide)
                  refine step_left (not_wanted (j := 16) (t := 95) (b := true) rfl rfl (.inl w95)) ?_
                  have hk := Lib.hid (show ∀ v7 x', v7 = undef → Below x.heap.size x x' → K (a.put (some 101) v7) x' from hK)
                  have Hbx := Lib.hid hbx
                  clear hsame hpre hK hbx w95
                  exact hk.out _ _ rfl (Below.refl _ _)
                · have w95 : a.tmps[95]?.getD undef = undef := hpre ⟨16, .guard⟩ (by simp) rfl (by decide)
                  refine step_left (not_wanted (j := 16) (t := 95) (b := true) rfl rfl (.inl w95)) ?_
                  have hk := Lib.hid (show ∀ v7 x', v7 = undef → Below x.heap.size x x' → K (a.put (some 102) v7) x' from hK)
                  have Hbx := Lib.hid hbx
                  clear hsame hpre hK hbx w95
                  exact hk.out _ _ rfl (Below.refl _ _)
                · have w90 : a.tmps[90]?.getD undef = .bool false := hpre ⟨11, .guard⟩ (by simp) rfl (by decide)
                  refine step_left (not_wanted (j := 11) (t := 90) (b := true) rfl rfl (.inr w90)) ?_
                  have hk := Lib.hid (show ∀ v7 x', v7 = undef → Below x.heap.size x x' → K (a.put (some 103) v7) x' from hK)
                  have Hbx := Lib.hid hbx
                  clear hsame hpre hK hbx w90
                  exact hk.out _ _ rfl (Below.refl _ _)
                · have w90 : a.tmps[90]?.getD undef = .bool false := hpre ⟨11, .guard⟩ (by simp) rfl (by decide)
                  refine step_left (not_wanted (j := 11) (t := 90) (b := true) rfl rfl (.inr w90)) ?_
                  have hk := Lib.hid (show ∀ v7 x', v7 = undef → Below x.heap.size x x' → K (a.put (some 104) v7) x' from hK)
                  have Hbx := Lib.hid hbx
                  clear hsame hpre hK hbx w90
                  exact hk.out _ _ rfl (Below.refl _ _)
                · have w104 : a.tmps[104]?.getD undef = undef := hpre ⟨25, .guard⟩ (by simp) rfl (by decide)
                  refine step_left (not_wanted (j := 25) (t := 104) (b := false) rfl rfl (.inl w104)) ?_
                  have hk := Lib.hid (show ∀ v7 x', v7 = undef → Below x.heap.size x x' → K (a.put (some 105) v7) x' from hK)
                  have Hbx := Lib.hid hbx
                  clear hsame hpre hK hbx w104
                  exact hk.out _ _ rfl (Below.refl _ _)
                · have w104 : a.tmps[104]?.getD undef = undef := hpre ⟨25, .guard⟩ (by simp) rfl (by decide)
                  refine step_left (not_wanted (j := 25) (t := 104) (b := false) rfl rfl (.inl w104)) ?_
                  have hk := Lib.hid (show ∀ v7 x', v7 = undef → Below x.heap.size x x' → K (a.put (some 106) v7) x' from hK)
                  have Hbx := Lib.hid hbx
                  clear hsame hpre hK hbx w104
                  exact hk.out _ _ rfl (Below.refl _ _)
                · have w104 : a.tmps[104]?.getD undef = undef := hpre ⟨25, .guard⟩ (by simp) rfl (by decide)
                  refine step_left (not_wanted (j := 25) (t := 104) (b := false) rfl rfl (.inl w104)) ?_
                  have hk := Lib.hid (show ∀ v7 x', v7 = undef → Below x.heap.size x x' → K (a.put (some 107) v7) x' from hK)
                  have Hbx := Lib.hid hbx
                  clear hsame hpre hK hbx w104
                  exact hk.out _ _ rfl (Below.refl _ _)
                · have w104 : a.tmps[104]?.getD undef = undef := hpre ⟨25, .guard⟩ (by simp) rfl (by decide)
                  refine step_left (not_wanted (j := 25) (t := 104) (b := false) rfl rfl (.inl w104)) ?_
                  have hk := Lib.hid (show ∀ v7 x', v7 = undef → Below x.heap.size x x' → K (a.put (some 108) v7) x' from hK)
                  have Hbx := Lib.hid hbx
                  clear hsame hpre hK hbx w104
                  exact hk.out _ _ rfl (Below.refl _ _)
                · have w104 : a.tmps[104]?.getD undef = undef := hpre ⟨25, .guard⟩ (by simp) rfl (by decide)
                  refine step_left (not_wanted (j := 25) (t := 104) (b := false) rfl rfl (.inl w104)) ?_
                  have hk := Lib.hid (show ∀ v7 x', v7 = undef → Below x.heap.size x x' → K (a.put (some 109) v7) x' from hK)
                  have Hbx := Lib.hid hbx
                  clear hsame hpre hK hbx w104
                  exact hk.out _ _ rfl (Below.refl _ _)
                · have w109 : a.tmps[109]?.getD undef = undef := hpre ⟨30, .guard⟩ (by simp) rfl (by decide)
                  refine step_left (not_wanted (j := 30) (t := 109) (b := true) rfl rfl (.inl w109)) ?_
                  have hk := Lib.hid (show ∀ v7 x', v7 = undef → Below x.heap.size x x' → K (a.put (some 110) v7) x' from hK)
                  have Hbx := Lib.hid hbx
                  clear hsame hpre hK hbx w109
                  exact hk.out _ _ rfl (Below.refl _ _)
                · have w109 : a.tmps[109]?.getD undef = undef := hpre ⟨30, .guard⟩ (by simp) rfl (by decide)
                  refine step_left (not_wanted (j := 30) (t := 109) (b := true) rfl rfl (.inl w109)) ?_
                  have hk := Lib.hid (show ∀ v7 x', v7 = undef → Below x.heap.size x x' → K (a.put (some 111) v7) x' from hK)
                  have Hbx := Lib.hid hbx
                  clear hsame hpre hK hbx w109
                  exact hk.out _ _ rfl (Below.refl _ _)
                · have w109 : a.tmps[109]?.getD undef = undef := hpre ⟨30, .guard⟩ (by simp) rfl (by decide)
                  refine step_left (not_wanted (j := 30) (t := 109) (b := true) rfl rfl (.inl w109)) ?_
                  have hk := Lib.hid (show ∀ v7 x', v7 = undef → Below x.heap.size x x' → K (a.put (some 112) v7) x' from hK)
                  have Hbx := Lib.hid hbx
                  clear hsame hpre hK hbx w109
                  exact hk.out _ _ rfl (Below.refl _ _)
                · have w109 : a.tmps[109]?.getD undef = undef := hpre ⟨30, .guard⟩ (by simp) rfl (by decide)
                  refine step_left (not_wanted (j := 30) (t := 109) (b := true) rfl rfl (.inl w109)) ?_
                  have hk := Lib.hid (show ∀ v7 x', v7 = undef → Below x.heap.size x x' → K (a.put (some 113) v7) x' from hK)
                  have Hbx := Lib.hid hbx
                  clear hsame hpre hK hbx w109
                  exact hk.out _ _ rfl (Below.refl _ _)
                · have w104 : a.tmps[104]?.getD undef = undef := hpre ⟨25, .guard⟩ (by simp) rfl (by decide)
                  refine step_left (not_wanted (j := 25) (t := 104) (b := false) rfl rfl (.inl w104)) ?_
                  have hk := Lib.hid (show ∀ v7 x', v7 = undef → Below x.heap.size x x' → K (a.put (some 114) v7) x' from hK)
                  have Hbx := Lib.hid hbx
                  clear hsame hpre hK hbx w104
                  exact hk.out _ _ rfl (Below.refl _ _)
                · have w90 : a.tmps[90]?.getD undef = .bool false := hpre ⟨11, .guard⟩ (by simp) rfl (by decide)
                  refine step_left (not_wanted (j := 11) (t := 90) (b := true) rfl rfl (.inr w90)) ?_
                  have hk := Lib.hid (show ∀ v7 x', v7 = undef → Below x.heap.size x x' → K (a.put (some 115) v7) x' from hK)
                  have Hbx := Lib.hid hbx
                  clear hsame hpre hK hbx w90
                  exact hk.out _ _ rfl (Below.refl _ _)
                · have q90 : a.tmps[90]?.getD undef = .bool false := hpre ⟨11, .data⟩ (by simp) rfl (by decide)
                  have q115 : a.tmps[115]?.getD undef = undef := hpre ⟨36, .data⟩ (by simp) rfl (by decide)
                  refine step_plain rfl ?_
                  have hk := Lib.hid (show ∀ v7 x', v7 = .bool false → Below x.heap.size x x' → K (a.put (some 116) v7) x' from hK)
                  have Hbx := Lib.hid hbx
                  clear hsame hpre hK hbx
                  go_simp
                  exact hk.out _ _ rfl (Below.refl _ _)
              intro a72 x72 hbx hsame hG hsz72 hde72
              replace f76 := (hsame 76 (by decide +kernel)).trans f76
              replace f28 := (hsame 28 (by decide +kernel)).trans f28
              replace f5 := (hsame 5 (by decide +kernel)).trans f5
              replace f6 := (hsame 6 (by decide +kernel)).trans f6
              replace f1 := (hsame 1 (by decide +kernel)).trans f1
              replace f26 := (hsame 26 (by decide +kernel)).trans f26
              replace f27 := (hsame 27 (by decide +kernel)).trans f27
              replace f7 := (hsame 7 (by decide +kernel)).trans f7
              replace f8 := (hsame 8 (by decide +kernel)).trans f8
              replace f9 := (hsame 9 (by decide +kernel)).trans f9
              replace f10 := (hsame 10 (by decide +kernel)).trans f10
              replace f11 := (hsame 11 (by decide +kernel)).trans f11
              replace f75 := (hsame 75 (by decide +kernel)).trans f75
              replace f12 := (hsame 12 (by decide +kernel)).trans f12
              have f116 : a72.tmps[116]?.getD undef = .bool false := hG 37 (by decide)
              have Hbx72 := Lib.hid hbx
              have hsz72h := Lib.hid hsz72
              have hde72h := Lib.hid (hde72.trans hde71.out)
              clear hsame hG hbx hsz72 hde72 hsz71 hde71
              refine then_go ?_
              repeat with_reducible refine wp_seq ?_
              refine wp_cond_false (eval_at f116) ?_
              refine wp_skip ?_
              refine block_go ?_
              refine then_go ?_
              clear f116
              refine wp_region_lit ?_
              refine wpList_next rfl hsz72h hde72h 117 rfl (by decide) fun K hK => ?_
              go_simp
              refine hK _ _ fun a73 hsz73 hde73 f117 hk => ?_
              clear hK K
              replace f76 := (hk 76 (by decide)).trans f76
              replace f28 := (hk 28 (by decide)).trans f28
              replace f5 := (hk 5 (by decide)).trans f5
              replace f6 := (hk 6 (by decide)).trans f6
              replace f1 := (hk 1 (by decide)).trans f1
              replace f26 := (hk 26 (by decide)).trans f26
              replace f27 := (hk 27 (by decide)).trans f27
              replace f7 := (hk 7 (by decide)).trans f7
              replace f8 := (hk 8 (by decide)).trans f8
              replace f9 := (hk 9 (by decide)).trans f9
              replace f10 := (hk 10 (by decide)).trans f10
              replace f11 := (hk 11 (by decide)).trans f11
              replace f75 := (hk 75 (by decide)).trans f75
              replace f12 := (hk 12 (by decide)).trans f12
              clear hk hsz72h hde72h
              replace f117 : a73.tmps[117]?.getD undef = .int .i64 ((k + 1 : Nat) : Int) := f117.trans (by first | (congr 1; done) | (congr 1; rw [IntKind.wrap_i64] <;> omega))
              refine wpList_next rfl hsz73 hde73 76 rfl (by decide) fun K hK => ?_
              go_simp
              refine hK _ _ fun a74 hsz74 hde74 f76 hk => ?_
              clear hK K
              replace f28 := (hk 28 (by decide)).trans f28
              replace f5 := (hk 5 (by decide)).trans f5
              replace f6 := (hk 6 (by decide)).trans f6
              replace f1 := (hk 1 (by decide)).trans f1
              replace f26 := (hk 26 (by decide)).trans f26
              replace f27 := (hk 27 (by decide)).trans f27
              replace f7 := (hk 7 (by decide)).trans f7
              replace f8 := (hk 8 (by decide)).trans f8
              replace f9 := (hk 9 (by decide)).trans f9
              replace f10 := (hk 10 (by decide)).trans f10
              replace f11 := (hk 11 (by decide)).trans f11
              replace f75 := (hk 75 (by decide)).trans f75
              replace f12 := (hk 12 (by decide)).trans f12
              replace f76 : a74.tmps[76]?.getD undef = .int .i64 ((k + 1 : Nat) : Int) := f76
              clear hk hsz73 hde73 f117
              refine wpList_nil ?_
              refine then_go ?_
              exact ⟨⟨k + 1, by omega, hsz74, hde74, f76, f28, f5, f6, f1, f26, f27, f7, f8, f9, f10, f11, f75, (Lib.hid (below_call Hbk.out Hbx72.out))⟩, by rw [f76, F76o.out]; show X.length - ((k + 1 : Nat) : Int).toNat < X.length - ((k : Nat) : Int).toNat; omega⟩
        · have hkm : k = X.length := by omega
          have hlt2 : decide ((k : Int) < (X.length : Int)) = false := decide_eq_false (by omega)
          refine wp_region_lit ?_
          refine wpList_next rfl hsz68 hde68 77 rfl (by decide) fun K hK => ?_
          go_simp
          refine hK _ _ fun a69 hsz69 hde69 f77 hk => ?_
          clear hK K
          replace f76 := (hk 76 (by decide)).trans f76
          replace f28 := (hk 28 (by decide)).trans f28
          replace f5 := (hk 5 (by decide)).trans f5
          replace f6 := (hk 6 (by decide)).trans f6
          replace f1 := (hk 1 (by decide)).trans f1
          replace f26 := (hk 26 (by decide)).trans f26
          replace f27 := (hk 27 (by decide)).trans f27
          replace f7 := (hk 7 (by decide)).trans f7
          replace f8 := (hk 8 (by decide)).trans f8
          replace f9 := (hk 9 (by decide)).trans f9
          replace f10 := (hk 10 (by decide)).trans f10
          replace f11 := (hk 11 (by decide)).trans f11
          replace f75 := (hk 75 (by decide)).trans f75
          clear hk hsz68 hde68
          replace f77 : a69.tmps[77]?.getD undef = .bool false := f77.trans (by first | rfl | simp [hkx])
          refine wpList_nil ?_
          refine then_go ?_
          repeat with_reducible refine wp_seq ?_
          refine wp_cond_false (eval_at f77) ?_
          refine wp_exit ?_
          repeat with_reducible refine then_exit ?_
          refine block_exit ?_
          refine then_go ?_
          clear f77 f75 f76 f9 f8
          clear F76o hlt2 hkm hkx hXt hwr Hat Hels
          obtain ⟨w3, hw3⟩ : ∃ x, x = wk := ⟨wk, rfl⟩
          rw [← hw3] at Hbk ⊢
          clear hw3
          repeat with_reducible refine wp_seq ?_
          refine wp_region_lit ?_
          refine wpList_next rfl hsz69 hde69 118 rfl (by decide) fun K hK => ?_
          go_simp
          refine hK _ _ fun a70 hsz70 hde70 f118 hk => ?_
          clear hK K
          replace f28 := (hk 28 (by decide)).trans f28
          replace f5 := (hk 5 (by decide)).trans f5
          replace f6 := (hk 6 (by decide)).trans f6
          replace f1 := (hk 1 (by decide)).trans f1
          replace f26 := (hk 26 (by decide)).trans f26
          replace f27 := (hk 27 (by decide)).trans f27
          replace f7 := (hk 7 (by decide)).trans f7
          replace f10 := (hk 10 (by decide)).trans f10
          replace f11 := (hk 11 (by decide)).trans f11
          replace f118 : a70.tmps[118]?.getD undef = str X := f118
          clear hk hsz69 hde69
          refine wpList_next rfl hsz70 hde70 6 rfl (by decide) fun K hK => ?_
          go_simp
          refine hK _ _ fun a71 hsz71 hde71 f6 hk => ?_
          clear hK K
          replace f28 := (hk 28 (by decide)).trans f28
          replace f5 := (hk 5 (by decide)).trans f5
          replace f1 := (hk 1 (by decide)).trans f1
          replace f26 := (hk 26 (by decide)).trans f26
          replace f27 := (hk 27 (by decide)).trans f27
          replace f7 := (hk 7 (by decide)).trans f7
          replace f10 := (hk 10 (by decide)).trans f10
          replace f11 := (hk 11 (by decide)).trans f11
          replace f6 : a71.tmps[6]?.getD undef = str X := f6
          clear hk hsz70 hde70 f118
          refine wpList_nil ?_
          refine then_go ?_
          repeat with_reducible refine wp_seq ?_
          clear f10
          refine wp_region_lit ?_
          refine wpList_next rfl hsz71 hde71 13 rfl (by decide) fun K hK => ?_
          go_simp
          refine hK _ _ fun a72 hsz72 hde72 f13 hk => ?_
          clear hK K
          replace f28 := (hk 28 (by decide)).trans f28
          replace f5 := (hk 5 (by decide)).trans f5
          replace f1 := (hk 1 (by decide)).trans f1
          replace f26 := (hk 26 (by decide)).trans f26
          replace f27 := (hk 27 (by decide)).trans f27
          replace f7 := (hk 7 (by decide)).trans f7
          replace f11 := (hk 11 (by decide)).trans f11
          replace f6 := (hk 6 (by decide)).trans f6
          replace f13 : a72.tmps[13]?.getD undef = .slice none 0 0 := f13
          clear hk hsz71 hde71
          refine wpList_nil ?_
          refine then_go ?_
          repeat with_reducible refine wp_seq ?_
          have Hb3 := Lib.hid (below_call Hb2.out Hbk.out)
          have HL3 := Lib.hid (HL2.out.grow Hbk.out)
          have hlen := Hok.out.length
          have HH := Lib.hid (heads_any _ s5 L w3 HL3.out Hok.out.data (by omega))
          obtain ⟨H, hH⟩ : ∃ H, H = L.filter headV := ⟨_, rfl⟩
          rw [← hH] at HH
          have HHe := Lib.hid hH
          have Hm := Lib.hid (show H.length ≤ 30 by rw [hH]; exact Nat.le_trans (List.length_filter_le _ _) (by omega))
          clear hH hlen Hbk HL2
          refine wp_region_lit ?_
          refine wpList_next rfl hsz72 hde72 119 rfl (by decide) fun K hK => ?_
          go_simp
          refine hK _ _ fun a73 hsz73 hde73 f119 hk => ?_
          clear hK K
          replace f28 := (hk 28 (by decide)).trans f28
          replace f5 := (hk 5 (by decide)).trans f5
          replace f1 := (hk 1 (by decide)).trans f1
          replace f26 := (hk 26 (by decide)).trans f26
          replace f27 := (hk 27 (by decide)).trans f27
          replace f7 := (hk 7 (by decide)).trans f7
          replace f11 := (hk 11 (by decide)).trans f11
          replace f6 := (hk 6 (by decide)).trans f6
          replace f13 := (hk 13 (by decide)).trans f13
          replace f119 : a73.tmps[119]?.getD undef = s5 := f119
          clear hk hsz72 hde72
          refine wpList_next rfl hsz73 hde73 120 rfl (by decide) fun K hK => ?_
          go_simp
          refine HH.out.mono ?_
          rintro e7 w7 ⟨⟨u7, rfl, hown7⟩, hb7⟩
          obtain ⟨A7, c7, hu7, hc71, hc72, hE7⟩ := ver_at hown7.isL
          subst hu7
          go_simp
          refine hK _ _ fun a74 hsz74 hde74 f120 hk => ?_
          clear hK K
          replace f28 := (hk 28 (by decide)).trans f28
          replace f5 := (hk 5 (by decide)).trans f5
          replace f1 := (hk 1 (by decide)).trans f1
          replace f26 := (hk 26 (by decide)).trans f26
          replace f27 := (hk 27 (by decide)).trans f27
          replace f7 := (hk 7 (by decide)).trans f7
          replace f11 := (hk 11 (by decide)).trans f11
          replace f6 := (hk 6 (by decide)).trans f6
          replace f13 := (hk 13 (by decide)).trans f13
          replace f120 : a74.tmps[120]?.getD undef = .slice A7 H.length c7 := f120
          clear hk hsz73 hde73 f119
          refine wpList_next rfl hsz74 hde74 121 rfl (by decide) fun K hK => ?_
          go_simp
          refine hK _ _ fun a75 hsz75 hde75 f121 hk => ?_
          clear hK K
          replace f28 := (hk 28 (by decide)).trans f28
          replace f5 := (hk 5 (by decide)).trans f5
          replace f1 := (hk 1 (by decide)).trans f1
          replace f26 := (hk 26 (by decide)).trans f26
          replace f27 := (hk 27 (by decide)).trans f27
          replace f7 := (hk 7 (by decide)).trans f7
          replace f11 := (hk 11 (by decide)).trans f11
          replace f6 := (hk 6 (by decide)).trans f6
          replace f13 := (hk 13 (by decide)).trans f13
          replace f120 := (hk 120 (by decide)).trans f120
          replace f121 : a75.tmps[121]?.getD undef = .int .i64 (H.length : Int) := f121
          clear hk hsz74 hde74
          refine wpList_next rfl hsz75 hde75 122 rfl (by decide) fun K hK => ?_
          go_simp
          refine hK _ _ fun a76 hsz76 hde76 f122 hk => ?_
          clear hK K
          replace f28 := (hk 28 (by decide)).trans f28
          replace f5 := (hk 5 (by decide)).trans f5
          replace f1 := (hk 1 (by decide)).trans f1
          replace f26 := (hk 26 (by decide)).trans f26
          replace f27 := (hk 27 (by decide)).trans f27
          replace f7 := (hk 7 (by decide)).trans f7
          replace f11 := (hk 11 (by decide)).trans f11
          replace f6 := (hk 6 (by decide)).trans f6
          replace f13 := (hk 13 (by decide)).trans f13
          replace f120 := (hk 120 (by decide)).trans f120
          replace f121 := (hk 121 (by decide)).trans f121
          replace f122 : a76.tmps[122]?.getD undef = .int .i64 ((0 : Nat) : Int) := f122
          clear hk hsz75 hde75
          refine wpList_nil ?_
          have Hel7 := Lib.hid hE7
          have Hb7 := Lib.hid (below_call Hb3.out hb7)
          have HL7 := Lib.hid (HL3.out.grow hb7)
          clear hE7 hb7 HL3 HH hown7 Hb3 Hb2
          obtain ⟨m, hm2⟩ : ∃ m, m = H.length := ⟨_, rfl⟩
          rw [← hm2] at f120 f121 hc71 Hm
          have Hm2 := Lib.hid hm2
          have hm30 := Hm.out
          clear hm2
          obtain ⟨ids, hids⟩ : ∃ l, l = idsH L := ⟨_, rfl⟩
          have Hids := Lib.hid (show ids = H.map fun x => (x.rep, x.seq) by rw [hids, HHe.out]; rfl)
          have Hids2 := Lib.hid hids
          clear hids
          refine then_go ?_
          repeat with_reducible refine wp_seq ?_
          refine wp_block ?_
          refine wp_loop (fun a wj => ∃ j : Nat, ∃ s9 : Value, j ≤ m ∧ Hid (a.tmps.size = 171) ∧ Hid (a.defers = []) ∧ a.tmps[122]?.getD undef = .int .i64 (j : Int) ∧ a.tmps[13]?.getD undef = s9 ∧ a.tmps[28]?.getD undef = .int .i64 (i : Int) ∧ a.tmps[5]?.getD undef = s5 ∧ a.tmps[1]?.getD undef = .int .i64 off ∧ a.tmps[26]?.getD undef = .slice (some ⟨b, o, none⟩) n c ∧ a.tmps[27]?.getD undef = .int .i64 (n : Int) ∧ a.tmps[7]?.getD undef = .int .i64 (i : Int) ∧ a.tmps[11]?.getD undef = .int .i64 0 ∧ a.tmps[6]?.getD undef = str X ∧ a.tmps[120]?.getD undef = .slice A7 m c7 ∧ a.tmps[121]?.getD undef = .int .i64 (m : Int) ∧ Hid (OwnI wj w7.heap.size s9 (ids.take j)) ∧ Hid (Below w7.heap.size w7 wj)) (fun a _ => m - (intOf (a.tmps[122]?.getD undef)).toNat) ?_ ?_
          · exact ⟨0, _, by omega, hsz76, hde76, f122, f13, f28, f5, f1, f26, f27, f7, f11, f6, f120, f121, Lib.hid (by rw [List.take_zero]; exact OwnI.nil _ _), Lib.hid (Below.refl _ _)⟩
          clear hsz76 hde76 f28 f5 f1 f26 f27 f7 f11 f6 f13 f120 f121 f122
          intro a77 wj hI
          obtain ⟨j, s9, hj, hsz77, hde77, f122, f13, f28, f5, f1, f26, f27, f7, f11, f6, f120, f121, Hown, Hbj⟩ := hI
          have F122o := Lib.hid f122
          repeat with_reducible refine wp_seq ?_
          by_cases hjt : j < m
          · have hdj : decide ((j : Int) < (m : Int)) = true := decide_eq_true (by omega)
            have hjl : j < H.length := by rw [← Hm2.out]; exact hjt
            obtain ⟨b2, off2, rfl, hxok, hxc⟩ := ver_here Hel7.out hjl Hbj.out
            have Hid1 := Lib.hid (show okP (H[j].rep, H[j].seq) from ⟨hxok.rep, hxok.seq⟩)
            have Htk := Lib.hid (show ids.take (j + 1) = ids.take j ++ [(H[j].rep, H[j].seq)] by
              rw [List.take_succ_eq_append_getElem (by rw [Hids.out, List.length_map]; exact hjl)]
              congr 2
              simp [Hids.out])
            have Htl := Lib.hid (show (ids.take j).length ≤ 100000 by rw [List.length_take]; omega)
            obtain ⟨x5, hx5⟩ : ∃ x5, x5 = H[j] := ⟨_, rfl⟩
            rw [← hx5] at hxc Hid1 Htk
            have hra := hxc.all
            obtain ⟨C, hC⟩ : ∃ C, C = verC x5 := ⟨_, rfl⟩
            obtain ⟨IC, hIC⟩ : ∃ I, I = idC x5.rep x5.seq := ⟨_, rfl⟩
            have hsz : C.size = 11 := by rw [hC]; rfl
            have HinfL := Lib.hid (show (Try.prog.info? 39).map (·.size) = some C.toList.length by rw [hC]; exact ver_info)
            have Hinf := Lib.hid (show (Try.prog.info? 39).map (·.size) = some C.size by rw [hC]; exact ver_info)
            have Hone := Lib.hid (show C.all (·.oneCell') = true by rw [hC]; exact verC_one x5)
            have HinfC := Lib.hid (show (Try.prog.info? 35).map (·.size) = some IC.toList.length by rw [hIC]; exact id_info)
            have RC := Lib.hid (show (wj.alloc (.cells C 39)).rangeAt wj.heap.size 0 IC.toList by rw [hC, hIC]; exact (Blk.new wj 39 (verC x5)).ver.id)
            have Hbl := Lib.hid (Hbj.out.alloc Hbj.out.size (.cells C 39))
            have Hown1 := Lib.hid (show OwnI (wj.alloc (.cells C 39)) w7.heap.size s9 (ids.take j) from ⟨OwnK.alloc Hown.out.1 _, Hown.out.2⟩)
            have hfold := fold_id x5.rep x5.seq
            rw [← hIC] at hfold
            have Hfold := Lib.hid hfold
            have HIC := Lib.hid hIC
            have hICs : IC.size = 2 := by rw [hIC]; rfl
            rw [← hC] at hra
            have R := Lib.hid hra
            clear hxc hxok hx5 hra hC hIC hfold Hel7 Hown
            refine wp_region_lit ?_
            refine wpList_next rfl hsz77 hde77 123 rfl (by decide) fun K hK => ?_
            go_simp
            refine hK _ _ fun a78 hsz78 hde78 f123 hk => ?_
            clear hK K
            replace f122 := (hk 122 (by decide)).trans f122
            replace f13 := (hk 13 (by decide)).trans f13
            replace f28 := (hk 28 (by decide)).trans f28
            replace f5 := (hk 5 (by decide)).trans f5
            replace f1 := (hk 1 (by decide)).trans f1
            replace f26 := (hk 26 (by decide)).trans f26
            replace f27 := (hk 27 (by decide)).trans f27
            replace f7 := (hk 7 (by decide)).trans f7
            replace f11 := (hk 11 (by decide)).trans f11
            replace f6 := (hk 6 (by decide)).trans f6
            replace f120 := (hk 120 (by decide)).trans f120
            replace f121 := (hk 121 (by decide)).trans f121
            clear hk hsz77 hde77
            replace f123 : a78.tmps[123]?.getD undef = .bool true := f123.trans (by first | rfl | simp [hjt])
            refine wpList_nil ?_
            refine then_go ?_
            repeat with_reducible refine wp_seq ?_
            refine wp_cond_true (eval_at f123) ?_
            refine wp_skip ?_
            refine then_go ?_
            clear f123
            repeat with_reducible refine wp_seq ?_
            refine wp_block ?_
            repeat with_reducible refine wp_seq ?_
            refine wp_region_lit ?_
            refine wpList_next rfl hsz78 hde78 124 rfl (by decide) fun K hK => ?_
            go_simp
            refine hK _ _ fun a79 hsz79 hde79 f124 hk => ?_
            clear hK K
            replace f122 := (hk 122 (by decide)).trans f122
            replace f13 := (hk 13 (by decide)).trans f13
            replace f28 := (hk 28 (by decide)).trans f28
            replace f5 := (hk 5 (by decide)).trans f5
            replace f1 := (hk 1 (by decide)).trans f1
            replace f26 := (hk 26 (by decide)).trans f26
            replace f27 := (hk 27 (by decide)).trans f27
            replace f7 := (hk 7 (by decide)).trans f7
            replace f11 := (hk 11 (by decide)).trans f11
            replace f6 := (hk 6 (by decide)).trans f6
            replace f120 := (hk 120 (by decide)).trans f120
            replace f121 := (hk 121 (by decide)).trans f121
            replace f124 : a79.tmps[124]?.getD undef = .pointer (some ⟨b2, off2 + j * 11, none⟩) := f124
            clear hk hsz78 hde78
            refine wpList_next rfl hsz79 hde79 125 rfl (by decide) fun K hK => ?_
            refine wp_load_mid 39 (.tmp 124) rfl b2 (off2 + j * 11) (eval_at f124) C.toList _ R.out Try.underlying39 rfl HinfL.out ?_
            refine hK _ _ fun a80 hsz80 hde80 f125 hk => ?_
            clear hK K
            replace f122 := (hk 122 (by decide)).trans f122
            replace f13 := (hk 13 (by decide)).trans f13
            replace f28 := (hk 28 (by decide)).trans f28
            replace f5 := (hk 5 (by decide)).trans f5
            replace f1 := (hk 1 (by decide)).trans f1
            replace f26 := (hk 26 (by decide)).trans f26
            replace f27 := (hk 27 (by decide)).trans f27
            replace f7 := (hk 7 (by decide)).trans f7
            replace f11 := (hk 11 (by decide)).trans f11
            replace f6 := (hk 6 (by decide)).trans f6
            replace f120 := (hk 120 (by decide)).trans f120
            replace f121 := (hk 121 (by decide)).trans f121
            replace f125 : a80.tmps[125]?.getD undef = .agg C := f125
            clear hk hsz79 hde79 f124
            refine wpList_next rfl hsz80 hde80 15 rfl (by decide) fun K hK => ?_
            go_simp
            refine hK _ _ fun a81 hsz81 hde81 f15 hk => ?_
            clear hK K
            replace f122 := (hk 122 (by decide)).trans f122
            replace f13 := (hk 13 (by decide)).trans f13
            replace f28 := (hk 28 (by decide)).trans f28
            replace f5 := (hk 5 (by decide)).trans f5
            replace f1 := (hk 1 (by decide)).trans f1
            replace f26 := (hk 26 (by decide)).trans f26
            replace f27 := (hk 27 (by decide)).trans f27
            replace f7 := (hk 7 (by decide)).trans f7
            replace f11 := (hk 11 (by decide)).trans f11
            replace f6 := (hk 6 (by decide)).trans f6
            replace f120 := (hk 120 (by decide)).trans f120
            replace f121 := (hk 121 (by decide)).trans f121
            replace f125 := (hk 125 (by decide)).trans f125
            replace f15 : a81.tmps[15]?.getD undef = .pointer (some ⟨wj.heap.size, 0, none⟩) := f15
            clear hk hsz80 hde80
            refine wpList_next0 rfl rfl fun K hK => ?_
            refine wp_store_new 39 (.tmp 15) (.tmp 125) rfl zeroC C (eval_at f15) (eval_at f125) Hinf.out (by rw [hsz]; rfl) Hone.out ?_
            refine hK _ _ ?_
            clear hK K
            clear f125
            refine wpList_nil ?_
            obtain ⟨wa, hwa⟩ : ∃ wa, wa = wj.alloc (.cells C 39) := ⟨_, rfl⟩
            rw [← hwa] at RC Hbl Hown1 ⊢
            clear hwa
            refine then_go ?_
            repeat with_reducible refine wp_seq ?_
            refine wp_region_lit ?_
            refine wpList_next rfl hsz81 hde81 126 rfl (by decide) fun K hK => ?_
            go_simp
            refine hK _ _ fun a82 hsz82 hde82 f126 hk => ?_
            clear hK K
            replace f122 := (hk 122 (by decide)).trans f122
            replace f13 := (hk 13 (by decide)).trans f13
            replace f28 := (hk 28 (by decide)).trans f28
            replace f5 := (hk 5 (by decide)).trans f5
            replace f1 := (hk 1 (by decide)).trans f1
            replace f26 := (hk 26 (by decide)).trans f26
            replace f27 := (hk 27 (by decide)).trans f27
            replace f7 := (hk 7 (by decide)).trans f7
            replace f11 := (hk 11 (by decide)).trans f11
            replace f6 := (hk 6 (by decide)).trans f6
            replace f120 := (hk 120 (by decide)).trans f120
            replace f121 := (hk 121 (by decide)).trans f121
            replace f15 := (hk 15 (by decide)).trans f15
            replace f126 : a82.tmps[126]?.getD undef = s9 := f126
            clear hk hsz81 hde81
            refine wpList_next rfl hsz82 hde82 127 rfl (by decide) fun K hK => ?_
            go_simp
            refine hK _ _ fun a83 hsz83 hde83 f127 hk => ?_
            clear hK K
            replace f122 := (hk 122 (by decide)).trans f122
            replace f13 := (hk 13 (by decide)).trans f13
            replace f28 := (hk 28 (by decide)).trans f28
            replace f5 := (hk 5 (by decide)).trans f5
            replace f1 := (hk 1 (by decide)).trans f1
            replace f26 := (hk 26 (by decide)).trans f26
            replace f27 := (hk 27 (by decide)).trans f27
            replace f7 := (hk 7 (by decide)).trans f7
            replace f11 := (hk 11 (by decide)).trans f11
            replace f6 := (hk 6 (by decide)).trans f6
            replace f120 := (hk 120 (by decide)).trans f120
            replace f121 := (hk 121 (by decide)).trans f121
            replace f15 := (hk 15 (by decide)).trans f15
            replace f126 := (hk 126 (by decide)).trans f126
            replace f127 : a83.tmps[127]?.getD undef = .pointer (some ⟨wj.heap.size, 0, none⟩) := f127
            clear hk hsz82 hde82
            refine wpList_next rfl hsz83 hde83 128 rfl (by decide) fun K hK => ?_
            refine wp_load_mid 35 (.tmp 127) rfl wj.heap.size 0 (eval_at f127) IC.toList _ RC.out Try.underlying35 rfl HinfC.out ?_
            refine hK _ _ fun a84 hsz84 hde84 f128 hk => ?_
            clear hK K
            replace f122 := (hk 122 (by decide)).trans f122
            replace f13 := (hk 13 (by decide)).trans f13
            replace f28 := (hk 28 (by decide)).trans f28
            replace f5 := (hk 5 (by decide)).trans f5
            replace f1 := (hk 1 (by decide)).trans f1
            replace f26 := (hk 26 (by decide)).trans f26
            replace f27 := (hk 27 (by decide)).trans f27
            replace f7 := (hk 7 (by decide)).trans f7
            replace f11 := (hk 11 (by decide)).trans f11
            replace f6 := (hk 6 (by decide)).trans f6
            replace f120 := (hk 120 (by decide)).trans f120
            replace f121 := (hk 121 (by decide)).trans f121
            replace f15 := (hk 15 (by decide)).trans f15
            replace f126 := (hk 126 (by decide)).trans f126
            replace f128 : a84.tmps[128]?.getD undef = .agg IC := f128
            clear hk hsz83 hde83 f127
            refine wpList_next rfl hsz84 hde84 129 rfl (by decide) fun K hK => ?_
            go_simp
            refine hK _ _ fun a85 hsz85 hde85 f129 hk => ?_
            clear hK K
            replace f122 := (hk 122 (by decide)).trans f122
            replace f13 := (hk 13 (by decide)).trans f13
            replace f28 := (hk 28 (by decide)).trans f28
            replace f5 := (hk 5 (by decide)).trans f5
            replace f1 := (hk 1 (by decide)).trans f1
            replace f26 := (hk 26 (by decide)).trans f26
            replace f27 := (hk 27 (by decide)).trans f27
            replace f7 := (hk 7 (by decide)).trans f7
            replace f11 := (hk 11 (by decide)).trans f11
            replace f6 := (hk 6 (by decide)).trans f6
            replace f120 := (hk 120 (by decide)).trans f120
            replace f121 := (hk 121 (by decide)).trans f121
            replace f15 := (hk 15 (by decide)).trans f15
            replace f126 := (hk 126 (by decide)).trans f126
            replace f129 : a85.tmps[129]?.getD undef = .slice (some ⟨wa.heap.size, 0, none⟩) 1 1 := f129
            clear hk hsz84 hde84 f128
            refine wpList_next rfl hsz85 hde85 130 rfl (by decide) fun K hK => ?_
            rw [Hfold.out]
            refine wp_app_id wa (.tmp 126) (.tmp 129) rfl w7.heap.size s9 (ids.take j) (eval_at f126) Hown1.out IC _ HIC.out Hid1.out _ (eval_at f129) Htl.out Hbl.out.size ?_
            intro v9 w9 hown9 hg9
            have Hown9 := Lib.hid hown9
            have Hg9 := Lib.hid hg9
            clear hown9 hg9
            refine hK _ _ fun a86 hsz86 hde86 f130 hk => ?_
            clear hK K
            replace f122 := (hk 122 (by decide)).trans f122
            replace f13 := (hk 13 (by decide)).trans f13
            replace f28 := (hk 28 (by decide)).trans f28
            replace f5 := (hk 5 (by decide)).trans f5
            replace f1 := (hk 1 (by decide)).trans f1
            replace f26 := (hk 26 (by decide)).trans f26
            replace f27 := (hk 27 (by decide)).trans f27
            replace f7 := (hk 7 (by decide)).trans f7
            replace f11 := (hk 11 (by decide)).trans f11
            replace f6 := (hk 6 (by decide)).trans f6
            replace f120 := (hk 120 (by decide)).trans f120
            replace f121 := (hk 121 (by decide)).trans f121
            replace f15 := (hk 15 (by decide)).trans f15
            clear hk hsz85 hde85 f126 f129
            refine wpList_next rfl hsz86 hde86 13 rfl (by decide) fun K hK => ?_
            go_simp
            refine hK _ _ fun a87 hsz87 hde87 f13 hk => ?_
            clear hK K
            replace f122 := (hk 122 (by decide)).trans f122
            replace f28 := (hk 28 (by decide)).trans f28
            replace f5 := (hk 5 (by decide)).trans f5
            replace f1 := (hk 1 (by decide)).trans f1
            replace f26 := (hk 26 (by decide)).trans f26
            replace f27 := (hk 27 (by decide)).trans f27
            replace f7 := (hk 7 (by decide)).trans f7
            replace f11 := (hk 11 (by decide)).trans f11
            replace f6 := (hk 6 (by decide)).trans f6
            replace f120 := (hk 120 (by decide)).trans f120
            replace f121 := (hk 121 (by decide)).trans f121
            replace f15 := (hk 15 (by decide)).trans f15
            clear hk hsz86 hde86 f130
            refine wpList_nil ?_
            refine block_go ?_
            refine then_go ?_
            clear f15
            refine wp_region_lit ?_
            refine wpList_next rfl hsz87 hde87 131 rfl (by decide) fun K hK => ?_
            go_simp
            refine hK _ _ fun a88 hsz88 hde88 f131 hk => ?_
            clear hK K
            replace f122 := (hk 122 (by decide)).trans f122
            replace f28 := (hk 28 (by decide)).trans f28
            replace f5 := (hk 5 (by decide)).trans f5
            replace f1 := (hk 1 (by decide)).trans f1
            replace f26 := (hk 26 (by decide)).trans f26
            replace f27 := (hk 27 (by decide)).trans f27
            replace f7 := (hk 7 (by decide)).trans f7
            replace f11 := (hk 11 (by decide)).trans f11
            replace f6 := (hk 6 (by decide)).trans f6
            replace f120 := (hk 120 (by decide)).trans f120
            replace f121 := (hk 121 (by decide)).trans f121
            replace f13 := (hk 13 (by decide)).trans f13
            clear hk hsz87 hde87
            replace f131 : a88.tmps[131]?.getD undef = .int .i64 ((j + 1 : Nat) : Int) := f131.trans (by first | (congr 1; done) | (congr 1; rw [IntKind.wrap_i64] <;> omega))
            refine wpList_next rfl hsz88 hde88 122 rfl (by decide) fun K hK => ?_
            go_simp
            refine hK _ _ fun a89 hsz89 hde89 f122 hk => ?_
            clear hK K
            replace f28 := (hk 28 (by decide)).trans f28
            replace f5 := (hk 5 (by decide)).trans f5
            replace f1 := (hk 1 (by decide)).trans f1
            replace f26 := (hk 26 (by decide)).trans f26
            replace f27 := (hk 27 (by decide)).trans f27
            replace f7 := (hk 7 (by decide)).trans f7
            replace f11 := (hk 11 (by decide)).trans f11
            replace f6 := (hk 6 (by decide)).trans f6
            replace f120 := (hk 120 (by decide)).trans f120
            replace f121 := (hk 121 (by decide)).trans f121
            replace f13 := (hk 13 (by decide)).trans f13
            replace f122 : a89.tmps[122]?.getD undef = .int .i64 ((j + 1 : Nat) : Int) := f122
            clear hk hsz88 hde88 f131
            refine wpList_nil ?_
            refine then_go ?_
            exact ⟨⟨j + 1, _, by omega, hsz89, hde89, f122, f13, f28, f5, f1, f26, f27, f7, f11, f6, f120, f121, (Lib.hid (by rw [Htk.out]; exact Hown9.out)), (Lib.hid (Hbl.out.trans (Hown1.out.1.below_of Hg9.out Hbl.out.size (Nat.le_refl _))))⟩, by rw [f122, F122o.out]; show m - ((j + 1 : Nat) : Int).toNat < m - ((j : Nat) : Int).toNat; omega⟩
          · have hjm : ¬ j < m := hjt
            obtain rfl : j = m := by omega
            have hlt2 : decide ((j : Int) < (j : Int)) = false := decide_eq_false (by omega)
            refine wp_region_lit ?_
            refine wpList_next rfl hsz77 hde77 123 rfl (by decide) fun K hK => ?_
            go_simp
            refine hK _ _ fun a78 hsz78 hde78 f123 hk => ?_
            clear hK K
            replace f122 := (hk 122 (by decide)).trans f122
            replace f13 := (hk 13 (by decide)).trans f13
            replace f28 := (hk 28 (by decide)).trans f28
            replace f5 := (hk 5 (by decide)).trans f5
            replace f1 := (hk 1 (by decide)).trans f1
            replace f26 := (hk 26 (by decide)).trans f26
            replace f27 := (hk 27 (by decide)).trans f27
            replace f7 := (hk 7 (by decide)).trans f7
            replace f11 := (hk 11 (by decide)).trans f11
            replace f6 := (hk 6 (by decide)).trans f6
            replace f120 := (hk 120 (by decide)).trans f120
            replace f121 := (hk 121 (by decide)).trans f121
            clear hk hsz77 hde77
            replace f123 : a78.tmps[123]?.getD undef = .bool false := f123.trans (by first | rfl | simp)
            refine wpList_nil ?_
            refine then_go ?_
            repeat with_reducible refine wp_seq ?_
            refine wp_cond_false (eval_at f123) ?_
            refine wp_exit ?_
            repeat with_reducible refine then_exit ?_
            refine block_exit ?_
            refine then_go ?_
            clear f123 f120 f121 f122
            clear F122o hjt hlt2 hjm
            have Hown9 := Lib.hid (show OwnI wj w7.heap.size s9 ids by
              have := Hown.out
              rwa [List.take_of_length_le (by rw [Hids.out, List.length_map, Hm2.out]; exact Nat.le_refl _)] at this)
            clear Hown Hel7
            obtain ⟨w8, hw8⟩ : ∃ x, x = wj := ⟨wj, rfl⟩
            rw [← hw8] at Hbj Hown9 ⊢
            clear hw8
            have Hb8 := Lib.hid (below_call Hb7.out Hbj.out)
            have HL8 := Lib.hid (HL7.out.grow Hbj.out)
            have HI8 := Lib.hid Hown9.out.isL
            obtain ⟨A0, hA0⟩ : ∃ z : Ver, z = ⟨((1 + i % 3 : Nat) : Int), i + 1, X, zeroV⟩ := ⟨_, rfl⟩
            obtain ⟨L2, hL2⟩ : ∃ M, M = putV L ids A0 := ⟨_, rfl⟩
            have hnt : thereV L A0.rep A0.seq = false := by rw [hA0]; exact line_not Hok.out _
            have ha1 := add_new (by rw [Hids2.out]; exact ids_there L : (ids.all fun p => thereV L p.1 p.2) = true) hnt
            rw [← hL2] at ha1
            have hAok : VerOk A0 := by
              rw [hA0]
              exact ⟨⟨by show (-9223372036854775808 : Int) ≤ ((1 + i % 3 : Nat) : Int); omega, by show ((1 + i % 3 : Nat) : Int) ≤ 9223372036854775807; omega⟩, (by show i + 1 < 4294967296; omega), (by show X.length ≤ maxLen; exact Nat.le_trans hX200 (by decide)), okV_zero⟩
            have Hok2 := Lib.hid (show LineOk (i + 1) X L2 by rw [hL2, Hids2.out]; exact line_next Hok.out A0 (by rw [hA0]) (by rw [hA0]; exact hX200) hX200)
            have Hhd := Lib.hid (show L2.filter headV = [A0] by rw [hL2, Hids2.out]; exact one_heads (by rw [hA0]; exact repV_iff.2 ⟨by show (1 : Int) ≤ ((1 + i % 3 : Nat) : Int); omega, by show ((1 + i % 3 : Nat) : Int) ≤ 8; omega⟩) (by rw [hA0]; show 1 ≤ i + 1; omega) (by rw [hA0]; exact eqV_iff.2 fun _ _ => rfl))
            obtain ⟨CA, hCA⟩ : ∃ C, C = verC A0 := ⟨_, rfl⟩
            have HAdd := Lib.hid (show ∀ z : World, Below w8.heap.size w8 z → Calls Try.prog 14 #[s5, s9, .agg CA] z fun e w' => (∃ u, e = .returned (.tuple #[u, .int .i64 0]) ∧ OwnV w' z.heap.size u L2) ∧ Below z.heap.size z w' from fun z hz => by
              have := add_any _ _ s5 s9 L ids A0 z (HL8.out.grow hz) (HI8.out.grow hz) (by rw [Hok.out.length]; omega) Hok.out.data (by rw [hA0]; show X.length ≤ 1000; omega) Hok.out.sorted hAok
              rw [ha1, ← hCA] at this; exact this)
            have HCA := Lib.hid (show CA = #[.int .i64 ((1 + i % 3 : Nat) : Int), .int .u32 ((i + 1 : Nat) : Int), str X, .int .u32 0, .int .u32 0, .int .u32 0, .int .u32 0, .int .u32 0, .int .u32 0, .int .u32 0, .int .u32 0] by rw [hCA, hA0]; rfl)
            have HA0 := Lib.hid (show A0.data = X by rw [hA0])
            have HCA2 := Lib.hid hCA
            clear hnt ha1 hAok hA0 hL2 hCA Hids Hids2 HHe Hm Hm2 Hown9 Hbj HL7 Hb7 hm30
            repeat with_reducible refine wp_seq ?_
            refine wp_region_lit ?_
            refine wpList_next rfl hsz78 hde78 133 rfl (by decide) fun K hK => ?_
            go_simp
            refine hK _ _ fun a79 hsz79 hde79 f133 hk => ?_
            clear hK K
            replace f13 := (hk 13 (by decide)).trans f13
            replace f28 := (hk 28 (by decide)).trans f28
            replace f5 := (hk 5 (by decide)).trans f5
            replace f1 := (hk 1 (by decide)).trans f1
            replace f26 := (hk 26 (by decide)).trans f26
            replace f27 := (hk 27 (by decide)).trans f27
            replace f7 := (hk 7 (by decide)).trans f7
            replace f11 := (hk 11 (by decide)).trans f11
            replace f6 := (hk 6 (by decide)).trans f6
            replace f133 : a79.tmps[133]?.getD undef = s5 := f133
            clear hk hsz78 hde78
            refine wpList_next rfl hsz79 hde79 134 rfl (by decide) fun K hK => ?_
            go_simp
            refine hK _ _ fun a80 hsz80 hde80 f134 hk => ?_
            clear hK K
            replace f13 := (hk 13 (by decide)).trans f13
            replace f28 := (hk 28 (by decide)).trans f28
            replace f5 := (hk 5 (by decide)).trans f5
            replace f1 := (hk 1 (by decide)).trans f1
            replace f26 := (hk 26 (by decide)).trans f26
            replace f27 := (hk 27 (by decide)).trans f27
            replace f7 := (hk 7 (by decide)).trans f7
            replace f11 := (hk 11 (by decide)).trans f11
            replace f6 := (hk 6 (by decide)).trans f6
            replace f133 := (hk 133 (by decide)).trans f133
            replace f134 : a80.tmps[134]?.getD undef = s9 := f134
            clear hk hsz79 hde79
            refine wpList_next rfl hsz80 hde80 135 rfl (by decide) fun K hK => ?_
            go_simp
            refine hK _ _ fun a81 hsz81 hde81 f135 hk => ?_
            clear hK K
            replace f13 := (hk 13 (by decide)).trans f13
            replace f28 := (hk 28 (by decide)).trans f28
            replace f5 := (hk 5 (by decide)).trans f5
            replace f1 := (hk 1 (by decide)).trans f1
            replace f26 := (hk 26 (by decide)).trans f26
            replace f27 := (hk 27 (by decide)).trans f27
            replace f7 := (hk 7 (by decide)).trans f7
            replace f11 := (hk 11 (by decide)).trans f11
            replace f6 := (hk 6 (by decide)).trans f6
            replace f133 := (hk 133 (by decide)).trans f133
            replace f134 := (hk 134 (by decide)).trans f134
            replace f135 : a81.tmps[135]?.getD undef = .int .i64 (i : Int) := f135
            clear hk hsz80 hde80
            refine wpList_next rfl hsz81 hde81 136 rfl (by decide) fun K hK => ?_
            go_simp
            refine hK _ _ fun a82 hsz82 hde82 f136 hk => ?_
            clear hK K
            replace f13 := (hk 13 (by decide)).trans f13
            replace f28 := (hk 28 (by decide)).trans f28
            replace f5 := (hk 5 (by decide)).trans f5
            replace f1 := (hk 1 (by decide)).trans f1
            replace f26 := (hk 26 (by decide)).trans f26
            replace f27 := (hk 27 (by decide)).trans f27
            replace f7 := (hk 7 (by decide)).trans f7
            replace f11 := (hk 11 (by decide)).trans f11
            replace f6 := (hk 6 (by decide)).trans f6
            replace f133 := (hk 133 (by decide)).trans f133
            replace f134 := (hk 134 (by decide)).trans f134
            clear hk hsz81 hde81 f135
            replace f136 : a82.tmps[136]?.getD undef = .int .i64 ((i % 3 : Nat) : Int) := f136.trans (by first | (congr 1; done) | (congr 1; rw [Int.tmod_eq_emod_of_nonneg (by omega)]; omega))
            refine wpList_next rfl hsz82 hde82 137 rfl (by decide) fun K hK => ?_
            go_simp
            refine hK _ _ fun a83 hsz83 hde83 f137 hk => ?_
            clear hK K
            replace f13 := (hk 13 (by decide)).trans f13
            replace f28 := (hk 28 (by decide)).trans f28
            replace f5 := (hk 5 (by decide)).trans f5
            replace f1 := (hk 1 (by decide)).trans f1
            replace f26 := (hk 26 (by decide)).trans f26
            replace f27 := (hk 27 (by decide)).trans f27
            replace f7 := (hk 7 (by decide)).trans f7
            replace f11 := (hk 11 (by decide)).trans f11
            replace f6 := (hk 6 (by decide)).trans f6
            replace f133 := (hk 133 (by decide)).trans f133
            replace f134 := (hk 134 (by decide)).trans f134
            clear hk hsz82 hde82 f136
            replace f137 : a83.tmps[137]?.getD undef = .int .i64 ((1 + i % 3 : Nat) : Int) := f137.trans (by first | (congr 1; done) | (congr 1; rw [IntKind.wrap_i64] <;> omega))
            refine wpList_next rfl hsz83 hde83 138 rfl (by decide) fun K hK => ?_
            go_simp
            refine hK _ _ fun a84 hsz84 hde84 f138 hk => ?_
            clear hK K
            replace f13 := (hk 13 (by decide)).trans f13
            replace f28 := (hk 28 (by decide)).trans f28
            replace f5 := (hk 5 (by decide)).trans f5
            replace f1 := (hk 1 (by decide)).trans f1
            replace f26 := (hk 26 (by decide)).trans f26
            replace f27 := (hk 27 (by decide)).trans f27
            replace f7 := (hk 7 (by decide)).trans f7
            replace f11 := (hk 11 (by decide)).trans f11
            replace f6 := (hk 6 (by decide)).trans f6
            replace f133 := (hk 133 (by decide)).trans f133
            replace f134 := (hk 134 (by decide)).trans f134
            replace f137 := (hk 137 (by decide)).trans f137
            replace f138 : a84.tmps[138]?.getD undef = .int .i64 (i : Int) := f138
            clear hk hsz83 hde83
            refine wpList_next rfl hsz84 hde84 139 rfl (by decide) fun K hK => ?_
            go_simp
            refine hK _ _ fun a85 hsz85 hde85 f139 hk => ?_
            clear hK K
            replace f13 := (hk 13 (by decide)).trans f13
            replace f28 := (hk 28 (by decide)).trans f28
            replace f5 := (hk 5 (by decide)).trans f5
            replace f1 := (hk 1 (by decide)).trans f1
            replace f26 := (hk 26 (by decide)).trans f26
            replace f27 := (hk 27 (by decide)).trans f27
            replace f7 := (hk 7 (by decide)).trans f7
            replace f11 := (hk 11 (by decide)).trans f11
            replace f6 := (hk 6 (by decide)).trans f6
            replace f133 := (hk 133 (by decide)).trans f133
            replace f134 := (hk 134 (by decide)).trans f134
            replace f137 := (hk 137 (by decide)).trans f137
            clear hk hsz84 hde84 f138
            replace f139 : a85.tmps[139]?.getD undef = .int .i64 ((i + 1 : Nat) : Int) := f139.trans (by first | (congr 1; done) | (congr 1; rw [IntKind.wrap_i64] <;> omega))
            refine wpList_next rfl hsz85 hde85 140 rfl (by decide) fun K hK => ?_
            go_simp
            refine hK _ _ fun a86 hsz86 hde86 f140 hk => ?_
            clear hK K
            replace f13 := (hk 13 (by decide)).trans f13
            replace f28 := (hk 28 (by decide)).trans f28
            replace f5 := (hk 5 (by decide)).trans f5
            replace f1 := (hk 1 (by decide)).trans f1
            replace f26 := (hk 26 (by decide)).trans f26
            replace f27 := (hk 27 (by decide)).trans f27
            replace f7 := (hk 7 (by decide)).trans f7
            replace f11 := (hk 11 (by decide)).trans f11
            replace f6 := (hk 6 (by decide)).trans f6
            replace f133 := (hk 133 (by decide)).trans f133
            replace f134 := (hk 134 (by decide)).trans f134
            replace f137 := (hk 137 (by decide)).trans f137
            clear hk hsz85 hde85 f139
            replace f140 : a86.tmps[140]?.getD undef = .int .u32 ((i + 1 : Nat) : Int) := f140.trans (by first | (congr 1; done) | (congr 1; rw [IntKind.wrap_u32] <;> omega))
            refine wpList_next rfl hsz86 hde86 141 rfl (by decide) fun K hK => ?_
            go_simp
            refine (id11_any ((1 + i % 3 : Nat) : Int) (i + 1) _).mono ?_
            rintro e9 w9 ⟨rfl, hb9⟩
            go_simp
            refine hK _ _ fun a87 hsz87 hde87 f141 hk => ?_
            clear hK K
            replace f13 := (hk 13 (by decide)).trans f13
            replace f28 := (hk 28 (by decide)).trans f28
            replace f5 := (hk 5 (by decide)).trans f5
            replace f1 := (hk 1 (by decide)).trans f1
            replace f26 := (hk 26 (by decide)).trans f26
            replace f27 := (hk 27 (by decide)).trans f27
            replace f7 := (hk 7 (by decide)).trans f7
            replace f11 := (hk 11 (by decide)).trans f11
            replace f6 := (hk 6 (by decide)).trans f6
            replace f133 := (hk 133 (by decide)).trans f133
            replace f134 := (hk 134 (by decide)).trans f134
            replace f141 : a87.tmps[141]?.getD undef = .agg (idC ((1 + i % 3 : Nat) : Int) (i + 1)) := f141
            clear hk hsz86 hde86 f137 f140
            refine wpList_next rfl hsz87 hde87 142 rfl (by decide) fun K hK => ?_
            go_simp
            refine hK _ _ fun a88 hsz88 hde88 f142 hk => ?_
            clear hK K
            replace f13 := (hk 13 (by decide)).trans f13
            replace f28 := (hk 28 (by decide)).trans f28
            replace f5 := (hk 5 (by decide)).trans f5
            replace f1 := (hk 1 (by decide)).trans f1
            replace f26 := (hk 26 (by decide)).trans f26
            replace f27 := (hk 27 (by decide)).trans f27
            replace f7 := (hk 7 (by decide)).trans f7
            replace f11 := (hk 11 (by decide)).trans f11
            replace f6 := (hk 6 (by decide)).trans f6
            replace f133 := (hk 133 (by decide)).trans f133
            replace f134 := (hk 134 (by decide)).trans f134
            replace f141 := (hk 141 (by decide)).trans f141
            replace f142 : a88.tmps[142]?.getD undef = str X := f142
            clear hk hsz87 hde87
            refine wpList_next rfl hsz88 hde88 143 rfl (by decide) fun K hK => ?_
            go_simp
            refine hK _ _ fun a89 hsz89 hde89 f143 hk => ?_
            clear hK K
            replace f13 := (hk 13 (by decide)).trans f13
            replace f28 := (hk 28 (by decide)).trans f28
            replace f5 := (hk 5 (by decide)).trans f5
            replace f1 := (hk 1 (by decide)).trans f1
            replace f26 := (hk 26 (by decide)).trans f26
            replace f27 := (hk 27 (by decide)).trans f27
            replace f7 := (hk 7 (by decide)).trans f7
            replace f11 := (hk 11 (by decide)).trans f11
            replace f6 := (hk 6 (by decide)).trans f6
            replace f133 := (hk 133 (by decide)).trans f133
            replace f134 := (hk 134 (by decide)).trans f134
            clear hk hsz88 hde88 f141 f142
            replace f143 : a89.tmps[143]?.getD undef = .agg CA := f143.trans (by rw [HCA.out]; rfl)
            refine wpList_next rfl hsz89 hde89 144 rfl (by decide) fun K hK => ?_
            go_simp
            refine (HAdd.out _ hb9).mono ?_
            rintro e10 w10 ⟨⟨u16, rfl, hown16⟩, hb10⟩
            go_simp
            refine hK _ _ fun a90 hsz90 hde90 f144 hk => ?_
            clear hK K
            replace f13 := (hk 13 (by decide)).trans f13
            replace f28 := (hk 28 (by decide)).trans f28
            replace f5 := (hk 5 (by decide)).trans f5
            replace f1 := (hk 1 (by decide)).trans f1
            replace f26 := (hk 26 (by decide)).trans f26
            replace f27 := (hk 27 (by decide)).trans f27
            replace f7 := (hk 7 (by decide)).trans f7
            replace f11 := (hk 11 (by decide)).trans f11
            replace f6 := (hk 6 (by decide)).trans f6
            replace f144 : a90.tmps[144]?.getD undef = .tuple #[u16, .int .i64 0] := f144
            clear hk hsz89 hde89 f133 f134 f143
            refine wpList_next rfl hsz90 hde90 132 rfl (by decide) fun K hK => ?_
            go_simp
            refine hK _ _ fun a91 hsz91 hde91 f132 hk => ?_
            clear hK K
            replace f13 := (hk 13 (by decide)).trans f13
            replace f28 := (hk 28 (by decide)).trans f28
            replace f5 := (hk 5 (by decide)).trans f5
            replace f1 := (hk 1 (by decide)).trans f1
            replace f26 := (hk 26 (by decide)).trans f26
            replace f27 := (hk 27 (by decide)).trans f27
            replace f7 := (hk 7 (by decide)).trans f7
            replace f11 := (hk 11 (by decide)).trans f11
            replace f6 := (hk 6 (by decide)).trans f6
            replace f132 : a91.tmps[132]?.getD undef = .tuple #[u16, .int .i64 0] := f132
            clear hk hsz90 hde90 f144
            refine wpList_next rfl hsz91 hde91 145 rfl (by decide) fun K hK => ?_
            go_simp
            refine hK _ _ fun a92 hsz92 hde92 f145 hk => ?_
            clear hK K
            replace f13 := (hk 13 (by decide)).trans f13
            replace f28 := (hk 28 (by decide)).trans f28
            replace f5 := (hk 5 (by decide)).trans f5
            replace f1 := (hk 1 (by decide)).trans f1
            replace f26 := (hk 26 (by decide)).trans f26
            replace f27 := (hk 27 (by decide)).trans f27
            replace f7 := (hk 7 (by decide)).trans f7
            replace f11 := (hk 11 (by decide)).trans f11
            replace f6 := (hk 6 (by decide)).trans f6
            replace f132 := (hk 132 (by decide)).trans f132
            replace f145 : a92.tmps[145]?.getD undef = u16 := f145
            clear hk hsz91 hde91
            refine wpList_next rfl hsz92 hde92 146 rfl (by decide) fun K hK => ?_
            go_simp
            refine hK _ _ fun a93 hsz93 hde93 f146 hk => ?_
            clear hK K
            replace f13 := (hk 13 (by decide)).trans f13
            replace f28 := (hk 28 (by decide)).trans f28
            replace f5 := (hk 5 (by decide)).trans f5
            replace f1 := (hk 1 (by decide)).trans f1
            replace f26 := (hk 26 (by decide)).trans f26
            replace f27 := (hk 27 (by decide)).trans f27
            replace f7 := (hk 7 (by decide)).trans f7
            replace f11 := (hk 11 (by decide)).trans f11
            replace f6 := (hk 6 (by decide)).trans f6
            replace f145 := (hk 145 (by decide)).trans f145
            replace f146 : a93.tmps[146]?.getD undef = .int .i64 0 := f146
            clear hk hsz92 hde92 f132
            refine wpList_next rfl hsz93 hde93 16 rfl (by decide) fun K hK => ?_
            go_simp
            refine hK _ _ fun a94 hsz94 hde94 f16 hk => ?_
            clear hK K
            replace f13 := (hk 13 (by decide)).trans f13
            replace f28 := (hk 28 (by decide)).trans f28
            replace f5 := (hk 5 (by decide)).trans f5
            replace f1 := (hk 1 (by decide)).trans f1
            replace f26 := (hk 26 (by decide)).trans f26
            replace f27 := (hk 27 (by decide)).trans f27
            replace f7 := (hk 7 (by decide)).trans f7
            replace f11 := (hk 11 (by decide)).trans f11
            replace f6 := (hk 6 (by decide)).trans f6
            replace f146 := (hk 146 (by decide)).trans f146
            replace f16 : a94.tmps[16]?.getD undef = u16 := f16
            clear hk hsz93 hde93 f145
            refine wpList_next rfl hsz94 hde94 11 rfl (by decide) fun K hK => ?_
            go_simp
            refine hK _ _ fun a95 hsz95 hde95 f11 hk => ?_
            clear hK K
            replace f13 := (hk 13 (by decide)).trans f13
            replace f28 := (hk 28 (by decide)).trans f28
            replace f5 := (hk 5 (by decide)).trans f5
            replace f1 := (hk 1 (by decide)).trans f1
            replace f26 := (hk 26 (by decide)).trans f26
            replace f27 := (hk 27 (by decide)).trans f27
            replace f7 := (hk 7 (by decide)).trans f7
            replace f6 := (hk 6 (by decide)).trans f6
            replace f16 := (hk 16 (by decide)).trans f16
            replace f11 : a95.tmps[11]?.getD undef = .int .i64 0 := f11
            clear hk hsz94 hde94 f146
            refine wpList_nil ?_
            have Hb10 := Lib.hid (below_call (below_call Hb8.out hb9) hb10)
            have Ho16 := Lib.hid (hown16.isL.weaken (ok' := fun _ => True) fun _ _ => trivial)
            clear hb9 hb10 hown16 HAdd
            refine then_go ?_
            repeat with_reducible refine wp_seq ?_
            clear f13
            refine wp_region_lit ?_
            refine wpList_next rfl hsz95 hde95 147 rfl (by decide) fun K hK => ?_
            go_simp
            refine hK _ _ fun a96 hsz96 hde96 f147 hk => ?_
            clear hK K
            replace f28 := (hk 28 (by decide)).trans f28
            replace f5 := (hk 5 (by decide)).trans f5
            replace f1 := (hk 1 (by decide)).trans f1
            replace f26 := (hk 26 (by decide)).trans f26
            replace f27 := (hk 27 (by decide)).trans f27
            replace f7 := (hk 7 (by decide)).trans f7
            replace f6 := (hk 6 (by decide)).trans f6
            replace f16 := (hk 16 (by decide)).trans f16
            replace f11 := (hk 11 (by decide)).trans f11
            replace f147 : a96.tmps[147]?.getD undef = u16 := f147
            clear hk hsz95 hde95
            refine wpList_next rfl hsz96 hde96 5 rfl (by decide) fun K hK => ?_
            go_simp
            refine hK _ _ fun a97 hsz97 hde97 f5 hk => ?_
            clear hK K
            replace f28 := (hk 28 (by decide)).trans f28
            replace f1 := (hk 1 (by decide)).trans f1
            replace f26 := (hk 26 (by decide)).trans f26
            replace f27 := (hk 27 (by decide)).trans f27
            replace f7 := (hk 7 (by decide)).trans f7
            replace f6 := (hk 6 (by decide)).trans f6
            replace f16 := (hk 16 (by decide)).trans f16
            replace f11 := (hk 11 (by decide)).trans f11
            replace f5 : a97.tmps[5]?.getD undef = u16 := f5
            clear hk hsz96 hde96 f147
            refine wpList_nil ?_
            refine then_go ?_
            repeat with_reducible refine wp_seq ?_
            clear f16
            refine wp_region_lit ?_
            refine wpList_next rfl hsz97 hde97 148 rfl (by decide) fun K hK => ?_
            go_simp
            refine hK _ _ fun a98 hsz98 hde98 f148 hk => ?_
            clear hK K
            replace f28 := (hk 28 (by decide)).trans f28
            replace f1 := (hk 1 (by decide)).trans f1
            replace f26 := (hk 26 (by decide)).trans f26
            replace f27 := (hk 27 (by decide)).trans f27
            replace f7 := (hk 7 (by decide)).trans f7
            replace f6 := (hk 6 (by decide)).trans f6
            replace f11 := (hk 11 (by decide)).trans f11
            replace f5 := (hk 5 (by decide)).trans f5
            replace f148 : a98.tmps[148]?.getD undef = .int .i64 0 := f148
            clear hk hsz97 hde97
            refine wpList_next rfl hsz98 hde98 149 rfl (by decide) fun K hK => ?_
            go_simp
            refine hK _ _ fun a99 hsz99 hde99 f149 hk => ?_
            clear hK K
            replace f28 := (hk 28 (by decide)).trans f28
            replace f1 := (hk 1 (by decide)).trans f1
            replace f26 := (hk 26 (by decide)).trans f26
            replace f27 := (hk 27 (by decide)).trans f27
            replace f7 := (hk 7 (by decide)).trans f7
            replace f6 := (hk 6 (by decide)).trans f6
            replace f11 := (hk 11 (by decide)).trans f11
            replace f5 := (hk 5 (by decide)).trans f5
            replace f149 : a99.tmps[149]?.getD undef = .bool false := f149
            clear hk hsz98 hde98 f148
            refine wpList_nil ?_
            refine then_go ?_
            repeat with_reducible refine wp_seq ?_
            refine wp_cond_false (eval_at f149) ?_
            refine wp_skip ?_
            refine then_go ?_
            clear f149 f11
            repeat with_reducible refine wp_seq ?_
            have HH2 := Lib.hid (heads_any _ u16 L2 w10 Ho16.out Hok2.out.data (by rw [Hok2.out.length]; omega))
            rw [Hhd.out] at HH2
            refine wp_region_lit ?_
            refine wpList_next rfl hsz99 hde99 150 rfl (by decide) fun K hK => ?_
            go_simp
            refine hK _ _ fun a100 hsz100 hde100 f150 hk => ?_
            clear hK K
            replace f28 := (hk 28 (by decide)).trans f28
            replace f1 := (hk 1 (by decide)).trans f1
            replace f26 := (hk 26 (by decide)).trans f26
            replace f27 := (hk 27 (by decide)).trans f27
            replace f7 := (hk 7 (by decide)).trans f7
            replace f6 := (hk 6 (by decide)).trans f6
            replace f5 := (hk 5 (by decide)).trans f5
            replace f150 : a100.tmps[150]?.getD undef = u16 := f150
            clear hk hsz99 hde99
            refine wpList_next rfl hsz100 hde100 151 rfl (by decide) fun K hK => ?_
            go_simp
            refine HH2.out.mono ?_
            rintro e11 w11 ⟨⟨u11, rfl, hown11⟩, hb11⟩
            obtain ⟨A9, c9, hu9, _, _, hE9⟩ := ver_at hown11.isL
            obtain ⟨b9, o9, rfl, _, _, hel9⟩ := hE9 (by simp)
            have hu9b : u11 = .slice (some ⟨b9, o9, none⟩) 1 c9 := hu9
            subst hu9b
            go_simp
            refine hK _ _ fun a101 hsz101 hde101 f151 hk => ?_
            clear hK K
            replace f28 := (hk 28 (by decide)).trans f28
            replace f1 := (hk 1 (by decide)).trans f1
            replace f26 := (hk 26 (by decide)).trans f26
            replace f27 := (hk 27 (by decide)).trans f27
            replace f7 := (hk 7 (by decide)).trans f7
            replace f6 := (hk 6 (by decide)).trans f6
            replace f5 := (hk 5 (by decide)).trans f5
            replace f151 : a101.tmps[151]?.getD undef = .slice (some ⟨b9, o9, none⟩) 1 c9 := f151
            clear hk hsz100 hde100 f150
            refine wpList_next rfl hsz101 hde101 17 rfl (by decide) fun K hK => ?_
            go_simp
            refine hK _ _ fun a102 hsz102 hde102 f17 hk => ?_
            clear hK K
            replace f28 := (hk 28 (by decide)).trans f28
            replace f1 := (hk 1 (by decide)).trans f1
            replace f26 := (hk 26 (by decide)).trans f26
            replace f27 := (hk 27 (by decide)).trans f27
            replace f7 := (hk 7 (by decide)).trans f7
            replace f6 := (hk 6 (by decide)).trans f6
            replace f5 := (hk 5 (by decide)).trans f5
            replace f17 : a102.tmps[17]?.getD undef = .slice (some ⟨b9, o9, none⟩) 1 c9 := f17
            clear hk hsz101 hde101 f151
            refine wpList_nil ?_
            have hc9 : w11.cell? ⟨b9, o9 + 2, none⟩ = some (str X) := by
              have := (verCells (hel9 0 (by simp)).1).data
              rw [← HA0.out]
              simpa using this
            have Hb11 := Lib.hid (below_call Hb10.out hb11)
            have HL11 := Lib.hid (Ho16.out.grow hb11)
            have hlen := Hok2.out.length
            clear hu9 hE9 hel9 hb11 hown11 HH2
            refine then_go ?_
            repeat with_reducible refine wp_seq ?_
            obtain ⟨A5, c5, hu5, _, _, _⟩ := ver_at HL11.out
            rw [hlen] at hu5
            rw [hu5] at f5
            have Hu5 := Lib.hid hu5
            clear hu5 hlen
            refine wp_region_lit ?_
            refine wpList_next rfl hsz102 hde102 152 rfl (by decide) fun K hK => ?_
            go_simp
            refine hK _ _ fun a103 hsz103 hde103 f152 hk => ?_
            clear hK K
            replace f28 := (hk 28 (by decide)).trans f28
            replace f1 := (hk 1 (by decide)).trans f1
            replace f26 := (hk 26 (by decide)).trans f26
            replace f27 := (hk 27 (by decide)).trans f27
            replace f7 := (hk 7 (by decide)).trans f7
            replace f6 := (hk 6 (by decide)).trans f6
            replace f5 := (hk 5 (by decide)).trans f5
            replace f17 := (hk 17 (by decide)).trans f17
            replace f152 : a103.tmps[152]?.getD undef = .slice (some ⟨b9, o9, none⟩) 1 c9 := f152
            clear hk hsz102 hde102
            refine wpList_next rfl hsz103 hde103 153 rfl (by decide) fun K hK => ?_
            go_simp
            refine hK _ _ fun a104 hsz104 hde104 f153 hk => ?_
            clear hK K
            replace f28 := (hk 28 (by decide)).trans f28
            replace f1 := (hk 1 (by decide)).trans f1
            replace f26 := (hk 26 (by decide)).trans f26
            replace f27 := (hk 27 (by decide)).trans f27
            replace f7 := (hk 7 (by decide)).trans f7
            replace f6 := (hk 6 (by decide)).trans f6
            replace f5 := (hk 5 (by decide)).trans f5
            replace f17 := (hk 17 (by decide)).trans f17
            replace f153 : a104.tmps[153]?.getD undef = .int .i64 1 := f153
            clear hk hsz103 hde103 f152
            refine wpList_next rfl hsz104 hde104 154 rfl (by decide) fun K hK => ?_
            go_simp
            refine hK _ _ fun a105 hsz105 hde105 f154 hk => ?_
            clear hK K
            replace f28 := (hk 28 (by decide)).trans f28
            replace f1 := (hk 1 (by decide)).trans f1
            replace f26 := (hk 26 (by decide)).trans f26
            replace f27 := (hk 27 (by decide)).trans f27
            replace f7 := (hk 7 (by decide)).trans f7
            replace f6 := (hk 6 (by decide)).trans f6
            replace f5 := (hk 5 (by decide)).trans f5
            replace f17 := (hk 17 (by decide)).trans f17
            replace f154 : a105.tmps[154]?.getD undef = .bool false := f154
            clear hk hsz104 hde104 f153
            refine wpList_next rfl hsz105 hde105 155 rfl (by decide) fun K hK => ?_
            go_simp
            refine hK _ _ fun a106 hsz106 hde106 f155 hk => ?_
            clear hK K
            replace f28 := (hk 28 (by decide)).trans f28
            replace f1 := (hk 1 (by decide)).trans f1
            replace f26 := (hk 26 (by decide)).trans f26
            replace f27 := (hk 27 (by decide)).trans f27
            replace f7 := (hk 7 (by decide)).trans f7
            replace f6 := (hk 6 (by decide)).trans f6
            replace f5 := (hk 5 (by decide)).trans f5
            replace f17 := (hk 17 (by decide)).trans f17
            replace f155 : a106.tmps[155]?.getD undef = .bool false := f155
            clear hk hsz105 hde105 f154
            refine wpList_nextg (wanted_of (j := 3) (t := 155) (b := false) rfl rfl f155) hsz106 hde106 156 rfl (by decide) fun K hK => ?_
            go_simp
            refine hK _ _ fun a107 hsz107 hde107 f156 hk => ?_
            clear hK K
            replace f28 := (hk 28 (by decide)).trans f28
            replace f1 := (hk 1 (by decide)).trans f1
            replace f26 := (hk 26 (by decide)).trans f26
            replace f27 := (hk 27 (by decide)).trans f27
            replace f7 := (hk 7 (by decide)).trans f7
            replace f6 := (hk 6 (by decide)).trans f6
            replace f5 := (hk 5 (by decide)).trans f5
            replace f17 := (hk 17 (by decide)).trans f17
            replace f155 := (hk 155 (by decide)).trans f155
            replace f156 : a107.tmps[156]?.getD undef = .slice (some ⟨b9, o9, none⟩) 1 c9 := f156
            clear hk hsz106 hde106
            refine wpList_nextg (wanted_of (j := 3) (t := 155) (b := false) rfl rfl f155) hsz107 hde107 157 rfl (by decide) fun K hK => ?_
            go_simp
            refine hK _ _ fun a108 hsz108 hde108 f157 hk => ?_
            clear hK K
            replace f28 := (hk 28 (by decide)).trans f28
            replace f1 := (hk 1 (by decide)).trans f1
            replace f26 := (hk 26 (by decide)).trans f26
            replace f27 := (hk 27 (by decide)).trans f27
            replace f7 := (hk 7 (by decide)).trans f7
            replace f6 := (hk 6 (by decide)).trans f6
            replace f5 := (hk 5 (by decide)).trans f5
            replace f17 := (hk 17 (by decide)).trans f17
            replace f155 := (hk 155 (by decide)).trans f155
            replace f157 : a108.tmps[157]?.getD undef = .pointer (some ⟨b9, o9, none⟩) := f157
            clear hk hsz107 hde107 f156
            refine wpList_nextg (wanted_of (j := 3) (t := 155) (b := false) rfl rfl f155) hsz108 hde108 158 rfl (by decide) fun K hK => ?_
            go_simp
            refine hK _ _ fun a109 hsz109 hde109 f158 hk => ?_
            clear hK K
            replace f28 := (hk 28 (by decide)).trans f28
            replace f1 := (hk 1 (by decide)).trans f1
            replace f26 := (hk 26 (by decide)).trans f26
            replace f27 := (hk 27 (by decide)).trans f27
            replace f7 := (hk 7 (by decide)).trans f7
            replace f6 := (hk 6 (by decide)).trans f6
            replace f5 := (hk 5 (by decide)).trans f5
            replace f17 := (hk 17 (by decide)).trans f17
            replace f155 := (hk 155 (by decide)).trans f155
            replace f158 : a109.tmps[158]?.getD undef = .pointer (some ⟨b9, o9 + 2, none⟩) := f158
            clear hk hsz108 hde108 f157
            refine wpList_nextg (wanted_of (j := 3) (t := 155) (b := false) rfl rfl f155) hsz109 hde109 159 rfl (by decide) fun K hK => ?_
            go_simp
            refine hK _ _ fun a110 hsz110 hde110 f159 hk => ?_
            clear hK K
            replace f28 := (hk 28 (by decide)).trans f28
            replace f1 := (hk 1 (by decide)).trans f1
            replace f26 := (hk 26 (by decide)).trans f26
            replace f27 := (hk 27 (by decide)).trans f27
            replace f7 := (hk 7 (by decide)).trans f7
            replace f6 := (hk 6 (by decide)).trans f6
            replace f5 := (hk 5 (by decide)).trans f5
            replace f17 := (hk 17 (by decide)).trans f17
            replace f155 := (hk 155 (by decide)).trans f155
            replace f159 : a110.tmps[159]?.getD undef = str X := f159
            clear hk hsz109 hde109 f158
            refine wpList_nextg (wanted_of (j := 3) (t := 155) (b := false) rfl rfl f155) hsz110 hde110 160 rfl (by decide) fun K hK => ?_
            go_simp
            refine hK _ _ fun a111 hsz111 hde111 f160 hk => ?_
            clear hK K
            replace f28 := (hk 28 (by decide)).trans f28
            replace f1 := (hk 1 (by decide)).trans f1
            replace f26 := (hk 26 (by decide)).trans f26
            replace f27 := (hk 27 (by decide)).trans f27
            replace f7 := (hk 7 (by decide)).trans f7
            replace f6 := (hk 6 (by decide)).trans f6
            replace f5 := (hk 5 (by decide)).trans f5
            replace f17 := (hk 17 (by decide)).trans f17
            replace f155 := (hk 155 (by decide)).trans f155
            replace f159 := (hk 159 (by decide)).trans f159
            replace f160 : a111.tmps[160]?.getD undef = str X := f160
            clear hk hsz110 hde110
            refine wpList_nextg (wanted_of (j := 3) (t := 155) (b := false) rfl rfl f155) hsz111 hde111 161 rfl (by decide) fun K hK => ?_
            go_simp
            refine hK _ _ fun a112 hsz112 hde112 f161 hk => ?_
            clear hK K
            replace f28 := (hk 28 (by decide)).trans f28
            replace f1 := (hk 1 (by decide)).trans f1
            replace f26 := (hk 26 (by decide)).trans f26
            replace f27 := (hk 27 (by decide)).trans f27
            replace f7 := (hk 7 (by decide)).trans f7
            replace f6 := (hk 6 (by decide)).trans f6
            replace f5 := (hk 5 (by decide)).trans f5
            replace f17 := (hk 17 (by decide)).trans f17
            replace f155 := (hk 155 (by decide)).trans f155
            replace f161 : a112.tmps[161]?.getD undef = .bool false := f161
            clear hk hsz111 hde111 f159 f160
            replace f161 : a112.tmps[161]?.getD undef = .bool false := f161.trans (by first | rfl | simp)
            refine wpList_next rfl hsz112 hde112 162 rfl (by decide) fun K hK => ?_
            go_simp
            refine hK _ _ fun a113 hsz113 hde113 f162 hk => ?_
            clear hK K
            replace f28 := (hk 28 (by decide)).trans f28
            replace f1 := (hk 1 (by decide)).trans f1
            replace f26 := (hk 26 (by decide)).trans f26
            replace f27 := (hk 27 (by decide)).trans f27
            replace f7 := (hk 7 (by decide)).trans f7
            replace f6 := (hk 6 (by decide)).trans f6
            replace f5 := (hk 5 (by decide)).trans f5
            replace f17 := (hk 17 (by decide)).trans f17
            replace f162 : a113.tmps[162]?.getD undef = .bool false := f162
            clear hk hsz112 hde112 f155 f161
            refine wpList_next rfl hsz113 hde113 163 rfl (by decide) fun K hK => ?_
            go_simp
            refine hK _ _ fun a114 hsz114 hde114 f163 hk => ?_
            clear hK K
            replace f28 := (hk 28 (by decide)).trans f28
            replace f1 := (hk 1 (by decide)).trans f1
            replace f26 := (hk 26 (by decide)).trans f26
            replace f27 := (hk 27 (by decide)).trans f27
            replace f7 := (hk 7 (by decide)).trans f7
            replace f6 := (hk 6 (by decide)).trans f6
            replace f5 := (hk 5 (by decide)).trans f5
            replace f17 := (hk 17 (by decide)).trans f17
            replace f163 : a114.tmps[163]?.getD undef = .bool false := f163
            clear hk hsz113 hde113 f162
            refine wpList_nextg (wanted_of (j := 11) (t := 163) (b := false) rfl rfl f163) hsz114 hde114 164 rfl (by decide) fun K hK => ?_
            go_simp
            refine hK _ _ fun a115 hsz115 hde115 f164 hk => ?_
            clear hK K
            replace f28 := (hk 28 (by decide)).trans f28
            replace f1 := (hk 1 (by decide)).trans f1
            replace f26 := (hk 26 (by decide)).trans f26
            replace f27 := (hk 27 (by decide)).trans f27
            replace f7 := (hk 7 (by decide)).trans f7
            replace f6 := (hk 6 (by decide)).trans f6
            replace f5 := (hk 5 (by decide)).trans f5
            replace f17 := (hk 17 (by decide)).trans f17
            replace f163 := (hk 163 (by decide)).trans f163
            replace f164 : a115.tmps[164]?.getD undef = .slice A5 (i + 1) c5 := f164
            clear hk hsz114 hde114
            refine wpList_nextg (wanted_of (j := 11) (t := 163) (b := false) rfl rfl f163) hsz115 hde115 165 rfl (by decide) fun K hK => ?_
            go_simp
            refine hK _ _ fun a116 hsz116 hde116 f165 hk => ?_
            clear hK K
            replace f28 := (hk 28 (by decide)).trans f28
            replace f1 := (hk 1 (by decide)).trans f1
            replace f26 := (hk 26 (by decide)).trans f26
            replace f27 := (hk 27 (by decide)).trans f27
            replace f7 := (hk 7 (by decide)).trans f7
            replace f6 := (hk 6 (by decide)).trans f6
            replace f5 := (hk 5 (by decide)).trans f5
            replace f17 := (hk 17 (by decide)).trans f17
            replace f163 := (hk 163 (by decide)).trans f163
            replace f165 : a116.tmps[165]?.getD undef = .int .i64 ((i + 1 : Nat) : Int) := f165
            clear hk hsz115 hde115 f164
            refine wpList_nextg (wanted_of (j := 11) (t := 163) (b := false) rfl rfl f163) hsz116 hde116 166 rfl (by decide) fun K hK => ?_
            go_simp
            refine hK _ _ fun a117 hsz117 hde117 f166 hk => ?_
            clear hK K
            replace f28 := (hk 28 (by decide)).trans f28
            replace f1 := (hk 1 (by decide)).trans f1
            replace f26 := (hk 26 (by decide)).trans f26
            replace f27 := (hk 27 (by decide)).trans f27
            replace f7 := (hk 7 (by decide)).trans f7
            replace f6 := (hk 6 (by decide)).trans f6
            replace f5 := (hk 5 (by decide)).trans f5
            replace f17 := (hk 17 (by decide)).trans f17
            replace f163 := (hk 163 (by decide)).trans f163
            replace f165 := (hk 165 (by decide)).trans f165
            replace f166 : a117.tmps[166]?.getD undef = .int .i64 (i : Int) := f166
            clear hk hsz116 hde116
            refine wpList_nextg (wanted_of (j := 11) (t := 163) (b := false) rfl rfl f163) hsz117 hde117 167 rfl (by decide) fun K hK => ?_
            go_simp
            refine hK _ _ fun a118 hsz118 hde118 f167 hk => ?_
            clear hK K
            replace f28 := (hk 28 (by decide)).trans f28
            replace f1 := (hk 1 (by decide)).trans f1
            replace f26 := (hk 26 (by decide)).trans f26
            replace f27 := (hk 27 (by decide)).trans f27
            replace f7 := (hk 7 (by decide)).trans f7
            replace f6 := (hk 6 (by decide)).trans f6
            replace f5 := (hk 5 (by decide)).trans f5
            replace f17 := (hk 17 (by decide)).trans f17
            replace f163 := (hk 163 (by decide)).trans f163
            replace f165 := (hk 165 (by decide)).trans f165
            clear hk hsz117 hde117 f166
            replace f167 : a118.tmps[167]?.getD undef = .int .i64 ((i + 1 : Nat) : Int) := f167.trans (by first | (congr 1; done) | (congr 1; rw [IntKind.wrap_i64] <;> omega))
            refine wpList_nextg (wanted_of (j := 11) (t := 163) (b := false) rfl rfl f163) hsz118 hde118 168 rfl (by decide) fun K hK => ?_
            go_simp
            refine hK _ _ fun a119 hsz119 hde119 f168 hk => ?_
            clear hK K
            replace f28 := (hk 28 (by decide)).trans f28
            replace f1 := (hk 1 (by decide)).trans f1
            replace f26 := (hk 26 (by decide)).trans f26
            replace f27 := (hk 27 (by decide)).trans f27
            replace f7 := (hk 7 (by decide)).trans f7
            replace f6 := (hk 6 (by decide)).trans f6
            replace f5 := (hk 5 (by decide)).trans f5
            replace f17 := (hk 17 (by decide)).trans f17
            replace f163 := (hk 163 (by decide)).trans f163
            clear hk hsz118 hde118 f165 f167
            replace f168 : a119.tmps[168]?.getD undef = .bool false := f168.trans (by first | rfl | simp)
            refine wpList_next rfl hsz119 hde119 169 rfl (by decide) fun K hK => ?_
            go_simp
            refine hK _ _ fun a120 hsz120 hde120 f169 hk => ?_
            clear hK K
            replace f28 := (hk 28 (by decide)).trans f28
            replace f1 := (hk 1 (by decide)).trans f1
            replace f26 := (hk 26 (by decide)).trans f26
            replace f27 := (hk 27 (by decide)).trans f27
            replace f7 := (hk 7 (by decide)).trans f7
            replace f6 := (hk 6 (by decide)).trans f6
            replace f5 := (hk 5 (by decide)).trans f5
            replace f17 := (hk 17 (by decide)).trans f17
            replace f169 : a120.tmps[169]?.getD undef = .bool false := f169
            clear hk hsz119 hde119 f163 f168
            refine wpList_nil ?_
            clear hc9
            refine then_go ?_
            repeat with_reducible refine wp_seq ?_
            refine wp_cond_false (eval_at f169) ?_
            refine wp_skip ?_
            refine block_go ?_
            refine then_go ?_
            clear f169 f17 f7
            rw [← Hu5.out] at f5
            refine wp_region_lit ?_
            refine wpList_next rfl hsz120 hde120 170 rfl (by decide) fun K hK => ?_
            go_simp
            refine hK _ _ fun a121 hsz121 hde121 f170 hk => ?_
            clear hK K
            replace f28 := (hk 28 (by decide)).trans f28
            replace f1 := (hk 1 (by decide)).trans f1
            replace f26 := (hk 26 (by decide)).trans f26
            replace f27 := (hk 27 (by decide)).trans f27
            replace f6 := (hk 6 (by decide)).trans f6
            replace f5 := (hk 5 (by decide)).trans f5
            clear hk hsz120 hde120
            replace f170 : a121.tmps[170]?.getD undef = .int .i64 ((i + 1 : Nat) : Int) := f170.trans (by first | (congr 1; done) | (congr 1; rw [IntKind.wrap_i64] <;> omega))
            refine wpList_next rfl hsz121 hde121 28 rfl (by decide) fun K hK => ?_
            go_simp
            refine hK _ _ fun a122 hsz122 hde122 f28 hk => ?_
            clear hK K
            replace f1 := (hk 1 (by decide)).trans f1
            replace f26 := (hk 26 (by decide)).trans f26
            replace f27 := (hk 27 (by decide)).trans f27
            replace f6 := (hk 6 (by decide)).trans f6
            replace f5 := (hk 5 (by decide)).trans f5
            replace f28 : a122.tmps[28]?.getD undef = .int .i64 ((i + 1 : Nat) : Int) := f28
            clear hk hsz121 hde121 f170
            refine wpList_nil ?_
            refine then_go ?_
            exact ⟨⟨i + 1, u16, X, L2, by omega, hsz122, hde122, f28, f5, f6, f1, f26, f27, HL11, Hok2, Hb11⟩, by rw [f28, F28o.out]; show n - ((i + 1 : Nat) : Int).toNat < n - ((i : Nat) : Int).toNat; omega⟩
    · have hin : ¬ i < n := hlt
      obtain rfl : i = n := by omega
      have hlt2 : decide ((i : Int) < (i : Int)) = false := decide_eq_false (by omega)
      refine wp_region_lit ?_
      refine wpList_next rfl hsz14 hde14 29 rfl (by decide) fun K hK => ?_
      go_simp
      refine hK _ _ fun a15 hsz15 hde15 f29 hk => ?_
      clear hK K
      replace f28 := (hk 28 (by decide)).trans f28
      replace f5 := (hk 5 (by decide)).trans f5
      replace f6 := (hk 6 (by decide)).trans f6
      replace f1 := (hk 1 (by decide)).trans f1
      replace f26 := (hk 26 (by decide)).trans f26
      replace f27 := (hk 27 (by decide)).trans f27
      clear hk hsz14 hde14
      replace f29 : a15.tmps[29]?.getD undef = .bool false := f29.trans (by first | rfl | simp)
      refine wpList_nil ?_
      refine then_go ?_
      repeat with_reducible refine wp_seq ?_
      refine wp_cond_false (eval_at f29) ?_
      refine wp_exit ?_
      repeat with_reducible refine then_exit ?_
      refine block_exit ?_
      refine then_go ?_
      repeat with_reducible refine wp_seq ?_
      refine wp_region_lit ?_
      refine wpList_next rfl hsz15 hde15 4 rfl (by decide) fun K hK => ?_
      go_simp
      refine hK _ _ fun a16 hsz16 hde16 f4 hk => ?_
      clear hK K
      replace f28 := (hk 28 (by decide)).trans f28
      replace f5 := (hk 5 (by decide)).trans f5
      replace f6 := (hk 6 (by decide)).trans f6
      replace f1 := (hk 1 (by decide)).trans f1
      replace f26 := (hk 26 (by decide)).trans f26
      replace f27 := (hk 27 (by decide)).trans f27
      replace f29 := (hk 29 (by decide)).trans f29
      replace f4 : a16.tmps[4]?.getD undef = .bool true := f4
      clear hk hsz15 hde15
      refine wpList_nil ?_
      refine then_go ?_
      refine wp_ret ?_
      refine (ret_tmp (R := fun e2 w2 => e2 = .returned (.bool true) ∧ Below w.heap.size w w2) Try.results7 hde16 f4 ?_)
      exact ⟨rfl, Hbw.out⟩
end Go.Proofs.Ytnehoabeameioaa
