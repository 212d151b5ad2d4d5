/-
  The walk of EntryJoins.
-/
import Derived.Test.YtckibimganmklaaDoorEnLives
import Derived.Test.YtckibimganmklaaDoorEnAlike
namespace Go.Proofs.YtckibimganmklaaDoor
open Go.RowKit
set_option maxRecDepth 100000

theorem join_more3 {L M N : List Ent} (hl : SortedE L) (hm : SortedE M) (hn : SortedE N) (h : AlikeE (L ++ M ++ N)) : joinE (joinE (joinE L M) N) M = joinE (joinE L M) N := by
  have h1 : AlikeE (N ++ M) := fun x hx y hy => h x (by simp at hx ⊢; rcases hx with hx | hx <;> simp [hx]) y (by simp at hy ⊢; rcases hy with hy | hy <;> simp [hy])
  rw [join_three (sorted_join _ _ hl hm) hn hm, join_swap hn hm h1, ← join_three (sorted_join _ _ hl hm) hm hn, join_again hl hm]
theorem join_data {L M : List Ent} (h : ∀ x ∈ L, x.data.length ≤ 1000) (h' : ∀ x ∈ M, x.data.length ≤ 1000) : ∀ x ∈ joinE L M, x.data.length ≤ 1000 := join_all (p := fun x => x.data.length ≤ 1000) (fun _ _ hx _ => hx) L M h h'

set_option maxHeartbeats 16000000 in
theorem entryjoins_walk (v1 : Value) (L : List Ent) (v2 : Value) (M : List Ent) (v3 : Value) (N : List Ent) (w : World) (hL : IsL kEnt w (fun _ => True) v1 L) (hM : IsL kEnt w (fun _ => True) v2 M) (hN : IsL kEnt w (fun _ => True) v3 N) (hp : Pow w) :
    Calls Tryd.prog 8 #[v1, v2, v3] w fun e w' => e = .returned (.bool true) ∧ Below w.heap.size w w' := by
  have Hl := Lib.hid fun (z : World) (hz : Pow z) => lives10_any z hz
  have HL := Lib.hid hL
  have HM := Lib.hid hM
  have HN := Lib.hid hN
  have Hp := Lib.hid hp
  obtain ⟨A1, c1, rfl⟩ : ∃ A c, v1 = .slice A L.length c := let ⟨A, c, e, _⟩ := ent_at hL; ⟨A, c, e⟩
  obtain ⟨A2, c2, rfl⟩ : ∃ A c, v2 = .slice A M.length c := let ⟨A, c, e, _⟩ := ent_at hM; ⟨A, c, e⟩
  obtain ⟨A3, c3, rfl⟩ : ∃ A c, v3 = .slice A N.length c := let ⟨A, c, e, _⟩ := ent_at hN; ⟨A, c, e⟩
  obtain ⟨n1, hn1⟩ : ∃ n, n = L.length := ⟨_, rfl⟩
  obtain ⟨n2, hn2⟩ : ∃ n, n = M.length := ⟨_, rfl⟩
  obtain ⟨n3, hn3⟩ : ∃ n, n = N.length := ⟨_, rfl⟩
  rw [← hn1] at HL ⊢
  rw [← hn2] at HM ⊢
  rw [← hn3] at HN ⊢
  clear hL hM hN hp hn1 hn2 hn3
  go_enter Tryd.func8, Tryd.ntmps8
  refine enter_abs (N := 66) rfl rfl fun a0 hsz0 hde0 hk => ?_
  have f0 : a0.tmps[0]?.getD undef = .slice A1 n1 c1 := hk 0
  have f1 : a0.tmps[1]?.getD undef = .slice A2 n2 c2 := hk 1
  have f2 : a0.tmps[2]?.getD undef = .slice A3 n3 c3 := hk 2
  clear hk
  repeat with_reducible refine wp_seq ?_
  refine wp_region_lit ?_
  refine wpList_next rfl hsz0 hde0 6 rfl (by decide) fun K hK => ?_
  go_simp
  refine hK _ _ fun a1 hsz1 hde1 f6 hk => ?_
  clear hK K
  replace f0 := (hk 0 (by decide)).trans f0
  replace f1 := (hk 1 (by decide)).trans f1
  replace f2 := (hk 2 (by decide)).trans f2
  replace f6 : a1.tmps[6]?.getD undef = .bool false := f6
  clear hk hsz0 hde0
  refine wpList_nil ?_
  clear f6
  refine then_go ?_
  repeat with_reducible refine wp_seq ?_
  refine wp_region_lit ?_
  refine wpList_next rfl hsz1 hde1 8 rfl (by decide) fun K hK => ?_
  go_simp
  refine (Hl.out _ Hp.out).mono ?_
  rintro e1 w1 ⟨rfl, hb1⟩
  go_simp
  refine hK _ _ fun a2 hsz2 hde2 f8 hk => ?_
  clear hK K
  replace f0 := (hk 0 (by decide)).trans f0
  replace f1 := (hk 1 (by decide)).trans f1
  replace f2 := (hk 2 (by decide)).trans f2
  replace f8 : a2.tmps[8]?.getD undef = .bool true := f8
  clear hk hsz1 hde1
  refine wpList_next rfl hsz2 hde2 9 rfl (by decide) fun K hK => ?_
  go_simp
  refine hK _ _ fun a3 hsz3 hde3 f9 hk => ?_
  clear hK K
  replace f0 := (hk 0 (by decide)).trans f0
  replace f1 := (hk 1 (by decide)).trans f1
  replace f2 := (hk 2 (by decide)).trans f2
  replace f9 : a3.tmps[9]?.getD undef = .bool false := f9
  clear hk hsz2 hde2 f8
  refine wpList_next rfl hsz3 hde3 10 rfl (by decide) fun K hK => ?_
  go_simp
  refine hK _ _ fun a4 hsz4 hde4 f10 hk => ?_
  clear hK K
  replace f0 := (hk 0 (by decide)).trans f0
  replace f1 := (hk 1 (by decide)).trans f1
  replace f2 := (hk 2 (by decide)).trans f2
  replace f10 : a4.tmps[10]?.getD undef = .bool false := f10
  clear hk hsz3 hde3 f9
  refine wpList_nextg (wanted_of (j := 2) (t := 10) (b := false) rfl rfl f10) hsz4 hde4 11 rfl (by decide) fun K hK => ?_
  go_simp
  refine hK _ _ fun a5 hsz5 hde5 f11 hk => ?_
  clear hK K
  replace f0 := (hk 0 (by decide)).trans f0
  replace f1 := (hk 1 (by decide)).trans f1
  replace f2 := (hk 2 (by decide)).trans f2
  replace f10 := (hk 10 (by decide)).trans f10
  replace f11 : a5.tmps[11]?.getD undef = .slice A1 n1 c1 := f11
  clear hk hsz4 hde4
  refine wpList_nextg (wanted_of (j := 2) (t := 10) (b := false) rfl rfl f10) hsz5 hde5 12 rfl (by decide) fun K hK => ?_
  go_simp
  refine (fits10_any _ _ _ _ (HL.out.grow hb1)).mono ?_
  rintro e2 w2 ⟨⟨q1, rfl, hq1⟩, hb2⟩
  go_simp
  refine hK _ _ fun a6 hsz6 hde6 f12 hk => ?_
  clear hK K
  replace f0 := (hk 0 (by decide)).trans f0
  replace f1 := (hk 1 (by decide)).trans f1
  replace f2 := (hk 2 (by decide)).trans f2
  replace f10 := (hk 10 (by decide)).trans f10
  replace f12 : a6.tmps[12]?.getD undef = .bool q1 := f12
  clear hk hsz5 hde5 f11
  have Hb2 := Lib.hid (below_call hb1 hb2)
  have Hq1 := Lib.hid hq1
  clear hb1 hb2 hq1
  cases q1 with
  | false =>
    refine wpList_nextg (wanted_of (j := 2) (t := 10) (b := false) rfl rfl f10) hsz6 hde6 13 rfl (by decide) fun K hK => ?_
    go_simp
    refine hK _ _ fun a7 hsz7 hde7 f13 hk => ?_
    clear hK K
    replace f0 := (hk 0 (by decide)).trans f0
    replace f1 := (hk 1 (by decide)).trans f1
    replace f2 := (hk 2 (by decide)).trans f2
    replace f10 := (hk 10 (by decide)).trans f10
    replace f13 : a7.tmps[13]?.getD undef = .bool true := f13
    clear hk hsz6 hde6 f12
    refine wpList_next rfl hsz7 hde7 14 rfl (by decide) fun K hK => ?_
    go_simp
    refine hK _ _ fun a8 hsz8 hde8 f14 hk => ?_
    clear hK K
    replace f0 := (hk 0 (by decide)).trans f0
    replace f1 := (hk 1 (by decide)).trans f1
    replace f2 := (hk 2 (by decide)).trans f2
    replace f14 : a8.tmps[14]?.getD undef = .bool true := f14
    clear hk hsz7 hde7 f10 f13
    refine wpList_next rfl hsz8 hde8 15 rfl (by decide) fun K hK => ?_
    go_simp
    refine hK _ _ fun a9 hsz9 hde9 f15 hk => ?_
    clear hK K
    replace f0 := (hk 0 (by decide)).trans f0
    replace f1 := (hk 1 (by decide)).trans f1
    replace f2 := (hk 2 (by decide)).trans f2
    replace f15 : a9.tmps[15]?.getD undef = .bool true := f15
    clear hk hsz8 hde8 f14
    refine wpList_leave (not_wanted (j := 7) (t := 15) (b := false) rfl rfl (.inr f15)) hsz9 hde9 16 rfl (by decide) fun a10 hsz10 hde10 f16 hk => ?_
    replace f0 := (hk 0 (by decide)).trans f0
    replace f1 := (hk 1 (by decide)).trans f1
    replace f2 := (hk 2 (by decide)).trans f2
    replace f15 := (hk 15 (by decide)).trans f15
    clear hk hsz9 hde9
    refine wpList_leave (not_wanted (j := 7) (t := 15) (b := false) rfl rfl (.inr f15)) hsz10 hde10 17 rfl (by decide) fun a11 hsz11 hde11 f17 hk => ?_
    replace f0 := (hk 0 (by decide)).trans f0
    replace f1 := (hk 1 (by decide)).trans f1
    replace f2 := (hk 2 (by decide)).trans f2
    replace f15 := (hk 15 (by decide)).trans f15
    clear hk hsz10 hde10 f16
    refine wpList_leave (not_wanted (j := 7) (t := 15) (b := false) rfl rfl (.inr f15)) hsz11 hde11 18 rfl (by decide) fun a12 hsz12 hde12 f18 hk => ?_
    replace f0 := (hk 0 (by decide)).trans f0
    replace f1 := (hk 1 (by decide)).trans f1
    replace f2 := (hk 2 (by decide)).trans f2
    replace f15 := (hk 15 (by decide)).trans f15
    clear hk hsz11 hde11 f17
    refine wpList_next rfl hsz12 hde12 19 rfl (by decide) fun K hK => ?_
    go_simp
    refine hK _ _ fun a13 hsz13 hde13 f19 hk => ?_
    clear hK K
    replace f0 := (hk 0 (by decide)).trans f0
    replace f1 := (hk 1 (by decide)).trans f1
    replace f2 := (hk 2 (by decide)).trans f2
    replace f19 : a13.tmps[19]?.getD undef = .bool true := f19
    clear hk hsz12 hde12 f15 f18
    refine wpList_next rfl hsz13 hde13 20 rfl (by decide) fun K hK => ?_
    go_simp
    refine hK _ _ fun a14 hsz14 hde14 f20 hk => ?_
    clear hK K
    replace f0 := (hk 0 (by decide)).trans f0
    replace f1 := (hk 1 (by decide)).trans f1
    replace f2 := (hk 2 (by decide)).trans f2
    replace f20 : a14.tmps[20]?.getD undef = .bool true := f20
    clear hk hsz13 hde13 f19
    refine wpList_leave (not_wanted (j := 12) (t := 20) (b := false) rfl rfl (.inr f20)) hsz14 hde14 21 rfl (by decide) fun a15 hsz15 hde15 f21 hk => ?_
    replace f0 := (hk 0 (by decide)).trans f0
    replace f1 := (hk 1 (by decide)).trans f1
    replace f2 := (hk 2 (by decide)).trans f2
    replace f20 := (hk 20 (by decide)).trans f20
    clear hk hsz14 hde14
    refine wpList_leave (not_wanted (j := 12) (t := 20) (b := false) rfl rfl (.inr f20)) hsz15 hde15 22 rfl (by decide) fun a16 hsz16 hde16 f22 hk => ?_
    replace f0 := (hk 0 (by decide)).trans f0
    replace f1 := (hk 1 (by decide)).trans f1
    replace f2 := (hk 2 (by decide)).trans f2
    replace f20 := (hk 20 (by decide)).trans f20
    clear hk hsz15 hde15 f21
    refine wpList_leave (not_wanted (j := 12) (t := 20) (b := false) rfl rfl (.inr f20)) hsz16 hde16 23 rfl (by decide) fun a17 hsz17 hde17 f23 hk => ?_
    replace f0 := (hk 0 (by decide)).trans f0
    replace f1 := (hk 1 (by decide)).trans f1
    replace f2 := (hk 2 (by decide)).trans f2
    replace f20 := (hk 20 (by decide)).trans f20
    clear hk hsz16 hde16 f22
    refine wpList_next rfl hsz17 hde17 24 rfl (by decide) fun K hK => ?_
    go_simp
    refine hK _ _ fun a18 hsz18 hde18 f24 hk => ?_
    clear hK K
    replace f0 := (hk 0 (by decide)).trans f0
    replace f1 := (hk 1 (by decide)).trans f1
    replace f2 := (hk 2 (by decide)).trans f2
    replace f24 : a18.tmps[24]?.getD undef = .bool true := f24
    clear hk hsz17 hde17 f20 f23
    refine wpList_next rfl hsz18 hde18 25 rfl (by decide) fun K hK => ?_
    go_simp
    refine hK _ _ fun a19 hsz19 hde19 f25 hk => ?_
    clear hK K
    replace f0 := (hk 0 (by decide)).trans f0
    replace f1 := (hk 1 (by decide)).trans f1
    replace f2 := (hk 2 (by decide)).trans f2
    replace f25 : a19.tmps[25]?.getD undef = .bool true := f25
    clear hk hsz18 hde18 f24
    refine wpList_leave (not_wanted (j := 17) (t := 25) (b := false) rfl rfl (.inr f25)) hsz19 hde19 26 rfl (by decide) fun a20 hsz20 hde20 f26 hk => ?_
    replace f0 := (hk 0 (by decide)).trans f0
    replace f1 := (hk 1 (by decide)).trans f1
    replace f2 := (hk 2 (by decide)).trans f2
    replace f25 := (hk 25 (by decide)).trans f25
    clear hk hsz19 hde19
    refine wpList_leave (not_wanted (j := 17) (t := 25) (b := false) rfl rfl (.inr f25)) hsz20 hde20 27 rfl (by decide) fun a21 hsz21 hde21 f27 hk => ?_
    replace f0 := (hk 0 (by decide)).trans f0
    replace f1 := (hk 1 (by decide)).trans f1
    replace f2 := (hk 2 (by decide)).trans f2
    replace f25 := (hk 25 (by decide)).trans f25
    replace f26 := (hk 26 (by decide)).trans f26
    clear hk hsz20 hde20
    refine wpList_leave (not_wanted (j := 17) (t := 25) (b := false) rfl rfl (.inr f25)) hsz21 hde21 28 rfl (by decide) fun a22 hsz22 hde22 f28 hk => ?_
    replace f0 := (hk 0 (by decide)).trans f0
    replace f1 := (hk 1 (by decide)).trans f1
    replace f2 := (hk 2 (by decide)).trans f2
    replace f25 := (hk 25 (by decide)).trans f25
    replace f26 := (hk 26 (by decide)).trans f26
    replace f27 := (hk 27 (by decide)).trans f27
    clear hk hsz21 hde21
    refine wpList_leave (not_wanted (j := 17) (t := 25) (b := false) rfl rfl (.inr f25)) hsz22 hde22 29 rfl (by decide) fun a23 hsz23 hde23 f29 hk => ?_
    replace f0 := (hk 0 (by decide)).trans f0
    replace f1 := (hk 1 (by decide)).trans f1
    replace f2 := (hk 2 (by decide)).trans f2
    replace f25 := (hk 25 (by decide)).trans f25
    clear hk hsz22 hde22 f26 f27 f28
    refine wpList_leave (not_wanted (j := 17) (t := 25) (b := false) rfl rfl (.inr f25)) hsz23 hde23 30 rfl (by decide) fun a24 hsz24 hde24 f30 hk => ?_
    replace f0 := (hk 0 (by decide)).trans f0
    replace f1 := (hk 1 (by decide)).trans f1
    replace f2 := (hk 2 (by decide)).trans f2
    replace f25 := (hk 25 (by decide)).trans f25
    clear hk hsz23 hde23 f29
    refine wpList_leave (not_wanted (j := 17) (t := 25) (b := false) rfl rfl (.inr f25)) hsz24 hde24 31 rfl (by decide) fun a25 hsz25 hde25 f31 hk => ?_
    replace f0 := (hk 0 (by decide)).trans f0
    replace f1 := (hk 1 (by decide)).trans f1
    replace f2 := (hk 2 (by decide)).trans f2
    replace f25 := (hk 25 (by decide)).trans f25
    clear hk hsz24 hde24 f30
    refine wpList_next rfl hsz25 hde25 32 rfl (by decide) fun K hK => ?_
    go_simp
    refine hK _ _ fun a26 hsz26 hde26 f32 hk => ?_
    clear hK K
    replace f0 := (hk 0 (by decide)).trans f0
    replace f1 := (hk 1 (by decide)).trans f1
    replace f2 := (hk 2 (by decide)).trans f2
    replace f32 : a26.tmps[32]?.getD undef = .bool true := f32
    clear hk hsz25 hde25 f25 f31
    refine wpList_nil ?_
    refine then_go ?_
    repeat with_reducible refine wp_seq ?_
    refine wp_cond_true (eval_at f32) ?_
    clear f32
    repeat with_reducible refine wp_seq ?_
    refine wp_region_lit ?_
    refine wpList_next rfl hsz26 hde26 33 rfl (by decide) fun K hK => ?_
    go_simp
    refine (Hl.out _ (Hp.out.grow Hb2.out)).mono ?_
    rintro e9 w9 ⟨rfl, hb9⟩
    go_simp
    refine hK _ _ fun a27 hsz27 hde27 f33 hk => ?_
    clear hK K
    replace f0 := (hk 0 (by decide)).trans f0
    replace f1 := (hk 1 (by decide)).trans f1
    replace f2 := (hk 2 (by decide)).trans f2
    replace f33 : a27.tmps[33]?.getD undef = .bool true := f33
    clear hk hsz26 hde26
    refine wpList_next rfl hsz27 hde27 6 rfl (by decide) fun K hK => ?_
    go_simp
    refine hK _ _ fun a28 hsz28 hde28 f6 hk => ?_
    clear hK K
    replace f0 := (hk 0 (by decide)).trans f0
    replace f1 := (hk 1 (by decide)).trans f1
    replace f2 := (hk 2 (by decide)).trans f2
    replace f6 : a28.tmps[6]?.getD undef = .bool true := f6
    clear hk hsz27 hde27 f33
    refine wpList_nil ?_
    refine then_go ?_
    refine wp_ret ?_
    refine (ret_tmp (R := fun e2 w2 => e2 = .returned (.bool true) ∧ Below w.heap.size w w2) Tryd.results8 hde28 f6 ?_)
    exact ⟨rfl, below_call Hb2.out hb9⟩
  | true =>
    refine wpList_nextg (wanted_of (j := 2) (t := 10) (b := false) rfl rfl f10) hsz6 hde6 13 rfl (by decide) fun K hK => ?_
    go_simp
    refine hK _ _ fun a7 hsz7 hde7 f13 hk => ?_
    clear hK K
    replace f0 := (hk 0 (by decide)).trans f0
    replace f1 := (hk 1 (by decide)).trans f1
    replace f2 := (hk 2 (by decide)).trans f2
    replace f10 := (hk 10 (by decide)).trans f10
    replace f13 : a7.tmps[13]?.getD undef = .bool false := f13
    clear hk hsz6 hde6 f12
    refine wpList_next rfl hsz7 hde7 14 rfl (by decide) fun K hK => ?_
    go_simp
    refine hK _ _ fun a8 hsz8 hde8 f14 hk => ?_
    clear hK K
    replace f0 := (hk 0 (by decide)).trans f0
    replace f1 := (hk 1 (by decide)).trans f1
    replace f2 := (hk 2 (by decide)).trans f2
    replace f14 : a8.tmps[14]?.getD undef = .bool false := f14
    clear hk hsz7 hde7 f10 f13
    refine wpList_next rfl hsz8 hde8 15 rfl (by decide) fun K hK => ?_
    go_simp
    refine hK _ _ fun a9 hsz9 hde9 f15 hk => ?_
    clear hK K
    replace f0 := (hk 0 (by decide)).trans f0
    replace f1 := (hk 1 (by decide)).trans f1
    replace f2 := (hk 2 (by decide)).trans f2
    replace f15 : a9.tmps[15]?.getD undef = .bool false := f15
    clear hk hsz8 hde8 f14
    refine wpList_nextg (wanted_of (j := 7) (t := 15) (b := false) rfl rfl f15) hsz9 hde9 16 rfl (by decide) fun K hK => ?_
    go_simp
    refine hK _ _ fun a10 hsz10 hde10 f16 hk => ?_
    clear hK K
    replace f0 := (hk 0 (by decide)).trans f0
    replace f1 := (hk 1 (by decide)).trans f1
    replace f2 := (hk 2 (by decide)).trans f2
    replace f15 := (hk 15 (by decide)).trans f15
    replace f16 : a10.tmps[16]?.getD undef = .slice A2 n2 c2 := f16
    clear hk hsz9 hde9
    refine wpList_nextg (wanted_of (j := 7) (t := 15) (b := false) rfl rfl f15) hsz10 hde10 17 rfl (by decide) fun K hK => ?_
    go_simp
    refine (fits10_any _ _ _ _ (HM.out.grow Hb2.out)).mono ?_
    rintro e3 w3 ⟨⟨q2, rfl, hq2⟩, hb3⟩
    go_simp
    refine hK _ _ fun a11 hsz11 hde11 f17 hk => ?_
    clear hK K
    replace f0 := (hk 0 (by decide)).trans f0
    replace f1 := (hk 1 (by decide)).trans f1
    replace f2 := (hk 2 (by decide)).trans f2
    replace f15 := (hk 15 (by decide)).trans f15
    replace f17 : a11.tmps[17]?.getD undef = .bool q2 := f17
    clear hk hsz10 hde10 f16
    have Hb3 := Lib.hid (below_call Hb2.out hb3)
    have Hq2 := Lib.hid hq2
    clear hb3 hq2
    cases q2 with
    | false =>
      refine wpList_nextg (wanted_of (j := 7) (t := 15) (b := false) rfl rfl f15) hsz11 hde11 18 rfl (by decide) fun K hK => ?_
      go_simp
      refine hK _ _ fun a12 hsz12 hde12 f18 hk => ?_
      clear hK K
      replace f0 := (hk 0 (by decide)).trans f0
      replace f1 := (hk 1 (by decide)).trans f1
      replace f2 := (hk 2 (by decide)).trans f2
      replace f15 := (hk 15 (by decide)).trans f15
      replace f18 : a12.tmps[18]?.getD undef = .bool true := f18
      clear hk hsz11 hde11 f17
      refine wpList_next rfl hsz12 hde12 19 rfl (by decide) fun K hK => ?_
      go_simp
      refine hK _ _ fun a13 hsz13 hde13 f19 hk => ?_
      clear hK K
      replace f0 := (hk 0 (by decide)).trans f0
      replace f1 := (hk 1 (by decide)).trans f1
      replace f2 := (hk 2 (by decide)).trans f2
      replace f19 : a13.tmps[19]?.getD undef = .bool true := f19
      clear hk hsz12 hde12 f15 f18
      refine wpList_next rfl hsz13 hde13 20 rfl (by decide) fun K hK => ?_
      go_simp
      refine hK _ _ fun a14 hsz14 hde14 f20 hk => ?_
      clear hK K
      replace f0 := (hk 0 (by decide)).trans f0
      replace f1 := (hk 1 (by decide)).trans f1
      replace f2 := (hk 2 (by decide)).trans f2
      replace f20 : a14.tmps[20]?.getD undef = .bool true := f20
      clear hk hsz13 hde13 f19
      refine wpList_leave (not_wanted (j := 12) (t := 20) (b := false) rfl rfl (.inr f20)) hsz14 hde14 21 rfl (by decide) fun a15 hsz15 hde15 f21 hk => ?_
      replace f0 := (hk 0 (by decide)).trans f0
      replace f1 := (hk 1 (by decide)).trans f1
      replace f2 := (hk 2 (by decide)).trans f2
      replace f20 := (hk 20 (by decide)).trans f20
      clear hk hsz14 hde14
      refine wpList_leave (not_wanted (j := 12) (t := 20) (b := false) rfl rfl (.inr f20)) hsz15 hde15 22 rfl (by decide) fun a16 hsz16 hde16 f22 hk => ?_
      replace f0 := (hk 0 (by decide)).trans f0
      replace f1 := (hk 1 (by decide)).trans f1
      replace f2 := (hk 2 (by decide)).trans f2
      replace f20 := (hk 20 (by decide)).trans f20
      clear hk hsz15 hde15 f21
      refine wpList_leave (not_wanted (j := 12) (t := 20) (b := false) rfl rfl (.inr f20)) hsz16 hde16 23 rfl (by decide) fun a17 hsz17 hde17 f23 hk => ?_
      replace f0 := (hk 0 (by decide)).trans f0
      replace f1 := (hk 1 (by decide)).trans f1
      replace f2 := (hk 2 (by decide)).trans f2
      replace f20 := (hk 20 (by decide)).trans f20
      clear hk hsz16 hde16 f22
      refine wpList_next rfl hsz17 hde17 24 rfl (by decide) fun K hK => ?_
      go_simp
      refine hK _ _ fun a18 hsz18 hde18 f24 hk => ?_
      clear hK K
      replace f0 := (hk 0 (by decide)).trans f0
      replace f1 := (hk 1 (by decide)).trans f1
      replace f2 := (hk 2 (by decide)).trans f2
      replace f24 : a18.tmps[24]?.getD undef = .bool true := f24
      clear hk hsz17 hde17 f20 f23
      refine wpList_next rfl hsz18 hde18 25 rfl (by decide) fun K hK => ?_
      go_simp
      refine hK _ _ fun a19 hsz19 hde19 f25 hk => ?_
      clear hK K
      replace f0 := (hk 0 (by decide)).trans f0
      replace f1 := (hk 1 (by decide)).trans f1
      replace f2 := (hk 2 (by decide)).trans f2
      replace f25 : a19.tmps[25]?.getD undef = .bool true := f25
      clear hk hsz18 hde18 f24
      refine wpList_leave (not_wanted (j := 17) (t := 25) (b := false) rfl rfl (.inr f25)) hsz19 hde19 26 rfl (by decide) fun a20 hsz20 hde20 f26 hk => ?_
      replace f0 := (hk 0 (by decide)).trans f0
      replace f1 := (hk 1 (by decide)).trans f1
      replace f2 := (hk 2 (by decide)).trans f2
      replace f25 := (hk 25 (by decide)).trans f25
      clear hk hsz19 hde19
      refine wpList_leave (not_wanted (j := 17) (t := 25) (b := false) rfl rfl (.inr f25)) hsz20 hde20 27 rfl (by decide) fun a21 hsz21 hde21 f27 hk => ?_
      replace f0 := (hk 0 (by decide)).trans f0
      replace f1 := (hk 1 (by decide)).trans f1
      replace f2 := (hk 2 (by decide)).trans f2
      replace f25 := (hk 25 (by decide)).trans f25
      replace f26 := (hk 26 (by decide)).trans f26
      clear hk hsz20 hde20
      refine wpList_leave (not_wanted (j := 17) (t := 25) (b := false) rfl rfl (.inr f25)) hsz21 hde21 28 rfl (by decide) fun a22 hsz22 hde22 f28 hk => ?_
      replace f0 := (hk 0 (by decide)).trans f0
      replace f1 := (hk 1 (by decide)).trans f1
      replace f2 := (hk 2 (by decide)).trans f2
      replace f25 := (hk 25 (by decide)).trans f25
      replace f26 := (hk 26 (by decide)).trans f26
      replace f27 := (hk 27 (by decide)).trans f27
      clear hk hsz21 hde21
      refine wpList_leave (not_wanted (j := 17) (t := 25) (b := false) rfl rfl (.inr f25)) hsz22 hde22 29 rfl (by decide) fun a23 hsz23 hde23 f29 hk => ?_
      replace f0 := (hk 0 (by decide)).trans f0
      replace f1 := (hk 1 (by decide)).trans f1
      replace f2 := (hk 2 (by decide)).trans f2
      replace f25 := (hk 25 (by decide)).trans f25
      clear hk hsz22 hde22 f26 f27 f28
      refine wpList_leave (not_wanted (j := 17) (t := 25) (b := false) rfl rfl (.inr f25)) hsz23 hde23 30 rfl (by decide) fun a24 hsz24 hde24 f30 hk => ?_
      replace f0 := (hk 0 (by decide)).trans f0
      replace f1 := (hk 1 (by decide)).trans f1
      replace f2 := (hk 2 (by decide)).trans f2
      replace f25 := (hk 25 (by decide)).trans f25
      clear hk hsz23 hde23 f29
      refine wpList_leave (not_wanted (j := 17) (t := 25) (b := false) rfl rfl (.inr f25)) hsz24 hde24 31 rfl (by decide) fun a25 hsz25 hde25 f31 hk => ?_
      replace f0 := (hk 0 (by decide)).trans f0
      replace f1 := (hk 1 (by decide)).trans f1
      replace f2 := (hk 2 (by decide)).trans f2
      replace f25 := (hk 25 (by decide)).trans f25
      clear hk hsz24 hde24 f30
      refine wpList_next rfl hsz25 hde25 32 rfl (by decide) fun K hK => ?_
      go_simp
      refine hK _ _ fun a26 hsz26 hde26 f32 hk => ?_
      clear hK K
      replace f0 := (hk 0 (by decide)).trans f0
      replace f1 := (hk 1 (by decide)).trans f1
      replace f2 := (hk 2 (by decide)).trans f2
      replace f32 : a26.tmps[32]?.getD undef = .bool true := f32
      clear hk hsz25 hde25 f25 f31
      refine wpList_nil ?_
      refine then_go ?_
      repeat with_reducible refine wp_seq ?_
      refine wp_cond_true (eval_at f32) ?_
      clear f32
      repeat with_reducible refine wp_seq ?_
      refine wp_region_lit ?_
      refine wpList_next rfl hsz26 hde26 33 rfl (by decide) fun K hK => ?_
      go_simp
      refine (Hl.out _ (Hp.out.grow Hb3.out)).mono ?_
      rintro e9 w9 ⟨rfl, hb9⟩
      go_simp
      refine hK _ _ fun a27 hsz27 hde27 f33 hk => ?_
      clear hK K
      replace f0 := (hk 0 (by decide)).trans f0
      replace f1 := (hk 1 (by decide)).trans f1
      replace f2 := (hk 2 (by decide)).trans f2
      replace f33 : a27.tmps[33]?.getD undef = .bool true := f33
      clear hk hsz26 hde26
      refine wpList_next rfl hsz27 hde27 6 rfl (by decide) fun K hK => ?_
      go_simp
      refine hK _ _ fun a28 hsz28 hde28 f6 hk => ?_
      clear hK K
      replace f0 := (hk 0 (by decide)).trans f0
      replace f1 := (hk 1 (by decide)).trans f1
      replace f2 := (hk 2 (by decide)).trans f2
      replace f6 : a28.tmps[6]?.getD undef = .bool true := f6
      clear hk hsz27 hde27 f33
      refine wpList_nil ?_
      refine then_go ?_
      refine wp_ret ?_
      refine (ret_tmp (R := fun e2 w2 => e2 = .returned (.bool true) ∧ Below w.heap.size w w2) Tryd.results8 hde28 f6 ?_)
      exact ⟨rfl, below_call Hb3.out hb9⟩
    | true =>
      refine wpList_nextg (wanted_of (j := 7) (t := 15) (b := false) rfl rfl f15) hsz11 hde11 18 rfl (by decide) fun K hK => ?_
      go_simp
      refine hK _ _ fun a12 hsz12 hde12 f18 hk => ?_
      clear hK K
      replace f0 := (hk 0 (by decide)).trans f0
      replace f1 := (hk 1 (by decide)).trans f1
      replace f2 := (hk 2 (by decide)).trans f2
      replace f15 := (hk 15 (by decide)).trans f15
      replace f18 : a12.tmps[18]?.getD undef = .bool false := f18
      clear hk hsz11 hde11 f17
      refine wpList_next rfl hsz12 hde12 19 rfl (by decide) fun K hK => ?_
      go_simp
      refine hK _ _ fun a13 hsz13 hde13 f19 hk => ?_
      clear hK K
      replace f0 := (hk 0 (by decide)).trans f0
      replace f1 := (hk 1 (by decide)).trans f1
      replace f2 := (hk 2 (by decide)).trans f2
      replace f19 : a13.tmps[19]?.getD undef = .bool false := f19
      clear hk hsz12 hde12 f15 f18
      refine wpList_next rfl hsz13 hde13 20 rfl (by decide) fun K hK => ?_
      go_simp
      refine hK _ _ fun a14 hsz14 hde14 f20 hk => ?_
      clear hK K
      replace f0 := (hk 0 (by decide)).trans f0
      replace f1 := (hk 1 (by decide)).trans f1
      replace f2 := (hk 2 (by decide)).trans f2
      replace f20 : a14.tmps[20]?.getD undef = .bool false := f20
      clear hk hsz13 hde13 f19
      refine wpList_nextg (wanted_of (j := 12) (t := 20) (b := false) rfl rfl f20) hsz14 hde14 21 rfl (by decide) fun K hK => ?_
      go_simp
      refine hK _ _ fun a15 hsz15 hde15 f21 hk => ?_
      clear hK K
      replace f0 := (hk 0 (by decide)).trans f0
      replace f1 := (hk 1 (by decide)).trans f1
      replace f2 := (hk 2 (by decide)).trans f2
      replace f20 := (hk 20 (by decide)).trans f20
      replace f21 : a15.tmps[21]?.getD undef = .slice A3 n3 c3 := f21
      clear hk hsz14 hde14
      refine wpList_nextg (wanted_of (j := 12) (t := 20) (b := false) rfl rfl f20) hsz15 hde15 22 rfl (by decide) fun K hK => ?_
      go_simp
      refine (fits10_any _ _ _ _ (HN.out.grow Hb3.out)).mono ?_
      rintro e4 w4 ⟨⟨q3, rfl, hq3⟩, hb4⟩
      go_simp
      refine hK _ _ fun a16 hsz16 hde16 f22 hk => ?_
      clear hK K
      replace f0 := (hk 0 (by decide)).trans f0
      replace f1 := (hk 1 (by decide)).trans f1
      replace f2 := (hk 2 (by decide)).trans f2
      replace f20 := (hk 20 (by decide)).trans f20
      replace f22 : a16.tmps[22]?.getD undef = .bool q3 := f22
      clear hk hsz15 hde15 f21
      have Hb4 := Lib.hid (below_call Hb3.out hb4)
      have Hq3 := Lib.hid hq3
      clear hb4 hq3
      cases q3 with
      | false =>
        refine wpList_nextg (wanted_of (j := 12) (t := 20) (b := false) rfl rfl f20) hsz16 hde16 23 rfl (by decide) fun K hK => ?_
        go_simp
        refine hK _ _ fun a17 hsz17 hde17 f23 hk => ?_
        clear hK K
        replace f0 := (hk 0 (by decide)).trans f0
        replace f1 := (hk 1 (by decide)).trans f1
        replace f2 := (hk 2 (by decide)).trans f2
        replace f20 := (hk 20 (by decide)).trans f20
        replace f23 : a17.tmps[23]?.getD undef = .bool true := f23
        clear hk hsz16 hde16 f22
        refine wpList_next rfl hsz17 hde17 24 rfl (by decide) fun K hK => ?_
        go_simp
        refine hK _ _ fun a18 hsz18 hde18 f24 hk => ?_
        clear hK K
        replace f0 := (hk 0 (by decide)).trans f0
        replace f1 := (hk 1 (by decide)).trans f1
        replace f2 := (hk 2 (by decide)).trans f2
        replace f24 : a18.tmps[24]?.getD undef = .bool true := f24
        clear hk hsz17 hde17 f20 f23
        refine wpList_next rfl hsz18 hde18 25 rfl (by decide) fun K hK => ?_
        go_simp
        refine hK _ _ fun a19 hsz19 hde19 f25 hk => ?_
        clear hK K
        replace f0 := (hk 0 (by decide)).trans f0
        replace f1 := (hk 1 (by decide)).trans f1
        replace f2 := (hk 2 (by decide)).trans f2
        replace f25 : a19.tmps[25]?.getD undef = .bool true := f25
        clear hk hsz18 hde18 f24
        refine wpList_leave (not_wanted (j := 17) (t := 25) (b := false) rfl rfl (.inr f25)) hsz19 hde19 26 rfl (by decide) fun a20 hsz20 hde20 f26 hk => ?_
        replace f0 := (hk 0 (by decide)).trans f0
        replace f1 := (hk 1 (by decide)).trans f1
        replace f2 := (hk 2 (by decide)).trans f2
        replace f25 := (hk 25 (by decide)).trans f25
        clear hk hsz19 hde19
        refine wpList_leave (not_wanted (j := 17) (t := 25) (b := false) rfl rfl (.inr f25)) hsz20 hde20 27 rfl (by decide) fun a21 hsz21 hde21 f27 hk => ?_
        replace f0 := (hk 0 (by decide)).trans f0
        replace f1 := (hk 1 (by decide)).trans f1
        replace f2 := (hk 2 (by decide)).trans f2
        replace f25 := (hk 25 (by decide)).trans f25
        replace f26 := (hk 26 (by decide)).trans f26
        clear hk hsz20 hde20
        refine wpList_leave (not_wanted (j := 17) (t := 25) (b := false) rfl rfl (.inr f25)) hsz21 hde21 28 rfl (by decide) fun a22 hsz22 hde22 f28 hk => ?_
        replace f0 := (hk 0 (by decide)).trans f0
        replace f1 := (hk 1 (by decide)).trans f1
        replace f2 := (hk 2 (by decide)).trans f2
        replace f25 := (hk 25 (by decide)).trans f25
        replace f26 := (hk 26 (by decide)).trans f26
        replace f27 := (hk 27 (by decide)).trans f27
        clear hk hsz21 hde21
        refine wpList_leave (not_wanted (j := 17) (t := 25) (b := false) rfl rfl (.inr f25)) hsz22 hde22 29 rfl (by decide) fun a23 hsz23 hde23 f29 hk => ?_
        replace f0 := (hk 0 (by decide)).trans f0
        replace f1 := (hk 1 (by decide)).trans f1
        replace f2 := (hk 2 (by decide)).trans f2
        replace f25 := (hk 25 (by decide)).trans f25
        clear hk hsz22 hde22 f26 f27 f28
        refine wpList_leave (not_wanted (j := 17) (t := 25) (b := false) rfl rfl (.inr f25)) hsz23 hde23 30 rfl (by decide) fun a24 hsz24 hde24 f30 hk => ?_
        replace f0 := (hk 0 (by decide)).trans f0
        replace f1 := (hk 1 (by decide)).trans f1
        replace f2 := (hk 2 (by decide)).trans f2
        replace f25 := (hk 25 (by decide)).trans f25
        clear hk hsz23 hde23 f29
        refine wpList_leave (not_wanted (j := 17) (t := 25) (b := false) rfl rfl (.inr f25)) hsz24 hde24 31 rfl (by decide) fun a25 hsz25 hde25 f31 hk => ?_
        replace f0 := (hk 0 (by decide)).trans f0
        replace f1 := (hk 1 (by decide)).trans f1
        replace f2 := (hk 2 (by decide)).trans f2
        replace f25 := (hk 25 (by decide)).trans f25
        clear hk hsz24 hde24 f30
        refine wpList_next rfl hsz25 hde25 32 rfl (by decide) fun K hK => ?_
        go_simp
        refine hK _ _ fun a26 hsz26 hde26 f32 hk => ?_
        clear hK K
        replace f0 := (hk 0 (by decide)).trans f0
        replace f1 := (hk 1 (by decide)).trans f1
        replace f2 := (hk 2 (by decide)).trans f2
        replace f32 : a26.tmps[32]?.getD undef = .bool true := f32
        clear hk hsz25 hde25 f25 f31
        refine wpList_nil ?_
        refine then_go ?_
        repeat with_reducible refine wp_seq ?_
        refine wp_cond_true (eval_at f32) ?_
        clear f32
        repeat with_reducible refine wp_seq ?_
        refine wp_region_lit ?_
        refine wpList_next rfl hsz26 hde26 33 rfl (by decide) fun K hK => ?_
        go_simp
        refine (Hl.out _ (Hp.out.grow Hb4.out)).mono ?_
        rintro e9 w9 ⟨rfl, hb9⟩
        go_simp
        refine hK _ _ fun a27 hsz27 hde27 f33 hk => ?_
        clear hK K
        replace f0 := (hk 0 (by decide)).trans f0
        replace f1 := (hk 1 (by decide)).trans f1
        replace f2 := (hk 2 (by decide)).trans f2
        replace f33 : a27.tmps[33]?.getD undef = .bool true := f33
        clear hk hsz26 hde26
        refine wpList_next rfl hsz27 hde27 6 rfl (by decide) fun K hK => ?_
        go_simp
        refine hK _ _ fun a28 hsz28 hde28 f6 hk => ?_
        clear hK K
        replace f0 := (hk 0 (by decide)).trans f0
        replace f1 := (hk 1 (by decide)).trans f1
        replace f2 := (hk 2 (by decide)).trans f2
        replace f6 : a28.tmps[6]?.getD undef = .bool true := f6
        clear hk hsz27 hde27 f33
        refine wpList_nil ?_
        refine then_go ?_
        refine wp_ret ?_
        refine (ret_tmp (R := fun e2 w2 => e2 = .returned (.bool true) ∧ Below w.heap.size w w2) Tryd.results8 hde28 f6 ?_)
        exact ⟨rfl, below_call Hb4.out hb9⟩
      | true =>
        obtain ⟨hs1, hl1, hd1⟩ := Hq1.out rfl
        obtain ⟨hs2, hl2, hd2⟩ := Hq2.out rfl
        obtain ⟨hs3, hl3, hd3⟩ := Hq3.out rfl
        have Hs1 := Lib.hid hs1
        have Hs2 := Lib.hid hs2
        have Hs3 := Lib.hid hs3
        have Hll := Lib.hid (And.intro hl1 (And.intro hl2 hl3))
        have Hd1 := Lib.hid (show ∀ x ∈ L, x.data.length ≤ 1000 from fun x hx => Nat.le_trans (hd1 x hx) (by omega))
        have Hd2 := Lib.hid (show ∀ x ∈ M, x.data.length ≤ 1000 from fun x hx => Nat.le_trans (hd2 x hx) (by omega))
        have Hd3 := Lib.hid (show ∀ x ∈ N, x.data.length ≤ 1000 from fun x hx => Nat.le_trans (hd3 x hx) (by omega))
        obtain ⟨VS, hVS⟩ : ∃ VS : Array Value, VS = #[.slice A1 n1 c1, .slice A2 n2 c2, .slice A3 n3 c3] := ⟨_, rfl⟩
        obtain ⟨wm, hwm⟩ : ∃ wm, wm = w4.alloc (.cells VS 22) := ⟨_, rfl⟩
        have hbm : Below w4.heap.size w4 wm := by rw [hwm]; exact (Below.refl _ _).alloc (Nat.le_refl _) _
        have Hbm := Lib.hid (below_call Hb4.out hbm)
        have hal := alike_any w4.heap.size VS (fun k => match k with | 0 => L | 1 => M | _ => N) wm (by rw [hwm]; exact Blk.new _ _ _) (fun k hk => by
          rcases (show k = 0 ∨ k = 1 ∨ k = 2 by omega) with rfl | rfl | rfl
          · exact ⟨_, by rw [hVS]; rfl, HL.out.grow Hbm.out⟩
          · exact ⟨_, by rw [hVS]; rfl, HM.out.grow Hbm.out⟩
          · exact ⟨_, by rw [hVS]; rfl, HN.out.grow Hbm.out⟩) (fun k hk => by
          rcases (show k = 0 ∨ k = 1 ∨ k = 2 by omega) with rfl | rfl | rfl
          · exact hl1
          · exact hl2
          · exact hl3)
        have Hal := Lib.hid hal
        have HWm := Lib.hid (show wm = w4.alloc (.cells #[.slice A1 n1 c1, .slice A2 n2 c2, .slice A3 n3 c3] 22) by rw [hwm, hVS])
        clear hal hwm hVS hbm hs1 hl1 hd1 hs2 hl2 hd2 hs3 hl3 hd3 Hq1 Hq2 Hq3
        refine wpList_nextg (wanted_of (j := 12) (t := 20) (b := false) rfl rfl f20) hsz16 hde16 23 rfl (by decide) fun K hK => ?_
        go_simp
        refine hK _ _ fun a17 hsz17 hde17 f23 hk => ?_
        clear hK K
        replace f0 := (hk 0 (by decide)).trans f0
        replace f1 := (hk 1 (by decide)).trans f1
        replace f2 := (hk 2 (by decide)).trans f2
        replace f20 := (hk 20 (by decide)).trans f20
        replace f23 : a17.tmps[23]?.getD undef = .bool false := f23
        clear hk hsz16 hde16 f22
        refine wpList_next rfl hsz17 hde17 24 rfl (by decide) fun K hK => ?_
        go_simp
        refine hK _ _ fun a18 hsz18 hde18 f24 hk => ?_
        clear hK K
        replace f0 := (hk 0 (by decide)).trans f0
        replace f1 := (hk 1 (by decide)).trans f1
        replace f2 := (hk 2 (by decide)).trans f2
        replace f24 : a18.tmps[24]?.getD undef = .bool false := f24
        clear hk hsz17 hde17 f20 f23
        refine wpList_next rfl hsz18 hde18 25 rfl (by decide) fun K hK => ?_
        go_simp
        refine hK _ _ fun a19 hsz19 hde19 f25 hk => ?_
        clear hK K
        replace f0 := (hk 0 (by decide)).trans f0
        replace f1 := (hk 1 (by decide)).trans f1
        replace f2 := (hk 2 (by decide)).trans f2
        replace f25 : a19.tmps[25]?.getD undef = .bool false := f25
        clear hk hsz18 hde18 f24
        refine wpList_nextg (wanted_of (j := 17) (t := 25) (b := false) rfl rfl f25) hsz19 hde19 26 rfl (by decide) fun K hK => ?_
        go_simp
        refine hK _ _ fun a20 hsz20 hde20 f26 hk => ?_
        clear hK K
        replace f0 := (hk 0 (by decide)).trans f0
        replace f1 := (hk 1 (by decide)).trans f1
        replace f2 := (hk 2 (by decide)).trans f2
        replace f25 := (hk 25 (by decide)).trans f25
        replace f26 : a20.tmps[26]?.getD undef = .slice A1 n1 c1 := f26
        clear hk hsz19 hde19
        refine wpList_nextg (wanted_of (j := 17) (t := 25) (b := false) rfl rfl f25) hsz20 hde20 27 rfl (by decide) fun K hK => ?_
        go_simp
        refine hK _ _ fun a21 hsz21 hde21 f27 hk => ?_
        clear hK K
        replace f0 := (hk 0 (by decide)).trans f0
        replace f1 := (hk 1 (by decide)).trans f1
        replace f2 := (hk 2 (by decide)).trans f2
        replace f25 := (hk 25 (by decide)).trans f25
        replace f26 := (hk 26 (by decide)).trans f26
        replace f27 : a21.tmps[27]?.getD undef = .slice A2 n2 c2 := f27
        clear hk hsz20 hde20
        refine wpList_nextg (wanted_of (j := 17) (t := 25) (b := false) rfl rfl f25) hsz21 hde21 28 rfl (by decide) fun K hK => ?_
        go_simp
        refine hK _ _ fun a22 hsz22 hde22 f28 hk => ?_
        clear hK K
        replace f0 := (hk 0 (by decide)).trans f0
        replace f1 := (hk 1 (by decide)).trans f1
        replace f2 := (hk 2 (by decide)).trans f2
        replace f25 := (hk 25 (by decide)).trans f25
        replace f26 := (hk 26 (by decide)).trans f26
        replace f27 := (hk 27 (by decide)).trans f27
        replace f28 : a22.tmps[28]?.getD undef = .slice A3 n3 c3 := f28
        clear hk hsz21 hde21
        refine wpList_nextg (wanted_of (j := 17) (t := 25) (b := false) rfl rfl f25) hsz22 hde22 29 rfl (by decide) fun K hK => ?_
        go_simp
        refine hK _ _ fun a23 hsz23 hde23 f29 hk => ?_
        clear hK K
        replace f0 := (hk 0 (by decide)).trans f0
        replace f1 := (hk 1 (by decide)).trans f1
        replace f2 := (hk 2 (by decide)).trans f2
        replace f25 := (hk 25 (by decide)).trans f25
        replace f29 : a23.tmps[29]?.getD undef = .slice (some ⟨w4.heap.size, 0, none⟩) 3 3 := f29
        clear hk hsz22 hde22 f26 f27 f28
        rw [← HWm.out]
        refine wpList_nextg (wanted_of (j := 17) (t := 25) (b := false) rfl rfl f25) hsz23 hde23 30 rfl (by decide) fun K hK => ?_
        go_simp
        refine (Hal.out).mono ?_
        rintro e5 w5 ⟨⟨q4, rfl, hq4⟩, hb5⟩
        go_simp
        refine hK _ _ fun a24 hsz24 hde24 f30 hk => ?_
        clear hK K
        replace f0 := (hk 0 (by decide)).trans f0
        replace f1 := (hk 1 (by decide)).trans f1
        replace f2 := (hk 2 (by decide)).trans f2
        replace f25 := (hk 25 (by decide)).trans f25
        replace f30 : a24.tmps[30]?.getD undef = .bool q4 := f30
        clear hk hsz23 hde23 f29
        have Hb5 := Lib.hid (below_call Hbm.out hb5)
        have Hq4 := Lib.hid hq4
        clear hb5 hq4 Hal HWm
        cases q4 with
        | false =>
          refine wpList_nextg (wanted_of (j := 17) (t := 25) (b := false) rfl rfl f25) hsz24 hde24 31 rfl (by decide) fun K hK => ?_
          go_simp
          refine hK _ _ fun a25 hsz25 hde25 f31 hk => ?_
          clear hK K
          replace f0 := (hk 0 (by decide)).trans f0
          replace f1 := (hk 1 (by decide)).trans f1
          replace f2 := (hk 2 (by decide)).trans f2
          replace f25 := (hk 25 (by decide)).trans f25
          replace f31 : a25.tmps[31]?.getD undef = .bool true := f31
          clear hk hsz24 hde24 f30
          refine wpList_next rfl hsz25 hde25 32 rfl (by decide) fun K hK => ?_
          go_simp
          refine hK _ _ fun a26 hsz26 hde26 f32 hk => ?_
          clear hK K
          replace f0 := (hk 0 (by decide)).trans f0
          replace f1 := (hk 1 (by decide)).trans f1
          replace f2 := (hk 2 (by decide)).trans f2
          replace f32 : a26.tmps[32]?.getD undef = .bool true := f32
          clear hk hsz25 hde25 f25 f31
          refine wpList_nil ?_
          refine then_go ?_
          repeat with_reducible refine wp_seq ?_
          refine wp_cond_true (eval_at f32) ?_
          clear f32
          repeat with_reducible refine wp_seq ?_
          refine wp_region_lit ?_
          refine wpList_next rfl hsz26 hde26 33 rfl (by decide) fun K hK => ?_
          go_simp
          refine (Hl.out _ (Hp.out.grow Hb5.out)).mono ?_
          rintro e9 w9 ⟨rfl, hb9⟩
          go_simp
          refine hK _ _ fun a27 hsz27 hde27 f33 hk => ?_
          clear hK K
          replace f0 := (hk 0 (by decide)).trans f0
          replace f1 := (hk 1 (by decide)).trans f1
          replace f2 := (hk 2 (by decide)).trans f2
          replace f33 : a27.tmps[33]?.getD undef = .bool true := f33
          clear hk hsz26 hde26
          refine wpList_next rfl hsz27 hde27 6 rfl (by decide) fun K hK => ?_
          go_simp
          refine hK _ _ fun a28 hsz28 hde28 f6 hk => ?_
          clear hK K
          replace f0 := (hk 0 (by decide)).trans f0
          replace f1 := (hk 1 (by decide)).trans f1
          replace f2 := (hk 2 (by decide)).trans f2
          replace f6 : a28.tmps[6]?.getD undef = .bool true := f6
          clear hk hsz27 hde27 f33
          refine wpList_nil ?_
          refine then_go ?_
          refine wp_ret ?_
          refine (ret_tmp (R := fun e2 w2 => e2 = .returned (.bool true) ∧ Below w.heap.size w w2) Tryd.results8 hde28 f6 ?_)
          exact ⟨rfl, below_call Hb5.out hb9⟩
        | true =>
          refine wpList_nextg (wanted_of (j := 17) (t := 25) (b := false) rfl rfl f25) hsz24 hde24 31 rfl (by decide) fun K hK => ?_
          go_simp
          refine hK _ _ fun a25 hsz25 hde25 f31 hk => ?_
          clear hK K
          replace f0 := (hk 0 (by decide)).trans f0
          replace f1 := (hk 1 (by decide)).trans f1
          replace f2 := (hk 2 (by decide)).trans f2
          replace f25 := (hk 25 (by decide)).trans f25
          replace f31 : a25.tmps[31]?.getD undef = .bool false := f31
          clear hk hsz24 hde24 f30
          refine wpList_next rfl hsz25 hde25 32 rfl (by decide) fun K hK => ?_
          go_simp
          refine hK _ _ fun a26 hsz26 hde26 f32 hk => ?_
          clear hK K
          replace f0 := (hk 0 (by decide)).trans f0
          replace f1 := (hk 1 (by decide)).trans f1
          replace f2 := (hk 2 (by decide)).trans f2
          replace f32 : a26.tmps[32]?.getD undef = .bool false := f32
          clear hk hsz25 hde25 f25 f31
          refine wpList_nil ?_
          refine then_go ?_
          repeat with_reducible refine wp_seq ?_
          refine wp_cond_false (eval_at f32) ?_
          refine wp_skip ?_
          refine then_go ?_
          clear f32
          repeat with_reducible refine wp_seq ?_
          have hal : AlikeE (L ++ M ++ N) := Hq4.out rfl
          obtain ⟨XX, hXX⟩ : ∃ X, X = joinE (joinE L M) N := ⟨_, rfl⟩
          have HXX := Lib.hid hXX
          have HE1 := Lib.hid (show joinE L (joinE M N) = XX by rw [hXX]; exact (join_three Hs1.out Hs2.out Hs3.out).symm)
          have HE2 := Lib.hid (show joinE (joinE N M) L = XX by rw [hXX]; exact join_turned Hs1.out Hs2.out Hs3.out hal)
          have HE3 := Lib.hid (show joinE XX M = XX by rw [hXX]; exact join_more3 Hs1.out Hs2.out Hs3.out hal)
          have HsX := Lib.hid (show SortedE XX by rw [hXX]; exact sorted_join _ _ (sorted_join _ _ Hs1.out Hs2.out) Hs3.out)
          have HlX := Lib.hid (show XX.length ≤ 120 ∧ (joinE L M).length ≤ 80 ∧ (joinE M N).length ≤ 80 ∧ (joinE N M).length ≤ 80 by
            have h1 := join_length L M; have h2 := join_length M N; have h3 := join_length N M; have h4 := join_length (joinE L M) N; have := Hll.out; rw [← hXX] at h4; omega)
          have HdX := Lib.hid (show ∀ x ∈ XX, x.data.length ≤ 1000 by rw [hXX]; exact join_data (join_data Hd1.out Hd2.out) Hd3.out)
          clear hal hXX Hq4
          refine wp_region_lit ?_
          refine wpList_next rfl hsz26 hde26 34 rfl (by decide) fun K hK => ?_
          go_simp
          refine hK _ _ fun a27 hsz27 hde27 f34 hk => ?_
          clear hK K
          replace f0 := (hk 0 (by decide)).trans f0
          replace f1 := (hk 1 (by decide)).trans f1
          replace f2 := (hk 2 (by decide)).trans f2
          replace f34 : a27.tmps[34]?.getD undef = .slice A1 n1 c1 := f34
          clear hk hsz26 hde26
          refine wpList_next rfl hsz27 hde27 35 rfl (by decide) fun K hK => ?_
          go_simp
          refine hK _ _ fun a28 hsz28 hde28 f35 hk => ?_
          clear hK K
          replace f0 := (hk 0 (by decide)).trans f0
          replace f1 := (hk 1 (by decide)).trans f1
          replace f2 := (hk 2 (by decide)).trans f2
          replace f34 := (hk 34 (by decide)).trans f34
          replace f35 : a28.tmps[35]?.getD undef = .slice A2 n2 c2 := f35
          clear hk hsz27 hde27
          refine wpList_next rfl hsz28 hde28 36 rfl (by decide) fun K hK => ?_
          go_simp
          refine (ejoin_any _ _ _ _ L M _ (HL.out.grow Hb5.out) (HM.out.grow Hb5.out) (by have := Hll.out; have := HlX.out; omega) Hd1.out Hd2.out).mono ?_
          rintro e6 w6 ⟨⟨u6, rfl, hown6⟩, hb6⟩
          go_simp
          refine hK _ _ fun a29 hsz29 hde29 f36 hk => ?_
          clear hK K
          replace f0 := (hk 0 (by decide)).trans f0
          replace f1 := (hk 1 (by decide)).trans f1
          replace f2 := (hk 2 (by decide)).trans f2
          replace f36 : a29.tmps[36]?.getD undef = u6 := f36
          clear hk hsz28 hde28 f34 f35
          have Hb6 := Lib.hid (below_call Hb5.out hb6)
          have HO6 := Lib.hid hown6.isL
          clear hown6
          refine wpList_next rfl hsz29 hde29 37 rfl (by decide) fun K hK => ?_
          go_simp
          refine hK _ _ fun a30 hsz30 hde30 f37 hk => ?_
          clear hK K
          replace f0 := (hk 0 (by decide)).trans f0
          replace f1 := (hk 1 (by decide)).trans f1
          replace f2 := (hk 2 (by decide)).trans f2
          replace f36 := (hk 36 (by decide)).trans f36
          replace f37 : a30.tmps[37]?.getD undef = .slice A3 n3 c3 := f37
          clear hk hsz29 hde29
          refine wpList_next rfl hsz30 hde30 38 rfl (by decide) fun K hK => ?_
          go_simp
          refine (ejoin_any _ _ _ _ (joinE L M) N _ HO6.out (HN.out.grow Hb6.out) (by have := Hll.out; have := HlX.out; omega) (join_data Hd1.out Hd2.out) Hd3.out).mono ?_
          rintro e7 w7 ⟨⟨u7, rfl, hown7⟩, hb7⟩
          go_simp
          refine hK _ _ fun a31 hsz31 hde31 f38 hk => ?_
          clear hK K
          replace f0 := (hk 0 (by decide)).trans f0
          replace f1 := (hk 1 (by decide)).trans f1
          replace f2 := (hk 2 (by decide)).trans f2
          replace f38 : a31.tmps[38]?.getD undef = u7 := f38
          clear hk hsz30 hde30 f36 f37
          have Hb7 := Lib.hid (below_call Hb6.out hb7)
          rw [← HXX.out] at hown7
          have HO7 := Lib.hid hown7.isL
          clear hown7
          refine wpList_next rfl hsz31 hde31 7 rfl (by decide) fun K hK => ?_
          go_simp
          refine hK _ _ fun a32 hsz32 hde32 f7 hk => ?_
          clear hK K
          replace f0 := (hk 0 (by decide)).trans f0
          replace f1 := (hk 1 (by decide)).trans f1
          replace f2 := (hk 2 (by decide)).trans f2
          replace f7 : a32.tmps[7]?.getD undef = u7 := f7
          clear hk hsz31 hde31 f38
          refine wpList_nil ?_
          refine then_go ?_
          repeat with_reducible refine wp_seq ?_
          clear hb6 hb7
          refine wp_region_lit ?_
          refine wpList_next rfl hsz32 hde32 39 rfl (by decide) fun K hK => ?_
          go_simp
          refine hK _ _ fun a33 hsz33 hde33 f39 hk => ?_
          clear hK K
          replace f0 := (hk 0 (by decide)).trans f0
          replace f1 := (hk 1 (by decide)).trans f1
          replace f2 := (hk 2 (by decide)).trans f2
          replace f7 := (hk 7 (by decide)).trans f7
          replace f39 : a33.tmps[39]?.getD undef = u7 := f39
          clear hk hsz32 hde32
          refine wpList_next rfl hsz33 hde33 40 rfl (by decide) fun K hK => ?_
          go_simp
          refine hK _ _ fun a34 hsz34 hde34 f40 hk => ?_
          clear hK K
          replace f0 := (hk 0 (by decide)).trans f0
          replace f1 := (hk 1 (by decide)).trans f1
          replace f2 := (hk 2 (by decide)).trans f2
          replace f7 := (hk 7 (by decide)).trans f7
          replace f39 := (hk 39 (by decide)).trans f39
          replace f40 : a34.tmps[40]?.getD undef = .slice A1 n1 c1 := f40
          clear hk hsz33 hde33
          refine wpList_next rfl hsz34 hde34 41 rfl (by decide) fun K hK => ?_
          go_simp
          refine hK _ _ fun a35 hsz35 hde35 f41 hk => ?_
          clear hK K
          replace f0 := (hk 0 (by decide)).trans f0
          replace f1 := (hk 1 (by decide)).trans f1
          replace f2 := (hk 2 (by decide)).trans f2
          replace f7 := (hk 7 (by decide)).trans f7
          replace f39 := (hk 39 (by decide)).trans f39
          replace f40 := (hk 40 (by decide)).trans f40
          replace f41 : a35.tmps[41]?.getD undef = .slice A2 n2 c2 := f41
          clear hk hsz34 hde34
          refine wpList_next rfl hsz35 hde35 42 rfl (by decide) fun K hK => ?_
          go_simp
          refine hK _ _ fun a36 hsz36 hde36 f42 hk => ?_
          clear hK K
          replace f0 := (hk 0 (by decide)).trans f0
          replace f1 := (hk 1 (by decide)).trans f1
          replace f2 := (hk 2 (by decide)).trans f2
          replace f7 := (hk 7 (by decide)).trans f7
          replace f39 := (hk 39 (by decide)).trans f39
          replace f40 := (hk 40 (by decide)).trans f40
          replace f41 := (hk 41 (by decide)).trans f41
          replace f42 : a36.tmps[42]?.getD undef = .slice A3 n3 c3 := f42
          clear hk hsz35 hde35
          refine wpList_next rfl hsz36 hde36 43 rfl (by decide) fun K hK => ?_
          go_simp
          refine (ejoin_any _ _ _ _ M N _ (HM.out.grow Hb7.out) (HN.out.grow Hb7.out) (by have := Hll.out; have := HlX.out; omega) Hd2.out Hd3.out).mono ?_
          rintro e8 w8 ⟨⟨u8, rfl, hown8⟩, hb8⟩
          go_simp
          refine hK _ _ fun a37 hsz37 hde37 f43 hk => ?_
          clear hK K
          replace f0 := (hk 0 (by decide)).trans f0
          replace f1 := (hk 1 (by decide)).trans f1
          replace f2 := (hk 2 (by decide)).trans f2
          replace f7 := (hk 7 (by decide)).trans f7
          replace f39 := (hk 39 (by decide)).trans f39
          replace f40 := (hk 40 (by decide)).trans f40
          replace f43 : a37.tmps[43]?.getD undef = u8 := f43
          clear hk hsz36 hde36 f41 f42
          have Hb8 := Lib.hid (below_call Hb7.out hb8)
          have HO8 := Lib.hid hown8.isL
          clear hown8
          have Hc8 := Lib.hid (hb8)
          clear hb8
          refine wpList_next rfl hsz37 hde37 44 rfl (by decide) fun K hK => ?_
          go_simp
          refine (ejoin_any _ _ _ _ L (joinE M N) _ (HL.out.grow Hb8.out) HO8.out (by have := Hll.out; have := HlX.out; omega) Hd1.out (join_data Hd2.out Hd3.out)).mono ?_
          rintro e9 w9 ⟨⟨u9, rfl, hown9⟩, hb9⟩
          go_simp
          refine hK _ _ fun a38 hsz38 hde38 f44 hk => ?_
          clear hK K
          replace f0 := (hk 0 (by decide)).trans f0
          replace f1 := (hk 1 (by decide)).trans f1
          replace f2 := (hk 2 (by decide)).trans f2
          replace f7 := (hk 7 (by decide)).trans f7
          replace f39 := (hk 39 (by decide)).trans f39
          replace f44 : a38.tmps[44]?.getD undef = u9 := f44
          clear hk hsz37 hde37 f40 f43
          have Hb9 := Lib.hid (below_call Hb8.out hb9)
          rw [HE1.out] at hown9
          have HO9 := Lib.hid hown9.isL
          clear hown9
          have Hc9 := Lib.hid (below_call Hc8.out hb9)
          clear hb9
          refine wpList_next rfl hsz38 hde38 45 rfl (by decide) fun K hK => ?_
          go_simp
          refine (erefsame_any _ _ _ _ XX _ (HO7.out.grow Hc9.out) HO9.out).mono ?_
          rintro e10 w10 ⟨rfl, hb10⟩
          go_simp
          refine hK _ _ fun a39 hsz39 hde39 f45 hk => ?_
          clear hK K
          replace f0 := (hk 0 (by decide)).trans f0
          replace f1 := (hk 1 (by decide)).trans f1
          replace f2 := (hk 2 (by decide)).trans f2
          replace f7 := (hk 7 (by decide)).trans f7
          replace f45 : a39.tmps[45]?.getD undef = .bool true := f45
          clear hk hsz38 hde38 f39 f44
          have Hb10 := Lib.hid (below_call Hb9.out hb10)
          have Hc10 := Lib.hid (below_call Hc9.out hb10)
          clear hb10
          refine wpList_next rfl hsz39 hde39 46 rfl (by decide) fun K hK => ?_
          go_simp
          refine hK _ _ fun a40 hsz40 hde40 f46 hk => ?_
          clear hK K
          replace f0 := (hk 0 (by decide)).trans f0
          replace f1 := (hk 1 (by decide)).trans f1
          replace f2 := (hk 2 (by decide)).trans f2
          replace f7 := (hk 7 (by decide)).trans f7
          replace f46 : a40.tmps[46]?.getD undef = .bool true := f46
          clear hk hsz39 hde39 f45
          refine wpList_nextg (wanted_of (j := 7) (t := 46) (b := true) rfl rfl f46) hsz40 hde40 47 rfl (by decide) fun K hK => ?_
          go_simp
          refine hK _ _ fun a41 hsz41 hde41 f47 hk => ?_
          clear hK K
          replace f0 := (hk 0 (by decide)).trans f0
          replace f1 := (hk 1 (by decide)).trans f1
          replace f2 := (hk 2 (by decide)).trans f2
          replace f7 := (hk 7 (by decide)).trans f7
          replace f46 := (hk 46 (by decide)).trans f46
          replace f47 : a41.tmps[47]?.getD undef = u7 := f47
          clear hk hsz40 hde40
          refine wpList_nextg (wanted_of (j := 7) (t := 46) (b := true) rfl rfl f46) hsz41 hde41 48 rfl (by decide) fun K hK => ?_
          go_simp
          refine hK _ _ fun a42 hsz42 hde42 f48 hk => ?_
          clear hK K
          replace f0 := (hk 0 (by decide)).trans f0
          replace f1 := (hk 1 (by decide)).trans f1
          replace f2 := (hk 2 (by decide)).trans f2
          replace f7 := (hk 7 (by decide)).trans f7
          replace f46 := (hk 46 (by decide)).trans f46
          replace f47 := (hk 47 (by decide)).trans f47
          replace f48 : a42.tmps[48]?.getD undef = .slice A3 n3 c3 := f48
          clear hk hsz41 hde41
          refine wpList_nextg (wanted_of (j := 7) (t := 46) (b := true) rfl rfl f46) hsz42 hde42 49 rfl (by decide) fun K hK => ?_
          go_simp
          refine hK _ _ fun a43 hsz43 hde43 f49 hk => ?_
          clear hK K
          replace f0 := (hk 0 (by decide)).trans f0
          replace f1 := (hk 1 (by decide)).trans f1
          replace f2 := (hk 2 (by decide)).trans f2
          replace f7 := (hk 7 (by decide)).trans f7
          replace f46 := (hk 46 (by decide)).trans f46
          replace f47 := (hk 47 (by decide)).trans f47
          replace f48 := (hk 48 (by decide)).trans f48
          replace f49 : a43.tmps[49]?.getD undef = .slice A2 n2 c2 := f49
          clear hk hsz42 hde42
          refine wpList_nextg (wanted_of (j := 7) (t := 46) (b := true) rfl rfl f46) hsz43 hde43 50 rfl (by decide) fun K hK => ?_
          go_simp
          refine (ejoin_any _ _ _ _ N M _ (HN.out.grow Hb10.out) (HM.out.grow Hb10.out) (by have := Hll.out; have := HlX.out; omega) Hd3.out Hd2.out).mono ?_
          rintro e11 w11 ⟨⟨u11, rfl, hown11⟩, hb11⟩
          go_simp
          refine hK _ _ fun a44 hsz44 hde44 f50 hk => ?_
          clear hK K
          replace f0 := (hk 0 (by decide)).trans f0
          replace f1 := (hk 1 (by decide)).trans f1
          replace f2 := (hk 2 (by decide)).trans f2
          replace f7 := (hk 7 (by decide)).trans f7
          replace f46 := (hk 46 (by decide)).trans f46
          replace f47 := (hk 47 (by decide)).trans f47
          replace f50 : a44.tmps[50]?.getD undef = u11 := f50
          clear hk hsz43 hde43 f48 f49
          have Hb11 := Lib.hid (below_call Hb10.out hb11)
          have HO11 := Lib.hid hown11.isL
          clear hown11
          have Hc11 := Lib.hid (below_call Hc10.out hb11)
          clear hb11
          refine wpList_nextg (wanted_of (j := 7) (t := 46) (b := true) rfl rfl f46) hsz44 hde44 51 rfl (by decide) fun K hK => ?_
          go_simp
          refine hK _ _ fun a45 hsz45 hde45 f51 hk => ?_
          clear hK K
          replace f0 := (hk 0 (by decide)).trans f0
          replace f1 := (hk 1 (by decide)).trans f1
          replace f2 := (hk 2 (by decide)).trans f2
          replace f7 := (hk 7 (by decide)).trans f7
          replace f46 := (hk 46 (by decide)).trans f46
          replace f47 := (hk 47 (by decide)).trans f47
          replace f50 := (hk 50 (by decide)).trans f50
          replace f51 : a45.tmps[51]?.getD undef = .slice A1 n1 c1 := f51
          clear hk hsz44 hde44
          refine wpList_nextg (wanted_of (j := 7) (t := 46) (b := true) rfl rfl f46) hsz45 hde45 52 rfl (by decide) fun K hK => ?_
          go_simp
          refine (ejoin_any _ _ _ _ (joinE N M) L _ HO11.out (HL.out.grow Hb11.out) (by have := Hll.out; have := HlX.out; omega) (join_data Hd3.out Hd2.out) Hd1.out).mono ?_
          rintro e12 w12 ⟨⟨u12, rfl, hown12⟩, hb12⟩
          go_simp
          refine hK _ _ fun a46 hsz46 hde46 f52 hk => ?_
          clear hK K
          replace f0 := (hk 0 (by decide)).trans f0
          replace f1 := (hk 1 (by decide)).trans f1
          replace f2 := (hk 2 (by decide)).trans f2
          replace f7 := (hk 7 (by decide)).trans f7
          replace f46 := (hk 46 (by decide)).trans f46
          replace f47 := (hk 47 (by decide)).trans f47
          replace f52 : a46.tmps[52]?.getD undef = u12 := f52
          clear hk hsz45 hde45 f50 f51
          have Hb12 := Lib.hid (below_call Hb11.out hb12)
          rw [HE2.out] at hown12
          have HO12 := Lib.hid hown12.isL
          clear hown12
          have Hc12 := Lib.hid (below_call Hc11.out hb12)
          clear hb12
          refine wpList_nextg (wanted_of (j := 7) (t := 46) (b := true) rfl rfl f46) hsz46 hde46 53 rfl (by decide) fun K hK => ?_
          go_simp
          refine (erefsame_any _ _ _ _ XX _ (HO7.out.grow Hc12.out) HO12.out).mono ?_
          rintro e13 w13 ⟨rfl, hb13⟩
          go_simp
          refine hK _ _ fun a47 hsz47 hde47 f53 hk => ?_
          clear hK K
          replace f0 := (hk 0 (by decide)).trans f0
          replace f1 := (hk 1 (by decide)).trans f1
          replace f2 := (hk 2 (by decide)).trans f2
          replace f7 := (hk 7 (by decide)).trans f7
          replace f46 := (hk 46 (by decide)).trans f46
          replace f53 : a47.tmps[53]?.getD undef = .bool true := f53
          clear hk hsz46 hde46 f47 f52
          have Hb13 := Lib.hid (below_call Hb12.out hb13)
          have Hc13 := Lib.hid (below_call Hc12.out hb13)
          clear hb13
          refine wpList_next rfl hsz47 hde47 54 rfl (by decide) fun K hK => ?_
          go_simp
          refine hK _ _ fun a48 hsz48 hde48 f54 hk => ?_
          clear hK K
          replace f0 := (hk 0 (by decide)).trans f0
          replace f1 := (hk 1 (by decide)).trans f1
          replace f2 := (hk 2 (by decide)).trans f2
          replace f7 := (hk 7 (by decide)).trans f7
          replace f54 : a48.tmps[54]?.getD undef = .bool true := f54
          clear hk hsz47 hde47 f46 f53
          refine wpList_next rfl hsz48 hde48 55 rfl (by decide) fun K hK => ?_
          go_simp
          refine hK _ _ fun a49 hsz49 hde49 f55 hk => ?_
          clear hK K
          replace f0 := (hk 0 (by decide)).trans f0
          replace f1 := (hk 1 (by decide)).trans f1
          replace f2 := (hk 2 (by decide)).trans f2
          replace f7 := (hk 7 (by decide)).trans f7
          replace f55 : a49.tmps[55]?.getD undef = .bool true := f55
          clear hk hsz48 hde48 f54
          refine wpList_nextg (wanted_of (j := 16) (t := 55) (b := true) rfl rfl f55) hsz49 hde49 56 rfl (by decide) fun K hK => ?_
          go_simp
          refine hK _ _ fun a50 hsz50 hde50 f56 hk => ?_
          clear hK K
          replace f0 := (hk 0 (by decide)).trans f0
          replace f1 := (hk 1 (by decide)).trans f1
          replace f2 := (hk 2 (by decide)).trans f2
          replace f7 := (hk 7 (by decide)).trans f7
          replace f55 := (hk 55 (by decide)).trans f55
          replace f56 : a50.tmps[56]?.getD undef = u7 := f56
          clear hk hsz49 hde49
          refine wpList_nextg (wanted_of (j := 16) (t := 55) (b := true) rfl rfl f55) hsz50 hde50 57 rfl (by decide) fun K hK => ?_
          go_simp
          refine hK _ _ fun a51 hsz51 hde51 f57 hk => ?_
          clear hK K
          replace f0 := (hk 0 (by decide)).trans f0
          replace f1 := (hk 1 (by decide)).trans f1
          replace f2 := (hk 2 (by decide)).trans f2
          replace f7 := (hk 7 (by decide)).trans f7
          replace f55 := (hk 55 (by decide)).trans f55
          replace f56 := (hk 56 (by decide)).trans f56
          replace f57 : a51.tmps[57]?.getD undef = u7 := f57
          clear hk hsz50 hde50
          refine wpList_nextg (wanted_of (j := 16) (t := 55) (b := true) rfl rfl f55) hsz51 hde51 58 rfl (by decide) fun K hK => ?_
          go_simp
          refine hK _ _ fun a52 hsz52 hde52 f58 hk => ?_
          clear hK K
          replace f0 := (hk 0 (by decide)).trans f0
          replace f1 := (hk 1 (by decide)).trans f1
          replace f2 := (hk 2 (by decide)).trans f2
          replace f7 := (hk 7 (by decide)).trans f7
          replace f55 := (hk 55 (by decide)).trans f55
          replace f56 := (hk 56 (by decide)).trans f56
          replace f57 := (hk 57 (by decide)).trans f57
          replace f58 : a52.tmps[58]?.getD undef = .slice A2 n2 c2 := f58
          clear hk hsz51 hde51
          refine wpList_nextg (wanted_of (j := 16) (t := 55) (b := true) rfl rfl f55) hsz52 hde52 59 rfl (by decide) fun K hK => ?_
          go_simp
          refine (ejoin_any _ _ _ _ XX M _ (HO7.out.grow Hc13.out) (HM.out.grow Hb13.out) (by have := Hll.out; have := HlX.out; omega) HdX.out Hd2.out).mono ?_
          rintro e14 w14 ⟨⟨u14, rfl, hown14⟩, hb14⟩
          go_simp
          refine hK _ _ fun a53 hsz53 hde53 f59 hk => ?_
          clear hK K
          replace f0 := (hk 0 (by decide)).trans f0
          replace f1 := (hk 1 (by decide)).trans f1
          replace f2 := (hk 2 (by decide)).trans f2
          replace f7 := (hk 7 (by decide)).trans f7
          replace f55 := (hk 55 (by decide)).trans f55
          replace f56 := (hk 56 (by decide)).trans f56
          replace f59 : a53.tmps[59]?.getD undef = u14 := f59
          clear hk hsz52 hde52 f57 f58
          have Hb14 := Lib.hid (below_call Hb13.out hb14)
          rw [HE3.out] at hown14
          have HO14 := Lib.hid hown14.isL
          clear hown14
          have Hc14 := Lib.hid (below_call Hc13.out hb14)
          clear hb14
          refine wpList_nextg (wanted_of (j := 16) (t := 55) (b := true) rfl rfl f55) hsz53 hde53 60 rfl (by decide) fun K hK => ?_
          go_simp
          refine (erefsame_any _ _ _ _ XX _ (HO7.out.grow Hc14.out) HO14.out).mono ?_
          rintro e15 w15 ⟨rfl, hb15⟩
          go_simp
          refine hK _ _ fun a54 hsz54 hde54 f60 hk => ?_
          clear hK K
          replace f0 := (hk 0 (by decide)).trans f0
          replace f1 := (hk 1 (by decide)).trans f1
          replace f2 := (hk 2 (by decide)).trans f2
          replace f7 := (hk 7 (by decide)).trans f7
          replace f55 := (hk 55 (by decide)).trans f55
          replace f60 : a54.tmps[60]?.getD undef = .bool true := f60
          clear hk hsz53 hde53 f56 f59
          have Hb15 := Lib.hid (below_call Hb14.out hb15)
          have Hc15 := Lib.hid (below_call Hc14.out hb15)
          clear hb15
          refine wpList_next rfl hsz54 hde54 61 rfl (by decide) fun K hK => ?_
          go_simp
          refine hK _ _ fun a55 hsz55 hde55 f61 hk => ?_
          clear hK K
          replace f0 := (hk 0 (by decide)).trans f0
          replace f1 := (hk 1 (by decide)).trans f1
          replace f2 := (hk 2 (by decide)).trans f2
          replace f7 := (hk 7 (by decide)).trans f7
          replace f61 : a55.tmps[61]?.getD undef = .bool true := f61
          clear hk hsz54 hde54 f55 f60
          refine wpList_next rfl hsz55 hde55 62 rfl (by decide) fun K hK => ?_
          go_simp
          refine hK _ _ fun a56 hsz56 hde56 f62 hk => ?_
          clear hK K
          replace f0 := (hk 0 (by decide)).trans f0
          replace f1 := (hk 1 (by decide)).trans f1
          replace f2 := (hk 2 (by decide)).trans f2
          replace f7 := (hk 7 (by decide)).trans f7
          replace f62 : a56.tmps[62]?.getD undef = .bool true := f62
          clear hk hsz55 hde55 f61
          refine wpList_nextg (wanted_of (j := 23) (t := 62) (b := true) rfl rfl f62) hsz56 hde56 63 rfl (by decide) fun K hK => ?_
          go_simp
          refine hK _ _ fun a57 hsz57 hde57 f63 hk => ?_
          clear hK K
          replace f0 := (hk 0 (by decide)).trans f0
          replace f1 := (hk 1 (by decide)).trans f1
          replace f2 := (hk 2 (by decide)).trans f2
          replace f7 := (hk 7 (by decide)).trans f7
          replace f62 := (hk 62 (by decide)).trans f62
          replace f63 : a57.tmps[63]?.getD undef = u7 := f63
          clear hk hsz56 hde56
          refine wpList_nextg (wanted_of (j := 23) (t := 62) (b := true) rfl rfl f62) hsz57 hde57 64 rfl (by decide) fun K hK => ?_
          go_simp
          refine (ereffine_true _ _ XX _ (HO7.out.grow Hc15.out) (by have := HlX.out; omega) HsX.out).mono ?_
          rintro e16 w16 ⟨rfl, hb16⟩
          go_simp
          refine hK _ _ fun a58 hsz58 hde58 f64 hk => ?_
          clear hK K
          replace f0 := (hk 0 (by decide)).trans f0
          replace f1 := (hk 1 (by decide)).trans f1
          replace f2 := (hk 2 (by decide)).trans f2
          replace f7 := (hk 7 (by decide)).trans f7
          replace f62 := (hk 62 (by decide)).trans f62
          replace f64 : a58.tmps[64]?.getD undef = .bool true := f64
          clear hk hsz57 hde57 f63
          refine wpList_next rfl hsz58 hde58 65 rfl (by decide) fun K hK => ?_
          go_simp
          refine hK _ _ fun a59 hsz59 hde59 f65 hk => ?_
          clear hK K
          replace f0 := (hk 0 (by decide)).trans f0
          replace f1 := (hk 1 (by decide)).trans f1
          replace f2 := (hk 2 (by decide)).trans f2
          replace f7 := (hk 7 (by decide)).trans f7
          replace f65 : a59.tmps[65]?.getD undef = .bool true := f65
          clear hk hsz58 hde58 f62 f64
          refine wpList_next rfl hsz59 hde59 6 rfl (by decide) fun K hK => ?_
          go_simp
          refine hK _ _ fun a60 hsz60 hde60 f6 hk => ?_
          clear hK K
          replace f0 := (hk 0 (by decide)).trans f0
          replace f1 := (hk 1 (by decide)).trans f1
          replace f2 := (hk 2 (by decide)).trans f2
          replace f7 := (hk 7 (by decide)).trans f7
          replace f6 : a60.tmps[6]?.getD undef = .bool true := f6
          clear hk hsz59 hde59 f65
          refine wpList_nil ?_
          refine then_go ?_
          refine wp_ret ?_
          refine (ret_tmp (R := fun e2 w2 => e2 = .returned (.bool true) ∧ Below w.heap.size w w2) Tryd.results8 hde60 f6 ?_)
          exact ⟨rfl, below_call Hb15.out hb16⟩
end Go.Proofs.YtckibimganmklaaDoor
