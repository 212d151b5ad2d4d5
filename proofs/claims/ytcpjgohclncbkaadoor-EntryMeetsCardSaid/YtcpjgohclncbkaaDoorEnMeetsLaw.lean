/-
  The walk of EntryMeets.
-/
import Derived.Test.YtcpjgohclncbkaaDoorEnLives
import Derived.Test.YtcpjgohclncbkaaDoorEnActsAll
namespace Go.Proofs.YtcpjgohclncbkaaDoor
open Go.RowKit
set_option maxRecDepth 100000

theorem at_mod (x : Int) (n : Nat) (h0 : 0 < n) (h1 : n ≤ 1000) : ∃ t : Nat, t < n ∧ IntKind.i64.wrap ((IntKind.u64.wrap x).tmod (n : Int)) = (t : Int) := by
  rw [IntKind.wrap_u64]
  have h2 : 0 ≤ x % 18446744073709551616 := by omega
  generalize x % 18446744073709551616 = y at h2
  rw [Int.tmod_eq_emod_of_nonneg h2]
  have h3 := Int.emod_nonneg y (show (n : Int) ≠ 0 by omega)
  have h4 := Int.emod_lt_of_pos y (show (0 : Int) < (n : Int) by omega)
  generalize y % (n : Int) = z at h3 h4
  refine ⟨z.toNat, by omega, ?_⟩
  rw [IntKind.wrap_i64] <;> omega
theorem fair_clean {G : List EAct} (h : FairA G) : ZeroA (G.map cleanA) ∧ AlikeA (G.map cleanA) ∧ (∀ x ∈ G.map cleanA, x.e.data.length ≤ 1000) := by
  refine ⟨fun x hx => ?_, fun x hx y hy hs => ?_, fun x hx => ?_⟩
  · obtain ⟨y, _, rfl⟩ := List.mem_map.1 hx; rfl
  · obtain ⟨x', hx', rfl⟩ := List.mem_map.1 hx
    obtain ⟨y', hy', rfl⟩ := List.mem_map.1 hy
    exact h.2.2 x' hx' y' hy' hs
  · obtain ⟨y, hy, rfl⟩ := List.mem_map.1 hx
    exact Nat.le_trans (h.2.1 y hy).1 (by omega)
def MeInv (w : World) (S : Value) (A : List EAct) (kk hh m : Nat) (n : Nat) (a : Act) (x : World) : Prop :=
  ∃ (i : Nat) (v7 v8 v9 v10 : Value), Hid (a.tmps.size = 107) ∧ Hid (a.defers = []) ∧ a.tmps[0]?.getD undef = S ∧ a.tmps[7]?.getD undef = v7 ∧ a.tmps[8]?.getD undef = v8 ∧ a.tmps[9]?.getD undef = v9 ∧ a.tmps[10]?.getD undef = v10 ∧ a.tmps[11]?.getD undef = .int .i64 ((kk : Nat) : Int) ∧ a.tmps[12]?.getD undef = .int .i64 ((hh : Nat) : Int) ∧ a.tmps[43]?.getD undef = S ∧ a.tmps[44]?.getD undef = .int .i64 ((m : Nat) : Int) ∧ a.tmps[45]?.getD undef = .int .i64 ((i : Nat) : Int) ∧ Hid (i ≤ m) ∧ Hid (IsL kEnt x (fun _ => True) v7 (doesE (A.take i))) ∧ Hid (IsL kEnt x (fun _ => True) v8 (doesE ((turnA A kk).take i))) ∧ Hid (IsL kEnt x (fun _ => True) v9 (doesE ((A.take (hh + 1)).take i))) ∧ Hid (IsL kEnt x (fun _ => True) v10 (doesE ((A.drop (hh + 1)).take (i - (hh + 1))))) ∧ Hid (Below w.heap.size w x) ∧ n = m - i

set_option maxHeartbeats 16000000 in
theorem entrymeets_walk (v : Value) (G : List EAct) (tn hf : Int) (w : World) (hG : IsL kAct w (fun _ => True) v G) (hp : Pow w) :
    Calls Tryd.prog 6 #[v, .int .i64 tn, .int .i64 hf] w fun e w' => e = .returned (.bool true) ∧ Below w.heap.size w w' := by
  have Hl := Lib.hid fun (z : World) (hz : Pow z) => lives10_any z hz
  have HG := Lib.hid hG
  have Hp := Lib.hid hp
  obtain ⟨A, c, rfl, hc1, hc2, hE⟩ := act_at hG
  have Hel := Lib.hid hE
  obtain ⟨n, hn⟩ : ∃ n, n = G.length := ⟨_, rfl⟩
  rw [← hn] at hc1 HG ⊢
  have Hn := Lib.hid hn
  have hmx : maxLen ≤ 9223372036854775807 := by decide
  clear hG hE hn hp
  go_enter Tryd.func6, Tryd.ntmps6
  refine enter_abs (N := 107) rfl rfl fun a0 hsz0 hde0 hk => ?_
  have f0 : a0.tmps[0]?.getD undef = .slice A n c := hk 0
  have f1 : a0.tmps[1]?.getD undef = .int .i64 tn := hk 1
  have f2 : a0.tmps[2]?.getD undef = .int .i64 hf := hk 2
  clear hk
  repeat with_reducible refine wp_seq ?_
  refine wp_region_lit ?_
  refine wpList_next rfl hsz0 hde0 6 rfl (by decide) fun K hK => ?_
  go_simp
  refine hK _ _ fun a1 hsz1 hde1 f6 hk => ?_
  clear hK K
  replace f0 := (hk 0 (by decide)).trans f0
  replace f1 := (hk 1 (by decide)).trans f1
  replace f2 := (hk 2 (by decide)).trans f2
  replace f6 : a1.tmps[6]?.getD undef = .bool false := f6
  clear hk hsz0 hde0
  refine wpList_nil ?_
  clear f6
  refine then_go ?_
  repeat with_reducible refine wp_seq ?_
  refine wp_region_lit ?_
  refine wpList_next rfl hsz1 hde1 16 rfl (by decide) fun K hK => ?_
  go_simp
  refine (Hl.out _ Hp.out).mono ?_
  rintro e1 w1 ⟨rfl, hb1⟩
  go_simp
  refine hK _ _ fun a2 hsz2 hde2 f16 hk => ?_
  clear hK K
  replace f0 := (hk 0 (by decide)).trans f0
  replace f1 := (hk 1 (by decide)).trans f1
  replace f2 := (hk 2 (by decide)).trans f2
  replace f16 : a2.tmps[16]?.getD undef = .bool true := f16
  clear hk hsz1 hde1
  refine wpList_next rfl hsz2 hde2 17 rfl (by decide) fun K hK => ?_
  go_simp
  refine hK _ _ fun a3 hsz3 hde3 f17 hk => ?_
  clear hK K
  replace f0 := (hk 0 (by decide)).trans f0
  replace f1 := (hk 1 (by decide)).trans f1
  replace f2 := (hk 2 (by decide)).trans f2
  replace f17 : a3.tmps[17]?.getD undef = .bool false := f17
  clear hk hsz2 hde2 f16
  refine wpList_next rfl hsz3 hde3 18 rfl (by decide) fun K hK => ?_
  go_simp
  refine hK _ _ fun a4 hsz4 hde4 f18 hk => ?_
  clear hK K
  replace f0 := (hk 0 (by decide)).trans f0
  replace f1 := (hk 1 (by decide)).trans f1
  replace f2 := (hk 2 (by decide)).trans f2
  replace f18 : a4.tmps[18]?.getD undef = .bool false := f18
  clear hk hsz3 hde3 f17
  refine wpList_nextg (wanted_of (j := 2) (t := 18) (b := false) rfl rfl f18) hsz4 hde4 19 rfl (by decide) fun K hK => ?_
  go_simp
  refine hK _ _ fun a5 hsz5 hde5 f19 hk => ?_
  clear hK K
  replace f0 := (hk 0 (by decide)).trans f0
  replace f1 := (hk 1 (by decide)).trans f1
  replace f2 := (hk 2 (by decide)).trans f2
  replace f18 := (hk 18 (by decide)).trans f18
  replace f19 : a5.tmps[19]?.getD undef = .slice A n c := f19
  clear hk hsz4 hde4
  refine wpList_nextg (wanted_of (j := 2) (t := 18) (b := false) rfl rfl f18) hsz5 hde5 20 rfl (by decide) fun K hK => ?_
  go_simp
  refine (fair_any _ _ _ _ (HG.out.grow hb1)).mono ?_
  rintro e2 w2 ⟨⟨q1, rfl, hq1⟩, hb2⟩
  go_simp
  refine hK _ _ fun a6 hsz6 hde6 f20 hk => ?_
  clear hK K
  replace f0 := (hk 0 (by decide)).trans f0
  replace f1 := (hk 1 (by decide)).trans f1
  replace f2 := (hk 2 (by decide)).trans f2
  replace f18 := (hk 18 (by decide)).trans f18
  replace f20 : a6.tmps[20]?.getD undef = .bool q1 := f20
  clear hk hsz5 hde5 f19
  have Hb2 := Lib.hid (below_call hb1 hb2)
  have Hq1 := Lib.hid hq1
  clear hb1 hb2 hq1
  cases q1 with
  | false =>
    refine wpList_nextg (wanted_of (j := 2) (t := 18) (b := false) rfl rfl f18) hsz6 hde6 21 rfl (by decide) fun K hK => ?_
    go_simp
    refine hK _ _ fun a7 hsz7 hde7 f21 hk => ?_
    clear hK K
    replace f0 := (hk 0 (by decide)).trans f0
    replace f1 := (hk 1 (by decide)).trans f1
    replace f2 := (hk 2 (by decide)).trans f2
    replace f18 := (hk 18 (by decide)).trans f18
    replace f21 : a7.tmps[21]?.getD undef = .bool true := f21
    clear hk hsz6 hde6 f20
    refine wpList_next rfl hsz7 hde7 22 rfl (by decide) fun K hK => ?_
    go_simp
    refine hK _ _ fun a8 hsz8 hde8 f22 hk => ?_
    clear hK K
    replace f0 := (hk 0 (by decide)).trans f0
    replace f1 := (hk 1 (by decide)).trans f1
    replace f2 := (hk 2 (by decide)).trans f2
    replace f22 : a8.tmps[22]?.getD undef = .bool true := f22
    clear hk hsz7 hde7 f18 f21
    refine wpList_next rfl hsz8 hde8 23 rfl (by decide) fun K hK => ?_
    go_simp
    refine hK _ _ fun a9 hsz9 hde9 f23 hk => ?_
    clear hK K
    replace f0 := (hk 0 (by decide)).trans f0
    replace f1 := (hk 1 (by decide)).trans f1
    replace f2 := (hk 2 (by decide)).trans f2
    replace f23 : a9.tmps[23]?.getD undef = .bool true := f23
    clear hk hsz8 hde8 f22
    refine wpList_leave (not_wanted (j := 7) (t := 23) (b := false) rfl rfl (.inr f23)) hsz9 hde9 24 rfl (by decide) fun a10 hsz10 hde10 f24 hk => ?_
    replace f0 := (hk 0 (by decide)).trans f0
    replace f1 := (hk 1 (by decide)).trans f1
    replace f2 := (hk 2 (by decide)).trans f2
    replace f23 := (hk 23 (by decide)).trans f23
    clear hk hsz9 hde9
    refine wpList_leave (not_wanted (j := 7) (t := 23) (b := false) rfl rfl (.inr f23)) hsz10 hde10 25 rfl (by decide) fun a11 hsz11 hde11 f25 hk => ?_
    replace f0 := (hk 0 (by decide)).trans f0
    replace f1 := (hk 1 (by decide)).trans f1
    replace f2 := (hk 2 (by decide)).trans f2
    replace f23 := (hk 23 (by decide)).trans f23
    clear hk hsz10 hde10 f24
    refine wpList_leave (not_wanted (j := 7) (t := 23) (b := false) rfl rfl (.inr f23)) hsz11 hde11 26 rfl (by decide) fun a12 hsz12 hde12 f26 hk => ?_
    replace f0 := (hk 0 (by decide)).trans f0
    replace f1 := (hk 1 (by decide)).trans f1
    replace f2 := (hk 2 (by decide)).trans f2
    replace f23 := (hk 23 (by decide)).trans f23
    clear hk hsz11 hde11 f25
    refine wpList_next rfl hsz12 hde12 27 rfl (by decide) fun K hK => ?_
    go_simp
    refine hK _ _ fun a13 hsz13 hde13 f27 hk => ?_
    clear hK K
    replace f0 := (hk 0 (by decide)).trans f0
    replace f1 := (hk 1 (by decide)).trans f1
    replace f2 := (hk 2 (by decide)).trans f2
    replace f27 : a13.tmps[27]?.getD undef = .bool true := f27
    clear hk hsz12 hde12 f23 f26
    refine wpList_nil ?_
    refine then_go ?_
    repeat with_reducible refine wp_seq ?_
    refine wp_cond_true (eval_at f27) ?_
    clear f27
    repeat with_reducible refine wp_seq ?_
    refine wp_region_lit ?_
    refine wpList_next rfl hsz13 hde13 28 rfl (by decide) fun K hK => ?_
    go_simp
    refine (Hl.out _ (Hp.out.grow Hb2.out)).mono ?_
    rintro e9 w9 ⟨rfl, hb9⟩
    go_simp
    refine hK _ _ fun a14 hsz14 hde14 f28 hk => ?_
    clear hK K
    replace f0 := (hk 0 (by decide)).trans f0
    replace f1 := (hk 1 (by decide)).trans f1
    replace f2 := (hk 2 (by decide)).trans f2
    replace f28 : a14.tmps[28]?.getD undef = .bool true := f28
    clear hk hsz13 hde13
    refine wpList_next rfl hsz14 hde14 6 rfl (by decide) fun K hK => ?_
    go_simp
    refine hK _ _ fun a15 hsz15 hde15 f6 hk => ?_
    clear hK K
    replace f0 := (hk 0 (by decide)).trans f0
    replace f1 := (hk 1 (by decide)).trans f1
    replace f2 := (hk 2 (by decide)).trans f2
    replace f6 : a15.tmps[6]?.getD undef = .bool true := f6
    clear hk hsz14 hde14 f28
    refine wpList_nil ?_
    refine then_go ?_
    refine wp_ret ?_
    refine (ret_tmp (R := fun e2 w2 => e2 = .returned (.bool true) ∧ Below w.heap.size w w2) Tryd.results6 hde15 f6 ?_)
    exact ⟨rfl, below_call Hb2.out hb9⟩
  | true =>
    refine wpList_nextg (wanted_of (j := 2) (t := 18) (b := false) rfl rfl f18) hsz6 hde6 21 rfl (by decide) fun K hK => ?_
    go_simp
    refine hK _ _ fun a7 hsz7 hde7 f21 hk => ?_
    clear hK K
    replace f0 := (hk 0 (by decide)).trans f0
    replace f1 := (hk 1 (by decide)).trans f1
    replace f2 := (hk 2 (by decide)).trans f2
    replace f18 := (hk 18 (by decide)).trans f18
    replace f21 : a7.tmps[21]?.getD undef = .bool false := f21
    clear hk hsz6 hde6 f20
    refine wpList_next rfl hsz7 hde7 22 rfl (by decide) fun K hK => ?_
    go_simp
    refine hK _ _ fun a8 hsz8 hde8 f22 hk => ?_
    clear hK K
    replace f0 := (hk 0 (by decide)).trans f0
    replace f1 := (hk 1 (by decide)).trans f1
    replace f2 := (hk 2 (by decide)).trans f2
    replace f22 : a8.tmps[22]?.getD undef = .bool false := f22
    clear hk hsz7 hde7 f18 f21
    refine wpList_next rfl hsz8 hde8 23 rfl (by decide) fun K hK => ?_
    go_simp
    refine hK _ _ fun a9 hsz9 hde9 f23 hk => ?_
    clear hK K
    replace f0 := (hk 0 (by decide)).trans f0
    replace f1 := (hk 1 (by decide)).trans f1
    replace f2 := (hk 2 (by decide)).trans f2
    replace f23 : a9.tmps[23]?.getD undef = .bool false := f23
    clear hk hsz8 hde8 f22
    refine wpList_nextg (wanted_of (j := 7) (t := 23) (b := false) rfl rfl f23) hsz9 hde9 24 rfl (by decide) fun K hK => ?_
    go_simp
    refine hK _ _ fun a10 hsz10 hde10 f24 hk => ?_
    clear hK K
    replace f0 := (hk 0 (by decide)).trans f0
    replace f1 := (hk 1 (by decide)).trans f1
    replace f2 := (hk 2 (by decide)).trans f2
    replace f23 := (hk 23 (by decide)).trans f23
    replace f24 : a10.tmps[24]?.getD undef = .slice A n c := f24
    clear hk hsz9 hde9
    refine wpList_nextg (wanted_of (j := 7) (t := 23) (b := false) rfl rfl f23) hsz10 hde10 25 rfl (by decide) fun K hK => ?_
    go_simp
    refine hK _ _ fun a11 hsz11 hde11 f25 hk => ?_
    clear hK K
    replace f0 := (hk 0 (by decide)).trans f0
    replace f1 := (hk 1 (by decide)).trans f1
    replace f2 := (hk 2 (by decide)).trans f2
    replace f23 := (hk 23 (by decide)).trans f23
    replace f25 : a11.tmps[25]?.getD undef = .int .i64 ((n : Nat) : Int) := f25
    clear hk hsz10 hde10 f24
    by_cases h0 : n = 0
    · have H0 := Lib.hid h0
      clear h0
      refine wpList_nextg (wanted_of (j := 7) (t := 23) (b := false) rfl rfl f23) hsz11 hde11 26 rfl (by decide) fun K hK => ?_
      go_simp
      refine hK _ _ fun a12 hsz12 hde12 f26 hk => ?_
      clear hK K
      replace f0 := (hk 0 (by decide)).trans f0
      replace f1 := (hk 1 (by decide)).trans f1
      replace f2 := (hk 2 (by decide)).trans f2
      replace f23 := (hk 23 (by decide)).trans f23
      clear hk hsz11 hde11 f25
      replace f26 : a12.tmps[26]?.getD undef = .bool true := f26.trans (by have h := H0.out; first | rfl | (simp [h]; done) | (congr 1; exact decide_eq_true (by omega)) | (congr 1; exact decide_eq_false (by omega)))
      refine wpList_next rfl hsz12 hde12 27 rfl (by decide) fun K hK => ?_
      go_simp
      refine hK _ _ fun a13 hsz13 hde13 f27 hk => ?_
      clear hK K
      replace f0 := (hk 0 (by decide)).trans f0
      replace f1 := (hk 1 (by decide)).trans f1
      replace f2 := (hk 2 (by decide)).trans f2
      replace f27 : a13.tmps[27]?.getD undef = .bool true := f27
      clear hk hsz12 hde12 f23 f26
      refine wpList_nil ?_
      refine then_go ?_
      repeat with_reducible refine wp_seq ?_
      refine wp_cond_true (eval_at f27) ?_
      clear f27
      repeat with_reducible refine wp_seq ?_
      refine wp_region_lit ?_
      refine wpList_next rfl hsz13 hde13 28 rfl (by decide) fun K hK => ?_
      go_simp
      refine (Hl.out _ (Hp.out.grow Hb2.out)).mono ?_
      rintro e9 w9 ⟨rfl, hb9⟩
      go_simp
      refine hK _ _ fun a14 hsz14 hde14 f28 hk => ?_
      clear hK K
      replace f0 := (hk 0 (by decide)).trans f0
      replace f1 := (hk 1 (by decide)).trans f1
      replace f2 := (hk 2 (by decide)).trans f2
      replace f28 : a14.tmps[28]?.getD undef = .bool true := f28
      clear hk hsz13 hde13
      refine wpList_next rfl hsz14 hde14 6 rfl (by decide) fun K hK => ?_
      go_simp
      refine hK _ _ fun a15 hsz15 hde15 f6 hk => ?_
      clear hK K
      replace f0 := (hk 0 (by decide)).trans f0
      replace f1 := (hk 1 (by decide)).trans f1
      replace f2 := (hk 2 (by decide)).trans f2
      replace f6 : a15.tmps[6]?.getD undef = .bool true := f6
      clear hk hsz14 hde14 f28
      refine wpList_nil ?_
      refine then_go ?_
      refine wp_ret ?_
      refine (ret_tmp (R := fun e2 w2 => e2 = .returned (.bool true) ∧ Below w.heap.size w w2) Tryd.results6 hde15 f6 ?_)
      exact ⟨rfl, below_call Hb2.out hb9⟩
    have H0 := Lib.hid h0
    refine wpList_nextg (wanted_of (j := 7) (t := 23) (b := false) rfl rfl f23) hsz11 hde11 26 rfl (by decide) fun K hK => ?_
    go_simp
    refine hK _ _ fun a12 hsz12 hde12 f26 hk => ?_
    clear hK K
    replace f0 := (hk 0 (by decide)).trans f0
    replace f1 := (hk 1 (by decide)).trans f1
    replace f2 := (hk 2 (by decide)).trans f2
    replace f23 := (hk 23 (by decide)).trans f23
    clear hk hsz11 hde11 f25
    replace f26 : a12.tmps[26]?.getD undef = .bool false := f26.trans (by have h := H0.out; first | rfl | (simp [h]; done) | (congr 1; exact decide_eq_true (by omega)) | (congr 1; exact decide_eq_false (by omega)))
    refine wpList_next rfl hsz12 hde12 27 rfl (by decide) fun K hK => ?_
    go_simp
    refine hK _ _ fun a13 hsz13 hde13 f27 hk => ?_
    clear hK K
    replace f0 := (hk 0 (by decide)).trans f0
    replace f1 := (hk 1 (by decide)).trans f1
    replace f2 := (hk 2 (by decide)).trans f2
    replace f27 : a13.tmps[27]?.getD undef = .bool false := f27
    clear hk hsz12 hde12 f23 f26
    refine wpList_nil ?_
    refine then_go ?_
    repeat with_reducible refine wp_seq ?_
    refine wp_cond_false (eval_at f27) ?_
    refine wp_skip ?_
    refine then_go ?_
    clear f27
    repeat with_reducible refine wp_seq ?_
    have hfair := Hq1.out rfl
    have hn30 : n ≤ 30 := by rw [Hn.out]; exact hfair.1
    obtain ⟨hza, hala, hdta⟩ := fair_clean hfair
    obtain ⟨b, off, rfl, _, _, hel⟩ := Hel.out (by intro e; have := Hn.out; rw [e] at this; exact h0 this)
    obtain ⟨AA, hAA⟩ : ∃ AA, AA = G.map cleanA := ⟨_, rfl⟩
    rw [← hAA] at hza hala hdta
    have hAl : AA.length = n := by rw [hAA, List.length_map, Hn.out]
    have Hrow := Lib.hid (show ∀ j (hj : j < AA.length) z, Below w2.heap.size w2 z → z.rangeAt b (off + j * 18) (actC AA[j]).toList from fun j hj z hz => by
      subst hAA
      rw [List.length_map] at hj
      rw [List.getElem_map, clean_cells (hfair.2.1 _ (List.getElem_mem hj)).2]
      exact range_ext (hel j hj).1 (below_call Hb2.out hz))
    have Hok := Lib.hid (show ∀ x ∈ AA, ActOk x from fun x hx => by rw [hAA] at hx; obtain ⟨y, hy, rfl⟩ := List.mem_map.1 hx; obtain ⟨i, hi, rfl⟩ := List.getElem_of_mem hy; exact clean_ok (hel i hi).2)
    have Hdt := Lib.hid hdta
    have HAl := Lib.hid hAl
    have hn0 : 0 < n := by omega
    obtain ⟨kk, hkk, hke⟩ := at_mod tn n hn0 (by omega)
    obtain ⟨hh, hhh, hhe⟩ := at_mod hf n hn0 (by omega)
    have Hke := Lib.hid hke
    have Hhe := Lib.hid hhe
    have HM := Lib.hid (meets AA kk (hh + 1) hza hala)
    have Hdo := Lib.hid (show ∀ (z : World) (u : Value) (B : List EAct) (X : EAct), IsL kEnt z (fun _ => True) u (doesE B) → (∀ x ∈ B, x ∈ AA) → B.length ≤ 700 → X ∈ AA → Calls Tryd.prog 32 #[u, .agg (actC X)] z fun e w' => (∃ u2, e = .returned u2 ∧ IsL kEnt w' (fun _ => True) u2 (doE (doesE B) X)) ∧ Below z.heap.size z w' from fun z u B X hu hB hBl hX => do_any _ u (doesE B) X z hu (by have := does_length B; omega) (does_data fun x hx => hdta x (hB x hx)) (hdta X hX) (sorted_does B) (Hok.out X hX))
    clear hfair hza hala hdta hel hAA hAl hke hhe Hel Hq1 HG
    have hnz : ((n : Int) = 0) = False := by rw [eq_iff_iff]; exact ⟨fun h => by omega, fun h => h.elim⟩
    have hwn : IntKind.u64.wrap (n : Int) = (n : Int) := by rw [IntKind.wrap_u64]; omega
    refine wp_region_lit ?_
    refine wpList_next rfl hsz13 hde13 7 rfl (by decide) fun K hK => ?_
    go_simp
    refine hK _ _ fun a14 hsz14 hde14 f7 hk => ?_
    clear hK K
    replace f0 := (hk 0 (by decide)).trans f0
    replace f1 := (hk 1 (by decide)).trans f1
    replace f2 := (hk 2 (by decide)).trans f2
    replace f7 : a14.tmps[7]?.getD undef = .slice none 0 0 := f7
    clear hk hsz13 hde13
    refine wpList_next rfl hsz14 hde14 8 rfl (by decide) fun K hK => ?_
    go_simp
    refine hK _ _ fun a15 hsz15 hde15 f8 hk => ?_
    clear hK K
    replace f0 := (hk 0 (by decide)).trans f0
    replace f1 := (hk 1 (by decide)).trans f1
    replace f2 := (hk 2 (by decide)).trans f2
    replace f7 := (hk 7 (by decide)).trans f7
    replace f8 : a15.tmps[8]?.getD undef = .slice none 0 0 := f8
    clear hk hsz14 hde14
    refine wpList_next rfl hsz15 hde15 9 rfl (by decide) fun K hK => ?_
    go_simp
    refine hK _ _ fun a16 hsz16 hde16 f9 hk => ?_
    clear hK K
    replace f0 := (hk 0 (by decide)).trans f0
    replace f1 := (hk 1 (by decide)).trans f1
    replace f2 := (hk 2 (by decide)).trans f2
    replace f7 := (hk 7 (by decide)).trans f7
    replace f8 := (hk 8 (by decide)).trans f8
    replace f9 : a16.tmps[9]?.getD undef = .slice none 0 0 := f9
    clear hk hsz15 hde15
    refine wpList_next rfl hsz16 hde16 10 rfl (by decide) fun K hK => ?_
    go_simp
    refine hK _ _ fun a17 hsz17 hde17 f10 hk => ?_
    clear hK K
    replace f0 := (hk 0 (by decide)).trans f0
    replace f1 := (hk 1 (by decide)).trans f1
    replace f2 := (hk 2 (by decide)).trans f2
    replace f7 := (hk 7 (by decide)).trans f7
    replace f8 := (hk 8 (by decide)).trans f8
    replace f9 := (hk 9 (by decide)).trans f9
    replace f10 : a17.tmps[10]?.getD undef = .slice none 0 0 := f10
    clear hk hsz16 hde16
    refine wpList_nil ?_
    refine then_go ?_
    repeat with_reducible refine wp_seq ?_
    refine wp_region_goodg (tblG [(29, .int .i64 tn), (30, .int .u64 (IntKind.u64.wrap tn)), (31, .slice (some ⟨b, off, none⟩) n c), (32, .int .i64 (n : Int)), (33, .int .u64 (n : Int)), (34, .int .u64 ((IntKind.u64.wrap tn).tmod (n : Int))), (35, .int .i64 ((kk : Nat) : Int)), (36, .int .i64 hf), (37, .int .u64 (IntKind.u64.wrap hf)), (38, .slice (some ⟨b, off, none⟩) n c), (39, .int .i64 (n : Int)), (40, .int .u64 (n : Int)), (41, .int .u64 ((IntKind.u64.wrap hf).tmod (n : Int))), (42, .int .i64 ((hh : Nat) : Int)), (11, .int .i64 ((kk : Nat) : Int)), (12, .int .i64 ((hh : Nat) : Int))]) 107 (by kernel_rfl) (by kernel_rfl) (by kernel_rfl) (by kernel_rfl) hsz17.out ?_ ?_ ?_
    · intro t v7 x x' h _ _
      exact h
    · intro i7 o hi7 a x hbx hsame hpre K hK
      have hlt7 : i7 < 16 := (Array.getElem?_eq_some_iff.1 hi7).1
      rcases (show i7 = 0 ∨ i7 = 1 ∨ i7 = 2 ∨ i7 = 3 ∨ i7 = 4 ∨ i7 = 5 ∨ i7 = 6 ∨ i7 = 7 ∨ i7 = 8 ∨ i7 = 9 ∨ i7 = 10 ∨ i7 = 11 ∨ i7 = 12 ∨ i7 = 13 ∨ i7 = 14 ∨ i7 = 15 by omega) with rfl | rfl | rfl | rfl | rfl | rfl | rfl | rfl | rfl | rfl | rfl | rfl | rfl | rfl | rfl | rfl
      all_goals (have ho := Option.some.inj hi7; subst ho; clear hi7 hlt7)
      · have q1 : a.tmps[1]?.getD undef = .int .i64 tn := (hsame 1 (by decide +kernel)).trans f1
        refine step_plain rfl ?_
        have hk := Lib.hid (show ∀ v7 x', v7 = .int .i64 tn → Below x.heap.size x x' → K (a.put (some 29) v7) x' from hK)
        have Hbx := Lib.hid hbx
        clear hsame hpre hK hbx
        go_simp
        exact hk.out _ _ rfl (Below.refl _ _)
      · have q29 : a.tmps[29]?.getD undef = .int .i64 tn := hpre ⟨0, .data⟩ (by simp) rfl (by decide)
        refine step_plain rfl ?_
        have hk := Lib.hid (show ∀ v7 x', v7 = .int .u64 (IntKind.u64.wrap tn) → Below x.heap.size x x' → K (a.put (some 30) v7) x' from hK)
        have Hbx := Lib.hid hbx
        clear hsame hpre hK hbx
        go_simp
        exact hk.out _ _ rfl (Below.refl _ _)
      · have q0 : a.tmps[0]?.getD undef = .slice (some ⟨b, off, none⟩) n c := (hsame 0 (by decide +kernel)).trans f0
        refine step_plain rfl ?_
        have hk := Lib.hid (show ∀ v7 x', v7 = .slice (some ⟨b, off, none⟩) n c → Below x.heap.size x x' → K (a.put (some 31) v7) x' from hK)
        have Hbx := Lib.hid hbx
        clear hsame hpre hK hbx
        go_simp
        exact hk.out _ _ rfl (Below.refl _ _)
      · have q31 : a.tmps[31]?.getD undef = .slice (some ⟨b, off, none⟩) n c := hpre ⟨2, .data⟩ (by simp) rfl (by decide)
        refine step_plain rfl ?_
        have hk := Lib.hid (show ∀ v7 x', v7 = .int .i64 (n : Int) → Below x.heap.size x x' → K (a.put (some 32) v7) x' from hK)
        have Hbx := Lib.hid hbx
        clear hsame hpre hK hbx
        go_simp
        exact hk.out _ _ rfl (Below.refl _ _)
      · have q32 : a.tmps[32]?.getD undef = .int .i64 (n : Int) := hpre ⟨3, .data⟩ (by simp) rfl (by decide)
        refine step_plain rfl ?_
        have hk := Lib.hid (show ∀ v7 x', v7 = .int .u64 (n : Int) → Below x.heap.size x x' → K (a.put (some 33) v7) x' from hK)
        have Hbx := Lib.hid hbx
        clear hsame hpre hK hbx
        go_simp
        exact hk.out _ _ (by first | rfl | (rw [hwn])) (Below.refl _ _)
      · have q30 : a.tmps[30]?.getD undef = .int .u64 (IntKind.u64.wrap tn) := hpre ⟨1, .data⟩ (by simp) rfl (by decide)
        have q33 : a.tmps[33]?.getD undef = .int .u64 (n : Int) := hpre ⟨4, .data⟩ (by simp) rfl (by decide)
        refine step_plain rfl ?_
        have hk := Lib.hid (show ∀ v7 x', v7 = .int .u64 ((IntKind.u64.wrap tn).tmod (n : Int)) → Below x.heap.size x x' → K (a.put (some 34) v7) x' from hK)
        have Hbx := Lib.hid hbx
        clear hsame hpre hK hbx
        go_simp
        exact hk.out _ _ (by first | rfl | (congr 1; done)) (Below.refl _ _)
      · have q34 : a.tmps[34]?.getD undef = .int .u64 ((IntKind.u64.wrap tn).tmod (n : Int)) := hpre ⟨5, .data⟩ (by simp) rfl (by decide)
        refine step_plain rfl ?_
        have hk := Lib.hid (show ∀ v7 x', v7 = .int .i64 ((kk : Nat) : Int) → Below x.heap.size x x' → K (a.put (some 35) v7) x' from hK)
        have Hbx := Lib.hid hbx
        clear hsame hpre hK hbx
        go_simp
        exact hk.out _ _ (by first | rfl | (rw [Hke.out]) | (congr 1; exact Hke.out)) (Below.refl _ _)
      · have q2 : a.tmps[2]?.getD undef = .int .i64 hf := (hsame 2 (by decide +kernel)).trans f2
        refine step_plain rfl ?_
        have hk := Lib.hid (show ∀ v7 x', v7 = .int .i64 hf → Below x.heap.size x x' → K (a.put (some 36) v7) x' from hK)
        have Hbx := Lib.hid hbx
        clear hsame hpre hK hbx
        go_simp
        exact hk.out _ _ rfl (Below.refl _ _)
      · have q36 : a.tmps[36]?.getD undef = .int .i64 hf := hpre ⟨7, .data⟩ (by simp) rfl (by decide)
        refine step_plain rfl ?_
        have hk := Lib.hid (show ∀ v7 x', v7 = .int .u64 (IntKind.u64.wrap hf) → Below x.heap.size x x' → K (a.put (some 37) v7) x' from hK)
        have Hbx := Lib.hid hbx
        clear hsame hpre hK hbx
        go_simp
        exact hk.out _ _ rfl (Below.refl _ _)
      · have q0 : a.tmps[0]?.getD undef = .slice (some ⟨b, off, none⟩) n c := (hsame 0 (by decide +kernel)).trans f0
        refine step_plain rfl ?_
        have hk := Lib.hid (show ∀ v7 x', v7 = .slice (some ⟨b, off, none⟩) n c → Below x.heap.size x x' → K (a.put (some 38) v7) x' from hK)
        have Hbx := Lib.hid hbx
        clear hsame hpre hK hbx
        go_simp
        exact hk.out _ _ rfl (Below.refl _ _)
      · have q38 : a.tmps[38]?.getD undef = .slice (some ⟨b, off, none⟩) n c := hpre ⟨9, .data⟩ (by simp) rfl (by decide)
        refine step_plain rfl ?_
        have hk := Lib.hid (show ∀ v7 x', v7 = .int .i64 (n : Int) → Below x.heap.size x x' → K (a.put (some 39) v7) x' from hK)
        have Hbx := Lib.hid hbx
        clear hsame hpre hK hbx
        go_simp
        exact hk.out _ _ rfl (Below.refl _ _)
      · have q39 : a.tmps[39]?.getD undef = .int .i64 (n : Int) := hpre ⟨10, .data⟩ (by simp) rfl (by decide)
        refine step_plain rfl ?_
        have hk := Lib.hid (show ∀ v7 x', v7 = .int .u64 (n : Int) → Below x.heap.size x x' → K (a.put (some 40) v7) x' from hK)
        have Hbx := Lib.hid hbx
        clear hsame hpre hK hbx
        go_simp
        exact hk.out _ _ (by first | rfl | (rw [hwn])) (Below.refl _ _)
      · have q37 : a.tmps[37]?.getD undef = .int .u64 (IntKind.u64.wrap hf) := hpre ⟨8, .data⟩ (by simp) rfl (by decide)
        have q40 : a.tmps[40]?.getD undef = .int .u64 (n : Int) := hpre ⟨11, .data⟩ (by simp) rfl (by decide)
        refine step_plain rfl ?_
        have hk := Lib.hid (show ∀ v7 x', v7 = .int .u64 ((IntKind.u64.wrap hf).tmod (n : Int)) → Below x.heap.size x x' → K (a.put (some 41) v7) x' from hK)
        have Hbx := Lib.hid hbx
        clear hsame hpre hK hbx
        go_simp
        exact hk.out _ _ (by first | rfl | (congr 1; done)) (Below.refl _ _)
      · have q41 : a.tmps[41]?.getD undef = .int .u64 ((IntKind.u64.wrap hf).tmod (n : Int)) := hpre ⟨12, .data⟩ (by simp) rfl (by decide)
        refine step_plain rfl ?_
        have hk := Lib.hid (show ∀ v7 x', v7 = .int .i64 ((hh : Nat) : Int) → Below x.heap.size x x' → K (a.put (some 42) v7) x' from hK)
        have Hbx := Lib.hid hbx
        clear hsame hpre hK hbx
        go_simp
        exact hk.out _ _ (by first | rfl | (rw [Hhe.out]) | (congr 1; exact Hhe.out)) (Below.refl _ _)
      · have q35 : a.tmps[35]?.getD undef = .int .i64 ((kk : Nat) : Int) := hpre ⟨6, .data⟩ (by simp) rfl (by decide)
        refine step_plain rfl ?_
        have hk := Lib.hid (show ∀ v7 x', v7 = .int .i64 ((kk : Nat) : Int) → Below x.heap.size x x' → K (a.put (some 11) v7) x' from hK)
        have Hbx := Lib.hid hbx
        clear hsame hpre hK hbx
        go_simp
        exact hk.out _ _ rfl (Below.refl _ _)
      · have q42 : a.tmps[42]?.getD undef = .int .i64 ((hh : Nat) : Int) := hpre ⟨13, .data⟩ (by simp) rfl (by decide)
        refine step_plain rfl ?_
        have hk := Lib.hid (show ∀ v7 x', v7 = .int .i64 ((hh : Nat) : Int) → Below x.heap.size x x' → K (a.put (some 12) v7) x' from hK)
        have Hbx := Lib.hid hbx
        clear hsame hpre hK hbx
        go_simp
        exact hk.out _ _ rfl (Below.refl _ _)
    intro a18 x18 hbx hsame hG hsz18 hde18
    replace f0 := (hsame 0 (by decide +kernel)).trans f0
    replace f1 := (hsame 1 (by decide +kernel)).trans f1
    replace f2 := (hsame 2 (by decide +kernel)).trans f2
    replace f7 := (hsame 7 (by decide +kernel)).trans f7
    replace f8 := (hsame 8 (by decide +kernel)).trans f8
    replace f9 := (hsame 9 (by decide +kernel)).trans f9
    replace f10 := (hsame 10 (by decide +kernel)).trans f10
    have f11 : a18.tmps[11]?.getD undef = .int .i64 ((kk : Nat) : Int) := hG 14 (by decide)
    have f12 : a18.tmps[12]?.getD undef = .int .i64 ((hh : Nat) : Int) := hG 15 (by decide)
    have Hbx18 := Lib.hid hbx
    have hsz18h := Lib.hid hsz18
    have hde18h := Lib.hid (hde18.trans hde17.out)
    clear hsame hG hbx hsz18 hde18 hsz17 hde17
    clear hwn
    have Hn2b := Lib.hid (below_call Hb2.out Hbx18.out)
    have Hrow2 := Lib.hid (show ∀ j (hj : j < AA.length) z, Below x18.heap.size x18 z → z.rangeAt b (off + j * 18) (actC AA[j]).toList from fun j hj z hz => Hrow.out j hj z (below_call Hbx18.out hz))
    obtain ⟨wc, hwc⟩ : ∃ wc, wc = x18 := ⟨_, rfl⟩
    rw [← hwc] at Hrow2 Hn2b ⊢
    clear hwc Hrow Hbx18 Hke Hhe
    clear f1 f2
    refine then_go ?_
    repeat with_reducible refine wp_seq ?_
    refine wp_region_lit ?_
    refine wpList_next rfl hsz18h hde18h 43 rfl (by decide) fun K hK => ?_
    go_simp
    refine hK _ _ fun a19 hsz19 hde19 f43 hk => ?_
    clear hK K
    replace f0 := (hk 0 (by decide)).trans f0
    replace f7 := (hk 7 (by decide)).trans f7
    replace f8 := (hk 8 (by decide)).trans f8
    replace f9 := (hk 9 (by decide)).trans f9
    replace f10 := (hk 10 (by decide)).trans f10
    replace f11 := (hk 11 (by decide)).trans f11
    replace f12 := (hk 12 (by decide)).trans f12
    replace f43 : a19.tmps[43]?.getD undef = .slice (some ⟨b, off, none⟩) n c := f43
    clear hk hsz18h hde18h
    refine wpList_next rfl hsz19 hde19 44 rfl (by decide) fun K hK => ?_
    go_simp
    refine hK _ _ fun a20 hsz20 hde20 f44 hk => ?_
    clear hK K
    replace f0 := (hk 0 (by decide)).trans f0
    replace f7 := (hk 7 (by decide)).trans f7
    replace f8 := (hk 8 (by decide)).trans f8
    replace f9 := (hk 9 (by decide)).trans f9
    replace f10 := (hk 10 (by decide)).trans f10
    replace f11 := (hk 11 (by decide)).trans f11
    replace f12 := (hk 12 (by decide)).trans f12
    replace f43 := (hk 43 (by decide)).trans f43
    replace f44 : a20.tmps[44]?.getD undef = .int .i64 ((n : Nat) : Int) := f44
    clear hk hsz19 hde19
    refine wpList_next rfl hsz20 hde20 45 rfl (by decide) fun K hK => ?_
    go_simp
    refine hK _ _ fun a21 hsz21 hde21 f45 hk => ?_
    clear hK K
    replace f0 := (hk 0 (by decide)).trans f0
    replace f7 := (hk 7 (by decide)).trans f7
    replace f8 := (hk 8 (by decide)).trans f8
    replace f9 := (hk 9 (by decide)).trans f9
    replace f10 := (hk 10 (by decide)).trans f10
    replace f11 := (hk 11 (by decide)).trans f11
    replace f12 := (hk 12 (by decide)).trans f12
    replace f43 := (hk 43 (by decide)).trans f43
    replace f44 := (hk 44 (by decide)).trans f44
    replace f45 : a21.tmps[45]?.getD undef = .int .i64 ((0 : Nat) : Int) := f45
    clear hk hsz20 hde20
    refine wpList_nil ?_
    refine then_go ?_
    repeat with_reducible refine wp_seq ?_
    skip
    refine wp_block ?_
    refine wp_loop_ghost (MeInv wc (.slice (some ⟨b, off, none⟩) n c) AA kk hh n) (n - 0) ?_ ?_
    · exact ⟨0, _, _, _, _, hsz21, hde21, f0, f7, f8, f9, f10, f11, f12, f43, f44, f45, Lib.hid (by omega), Lib.hid IsL.nil, Lib.hid IsL.nil, Lib.hid IsL.nil, Lib.hid (by rw [Nat.zero_sub]; exact IsL.nil), Lib.hid (Below.refl _ _), rfl⟩
    clear hsz21 hde21 f0 f7 f8 f9 f10 f11 f12 f43 f44 f45
    intro n2 a19 wr hI
    obtain ⟨i, v7, v8, v9, v10, hsz19, hde19, f0, f7, f8, f9, f10, f11, f12, f43, f44, f45, Hi, H7, H8, H9, H10, Hbi, hn2⟩ := hI
    have Hn2 := Lib.hid hn2
    clear hn2
    repeat with_reducible refine wp_seq ?_
    by_cases hlt : i < n
    · skip
      refine wp_region_lit ?_
      refine wpList_next rfl hsz19 hde19 46 rfl (by decide) fun K hK => ?_
      go_simp
      refine hK _ _ fun a20 hsz20 hde20 f46 hk => ?_
      clear hK K
      replace f0 := (hk 0 (by decide)).trans f0
      replace f7 := (hk 7 (by decide)).trans f7
      replace f8 := (hk 8 (by decide)).trans f8
      replace f9 := (hk 9 (by decide)).trans f9
      replace f10 := (hk 10 (by decide)).trans f10
      replace f11 := (hk 11 (by decide)).trans f11
      replace f12 := (hk 12 (by decide)).trans f12
      replace f43 := (hk 43 (by decide)).trans f43
      replace f44 := (hk 44 (by decide)).trans f44
      replace f45 := (hk 45 (by decide)).trans f45
      clear hk hsz19 hde19
      replace f46 : a20.tmps[46]?.getD undef = .bool true := f46.trans (by first | rfl | (congr 1; first | exact decide_eq_true (by omega) | exact decide_eq_false (by omega)))
      refine wpList_nil ?_
      refine then_go ?_
      repeat with_reducible refine wp_seq ?_
      refine wp_cond_true (eval_at f46) ?_
      refine wp_skip ?_
      refine then_go ?_
      clear f46
      repeat with_reducible refine wp_seq ?_
      refine wp_block ?_
      repeat with_reducible refine wp_seq ?_
      have hil : i < AA.length := by rw [HAl.out]; exact hlt
      obtain ⟨X, hX⟩ : ∃ X, X = AA[i] := ⟨_, rfl⟩
      have HX := Lib.hid hX
      have HXm := Lib.hid (show X ∈ AA by rw [hX]; exact List.getElem_mem hil)
      obtain ⟨m, hm⟩ : ∃ m, m = (i + kk) % n := ⟨_, rfl⟩
      have hmn : m < n := by rw [hm]; exact Nat.mod_lt _ hn0
      have Hm := Lib.hid hm
      obtain ⟨t, ht⟩ : ∃ t, t = n - 1 - m := ⟨_, rfl⟩
      have htn : t < n := by omega
      have Ht := Lib.hid ht
      have htl : t < AA.length := by rw [HAl.out]; exact htn
      obtain ⟨Y, hY⟩ : ∃ Y, Y = AA[t] := ⟨_, rfl⟩
      have HYm := Lib.hid (show Y ∈ AA by rw [hY]; exact List.getElem_mem htl)
      have HYt := Lib.hid (show ∀ h : i < (turnA AA kk).length, (turnA AA kk)[i] = Y from fun h => by
        have hal := HAl.out
        rw [turn_get (by omega) (by omega) h (by rw [hal, ← Hm.out]; omega), hY]
        congr 1
        rw [hal, ← Hm.out, ← Ht.out])
      obtain ⟨CX, hCX⟩ : ∃ C, C = actC X := ⟨_, rfl⟩
      obtain ⟨CY, hCY⟩ : ∃ C, C = actC Y := ⟨_, rfl⟩
      have HrX := Lib.hid (show ∀ z, Below wc.heap.size wc z → z.rangeAt b (off + i * 18) CX.toList from fun z hz => by rw [hCX, hX]; exact Hrow2.out i hil z hz)
      have HrY := Lib.hid (show ∀ z, Below wc.heap.size wc z → z.rangeAt b (off + t * 18) CY.toList from fun z hz => by rw [hCY, hY]; exact Hrow2.out t htl z hz)
      have HinfX := Lib.hid (show (Tryd.prog.info? 53).map (·.size) = some CX.toList.length by rw [hCX]; exact act_info)
      have HinfXs := Lib.hid (show (Tryd.prog.info? 53).map (·.size) = some CX.size by rw [hCX]; exact act_info)
      have HinfY := Lib.hid (show (Tryd.prog.info? 53).map (·.size) = some CY.toList.length by rw [hCY]; exact act_info)
      have HoneX := Lib.hid (show CX.all (·.oneCell') = true by rw [hCX]; exact actC_one X)
      have hCXs : CX.size = 18 := by rw [hCX]; rfl
      have hi0 : (0 : Int) ≤ (i : Int) := by omega
      have hin : (i : Int) < (n : Int) := by omega
      have ht0 : (0 : Int) ≤ (t : Int) := by omega
      have htn2 : (t : Int) < (n : Int) := by omega
      have HdoX := Lib.hid (show ∀ (z : World) (u : Value) (B : List EAct), IsL kEnt z (fun _ => True) u (doesE B) → (∀ x ∈ B, x ∈ AA) → B.length ≤ 700 → Calls Tryd.prog 32 #[u, .agg CX] z _ from fun z u B hu hB hBl => by rw [hCX]; exact Hdo.out z u B X hu hB hBl HXm.out)
      have HdoY := Lib.hid (show ∀ (z : World) (u : Value) (B : List EAct), IsL kEnt z (fun _ => True) u (doesE B) → (∀ x ∈ B, x ∈ AA) → B.length ≤ 700 → Calls Tryd.prog 32 #[u, .agg CY] z _ from fun z u B hu hB hBl => by rw [hCY]; exact Hdo.out z u B Y hu hB hBl HYm.out)
      have hrem : ((i + kk : Nat) : Int).tmod (n : Int) = ((m : Nat) : Int) := by rw [hm]; rfl
      have hsub : (n : Int) - 1 - (m : Int) = (t : Int) := by omega
      have Hrem := Lib.hid hrem
      have Hsub := Lib.hid hsub
      have HCX := Lib.hid hCX
      clear hX hm ht hY hCX hCY hrem hsub
      refine wp_region_lit ?_
      refine wpList_next rfl hsz20 hde20 47 rfl (by decide) fun K hK => ?_
      go_simp
      refine hK _ _ fun a21 hsz21 hde21 f47 hk => ?_
      clear hK K
      replace f0 := (hk 0 (by decide)).trans f0
      replace f7 := (hk 7 (by decide)).trans f7
      replace f8 := (hk 8 (by decide)).trans f8
      replace f9 := (hk 9 (by decide)).trans f9
      replace f10 := (hk 10 (by decide)).trans f10
      replace f11 := (hk 11 (by decide)).trans f11
      replace f12 := (hk 12 (by decide)).trans f12
      replace f43 := (hk 43 (by decide)).trans f43
      replace f44 := (hk 44 (by decide)).trans f44
      replace f45 := (hk 45 (by decide)).trans f45
      replace f47 : a21.tmps[47]?.getD undef = .int .i64 ((i : Nat) : Int) := f47
      clear hk hsz20 hde20
      refine wpList_next rfl hsz21 hde21 48 rfl (by decide) fun K hK => ?_
      go_simp
      refine hK _ _ fun a22 hsz22 hde22 f48 hk => ?_
      clear hK K
      replace f0 := (hk 0 (by decide)).trans f0
      replace f7 := (hk 7 (by decide)).trans f7
      replace f8 := (hk 8 (by decide)).trans f8
      replace f9 := (hk 9 (by decide)).trans f9
      replace f10 := (hk 10 (by decide)).trans f10
      replace f11 := (hk 11 (by decide)).trans f11
      replace f12 := (hk 12 (by decide)).trans f12
      replace f43 := (hk 43 (by decide)).trans f43
      replace f44 := (hk 44 (by decide)).trans f44
      replace f45 := (hk 45 (by decide)).trans f45
      replace f47 := (hk 47 (by decide)).trans f47
      replace f48 : a22.tmps[48]?.getD undef = .pointer (some ⟨b, off + i * 18, none⟩) := f48
      clear hk hsz21 hde21
      refine wpList_next rfl hsz22 hde22 49 rfl (by decide) fun K hK => ?_
      refine wp_load_mid 53 (.tmp 48) rfl b (off + i * 18) (eval_at f48) CX.toList _ (HrX.out _ Hbi.out) Tryd.underlying53 rfl HinfX.out ?_
      refine hK _ _ fun a23 hsz23 hde23 f49 hk => ?_
      clear hK K
      replace f0 := (hk 0 (by decide)).trans f0
      replace f7 := (hk 7 (by decide)).trans f7
      replace f8 := (hk 8 (by decide)).trans f8
      replace f9 := (hk 9 (by decide)).trans f9
      replace f10 := (hk 10 (by decide)).trans f10
      replace f11 := (hk 11 (by decide)).trans f11
      replace f12 := (hk 12 (by decide)).trans f12
      replace f43 := (hk 43 (by decide)).trans f43
      replace f44 := (hk 44 (by decide)).trans f44
      replace f45 := (hk 45 (by decide)).trans f45
      replace f47 := (hk 47 (by decide)).trans f47
      replace f49 : a23.tmps[49]?.getD undef = .agg CX := f49
      clear hk hsz22 hde22 f48
      refine wpList_next rfl hsz23 hde23 14 rfl (by decide) fun K hK => ?_
      go_simp
      refine hK _ _ fun a24 hsz24 hde24 f14 hk => ?_
      clear hK K
      replace f0 := (hk 0 (by decide)).trans f0
      replace f7 := (hk 7 (by decide)).trans f7
      replace f8 := (hk 8 (by decide)).trans f8
      replace f9 := (hk 9 (by decide)).trans f9
      replace f10 := (hk 10 (by decide)).trans f10
      replace f11 := (hk 11 (by decide)).trans f11
      replace f12 := (hk 12 (by decide)).trans f12
      replace f43 := (hk 43 (by decide)).trans f43
      replace f44 := (hk 44 (by decide)).trans f44
      replace f45 := (hk 45 (by decide)).trans f45
      replace f47 := (hk 47 (by decide)).trans f47
      replace f49 := (hk 49 (by decide)).trans f49
      replace f14 : a24.tmps[14]?.getD undef = .pointer (some ⟨wr.heap.size, 0, none⟩) := f14
      clear hk hsz23 hde23
      refine wpList_next rfl hsz24 hde24 13 rfl (by decide) fun K hK => ?_
      go_simp
      refine hK _ _ fun a25 hsz25 hde25 f13 hk => ?_
      clear hK K
      replace f0 := (hk 0 (by decide)).trans f0
      replace f7 := (hk 7 (by decide)).trans f7
      replace f8 := (hk 8 (by decide)).trans f8
      replace f9 := (hk 9 (by decide)).trans f9
      replace f10 := (hk 10 (by decide)).trans f10
      replace f11 := (hk 11 (by decide)).trans f11
      replace f12 := (hk 12 (by decide)).trans f12
      replace f43 := (hk 43 (by decide)).trans f43
      replace f44 := (hk 44 (by decide)).trans f44
      replace f45 := (hk 45 (by decide)).trans f45
      replace f49 := (hk 49 (by decide)).trans f49
      replace f14 := (hk 14 (by decide)).trans f14
      replace f13 : a25.tmps[13]?.getD undef = .int .i64 ((i : Nat) : Int) := f13
      clear hk hsz24 hde24 f47
      refine wpList_next0 rfl rfl fun K hK => ?_
      refine wp_store_new 53 (.tmp 14) (.tmp 49) rfl zeroAct CX (eval_at f14) (eval_at f49) HinfXs.out (by rw [hCXs]; rfl) HoneX.out ?_
      refine hK undef _ ?_
      clear hK K
      clear f49
      refine wpList_nil ?_
      obtain ⟨p, hp⟩ : ∃ p, p = wr.heap.size := ⟨_, rfl⟩
      obtain ⟨wa, hwa⟩ : ∃ wa, wa = wr.alloc (.cells CX 53) := ⟨_, rfl⟩
      have hpb : Blk wa p 53 CX := by rw [hwa, hp]; exact Blk.new _ _ _
      have HrP := Lib.hid (show ∀ z, Below wa.heap.size wa z → z.rangeAt p 0 CX.toList from fun z hz => (hpb.grow hz).range _ _ fun j u hu => by rw [Nat.zero_add, ← Array.getElem?_toList]; exact hu)
      have Hba := Lib.hid (show Below wr.heap.size wr wa by rw [hwa]; exact (Below.refl _ _).alloc (Nat.le_refl _) _)
      rw [← hwa]
      rw [← hp] at f14
      clear hwa hp hpb
      refine then_go ?_
      repeat with_reducible refine wp_seq ?_
      refine wp_region_lit ?_
      refine wpList_next rfl hsz25 hde25 50 rfl (by decide) fun K hK => ?_
      go_simp
      refine hK _ _ fun a26 hsz26 hde26 f50 hk => ?_
      clear hK K
      replace f0 := (hk 0 (by decide)).trans f0
      replace f7 := (hk 7 (by decide)).trans f7
      replace f8 := (hk 8 (by decide)).trans f8
      replace f9 := (hk 9 (by decide)).trans f9
      replace f10 := (hk 10 (by decide)).trans f10
      replace f11 := (hk 11 (by decide)).trans f11
      replace f12 := (hk 12 (by decide)).trans f12
      replace f43 := (hk 43 (by decide)).trans f43
      replace f44 := (hk 44 (by decide)).trans f44
      replace f45 := (hk 45 (by decide)).trans f45
      replace f14 := (hk 14 (by decide)).trans f14
      replace f13 := (hk 13 (by decide)).trans f13
      replace f50 : a26.tmps[50]?.getD undef = v7 := f50
      clear hk hsz25 hde25
      refine wpList_next rfl hsz26 hde26 51 rfl (by decide) fun K hK => ?_
      refine wp_load_mid 53 (.tmp 14) rfl p 0 (eval_at f14) CX.toList _ (HrP.out _ (Below.refl _ _)) Tryd.underlying53 rfl HinfX.out ?_
      refine hK _ _ fun a27 hsz27 hde27 f51 hk => ?_
      clear hK K
      replace f0 := (hk 0 (by decide)).trans f0
      replace f7 := (hk 7 (by decide)).trans f7
      replace f8 := (hk 8 (by decide)).trans f8
      replace f9 := (hk 9 (by decide)).trans f9
      replace f10 := (hk 10 (by decide)).trans f10
      replace f11 := (hk 11 (by decide)).trans f11
      replace f12 := (hk 12 (by decide)).trans f12
      replace f43 := (hk 43 (by decide)).trans f43
      replace f44 := (hk 44 (by decide)).trans f44
      replace f45 := (hk 45 (by decide)).trans f45
      replace f14 := (hk 14 (by decide)).trans f14
      replace f13 := (hk 13 (by decide)).trans f13
      replace f50 := (hk 50 (by decide)).trans f50
      replace f51 : a27.tmps[51]?.getD undef = .agg CX := f51
      clear hk hsz26 hde26
      refine wpList_next rfl hsz27 hde27 52 rfl (by decide) fun K hK => ?_
      go_simp
      refine (HdoX.out wa v7 (AA.take i) (H7.out.grow Hba.out) (fun x hx => List.mem_of_mem_take hx) (by have := HAl.out; rw [List.length_take]; omega)).mono ?_
      rintro e5 w5 ⟨⟨u7, rfl, hu7⟩, hb5⟩
      go_simp
      refine hK _ _ fun a28 hsz28 hde28 f52 hk => ?_
      clear hK K
      replace f0 := (hk 0 (by decide)).trans f0
      replace f7 := (hk 7 (by decide)).trans f7
      replace f8 := (hk 8 (by decide)).trans f8
      replace f9 := (hk 9 (by decide)).trans f9
      replace f10 := (hk 10 (by decide)).trans f10
      replace f11 := (hk 11 (by decide)).trans f11
      replace f12 := (hk 12 (by decide)).trans f12
      replace f43 := (hk 43 (by decide)).trans f43
      replace f44 := (hk 44 (by decide)).trans f44
      replace f45 := (hk 45 (by decide)).trans f45
      replace f14 := (hk 14 (by decide)).trans f14
      replace f13 := (hk 13 (by decide)).trans f13
      replace f52 : a28.tmps[52]?.getD undef = u7 := f52
      clear hk hsz27 hde27 f50 f51
      have Hb5 := Lib.hid hb5
      have H7n := Lib.hid (show IsL kEnt w5 (fun _ => True) u7 (doesE (AA.take (i + 1))) by rw [does_take hil, ← HX.out]; exact hu7)
      clear hb5 hu7
      refine wpList_next rfl hsz28 hde28 7 rfl (by decide) fun K hK => ?_
      go_simp
      refine hK _ _ fun a29 hsz29 hde29 f7 hk => ?_
      clear hK K
      replace f0 := (hk 0 (by decide)).trans f0
      replace f8 := (hk 8 (by decide)).trans f8
      replace f9 := (hk 9 (by decide)).trans f9
      replace f10 := (hk 10 (by decide)).trans f10
      replace f11 := (hk 11 (by decide)).trans f11
      replace f12 := (hk 12 (by decide)).trans f12
      replace f43 := (hk 43 (by decide)).trans f43
      replace f44 := (hk 44 (by decide)).trans f44
      replace f45 := (hk 45 (by decide)).trans f45
      replace f14 := (hk 14 (by decide)).trans f14
      replace f13 := (hk 13 (by decide)).trans f13
      replace f7 : a29.tmps[7]?.getD undef = u7 := f7
      clear hk hsz28 hde28 f52
      refine wpList_nil ?_
      refine then_go ?_
      repeat with_reducible refine wp_seq ?_
      refine wp_region_lit ?_
      refine wpList_next rfl hsz29 hde29 53 rfl (by decide) fun K hK => ?_
      go_simp
      refine hK _ _ fun a30 hsz30 hde30 f53 hk => ?_
      clear hK K
      replace f0 := (hk 0 (by decide)).trans f0
      replace f8 := (hk 8 (by decide)).trans f8
      replace f9 := (hk 9 (by decide)).trans f9
      replace f10 := (hk 10 (by decide)).trans f10
      replace f11 := (hk 11 (by decide)).trans f11
      replace f12 := (hk 12 (by decide)).trans f12
      replace f43 := (hk 43 (by decide)).trans f43
      replace f44 := (hk 44 (by decide)).trans f44
      replace f45 := (hk 45 (by decide)).trans f45
      replace f14 := (hk 14 (by decide)).trans f14
      replace f13 := (hk 13 (by decide)).trans f13
      replace f7 := (hk 7 (by decide)).trans f7
      replace f53 : a30.tmps[53]?.getD undef = v8 := f53
      clear hk hsz29 hde29
      refine wpList_next rfl hsz30 hde30 54 rfl (by decide) fun K hK => ?_
      go_simp
      refine hK _ _ fun a31 hsz31 hde31 f54 hk => ?_
      clear hK K
      replace f0 := (hk 0 (by decide)).trans f0
      replace f8 := (hk 8 (by decide)).trans f8
      replace f9 := (hk 9 (by decide)).trans f9
      replace f10 := (hk 10 (by decide)).trans f10
      replace f11 := (hk 11 (by decide)).trans f11
      replace f12 := (hk 12 (by decide)).trans f12
      replace f43 := (hk 43 (by decide)).trans f43
      replace f44 := (hk 44 (by decide)).trans f44
      replace f45 := (hk 45 (by decide)).trans f45
      replace f14 := (hk 14 (by decide)).trans f14
      replace f13 := (hk 13 (by decide)).trans f13
      replace f7 := (hk 7 (by decide)).trans f7
      replace f53 := (hk 53 (by decide)).trans f53
      replace f54 : a31.tmps[54]?.getD undef = .slice (some ⟨b, off, none⟩) n c := f54
      clear hk hsz30 hde30
      refine wpList_next rfl hsz31 hde31 55 rfl (by decide) fun K hK => ?_
      go_simp
      refine hK _ _ fun a32 hsz32 hde32 f55 hk => ?_
      clear hK K
      replace f0 := (hk 0 (by decide)).trans f0
      replace f8 := (hk 8 (by decide)).trans f8
      replace f9 := (hk 9 (by decide)).trans f9
      replace f10 := (hk 10 (by decide)).trans f10
      replace f11 := (hk 11 (by decide)).trans f11
      replace f12 := (hk 12 (by decide)).trans f12
      replace f43 := (hk 43 (by decide)).trans f43
      replace f44 := (hk 44 (by decide)).trans f44
      replace f45 := (hk 45 (by decide)).trans f45
      replace f14 := (hk 14 (by decide)).trans f14
      replace f13 := (hk 13 (by decide)).trans f13
      replace f7 := (hk 7 (by decide)).trans f7
      replace f53 := (hk 53 (by decide)).trans f53
      replace f54 := (hk 54 (by decide)).trans f54
      replace f55 : a32.tmps[55]?.getD undef = .slice (some ⟨b, off, none⟩) n c := f55
      clear hk hsz31 hde31
      refine wpList_next rfl hsz32 hde32 56 rfl (by decide) fun K hK => ?_
      go_simp
      refine hK _ _ fun a33 hsz33 hde33 f56 hk => ?_
      clear hK K
      replace f0 := (hk 0 (by decide)).trans f0
      replace f8 := (hk 8 (by decide)).trans f8
      replace f9 := (hk 9 (by decide)).trans f9
      replace f10 := (hk 10 (by decide)).trans f10
      replace f11 := (hk 11 (by decide)).trans f11
      replace f12 := (hk 12 (by decide)).trans f12
      replace f43 := (hk 43 (by decide)).trans f43
      replace f44 := (hk 44 (by decide)).trans f44
      replace f45 := (hk 45 (by decide)).trans f45
      replace f14 := (hk 14 (by decide)).trans f14
      replace f13 := (hk 13 (by decide)).trans f13
      replace f7 := (hk 7 (by decide)).trans f7
      replace f53 := (hk 53 (by decide)).trans f53
      replace f54 := (hk 54 (by decide)).trans f54
      replace f56 : a33.tmps[56]?.getD undef = .int .i64 ((n : Nat) : Int) := f56
      clear hk hsz32 hde32 f55
      refine wpList_next rfl hsz33 hde33 57 rfl (by decide) fun K hK => ?_
      go_simp
      refine hK _ _ fun a34 hsz34 hde34 f57 hk => ?_
      clear hK K
      replace f0 := (hk 0 (by decide)).trans f0
      replace f8 := (hk 8 (by decide)).trans f8
      replace f9 := (hk 9 (by decide)).trans f9
      replace f10 := (hk 10 (by decide)).trans f10
      replace f11 := (hk 11 (by decide)).trans f11
      replace f12 := (hk 12 (by decide)).trans f12
      replace f43 := (hk 43 (by decide)).trans f43
      replace f44 := (hk 44 (by decide)).trans f44
      replace f45 := (hk 45 (by decide)).trans f45
      replace f14 := (hk 14 (by decide)).trans f14
      replace f13 := (hk 13 (by decide)).trans f13
      replace f7 := (hk 7 (by decide)).trans f7
      replace f53 := (hk 53 (by decide)).trans f53
      replace f54 := (hk 54 (by decide)).trans f54
      clear hk hsz33 hde33 f56
      replace f57 : a34.tmps[57]?.getD undef = .int .i64 ((n : Int) - 1) := f57.trans (by first | rfl | (congr 1; omega) | (congr 1; rw [IntKind.wrap_i64] <;> omega))
      refine wpList_next rfl hsz34 hde34 58 rfl (by decide) fun K hK => ?_
      go_simp
      refine hK _ _ fun a35 hsz35 hde35 f58 hk => ?_
      clear hK K
      replace f0 := (hk 0 (by decide)).trans f0
      replace f8 := (hk 8 (by decide)).trans f8
      replace f9 := (hk 9 (by decide)).trans f9
      replace f10 := (hk 10 (by decide)).trans f10
      replace f11 := (hk 11 (by decide)).trans f11
      replace f12 := (hk 12 (by decide)).trans f12
      replace f43 := (hk 43 (by decide)).trans f43
      replace f44 := (hk 44 (by decide)).trans f44
      replace f45 := (hk 45 (by decide)).trans f45
      replace f14 := (hk 14 (by decide)).trans f14
      replace f13 := (hk 13 (by decide)).trans f13
      replace f7 := (hk 7 (by decide)).trans f7
      replace f53 := (hk 53 (by decide)).trans f53
      replace f54 := (hk 54 (by decide)).trans f54
      replace f57 := (hk 57 (by decide)).trans f57
      replace f58 : a35.tmps[58]?.getD undef = .int .i64 ((i : Nat) : Int) := f58
      clear hk hsz34 hde34
      refine wpList_next rfl hsz35 hde35 59 rfl (by decide) fun K hK => ?_
      go_simp
      refine hK _ _ fun a36 hsz36 hde36 f59 hk => ?_
      clear hK K
      replace f0 := (hk 0 (by decide)).trans f0
      replace f8 := (hk 8 (by decide)).trans f8
      replace f9 := (hk 9 (by decide)).trans f9
      replace f10 := (hk 10 (by decide)).trans f10
      replace f11 := (hk 11 (by decide)).trans f11
      replace f12 := (hk 12 (by decide)).trans f12
      replace f43 := (hk 43 (by decide)).trans f43
      replace f44 := (hk 44 (by decide)).trans f44
      replace f45 := (hk 45 (by decide)).trans f45
      replace f14 := (hk 14 (by decide)).trans f14
      replace f13 := (hk 13 (by decide)).trans f13
      replace f7 := (hk 7 (by decide)).trans f7
      replace f53 := (hk 53 (by decide)).trans f53
      replace f54 := (hk 54 (by decide)).trans f54
      replace f57 := (hk 57 (by decide)).trans f57
      replace f58 := (hk 58 (by decide)).trans f58
      replace f59 : a36.tmps[59]?.getD undef = .int .i64 ((kk : Nat) : Int) := f59
      clear hk hsz35 hde35
      refine wpList_next rfl hsz36 hde36 60 rfl (by decide) fun K hK => ?_
      go_simp
      refine hK _ _ fun a37 hsz37 hde37 f60 hk => ?_
      clear hK K
      replace f0 := (hk 0 (by decide)).trans f0
      replace f8 := (hk 8 (by decide)).trans f8
      replace f9 := (hk 9 (by decide)).trans f9
      replace f10 := (hk 10 (by decide)).trans f10
      replace f11 := (hk 11 (by decide)).trans f11
      replace f12 := (hk 12 (by decide)).trans f12
      replace f43 := (hk 43 (by decide)).trans f43
      replace f44 := (hk 44 (by decide)).trans f44
      replace f45 := (hk 45 (by decide)).trans f45
      replace f14 := (hk 14 (by decide)).trans f14
      replace f13 := (hk 13 (by decide)).trans f13
      replace f7 := (hk 7 (by decide)).trans f7
      replace f53 := (hk 53 (by decide)).trans f53
      replace f54 := (hk 54 (by decide)).trans f54
      replace f57 := (hk 57 (by decide)).trans f57
      clear hk hsz36 hde36 f58 f59
      replace f60 : a37.tmps[60]?.getD undef = .int .i64 (((i + kk : Nat) : Int)) := f60.trans (by first | rfl | (congr 1; omega) | (congr 1; rw [IntKind.wrap_i64] <;> omega))
      refine wpList_next rfl hsz37 hde37 61 rfl (by decide) fun K hK => ?_
      go_simp
      refine hK _ _ fun a38 hsz38 hde38 f61 hk => ?_
      clear hK K
      replace f0 := (hk 0 (by decide)).trans f0
      replace f8 := (hk 8 (by decide)).trans f8
      replace f9 := (hk 9 (by decide)).trans f9
      replace f10 := (hk 10 (by decide)).trans f10
      replace f11 := (hk 11 (by decide)).trans f11
      replace f12 := (hk 12 (by decide)).trans f12
      replace f43 := (hk 43 (by decide)).trans f43
      replace f44 := (hk 44 (by decide)).trans f44
      replace f45 := (hk 45 (by decide)).trans f45
      replace f14 := (hk 14 (by decide)).trans f14
      replace f13 := (hk 13 (by decide)).trans f13
      replace f7 := (hk 7 (by decide)).trans f7
      replace f53 := (hk 53 (by decide)).trans f53
      replace f54 := (hk 54 (by decide)).trans f54
      replace f57 := (hk 57 (by decide)).trans f57
      replace f60 := (hk 60 (by decide)).trans f60
      replace f61 : a38.tmps[61]?.getD undef = .slice (some ⟨b, off, none⟩) n c := f61
      clear hk hsz37 hde37
      refine wpList_next rfl hsz38 hde38 62 rfl (by decide) fun K hK => ?_
      go_simp
      refine hK _ _ fun a39 hsz39 hde39 f62 hk => ?_
      clear hK K
      replace f0 := (hk 0 (by decide)).trans f0
      replace f8 := (hk 8 (by decide)).trans f8
      replace f9 := (hk 9 (by decide)).trans f9
      replace f10 := (hk 10 (by decide)).trans f10
      replace f11 := (hk 11 (by decide)).trans f11
      replace f12 := (hk 12 (by decide)).trans f12
      replace f43 := (hk 43 (by decide)).trans f43
      replace f44 := (hk 44 (by decide)).trans f44
      replace f45 := (hk 45 (by decide)).trans f45
      replace f14 := (hk 14 (by decide)).trans f14
      replace f13 := (hk 13 (by decide)).trans f13
      replace f7 := (hk 7 (by decide)).trans f7
      replace f53 := (hk 53 (by decide)).trans f53
      replace f54 := (hk 54 (by decide)).trans f54
      replace f57 := (hk 57 (by decide)).trans f57
      replace f60 := (hk 60 (by decide)).trans f60
      replace f62 : a39.tmps[62]?.getD undef = .int .i64 ((n : Nat) : Int) := f62
      clear hk hsz38 hde38 f61
      refine wpList_next rfl hsz39 hde39 63 rfl (by decide) fun K hK => ?_
      go_simp
      refine hK _ _ fun a40 hsz40 hde40 f63 hk => ?_
      clear hK K
      replace f0 := (hk 0 (by decide)).trans f0
      replace f8 := (hk 8 (by decide)).trans f8
      replace f9 := (hk 9 (by decide)).trans f9
      replace f10 := (hk 10 (by decide)).trans f10
      replace f11 := (hk 11 (by decide)).trans f11
      replace f12 := (hk 12 (by decide)).trans f12
      replace f43 := (hk 43 (by decide)).trans f43
      replace f44 := (hk 44 (by decide)).trans f44
      replace f45 := (hk 45 (by decide)).trans f45
      replace f14 := (hk 14 (by decide)).trans f14
      replace f13 := (hk 13 (by decide)).trans f13
      replace f7 := (hk 7 (by decide)).trans f7
      replace f53 := (hk 53 (by decide)).trans f53
      replace f54 := (hk 54 (by decide)).trans f54
      replace f57 := (hk 57 (by decide)).trans f57
      clear hk hsz39 hde39 f60 f62
      replace f63 : a40.tmps[63]?.getD undef = .int .i64 (((m : Nat) : Int)) := f63.trans (by have h7 := Hrem.out; first | (rw [h7]; done) | (congr 1; done) | (congr 1; exact h7) | (rw [h7]; congr 1; done) | (rw [h7]; congr 1; rw [IntKind.wrap_i64] <;> omega))
      refine wpList_next rfl hsz40 hde40 64 rfl (by decide) fun K hK => ?_
      go_simp
      refine hK _ _ fun a41 hsz41 hde41 f64 hk => ?_
      clear hK K
      replace f0 := (hk 0 (by decide)).trans f0
      replace f8 := (hk 8 (by decide)).trans f8
      replace f9 := (hk 9 (by decide)).trans f9
      replace f10 := (hk 10 (by decide)).trans f10
      replace f11 := (hk 11 (by decide)).trans f11
      replace f12 := (hk 12 (by decide)).trans f12
      replace f43 := (hk 43 (by decide)).trans f43
      replace f44 := (hk 44 (by decide)).trans f44
      replace f45 := (hk 45 (by decide)).trans f45
      replace f14 := (hk 14 (by decide)).trans f14
      replace f13 := (hk 13 (by decide)).trans f13
      replace f7 := (hk 7 (by decide)).trans f7
      replace f53 := (hk 53 (by decide)).trans f53
      replace f54 := (hk 54 (by decide)).trans f54
      clear hk hsz40 hde40 f57 f63
      replace f64 : a41.tmps[64]?.getD undef = .int .i64 (((t : Nat) : Int)) := f64.trans (by first | (congr 1; exact Hsub.out) | (congr 1; have h := Hsub.out; rw [IntKind.wrap_i64] <;> omega))
      refine wpList_next rfl hsz41 hde41 65 rfl (by decide) fun K hK => ?_
      go_simp
      refine hK _ _ fun a42 hsz42 hde42 f65 hk => ?_
      clear hK K
      replace f0 := (hk 0 (by decide)).trans f0
      replace f8 := (hk 8 (by decide)).trans f8
      replace f9 := (hk 9 (by decide)).trans f9
      replace f10 := (hk 10 (by decide)).trans f10
      replace f11 := (hk 11 (by decide)).trans f11
      replace f12 := (hk 12 (by decide)).trans f12
      replace f43 := (hk 43 (by decide)).trans f43
      replace f44 := (hk 44 (by decide)).trans f44
      replace f45 := (hk 45 (by decide)).trans f45
      replace f14 := (hk 14 (by decide)).trans f14
      replace f13 := (hk 13 (by decide)).trans f13
      replace f7 := (hk 7 (by decide)).trans f7
      replace f53 := (hk 53 (by decide)).trans f53
      replace f65 : a42.tmps[65]?.getD undef = .pointer (some ⟨b, off + t * 18, none⟩) := f65
      clear hk hsz41 hde41 f54 f64
      refine wpList_next rfl hsz42 hde42 66 rfl (by decide) fun K hK => ?_
      refine wp_load_mid 53 (.tmp 65) rfl b (off + t * 18) (eval_at f65) CY.toList _ (HrY.out _ (below_call (below_call Hbi.out Hba.out) Hb5.out)) Tryd.underlying53 rfl HinfY.out ?_
      refine hK _ _ fun a43 hsz43 hde43 f66 hk => ?_
      clear hK K
      replace f0 := (hk 0 (by decide)).trans f0
      replace f8 := (hk 8 (by decide)).trans f8
      replace f9 := (hk 9 (by decide)).trans f9
      replace f10 := (hk 10 (by decide)).trans f10
      replace f11 := (hk 11 (by decide)).trans f11
      replace f12 := (hk 12 (by decide)).trans f12
      replace f43 := (hk 43 (by decide)).trans f43
      replace f44 := (hk 44 (by decide)).trans f44
      replace f45 := (hk 45 (by decide)).trans f45
      replace f14 := (hk 14 (by decide)).trans f14
      replace f13 := (hk 13 (by decide)).trans f13
      replace f7 := (hk 7 (by decide)).trans f7
      replace f53 := (hk 53 (by decide)).trans f53
      replace f66 : a43.tmps[66]?.getD undef = .agg CY := f66
      clear hk hsz42 hde42 f65
      refine wpList_next rfl hsz43 hde43 67 rfl (by decide) fun K hK => ?_
      go_simp
      refine (HdoY.out w5 v8 ((turnA AA kk).take i) (H8.out.grow (below_call Hba.out Hb5.out)) (fun x hx => (turn_perm AA kk).mem_iff.2 (List.mem_of_mem_take hx)) (by rw [List.length_take]; have := turn_length AA kk; have := HAl.out; omega)).mono ?_
      rintro e6 w6 ⟨⟨u8, rfl, hu8⟩, hb6⟩
      go_simp
      refine hK _ _ fun a44 hsz44 hde44 f67 hk => ?_
      clear hK K
      replace f0 := (hk 0 (by decide)).trans f0
      replace f8 := (hk 8 (by decide)).trans f8
      replace f9 := (hk 9 (by decide)).trans f9
      replace f10 := (hk 10 (by decide)).trans f10
      replace f11 := (hk 11 (by decide)).trans f11
      replace f12 := (hk 12 (by decide)).trans f12
      replace f43 := (hk 43 (by decide)).trans f43
      replace f44 := (hk 44 (by decide)).trans f44
      replace f45 := (hk 45 (by decide)).trans f45
      replace f14 := (hk 14 (by decide)).trans f14
      replace f13 := (hk 13 (by decide)).trans f13
      replace f7 := (hk 7 (by decide)).trans f7
      replace f67 : a44.tmps[67]?.getD undef = u8 := f67
      clear hk hsz43 hde43 f53 f66
      have Hb6 := Lib.hid (below_call Hb5.out hb6)
      have H8n := Lib.hid (show IsL kEnt w6 (fun _ => True) u8 (doesE ((turnA AA kk).take (i + 1))) by
        have h7 : i < (turnA AA kk).length := by rw [turn_length]; exact hil
        rw [does_take h7, HYt.out h7]; exact hu8)
      have H7m := Lib.hid (H7n.out.grow hb6)
      clear hb6 hu8
      refine wpList_next rfl hsz44 hde44 8 rfl (by decide) fun K hK => ?_
      go_simp
      refine hK _ _ fun a45 hsz45 hde45 f8 hk => ?_
      clear hK K
      replace f0 := (hk 0 (by decide)).trans f0
      replace f9 := (hk 9 (by decide)).trans f9
      replace f10 := (hk 10 (by decide)).trans f10
      replace f11 := (hk 11 (by decide)).trans f11
      replace f12 := (hk 12 (by decide)).trans f12
      replace f43 := (hk 43 (by decide)).trans f43
      replace f44 := (hk 44 (by decide)).trans f44
      replace f45 := (hk 45 (by decide)).trans f45
      replace f14 := (hk 14 (by decide)).trans f14
      replace f13 := (hk 13 (by decide)).trans f13
      replace f7 := (hk 7 (by decide)).trans f7
      replace f8 : a45.tmps[8]?.getD undef = u8 := f8
      clear hk hsz44 hde44 f67
      refine wpList_nil ?_
      clear Hb5 H7n
      refine then_go ?_
      repeat with_reducible refine wp_seq ?_
      by_cases hih : i ≤ hh
      · skip
        refine wp_region_lit ?_
        refine wpList_next rfl hsz45 hde45 68 rfl (by decide) fun K hK => ?_
        go_simp
        refine hK _ _ fun a46 hsz46 hde46 f68 hk => ?_
        clear hK K
        replace f0 := (hk 0 (by decide)).trans f0
        replace f9 := (hk 9 (by decide)).trans f9
        replace f10 := (hk 10 (by decide)).trans f10
        replace f11 := (hk 11 (by decide)).trans f11
        replace f12 := (hk 12 (by decide)).trans f12
        replace f43 := (hk 43 (by decide)).trans f43
        replace f44 := (hk 44 (by decide)).trans f44
        replace f45 := (hk 45 (by decide)).trans f45
        replace f14 := (hk 14 (by decide)).trans f14
        replace f13 := (hk 13 (by decide)).trans f13
        replace f7 := (hk 7 (by decide)).trans f7
        replace f8 := (hk 8 (by decide)).trans f8
        replace f68 : a46.tmps[68]?.getD undef = .int .i64 ((i : Nat) : Int) := f68
        clear hk hsz45 hde45
        refine wpList_next rfl hsz46 hde46 69 rfl (by decide) fun K hK => ?_
        go_simp
        refine hK _ _ fun a47 hsz47 hde47 f69 hk => ?_
        clear hK K
        replace f0 := (hk 0 (by decide)).trans f0
        replace f9 := (hk 9 (by decide)).trans f9
        replace f10 := (hk 10 (by decide)).trans f10
        replace f11 := (hk 11 (by decide)).trans f11
        replace f12 := (hk 12 (by decide)).trans f12
        replace f43 := (hk 43 (by decide)).trans f43
        replace f44 := (hk 44 (by decide)).trans f44
        replace f45 := (hk 45 (by decide)).trans f45
        replace f14 := (hk 14 (by decide)).trans f14
        replace f13 := (hk 13 (by decide)).trans f13
        replace f7 := (hk 7 (by decide)).trans f7
        replace f8 := (hk 8 (by decide)).trans f8
        replace f68 := (hk 68 (by decide)).trans f68
        replace f69 : a47.tmps[69]?.getD undef = .int .i64 ((hh : Nat) : Int) := f69
        clear hk hsz46 hde46
        refine wpList_next rfl hsz47 hde47 70 rfl (by decide) fun K hK => ?_
        go_simp
        refine hK _ _ fun a48 hsz48 hde48 f70 hk => ?_
        clear hK K
        replace f0 := (hk 0 (by decide)).trans f0
        replace f9 := (hk 9 (by decide)).trans f9
        replace f10 := (hk 10 (by decide)).trans f10
        replace f11 := (hk 11 (by decide)).trans f11
        replace f12 := (hk 12 (by decide)).trans f12
        replace f43 := (hk 43 (by decide)).trans f43
        replace f44 := (hk 44 (by decide)).trans f44
        replace f45 := (hk 45 (by decide)).trans f45
        replace f14 := (hk 14 (by decide)).trans f14
        replace f13 := (hk 13 (by decide)).trans f13
        replace f7 := (hk 7 (by decide)).trans f7
        replace f8 := (hk 8 (by decide)).trans f8
        clear hk hsz47 hde47 f68 f69
        replace f70 : a48.tmps[70]?.getD undef = .bool true := f70.trans (by first | rfl | (congr 1; first | exact decide_eq_true (by omega) | exact decide_eq_false (by omega)))
        refine wpList_nil ?_
        refine then_go ?_
        repeat with_reducible refine wp_seq ?_
        refine wp_cond_true (eval_at f70) ?_
        clear f70
        refine wp_region_lit ?_
        refine wpList_next rfl hsz48 hde48 71 rfl (by decide) fun K hK => ?_
        go_simp
        refine hK _ _ fun a49 hsz49 hde49 f71 hk => ?_
        clear hK K
        replace f0 := (hk 0 (by decide)).trans f0
        replace f9 := (hk 9 (by decide)).trans f9
        replace f10 := (hk 10 (by decide)).trans f10
        replace f11 := (hk 11 (by decide)).trans f11
        replace f12 := (hk 12 (by decide)).trans f12
        replace f43 := (hk 43 (by decide)).trans f43
        replace f44 := (hk 44 (by decide)).trans f44
        replace f45 := (hk 45 (by decide)).trans f45
        replace f14 := (hk 14 (by decide)).trans f14
        replace f13 := (hk 13 (by decide)).trans f13
        replace f7 := (hk 7 (by decide)).trans f7
        replace f8 := (hk 8 (by decide)).trans f8
        replace f71 : a49.tmps[71]?.getD undef = v9 := f71
        clear hk hsz48 hde48
        refine wpList_next rfl hsz49 hde49 72 rfl (by decide) fun K hK => ?_
        refine wp_load_mid 53 (.tmp 14) rfl p 0 (eval_at f14) CX.toList _ (HrP.out _ Hb6.out) Tryd.underlying53 rfl HinfX.out ?_
        refine hK _ _ fun a50 hsz50 hde50 f72 hk => ?_
        clear hK K
        replace f0 := (hk 0 (by decide)).trans f0
        replace f9 := (hk 9 (by decide)).trans f9
        replace f10 := (hk 10 (by decide)).trans f10
        replace f11 := (hk 11 (by decide)).trans f11
        replace f12 := (hk 12 (by decide)).trans f12
        replace f43 := (hk 43 (by decide)).trans f43
        replace f44 := (hk 44 (by decide)).trans f44
        replace f45 := (hk 45 (by decide)).trans f45
        replace f14 := (hk 14 (by decide)).trans f14
        replace f13 := (hk 13 (by decide)).trans f13
        replace f7 := (hk 7 (by decide)).trans f7
        replace f8 := (hk 8 (by decide)).trans f8
        replace f71 := (hk 71 (by decide)).trans f71
        replace f72 : a50.tmps[72]?.getD undef = .agg CX := f72
        clear hk hsz49 hde49
        refine wpList_next rfl hsz50 hde50 73 rfl (by decide) fun K hK => ?_
        go_simp
        refine (HdoX.out w6 v9 ((AA.take (hh + 1)).take i) (H9.out.grow (below_call Hba.out Hb6.out)) (fun x hx => List.mem_of_mem_take (List.mem_of_mem_take hx)) (by have := HAl.out; rw [List.length_take, List.length_take]; omega)).mono ?_
        rintro e7 w7 ⟨⟨u9, rfl, hu9⟩, hb7⟩
        go_simp
        refine hK _ _ fun a51 hsz51 hde51 f73 hk => ?_
        clear hK K
        replace f0 := (hk 0 (by decide)).trans f0
        replace f9 := (hk 9 (by decide)).trans f9
        replace f10 := (hk 10 (by decide)).trans f10
        replace f11 := (hk 11 (by decide)).trans f11
        replace f12 := (hk 12 (by decide)).trans f12
        replace f43 := (hk 43 (by decide)).trans f43
        replace f44 := (hk 44 (by decide)).trans f44
        replace f45 := (hk 45 (by decide)).trans f45
        replace f14 := (hk 14 (by decide)).trans f14
        replace f13 := (hk 13 (by decide)).trans f13
        replace f7 := (hk 7 (by decide)).trans f7
        replace f8 := (hk 8 (by decide)).trans f8
        replace f73 : a51.tmps[73]?.getD undef = u9 := f73
        clear hk hsz50 hde50 f71 f72
        have Hb7 := Lib.hid hb7
        have H9n := Lib.hid (show IsL kEnt w7 (fun _ => True) u9 (doesE ((AA.take (hh + 1)).take (i + 1))) by
          have h7 : i < (AA.take (hh + 1)).length := by rw [List.length_take]; omega
          rw [does_take h7, List.getElem_take, ← HX.out]; exact hu9)
        have H10n := Lib.hid (show IsL kEnt w7 (fun _ => True) v10 (doesE ((AA.drop (hh + 1)).take (i + 1 - (hh + 1)))) by
          have h7 := H10.out.grow (below_call (below_call Hba.out Hb6.out) hb7)
          rw [show i - (hh + 1) = i + 1 - (hh + 1) by omega] at h7
          exact h7)
        clear hb7 hu9
        refine wpList_next rfl hsz51 hde51 9 rfl (by decide) fun K hK => ?_
        go_simp
        refine hK _ _ fun a52 hsz52 hde52 f9 hk => ?_
        clear hK K
        replace f0 := (hk 0 (by decide)).trans f0
        replace f10 := (hk 10 (by decide)).trans f10
        replace f11 := (hk 11 (by decide)).trans f11
        replace f12 := (hk 12 (by decide)).trans f12
        replace f43 := (hk 43 (by decide)).trans f43
        replace f44 := (hk 44 (by decide)).trans f44
        replace f45 := (hk 45 (by decide)).trans f45
        replace f14 := (hk 14 (by decide)).trans f14
        replace f13 := (hk 13 (by decide)).trans f13
        replace f7 := (hk 7 (by decide)).trans f7
        replace f8 := (hk 8 (by decide)).trans f8
        replace f9 : a52.tmps[9]?.getD undef = u9 := f9
        clear hk hsz51 hde51 f73
        refine wpList_nil ?_
        refine block_go ?_
        refine then_go ?_
        clear f13 f14
        repeat with_reducible refine wp_seq ?_
        refine wp_region_lit ?_
        refine wpList_next rfl hsz52 hde52 77 rfl (by decide) fun K hK => ?_
        go_simp
        refine hK _ _ fun a53 hsz53 hde53 f77 hk => ?_
        clear hK K
        replace f0 := (hk 0 (by decide)).trans f0
        replace f10 := (hk 10 (by decide)).trans f10
        replace f11 := (hk 11 (by decide)).trans f11
        replace f12 := (hk 12 (by decide)).trans f12
        replace f43 := (hk 43 (by decide)).trans f43
        replace f44 := (hk 44 (by decide)).trans f44
        replace f45 := (hk 45 (by decide)).trans f45
        replace f7 := (hk 7 (by decide)).trans f7
        replace f8 := (hk 8 (by decide)).trans f8
        replace f9 := (hk 9 (by decide)).trans f9
        clear hk hsz52 hde52
        replace f77 : a53.tmps[77]?.getD undef = .int .i64 ((i + 1 : Nat) : Int) := f77.trans (by first | (congr 1; done) | (congr 1; rw [IntKind.wrap_i64] <;> omega))
        refine wpList_next rfl hsz53 hde53 45 rfl (by decide) fun K hK => ?_
        go_simp
        refine hK _ _ fun a54 hsz54 hde54 f45 hk => ?_
        clear hK K
        replace f0 := (hk 0 (by decide)).trans f0
        replace f10 := (hk 10 (by decide)).trans f10
        replace f11 := (hk 11 (by decide)).trans f11
        replace f12 := (hk 12 (by decide)).trans f12
        replace f43 := (hk 43 (by decide)).trans f43
        replace f44 := (hk 44 (by decide)).trans f44
        replace f7 := (hk 7 (by decide)).trans f7
        replace f8 := (hk 8 (by decide)).trans f8
        replace f9 := (hk 9 (by decide)).trans f9
        replace f45 : a54.tmps[45]?.getD undef = .int .i64 ((i + 1 : Nat) : Int) := f45
        clear hk hsz53 hde53 f77
        refine wpList_nil ?_
        refine then_go ?_
        exact ⟨n - (i + 1), by rw [Hn2.out]; omega, i + 1, u7, u8, u9, v10, hsz54, hde54, f0, f7, f8, f9, f10, f11, f12, f43, f44, f45, Lib.hid (by omega), Lib.hid (H7m.out.grow Hb7.out), Lib.hid (H8n.out.grow Hb7.out), H9n, H10n, Lib.hid (below_call (below_call Hbi.out Hba.out) (below_call Hb6.out Hb7.out)), rfl⟩
      refine wp_region_lit ?_
      refine wpList_next rfl hsz45 hde45 68 rfl (by decide) fun K hK => ?_
      go_simp
      refine hK _ _ fun a46 hsz46 hde46 f68 hk => ?_
      clear hK K
      replace f0 := (hk 0 (by decide)).trans f0
      replace f9 := (hk 9 (by decide)).trans f9
      replace f10 := (hk 10 (by decide)).trans f10
      replace f11 := (hk 11 (by decide)).trans f11
      replace f12 := (hk 12 (by decide)).trans f12
      replace f43 := (hk 43 (by decide)).trans f43
      replace f44 := (hk 44 (by decide)).trans f44
      replace f45 := (hk 45 (by decide)).trans f45
      replace f14 := (hk 14 (by decide)).trans f14
      replace f13 := (hk 13 (by decide)).trans f13
      replace f7 := (hk 7 (by decide)).trans f7
      replace f8 := (hk 8 (by decide)).trans f8
      replace f68 : a46.tmps[68]?.getD undef = .int .i64 ((i : Nat) : Int) := f68
      clear hk hsz45 hde45
      refine wpList_next rfl hsz46 hde46 69 rfl (by decide) fun K hK => ?_
      go_simp
      refine hK _ _ fun a47 hsz47 hde47 f69 hk => ?_
      clear hK K
      replace f0 := (hk 0 (by decide)).trans f0
      replace f9 := (hk 9 (by decide)).trans f9
      replace f10 := (hk 10 (by decide)).trans f10
      replace f11 := (hk 11 (by decide)).trans f11
      replace f12 := (hk 12 (by decide)).trans f12
      replace f43 := (hk 43 (by decide)).trans f43
      replace f44 := (hk 44 (by decide)).trans f44
      replace f45 := (hk 45 (by decide)).trans f45
      replace f14 := (hk 14 (by decide)).trans f14
      replace f13 := (hk 13 (by decide)).trans f13
      replace f7 := (hk 7 (by decide)).trans f7
      replace f8 := (hk 8 (by decide)).trans f8
      replace f68 := (hk 68 (by decide)).trans f68
      replace f69 : a47.tmps[69]?.getD undef = .int .i64 ((hh : Nat) : Int) := f69
      clear hk hsz46 hde46
      refine wpList_next rfl hsz47 hde47 70 rfl (by decide) fun K hK => ?_
      go_simp
      refine hK _ _ fun a48 hsz48 hde48 f70 hk => ?_
      clear hK K
      replace f0 := (hk 0 (by decide)).trans f0
      replace f9 := (hk 9 (by decide)).trans f9
      replace f10 := (hk 10 (by decide)).trans f10
      replace f11 := (hk 11 (by decide)).trans f11
      replace f12 := (hk 12 (by decide)).trans f12
      replace f43 := (hk 43 (by decide)).trans f43
      replace f44 := (hk 44 (by decide)).trans f44
      replace f45 := (hk 45 (by decide)).trans f45
      replace f14 := (hk 14 (by decide)).trans f14
      replace f13 := (hk 13 (by decide)).trans f13
      replace f7 := (hk 7 (by decide)).trans f7
      replace f8 := (hk 8 (by decide)).trans f8
      clear hk hsz47 hde47 f68 f69
      replace f70 : a48.tmps[70]?.getD undef = .bool false := f70.trans (by first | rfl | (congr 1; first | exact decide_eq_true (by omega) | exact decide_eq_false (by omega)))
      refine wpList_nil ?_
      refine then_go ?_
      repeat with_reducible refine wp_seq ?_
      refine wp_cond_false (eval_at f70) ?_
      clear f70
      refine wp_region_lit ?_
      refine wpList_next rfl hsz48 hde48 74 rfl (by decide) fun K hK => ?_
      go_simp
      refine hK _ _ fun a49 hsz49 hde49 f74 hk => ?_
      clear hK K
      replace f0 := (hk 0 (by decide)).trans f0
      replace f9 := (hk 9 (by decide)).trans f9
      replace f10 := (hk 10 (by decide)).trans f10
      replace f11 := (hk 11 (by decide)).trans f11
      replace f12 := (hk 12 (by decide)).trans f12
      replace f43 := (hk 43 (by decide)).trans f43
      replace f44 := (hk 44 (by decide)).trans f44
      replace f45 := (hk 45 (by decide)).trans f45
      replace f14 := (hk 14 (by decide)).trans f14
      replace f13 := (hk 13 (by decide)).trans f13
      replace f7 := (hk 7 (by decide)).trans f7
      replace f8 := (hk 8 (by decide)).trans f8
      replace f74 : a49.tmps[74]?.getD undef = v10 := f74
      clear hk hsz48 hde48
      refine wpList_next rfl hsz49 hde49 75 rfl (by decide) fun K hK => ?_
      refine wp_load_mid 53 (.tmp 14) rfl p 0 (eval_at f14) CX.toList _ (HrP.out _ Hb6.out) Tryd.underlying53 rfl HinfX.out ?_
      refine hK _ _ fun a50 hsz50 hde50 f75 hk => ?_
      clear hK K
      replace f0 := (hk 0 (by decide)).trans f0
      replace f9 := (hk 9 (by decide)).trans f9
      replace f10 := (hk 10 (by decide)).trans f10
      replace f11 := (hk 11 (by decide)).trans f11
      replace f12 := (hk 12 (by decide)).trans f12
      replace f43 := (hk 43 (by decide)).trans f43
      replace f44 := (hk 44 (by decide)).trans f44
      replace f45 := (hk 45 (by decide)).trans f45
      replace f14 := (hk 14 (by decide)).trans f14
      replace f13 := (hk 13 (by decide)).trans f13
      replace f7 := (hk 7 (by decide)).trans f7
      replace f8 := (hk 8 (by decide)).trans f8
      replace f74 := (hk 74 (by decide)).trans f74
      replace f75 : a50.tmps[75]?.getD undef = .agg CX := f75
      clear hk hsz49 hde49
      refine wpList_next rfl hsz50 hde50 76 rfl (by decide) fun K hK => ?_
      go_simp
      refine (HdoX.out w6 v10 ((AA.drop (hh + 1)).take (i - (hh + 1))) (H10.out.grow (below_call Hba.out Hb6.out)) (fun x hx => List.mem_of_mem_drop (List.mem_of_mem_take hx)) (by have := HAl.out; rw [List.length_take, List.length_drop]; omega)).mono ?_
      rintro e7 w7 ⟨⟨u10, rfl, hu10⟩, hb7⟩
      go_simp
      refine hK _ _ fun a51 hsz51 hde51 f76 hk => ?_
      clear hK K
      replace f0 := (hk 0 (by decide)).trans f0
      replace f9 := (hk 9 (by decide)).trans f9
      replace f10 := (hk 10 (by decide)).trans f10
      replace f11 := (hk 11 (by decide)).trans f11
      replace f12 := (hk 12 (by decide)).trans f12
      replace f43 := (hk 43 (by decide)).trans f43
      replace f44 := (hk 44 (by decide)).trans f44
      replace f45 := (hk 45 (by decide)).trans f45
      replace f14 := (hk 14 (by decide)).trans f14
      replace f13 := (hk 13 (by decide)).trans f13
      replace f7 := (hk 7 (by decide)).trans f7
      replace f8 := (hk 8 (by decide)).trans f8
      replace f76 : a51.tmps[76]?.getD undef = u10 := f76
      clear hk hsz50 hde50 f74 f75
      have Hb7 := Lib.hid hb7
      have H10n := Lib.hid (show IsL kEnt w7 (fun _ => True) u10 (doesE ((AA.drop (hh + 1)).take (i + 1 - (hh + 1)))) by
        have h7 : i - (hh + 1) < (AA.drop (hh + 1)).length := by rw [List.length_drop]; omega
        have h8 : (AA.drop (hh + 1))[i - (hh + 1)] = X := by rw [List.getElem_drop, HX.out]; congr 1; omega
        rw [show i + 1 - (hh + 1) = i - (hh + 1) + 1 by omega, does_take h7, h8]; exact hu10)
      have H9n := Lib.hid (show IsL kEnt w7 (fun _ => True) v9 (doesE ((AA.take (hh + 1)).take (i + 1))) by
        have h7 := H9.out.grow (below_call (below_call Hba.out Hb6.out) hb7)
        rw [List.take_of_length_le (by rw [List.length_take]; omega)] at h7 ⊢
        exact h7)
      clear hb7 hu10
      refine wpList_next rfl hsz51 hde51 10 rfl (by decide) fun K hK => ?_
      go_simp
      refine hK _ _ fun a52 hsz52 hde52 f10 hk => ?_
      clear hK K
      replace f0 := (hk 0 (by decide)).trans f0
      replace f9 := (hk 9 (by decide)).trans f9
      replace f11 := (hk 11 (by decide)).trans f11
      replace f12 := (hk 12 (by decide)).trans f12
      replace f43 := (hk 43 (by decide)).trans f43
      replace f44 := (hk 44 (by decide)).trans f44
      replace f45 := (hk 45 (by decide)).trans f45
      replace f14 := (hk 14 (by decide)).trans f14
      replace f13 := (hk 13 (by decide)).trans f13
      replace f7 := (hk 7 (by decide)).trans f7
      replace f8 := (hk 8 (by decide)).trans f8
      replace f10 : a52.tmps[10]?.getD undef = u10 := f10
      clear hk hsz51 hde51 f76
      refine wpList_nil ?_
      refine block_go ?_
      refine then_go ?_
      clear f13 f14
      repeat with_reducible refine wp_seq ?_
      refine wp_region_lit ?_
      refine wpList_next rfl hsz52 hde52 77 rfl (by decide) fun K hK => ?_
      go_simp
      refine hK _ _ fun a53 hsz53 hde53 f77 hk => ?_
      clear hK K
      replace f0 := (hk 0 (by decide)).trans f0
      replace f9 := (hk 9 (by decide)).trans f9
      replace f11 := (hk 11 (by decide)).trans f11
      replace f12 := (hk 12 (by decide)).trans f12
      replace f43 := (hk 43 (by decide)).trans f43
      replace f44 := (hk 44 (by decide)).trans f44
      replace f45 := (hk 45 (by decide)).trans f45
      replace f7 := (hk 7 (by decide)).trans f7
      replace f8 := (hk 8 (by decide)).trans f8
      replace f10 := (hk 10 (by decide)).trans f10
      clear hk hsz52 hde52
      replace f77 : a53.tmps[77]?.getD undef = .int .i64 ((i + 1 : Nat) : Int) := f77.trans (by first | (congr 1; done) | (congr 1; rw [IntKind.wrap_i64] <;> omega))
      refine wpList_next rfl hsz53 hde53 45 rfl (by decide) fun K hK => ?_
      go_simp
      refine hK _ _ fun a54 hsz54 hde54 f45 hk => ?_
      clear hK K
      replace f0 := (hk 0 (by decide)).trans f0
      replace f9 := (hk 9 (by decide)).trans f9
      replace f11 := (hk 11 (by decide)).trans f11
      replace f12 := (hk 12 (by decide)).trans f12
      replace f43 := (hk 43 (by decide)).trans f43
      replace f44 := (hk 44 (by decide)).trans f44
      replace f7 := (hk 7 (by decide)).trans f7
      replace f8 := (hk 8 (by decide)).trans f8
      replace f10 := (hk 10 (by decide)).trans f10
      replace f45 : a54.tmps[45]?.getD undef = .int .i64 ((i + 1 : Nat) : Int) := f45
      clear hk hsz53 hde53 f77
      refine wpList_nil ?_
      refine then_go ?_
      exact ⟨n - (i + 1), by rw [Hn2.out]; omega, i + 1, u7, u8, v9, u10, hsz54, hde54, f0, f7, f8, f9, f10, f11, f12, f43, f44, f45, Lib.hid (by omega), Lib.hid (H7m.out.grow Hb7.out), Lib.hid (H8n.out.grow Hb7.out), H9n, H10n, Lib.hid (below_call (below_call Hbi.out Hba.out) (below_call Hb6.out Hb7.out)), rfl⟩
    refine wp_region_lit ?_
    refine wpList_next rfl hsz19 hde19 46 rfl (by decide) fun K hK => ?_
    go_simp
    refine hK _ _ fun a20 hsz20 hde20 f46 hk => ?_
    clear hK K
    replace f0 := (hk 0 (by decide)).trans f0
    replace f7 := (hk 7 (by decide)).trans f7
    replace f8 := (hk 8 (by decide)).trans f8
    replace f9 := (hk 9 (by decide)).trans f9
    replace f10 := (hk 10 (by decide)).trans f10
    replace f11 := (hk 11 (by decide)).trans f11
    replace f12 := (hk 12 (by decide)).trans f12
    replace f43 := (hk 43 (by decide)).trans f43
    replace f44 := (hk 44 (by decide)).trans f44
    replace f45 := (hk 45 (by decide)).trans f45
    clear hk hsz19 hde19
    replace f46 : a20.tmps[46]?.getD undef = .bool false := f46.trans (by first | rfl | (congr 1; first | exact decide_eq_true (by omega) | exact decide_eq_false (by omega)))
    refine wpList_nil ?_
    refine then_go ?_
    repeat with_reducible refine wp_seq ?_
    refine wp_cond_false (eval_at f46) ?_
    refine wp_exit ?_
    repeat with_reducible refine then_exit ?_
    refine block_exit ?_
    refine then_go ?_
    clear f46 f0 f11 f12 f43 f44 f45
    repeat with_reducible refine wp_seq ?_
    obtain rfl : i = n := by have := Hi.out; omega
    obtain ⟨wd, hwd⟩ : ∃ wd, wd = wr := ⟨_, rfl⟩
    rw [← hwd] at H7 H8 H9 H10 Hbi ⊢
    clear hwd
    have hal := HAl.out
    obtain ⟨e1, e2, e3, e4⟩ := HM.out
    have h7 := H7.out
    rw [List.take_of_length_le (by omega)] at h7
    have h8 := H8.out
    rw [List.take_of_length_le (by rw [turn_length]; omega), e1] at h8
    have h9 := H9.out
    rw [List.take_of_length_le (by rw [List.length_take]; omega)] at h9
    have h10 := H10.out
    rw [List.take_of_length_le (by rw [List.length_drop]; omega)] at h10
    have l1 := does_length AA
    have l2 := does_length (AA.take (hh + 1))
    have l3 := does_length (AA.drop (hh + 1))
    rw [List.length_take] at l2
    rw [List.length_drop] at l3
    have d1 := does_data Hdt.out
    have d2 := does_data (A := AA.take (hh + 1)) (n := 1000) fun x hx => Hdt.out x (List.mem_of_mem_take hx)
    have d3 := does_data (A := AA.drop (hh + 1)) (n := 1000) fun x hx => Hdt.out x (List.mem_of_mem_drop hx)
    have s1 := sorted_does AA
    obtain ⟨R, hR⟩ : ∃ R, R = doesE AA := ⟨_, rfl⟩
    obtain ⟨P1, hP1⟩ : ∃ R, R = doesE (AA.take (hh + 1)) := ⟨_, rfl⟩
    obtain ⟨P2, hP2⟩ : ∃ R, R = doesE (AA.drop (hh + 1)) := ⟨_, rfl⟩
    rw [← hR] at h7 h8 e2 e3 e4 l1 d1 s1
    rw [← hP1] at h9 e2 e3 e4 l2 d2
    rw [← hP2] at h10 e2 e3 l3 d3
    have K7 := Lib.hid h7
    have K8 := Lib.hid h8
    have K9 := Lib.hid h9
    have K10 := Lib.hid h10
    have E2 := Lib.hid e2
    have E3 := Lib.hid e3
    have E4 := Lib.hid e4
    have LL := Lib.hid (show R.length ≤ 30 ∧ P1.length ≤ 30 ∧ P2.length ≤ 30 by omega)
    have D1 := Lib.hid d1
    have D2 := Lib.hid d2
    have D3 := Lib.hid d3
    have S1 := Lib.hid s1
    clear e1 e2 e3 e4 h7 h8 h9 h10 l1 l2 l3 d1 d2 d3 s1 hR hP1 hP2 H7 H8 H9 H10 HM Hdo Hok Hdt hal hnz
    refine wp_region_lit ?_
    refine wpList_next rfl hsz20 hde20 78 rfl (by decide) fun K hK => ?_
    go_simp
    refine hK _ _ fun a21 hsz21 hde21 f78 hk => ?_
    clear hK K
    replace f7 := (hk 7 (by decide)).trans f7
    replace f8 := (hk 8 (by decide)).trans f8
    replace f9 := (hk 9 (by decide)).trans f9
    replace f10 := (hk 10 (by decide)).trans f10
    replace f78 : a21.tmps[78]?.getD undef = v9 := f78
    clear hk hsz20 hde20
    refine wpList_next rfl hsz21 hde21 79 rfl (by decide) fun K hK => ?_
    go_simp
    refine hK _ _ fun a22 hsz22 hde22 f79 hk => ?_
    clear hK K
    replace f7 := (hk 7 (by decide)).trans f7
    replace f8 := (hk 8 (by decide)).trans f8
    replace f9 := (hk 9 (by decide)).trans f9
    replace f10 := (hk 10 (by decide)).trans f10
    replace f78 := (hk 78 (by decide)).trans f78
    replace f79 : a22.tmps[79]?.getD undef = v10 := f79
    clear hk hsz21 hde21
    refine wpList_next rfl hsz22 hde22 80 rfl (by decide) fun K hK => ?_
    go_simp
    refine (ejoin_any _ _ _ _ P1 P2 _ K9.out K10.out (by have := LL.out; omega) D2.out D3.out).mono ?_
    rintro e1 w3 ⟨⟨u15, rfl, hown3⟩, hb3⟩
    go_simp
    refine hK _ _ fun a23 hsz23 hde23 f80 hk => ?_
    clear hK K
    replace f7 := (hk 7 (by decide)).trans f7
    replace f8 := (hk 8 (by decide)).trans f8
    replace f9 := (hk 9 (by decide)).trans f9
    replace f10 := (hk 10 (by decide)).trans f10
    replace f80 : a23.tmps[80]?.getD undef = u15 := f80
    clear hk hsz22 hde22 f78 f79
    rw [E2.out] at hown3
    have K15 := Lib.hid hown3.isL
    have Hc3 := Lib.hid hb3
    clear hown3 hb3
    refine wpList_next rfl hsz23 hde23 15 rfl (by decide) fun K hK => ?_
    go_simp
    refine hK _ _ fun a24 hsz24 hde24 f15 hk => ?_
    clear hK K
    replace f7 := (hk 7 (by decide)).trans f7
    replace f8 := (hk 8 (by decide)).trans f8
    replace f9 := (hk 9 (by decide)).trans f9
    replace f10 := (hk 10 (by decide)).trans f10
    replace f15 : a24.tmps[15]?.getD undef = u15 := f15
    clear hk hsz23 hde23 f80
    refine wpList_nil ?_
    refine then_go ?_
    repeat with_reducible refine wp_seq ?_
    refine wp_region_lit ?_
    refine wpList_next rfl hsz24 hde24 81 rfl (by decide) fun K hK => ?_
    go_simp
    refine hK _ _ fun a25 hsz25 hde25 f81 hk => ?_
    clear hK K
    replace f7 := (hk 7 (by decide)).trans f7
    replace f8 := (hk 8 (by decide)).trans f8
    replace f9 := (hk 9 (by decide)).trans f9
    replace f10 := (hk 10 (by decide)).trans f10
    replace f15 := (hk 15 (by decide)).trans f15
    replace f81 : a25.tmps[81]?.getD undef = v7 := f81
    clear hk hsz24 hde24
    refine wpList_next rfl hsz25 hde25 82 rfl (by decide) fun K hK => ?_
    go_simp
    refine hK _ _ fun a26 hsz26 hde26 f82 hk => ?_
    clear hK K
    replace f7 := (hk 7 (by decide)).trans f7
    replace f8 := (hk 8 (by decide)).trans f8
    replace f9 := (hk 9 (by decide)).trans f9
    replace f10 := (hk 10 (by decide)).trans f10
    replace f15 := (hk 15 (by decide)).trans f15
    replace f81 := (hk 81 (by decide)).trans f81
    replace f82 : a26.tmps[82]?.getD undef = v8 := f82
    clear hk hsz25 hde25
    refine wpList_next rfl hsz26 hde26 83 rfl (by decide) fun K hK => ?_
    go_simp
    refine (erefsame_any _ _ _ _ R _ (K7.out.grow Hc3.out) (K8.out.grow Hc3.out)).mono ?_
    rintro e4 w4 ⟨rfl, hb4⟩
    go_simp
    refine hK _ _ fun a27 hsz27 hde27 f83 hk => ?_
    clear hK K
    replace f7 := (hk 7 (by decide)).trans f7
    replace f8 := (hk 8 (by decide)).trans f8
    replace f9 := (hk 9 (by decide)).trans f9
    replace f10 := (hk 10 (by decide)).trans f10
    replace f15 := (hk 15 (by decide)).trans f15
    replace f83 : a27.tmps[83]?.getD undef = .bool true := f83
    clear hk hsz26 hde26 f81 f82
    have Hc4 := Lib.hid (below_call Hc3.out hb4)
    have Hk4 := Lib.hid (hb4)
    clear hb4
    refine wpList_next rfl hsz27 hde27 84 rfl (by decide) fun K hK => ?_
    go_simp
    refine hK _ _ fun a28 hsz28 hde28 f84 hk => ?_
    clear hK K
    replace f7 := (hk 7 (by decide)).trans f7
    replace f8 := (hk 8 (by decide)).trans f8
    replace f9 := (hk 9 (by decide)).trans f9
    replace f10 := (hk 10 (by decide)).trans f10
    replace f15 := (hk 15 (by decide)).trans f15
    replace f84 : a28.tmps[84]?.getD undef = .bool true := f84
    clear hk hsz27 hde27 f83
    refine wpList_nextg (wanted_of (j := 3) (t := 84) (b := true) rfl rfl f84) hsz28 hde28 85 rfl (by decide) fun K hK => ?_
    go_simp
    refine hK _ _ fun a29 hsz29 hde29 f85 hk => ?_
    clear hK K
    replace f7 := (hk 7 (by decide)).trans f7
    replace f8 := (hk 8 (by decide)).trans f8
    replace f9 := (hk 9 (by decide)).trans f9
    replace f10 := (hk 10 (by decide)).trans f10
    replace f15 := (hk 15 (by decide)).trans f15
    replace f84 := (hk 84 (by decide)).trans f84
    replace f85 : a29.tmps[85]?.getD undef = v7 := f85
    clear hk hsz28 hde28
    refine wpList_nextg (wanted_of (j := 3) (t := 84) (b := true) rfl rfl f84) hsz29 hde29 86 rfl (by decide) fun K hK => ?_
    go_simp
    refine hK _ _ fun a30 hsz30 hde30 f86 hk => ?_
    clear hK K
    replace f7 := (hk 7 (by decide)).trans f7
    replace f8 := (hk 8 (by decide)).trans f8
    replace f9 := (hk 9 (by decide)).trans f9
    replace f10 := (hk 10 (by decide)).trans f10
    replace f15 := (hk 15 (by decide)).trans f15
    replace f84 := (hk 84 (by decide)).trans f84
    replace f85 := (hk 85 (by decide)).trans f85
    replace f86 : a30.tmps[86]?.getD undef = u15 := f86
    clear hk hsz29 hde29
    refine wpList_nextg (wanted_of (j := 3) (t := 84) (b := true) rfl rfl f84) hsz30 hde30 87 rfl (by decide) fun K hK => ?_
    go_simp
    refine (erefsame_any _ _ _ _ R _ (K7.out.grow Hc4.out) (K15.out.grow Hk4.out)).mono ?_
    rintro e5 w5 ⟨rfl, hb5⟩
    go_simp
    refine hK _ _ fun a31 hsz31 hde31 f87 hk => ?_
    clear hK K
    replace f7 := (hk 7 (by decide)).trans f7
    replace f8 := (hk 8 (by decide)).trans f8
    replace f9 := (hk 9 (by decide)).trans f9
    replace f10 := (hk 10 (by decide)).trans f10
    replace f15 := (hk 15 (by decide)).trans f15
    replace f84 := (hk 84 (by decide)).trans f84
    replace f87 : a31.tmps[87]?.getD undef = .bool true := f87
    clear hk hsz30 hde30 f85 f86
    have Hc5 := Lib.hid (below_call Hc4.out hb5)
    have Hk5 := Lib.hid (below_call Hk4.out hb5)
    clear hb5
    refine wpList_next rfl hsz31 hde31 88 rfl (by decide) fun K hK => ?_
    go_simp
    refine hK _ _ fun a32 hsz32 hde32 f88 hk => ?_
    clear hK K
    replace f7 := (hk 7 (by decide)).trans f7
    replace f8 := (hk 8 (by decide)).trans f8
    replace f9 := (hk 9 (by decide)).trans f9
    replace f10 := (hk 10 (by decide)).trans f10
    replace f15 := (hk 15 (by decide)).trans f15
    replace f88 : a32.tmps[88]?.getD undef = .bool true := f88
    clear hk hsz31 hde31 f84 f87
    refine wpList_next rfl hsz32 hde32 89 rfl (by decide) fun K hK => ?_
    go_simp
    refine hK _ _ fun a33 hsz33 hde33 f89 hk => ?_
    clear hK K
    replace f7 := (hk 7 (by decide)).trans f7
    replace f8 := (hk 8 (by decide)).trans f8
    replace f9 := (hk 9 (by decide)).trans f9
    replace f10 := (hk 10 (by decide)).trans f10
    replace f15 := (hk 15 (by decide)).trans f15
    replace f89 : a33.tmps[89]?.getD undef = .bool true := f89
    clear hk hsz32 hde32 f88
    refine wpList_nextg (wanted_of (j := 8) (t := 89) (b := true) rfl rfl f89) hsz33 hde33 90 rfl (by decide) fun K hK => ?_
    go_simp
    refine hK _ _ fun a34 hsz34 hde34 f90 hk => ?_
    clear hK K
    replace f7 := (hk 7 (by decide)).trans f7
    replace f8 := (hk 8 (by decide)).trans f8
    replace f9 := (hk 9 (by decide)).trans f9
    replace f10 := (hk 10 (by decide)).trans f10
    replace f15 := (hk 15 (by decide)).trans f15
    replace f89 := (hk 89 (by decide)).trans f89
    replace f90 : a34.tmps[90]?.getD undef = v7 := f90
    clear hk hsz33 hde33
    refine wpList_nextg (wanted_of (j := 8) (t := 89) (b := true) rfl rfl f89) hsz34 hde34 91 rfl (by decide) fun K hK => ?_
    go_simp
    refine hK _ _ fun a35 hsz35 hde35 f91 hk => ?_
    clear hK K
    replace f7 := (hk 7 (by decide)).trans f7
    replace f8 := (hk 8 (by decide)).trans f8
    replace f9 := (hk 9 (by decide)).trans f9
    replace f10 := (hk 10 (by decide)).trans f10
    replace f15 := (hk 15 (by decide)).trans f15
    replace f89 := (hk 89 (by decide)).trans f89
    replace f90 := (hk 90 (by decide)).trans f90
    replace f91 : a35.tmps[91]?.getD undef = v10 := f91
    clear hk hsz34 hde34
    refine wpList_nextg (wanted_of (j := 8) (t := 89) (b := true) rfl rfl f89) hsz35 hde35 92 rfl (by decide) fun K hK => ?_
    go_simp
    refine hK _ _ fun a36 hsz36 hde36 f92 hk => ?_
    clear hK K
    replace f7 := (hk 7 (by decide)).trans f7
    replace f8 := (hk 8 (by decide)).trans f8
    replace f9 := (hk 9 (by decide)).trans f9
    replace f10 := (hk 10 (by decide)).trans f10
    replace f15 := (hk 15 (by decide)).trans f15
    replace f89 := (hk 89 (by decide)).trans f89
    replace f90 := (hk 90 (by decide)).trans f90
    replace f91 := (hk 91 (by decide)).trans f91
    replace f92 : a36.tmps[92]?.getD undef = v9 := f92
    clear hk hsz35 hde35
    refine wpList_nextg (wanted_of (j := 8) (t := 89) (b := true) rfl rfl f89) hsz36 hde36 93 rfl (by decide) fun K hK => ?_
    go_simp
    refine (ejoin_any _ _ _ _ P2 P1 _ (K10.out.grow Hc5.out) (K9.out.grow Hc5.out) (by have := LL.out; omega) D3.out D2.out).mono ?_
    rintro e6 w6 ⟨⟨u93, rfl, hown6⟩, hb6⟩
    go_simp
    refine hK _ _ fun a37 hsz37 hde37 f93 hk => ?_
    clear hK K
    replace f7 := (hk 7 (by decide)).trans f7
    replace f8 := (hk 8 (by decide)).trans f8
    replace f9 := (hk 9 (by decide)).trans f9
    replace f10 := (hk 10 (by decide)).trans f10
    replace f15 := (hk 15 (by decide)).trans f15
    replace f89 := (hk 89 (by decide)).trans f89
    replace f90 := (hk 90 (by decide)).trans f90
    replace f93 : a37.tmps[93]?.getD undef = u93 := f93
    clear hk hsz36 hde36 f91 f92
    rw [E3.out] at hown6
    have K93 := Lib.hid hown6.isL
    have Hc6 := Lib.hid (below_call Hc5.out hb6)
    have Hk6 := Lib.hid (below_call Hk5.out hb6)
    clear hown6 hb6
    refine wpList_nextg (wanted_of (j := 8) (t := 89) (b := true) rfl rfl f89) hsz37 hde37 94 rfl (by decide) fun K hK => ?_
    go_simp
    refine (erefsame_any _ _ _ _ R _ (K7.out.grow Hc6.out) K93.out).mono ?_
    rintro e7 w7 ⟨rfl, hb7⟩
    go_simp
    refine hK _ _ fun a38 hsz38 hde38 f94 hk => ?_
    clear hK K
    replace f7 := (hk 7 (by decide)).trans f7
    replace f8 := (hk 8 (by decide)).trans f8
    replace f9 := (hk 9 (by decide)).trans f9
    replace f10 := (hk 10 (by decide)).trans f10
    replace f15 := (hk 15 (by decide)).trans f15
    replace f89 := (hk 89 (by decide)).trans f89
    replace f94 : a38.tmps[94]?.getD undef = .bool true := f94
    clear hk hsz37 hde37 f90 f93
    have Hc7 := Lib.hid (below_call Hc6.out hb7)
    have Hk7 := Lib.hid (below_call Hk6.out hb7)
    clear hb7
    refine wpList_next rfl hsz38 hde38 95 rfl (by decide) fun K hK => ?_
    go_simp
    refine hK _ _ fun a39 hsz39 hde39 f95 hk => ?_
    clear hK K
    replace f7 := (hk 7 (by decide)).trans f7
    replace f8 := (hk 8 (by decide)).trans f8
    replace f9 := (hk 9 (by decide)).trans f9
    replace f10 := (hk 10 (by decide)).trans f10
    replace f15 := (hk 15 (by decide)).trans f15
    replace f95 : a39.tmps[95]?.getD undef = .bool true := f95
    clear hk hsz38 hde38 f89 f94
    refine wpList_next rfl hsz39 hde39 96 rfl (by decide) fun K hK => ?_
    go_simp
    refine hK _ _ fun a40 hsz40 hde40 f96 hk => ?_
    clear hK K
    replace f7 := (hk 7 (by decide)).trans f7
    replace f8 := (hk 8 (by decide)).trans f8
    replace f9 := (hk 9 (by decide)).trans f9
    replace f10 := (hk 10 (by decide)).trans f10
    replace f15 := (hk 15 (by decide)).trans f15
    replace f96 : a40.tmps[96]?.getD undef = .bool true := f96
    clear hk hsz39 hde39 f95
    refine wpList_nextg (wanted_of (j := 15) (t := 96) (b := true) rfl rfl f96) hsz40 hde40 97 rfl (by decide) fun K hK => ?_
    go_simp
    refine hK _ _ fun a41 hsz41 hde41 f97 hk => ?_
    clear hK K
    replace f7 := (hk 7 (by decide)).trans f7
    replace f8 := (hk 8 (by decide)).trans f8
    replace f9 := (hk 9 (by decide)).trans f9
    replace f10 := (hk 10 (by decide)).trans f10
    replace f15 := (hk 15 (by decide)).trans f15
    replace f96 := (hk 96 (by decide)).trans f96
    replace f97 : a41.tmps[97]?.getD undef = v7 := f97
    clear hk hsz40 hde40
    refine wpList_nextg (wanted_of (j := 15) (t := 96) (b := true) rfl rfl f96) hsz41 hde41 98 rfl (by decide) fun K hK => ?_
    go_simp
    refine hK _ _ fun a42 hsz42 hde42 f98 hk => ?_
    clear hK K
    replace f7 := (hk 7 (by decide)).trans f7
    replace f8 := (hk 8 (by decide)).trans f8
    replace f9 := (hk 9 (by decide)).trans f9
    replace f10 := (hk 10 (by decide)).trans f10
    replace f15 := (hk 15 (by decide)).trans f15
    replace f96 := (hk 96 (by decide)).trans f96
    replace f97 := (hk 97 (by decide)).trans f97
    replace f98 : a42.tmps[98]?.getD undef = u15 := f98
    clear hk hsz41 hde41
    refine wpList_nextg (wanted_of (j := 15) (t := 96) (b := true) rfl rfl f96) hsz42 hde42 99 rfl (by decide) fun K hK => ?_
    go_simp
    refine hK _ _ fun a43 hsz43 hde43 f99 hk => ?_
    clear hK K
    replace f7 := (hk 7 (by decide)).trans f7
    replace f8 := (hk 8 (by decide)).trans f8
    replace f9 := (hk 9 (by decide)).trans f9
    replace f10 := (hk 10 (by decide)).trans f10
    replace f15 := (hk 15 (by decide)).trans f15
    replace f96 := (hk 96 (by decide)).trans f96
    replace f97 := (hk 97 (by decide)).trans f97
    replace f98 := (hk 98 (by decide)).trans f98
    replace f99 : a43.tmps[99]?.getD undef = v9 := f99
    clear hk hsz42 hde42
    refine wpList_nextg (wanted_of (j := 15) (t := 96) (b := true) rfl rfl f96) hsz43 hde43 100 rfl (by decide) fun K hK => ?_
    go_simp
    refine (ejoin_any _ _ _ _ R P1 _ (K15.out.grow Hk7.out) (K9.out.grow Hc7.out) (by have := LL.out; omega) D1.out D2.out).mono ?_
    rintro e8 w8 ⟨⟨u100, rfl, hown8⟩, hb8⟩
    go_simp
    refine hK _ _ fun a44 hsz44 hde44 f100 hk => ?_
    clear hK K
    replace f7 := (hk 7 (by decide)).trans f7
    replace f8 := (hk 8 (by decide)).trans f8
    replace f9 := (hk 9 (by decide)).trans f9
    replace f10 := (hk 10 (by decide)).trans f10
    replace f15 := (hk 15 (by decide)).trans f15
    replace f96 := (hk 96 (by decide)).trans f96
    replace f97 := (hk 97 (by decide)).trans f97
    replace f100 : a44.tmps[100]?.getD undef = u100 := f100
    clear hk hsz43 hde43 f98 f99
    rw [E4.out] at hown8
    have K100 := Lib.hid hown8.isL
    have Hc8 := Lib.hid (below_call Hc7.out hb8)
    have Hk8 := Lib.hid (below_call Hk7.out hb8)
    clear hown8 hb8
    refine wpList_nextg (wanted_of (j := 15) (t := 96) (b := true) rfl rfl f96) hsz44 hde44 101 rfl (by decide) fun K hK => ?_
    go_simp
    refine (erefsame_any _ _ _ _ R _ (K7.out.grow Hc8.out) K100.out).mono ?_
    rintro e9 w9 ⟨rfl, hb9⟩
    go_simp
    refine hK _ _ fun a45 hsz45 hde45 f101 hk => ?_
    clear hK K
    replace f7 := (hk 7 (by decide)).trans f7
    replace f8 := (hk 8 (by decide)).trans f8
    replace f9 := (hk 9 (by decide)).trans f9
    replace f10 := (hk 10 (by decide)).trans f10
    replace f15 := (hk 15 (by decide)).trans f15
    replace f96 := (hk 96 (by decide)).trans f96
    replace f101 : a45.tmps[101]?.getD undef = .bool true := f101
    clear hk hsz44 hde44 f97 f100
    have Hc9 := Lib.hid (below_call Hc8.out hb9)
    have Hk9 := Lib.hid (below_call Hk8.out hb9)
    clear hb9
    refine wpList_next rfl hsz45 hde45 102 rfl (by decide) fun K hK => ?_
    go_simp
    refine hK _ _ fun a46 hsz46 hde46 f102 hk => ?_
    clear hK K
    replace f7 := (hk 7 (by decide)).trans f7
    replace f8 := (hk 8 (by decide)).trans f8
    replace f9 := (hk 9 (by decide)).trans f9
    replace f10 := (hk 10 (by decide)).trans f10
    replace f15 := (hk 15 (by decide)).trans f15
    replace f102 : a46.tmps[102]?.getD undef = .bool true := f102
    clear hk hsz45 hde45 f96 f101
    refine wpList_next rfl hsz46 hde46 103 rfl (by decide) fun K hK => ?_
    go_simp
    refine hK _ _ fun a47 hsz47 hde47 f103 hk => ?_
    clear hK K
    replace f7 := (hk 7 (by decide)).trans f7
    replace f8 := (hk 8 (by decide)).trans f8
    replace f9 := (hk 9 (by decide)).trans f9
    replace f10 := (hk 10 (by decide)).trans f10
    replace f15 := (hk 15 (by decide)).trans f15
    replace f103 : a47.tmps[103]?.getD undef = .bool true := f103
    clear hk hsz46 hde46 f102
    refine wpList_nextg (wanted_of (j := 22) (t := 103) (b := true) rfl rfl f103) hsz47 hde47 104 rfl (by decide) fun K hK => ?_
    go_simp
    refine hK _ _ fun a48 hsz48 hde48 f104 hk => ?_
    clear hK K
    replace f7 := (hk 7 (by decide)).trans f7
    replace f8 := (hk 8 (by decide)).trans f8
    replace f9 := (hk 9 (by decide)).trans f9
    replace f10 := (hk 10 (by decide)).trans f10
    replace f15 := (hk 15 (by decide)).trans f15
    replace f103 := (hk 103 (by decide)).trans f103
    replace f104 : a48.tmps[104]?.getD undef = v7 := f104
    clear hk hsz47 hde47
    refine wpList_nextg (wanted_of (j := 22) (t := 103) (b := true) rfl rfl f103) hsz48 hde48 105 rfl (by decide) fun K hK => ?_
    go_simp
    refine (ereffine_true _ _ R _ (K7.out.grow Hc9.out) (by have := LL.out; omega) S1.out).mono ?_
    rintro e10 w10 ⟨rfl, hb10⟩
    go_simp
    refine hK _ _ fun a49 hsz49 hde49 f105 hk => ?_
    clear hK K
    replace f7 := (hk 7 (by decide)).trans f7
    replace f8 := (hk 8 (by decide)).trans f8
    replace f9 := (hk 9 (by decide)).trans f9
    replace f10 := (hk 10 (by decide)).trans f10
    replace f15 := (hk 15 (by decide)).trans f15
    replace f103 := (hk 103 (by decide)).trans f103
    replace f105 : a49.tmps[105]?.getD undef = .bool true := f105
    clear hk hsz48 hde48 f104
    refine wpList_next rfl hsz49 hde49 106 rfl (by decide) fun K hK => ?_
    go_simp
    refine hK _ _ fun a50 hsz50 hde50 f106 hk => ?_
    clear hK K
    replace f7 := (hk 7 (by decide)).trans f7
    replace f8 := (hk 8 (by decide)).trans f8
    replace f9 := (hk 9 (by decide)).trans f9
    replace f10 := (hk 10 (by decide)).trans f10
    replace f15 := (hk 15 (by decide)).trans f15
    replace f106 : a50.tmps[106]?.getD undef = .bool true := f106
    clear hk hsz49 hde49 f103 f105
    refine wpList_next rfl hsz50 hde50 6 rfl (by decide) fun K hK => ?_
    go_simp
    refine hK _ _ fun a51 hsz51 hde51 f6 hk => ?_
    clear hK K
    replace f7 := (hk 7 (by decide)).trans f7
    replace f8 := (hk 8 (by decide)).trans f8
    replace f9 := (hk 9 (by decide)).trans f9
    replace f10 := (hk 10 (by decide)).trans f10
    replace f15 := (hk 15 (by decide)).trans f15
    replace f6 : a51.tmps[6]?.getD undef = .bool true := f6
    clear hk hsz50 hde50 f106
    refine wpList_nil ?_
    refine then_go ?_
    refine wp_ret ?_
    refine (ret_tmp (R := fun e2 w2 => e2 = .returned (.bool true) ∧ Below w.heap.size w w2) Tryd.results6 hde51 f6 ?_)
    exact ⟨rfl, below_call (below_call Hn2b.out Hbi.out) (below_call Hc9.out hb10)⟩
end Go.Proofs.YtcpjgohclncbkaaDoor
