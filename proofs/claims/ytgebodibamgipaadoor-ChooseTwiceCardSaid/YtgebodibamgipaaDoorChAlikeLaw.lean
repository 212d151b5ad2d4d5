/-
  The walk of ChooseAlike.
-/
import Derived.Test.YtgebodibamgipaaDoorChLives
namespace Go.Proofs.YtgebodibamgipaaDoor
open Go.RowKit
set_option maxRecDepth 100000

theorem has_down {L : List Txt} {a b : Txt} (h : chHas L a = true) (ha : L ≠ [] → pathB a = true → withinV (a ++ 47 :: b) a = true) : chHas L (a ++ 47 :: b) = true := by
  unfold chHas at *
  rw [Bool.or_eq_true] at *
  rcases h with h | h
  · exact .inl h
  · obtain ⟨t, ht, hw⟩ := List.any_eq_true.1 h
    exact .inr (List.any_eq_true.2 ⟨t, ht, within_trans (ha (fun e => by rw [e] at ht; cases ht) (within_path hw).1) hw⟩)
/-- What comes behind a path and a slash, if it all is a path, lies below it. -/
theorem within_more {a b : Txt} (h : pathB (a ++ 47 :: b) = true) (ha : pathB a = true) : withinV (a ++ 47 :: b) a = true := by
  obtain ⟨L, hL⟩ := pathB_iff.1 ha
  obtain ⟨M, hM⟩ := pathB_iff.1 h
  refine within_iff.2 ⟨M, L, hM, hL, ?_⟩
  obtain ⟨h1, _, _, hp⟩ := split_path hL
  obtain ⟨h2, _, _, hq⟩ := split_path hM
  cases L with
  | nil => exact List.nil_prefix
  | cons x r =>
    have hj : a = 47 :: Lib.join (x :: r) [47] := h1
    have hMn : M ≠ [] := fun e => by
      subst e
      have hl : (pathT []).length = 1 := rfl
      have := congrArg List.length h2
      rw [hl, List.length_append, hj, List.length_cons, List.length_cons] at this
      omega
    have e1 : spl (Lib.join M [47]) = M := spl_join M hMn fun p hp => part_slash (hq p hp)
    have e2 : Lib.join M [47] = Lib.join (x :: r) [47] ++ 47 :: b := by
      have : 47 :: Lib.join M [47] = (47 :: Lib.join (x :: r) [47]) ++ 47 :: b := by rw [← hj]; exact h2.symm
      exact List.tail_eq_of_cons_eq this
    have e3 : ∀ (L : List Txt), L ≠ [] → (∀ p, p ∈ L → ∀ b, b ∈ p → b ≠ 47) → spl (Lib.join L [47] ++ 47 :: b) = L ++ spl b := by
      intro L
      induction L with
      | nil => exact fun h => absurd rfl h
      | cons y q ih =>
        intro _ hy
        cases q with
        | nil => rw [Lib.join_one, spl_more b (hy y (by simp))]; rfl
        | cons z q =>
          have e : Lib.join (y :: z :: q) [47] = y ++ 47 :: Lib.join (z :: q) [47] := by
            rw [Lib.join_cons, Lib.join_cons]
            simp [Lib.joinTail]
          rw [e, List.append_assoc, List.cons_append, spl_more _ (hy y (by simp)), ih (by simp) fun p hp => hy p (by simp [hp])]
          rfl
    rw [e2, e3 (x :: r) (by simp) fun p hq => part_slash (hp p hq)] at e1
    exact ⟨spl b, e1⟩
theorem clean_len {L : List Txt} (h : (cleanV L).2 ≠ 0) : ((((cleanV L).1.length : Nat) : Int) == 0) = true := by rw [cleanV_no h]; rfl
theorem clean_few {L : List Txt} (h : (cleanV L).2 = 0) : (cleanV L).1.length ≤ 100000 := by
  obtain ⟨_, h1, h2⟩ := cleanV_ok h
  rw [h2]
  omega

set_option maxHeartbeats 4000000 in
theorem choosealike_walk (v : Value) (L : List Txt) (a p : Txt) (w : World) (hv : IsL kStr w (fun _ => True) v L) (_ha : a.length ≤ 9223372036854775807) (_hp : p.length ≤ 9223372036854775807) (he : Env w) :
    Calls Tryd.prog 3 #[v, .string ⟨a.toArray⟩, .string ⟨p.toArray⟩] w fun e w' => e = .returned (.bool true) ∧ Below w.heap.size w w' := by
  obtain ⟨A, c, ds, rfl, hc1, hc2, hds, hmany⟩ := hv
  obtain ⟨rfl, _⟩ := kStr_cells hmany
  have He := Lib.hid he
  have HL := Lib.hid hds
  have Hsh := Lib.hid fun z (hz : Below w.heap.size w z) => short14_any (fun _ => True) A c L z (hds.grow hz)
  obtain ⟨b1, hb1⟩ : ∃ b, b = shortC L := ⟨_, rfl⟩
  obtain ⟨b2, hb2⟩ : ∃ b, b = shortC [a, p] := ⟨_, rfl⟩
  rw [← hb1] at Hsh
  have HB1 := Lib.hid hb1
  have HB2 := Lib.hid hb2
  have Hfew := Lib.hid (show b1 = true → L.length ≤ 100000 from fun h => by have := short_few (L := L) (by rw [← hb1]; exact h); omega)
  have Hcl := Lib.hid fun z (hz : Below w.heap.size w z) (h : b1 = true) => clean_any (fun _ => True) A c L z (he.grow hz) (hds.grow hz) (Hfew.out h)
  have Hhas := Lib.hid fun s z (hz : Below w.heap.size w z) (h : b1 = true) => has_any (fun _ => True) A c L s z (he.grow hz) (hds.grow hz) (Hfew.out h)
  have Hlea := Lib.hid fun s z (hz : Below w.heap.size w z) (h : b1 = true) => leads_any (fun _ => True) A c L s z (he.grow hz) (hds.grow hz) (Hfew.out h)
  have Hlv := Lib.hid fun z (hz : Below w.heap.size w z) => lives14_any z (he.grow hz)
  obtain ⟨n, hn⟩ : ∃ n, n = L.length := ⟨_, rfl⟩
  rw [← hn] at Hsh Hcl Hhas Hlea ⊢
  clear hmany hc1 hc2 hds he hb1 hb2 hn _ha _hp
  go_enter Tryd.func3, Tryd.ntmps3
  refine enter_abs (N := 68) rfl rfl fun a0 hsz0 hde0 hk => ?_
  have f0 : a0.tmps[0]?.getD undef = .slice A n c := hk 0
  have f1 : a0.tmps[1]?.getD undef = .string ⟨a.toArray⟩ := hk 1
  have f2 : a0.tmps[2]?.getD undef = .string ⟨p.toArray⟩ := hk 2
  clear hk
  repeat with_reducible refine wp_seq ?_
  refine wp_region_lit ?_
  refine wpList_next rfl hsz0 hde0 6 rfl (by decide) fun K hK => ?_
  go_simp
  refine hK _ _ fun a1 hsz1 hde1 f6 hk => ?_
  clear hK K
  replace f0 := (hk 0 (by decide)).trans f0
  replace f1 := (hk 1 (by decide)).trans f1
  replace f2 := (hk 2 (by decide)).trans f2
  clear hk hsz0 hde0
  refine wpList_nil ?_
  clear f6
  refine then_go ?_
  repeat with_reducible refine wp_seq ?_
  have Hw0 := Lib.hid (Below.refl w.heap.size w)
  refine wp_region_lit ?_
  refine wpList_next rfl hsz1 hde1 9 rfl (by decide) fun K hK => ?_
  go_simp
  refine (Hlv.out _ Hw0.out).mono ?_
  rintro e1 w1 ⟨rfl, hb9⟩
  go_simp
  refine hK _ _ fun a2 hsz2 hde2 f9 hk => ?_
  clear hK K
  replace f0 := (hk 0 (by decide)).trans f0
  replace f1 := (hk 1 (by decide)).trans f1
  replace f2 := (hk 2 (by decide)).trans f2
  replace f9 : a2.tmps[9]?.getD undef = .bool true := f9
  clear hk hsz1 hde1
  have Hw1 := Lib.hid (below_call Hw0.out hb9)
  clear hb9
  refine wpList_next rfl hsz2 hde2 10 rfl (by decide) fun K hK => ?_
  go_simp
  refine hK _ _ fun a3 hsz3 hde3 f10 hk => ?_
  clear hK K
  replace f0 := (hk 0 (by decide)).trans f0
  replace f1 := (hk 1 (by decide)).trans f1
  replace f2 := (hk 2 (by decide)).trans f2
  replace f10 : a3.tmps[10]?.getD undef = .bool false := f10
  clear hk hsz2 hde2 f9
  refine wpList_next rfl hsz3 hde3 11 rfl (by decide) fun K hK => ?_
  go_simp
  refine hK _ _ fun a4 hsz4 hde4 f11 hk => ?_
  clear hK K
  replace f0 := (hk 0 (by decide)).trans f0
  replace f1 := (hk 1 (by decide)).trans f1
  replace f2 := (hk 2 (by decide)).trans f2
  replace f11 : a4.tmps[11]?.getD undef = .bool false := f11
  clear hk hsz3 hde3 f10
  refine wpList_nextg (wanted_of (j := 2) (t := 11) (b := false) rfl rfl f11) hsz4 hde4 12 rfl (by decide) fun K hK => ?_
  go_simp
  refine hK _ _ fun a5 hsz5 hde5 f12 hk => ?_
  clear hK K
  replace f0 := (hk 0 (by decide)).trans f0
  replace f1 := (hk 1 (by decide)).trans f1
  replace f2 := (hk 2 (by decide)).trans f2
  replace f11 := (hk 11 (by decide)).trans f11
  replace f12 : a5.tmps[12]?.getD undef = .slice A n c := f12
  clear hk hsz4 hde4
  refine wpList_nextg (wanted_of (j := 2) (t := 11) (b := false) rfl rfl f11) hsz5 hde5 13 rfl (by decide) fun K hK => ?_
  go_simp
  refine (Hsh.out _ Hw1.out).mono ?_
  rintro e2 w2 ⟨rfl, rfl⟩
  go_simp
  refine hK _ _ fun a6 hsz6 hde6 f13 hk => ?_
  clear hK K
  replace f0 := (hk 0 (by decide)).trans f0
  replace f1 := (hk 1 (by decide)).trans f1
  replace f2 := (hk 2 (by decide)).trans f2
  replace f11 := (hk 11 (by decide)).trans f11
  replace f13 : a6.tmps[13]?.getD undef = .bool b1 := f13
  clear hk hsz5 hde5 f12
  refine wpList_nextg (wanted_of (j := 2) (t := 11) (b := false) rfl rfl f11) hsz6 hde6 14 rfl (by decide) fun K hK => ?_
  go_simp
  refine hK _ _ fun a7 hsz7 hde7 f14 hk => ?_
  clear hK K
  replace f0 := (hk 0 (by decide)).trans f0
  replace f1 := (hk 1 (by decide)).trans f1
  replace f2 := (hk 2 (by decide)).trans f2
  replace f11 := (hk 11 (by decide)).trans f11
  replace f14 : a7.tmps[14]?.getD undef = .bool (!b1) := f14
  clear hk hsz6 hde6 f13
  refine wpList_next rfl hsz7 hde7 15 rfl (by decide) fun K hK => ?_
  go_simp
  refine hK _ _ fun a8 hsz8 hde8 f15 hk => ?_
  clear hK K
  replace f0 := (hk 0 (by decide)).trans f0
  replace f1 := (hk 1 (by decide)).trans f1
  replace f2 := (hk 2 (by decide)).trans f2
  replace f15 : a8.tmps[15]?.getD undef = .bool (!b1) := f15
  clear hk hsz7 hde7 f11 f14
  refine wpList_next rfl hsz8 hde8 16 rfl (by decide) fun K hK => ?_
  go_simp
  refine hK _ _ fun a9 hsz9 hde9 f16 hk => ?_
  clear hK K
  replace f0 := (hk 0 (by decide)).trans f0
  replace f1 := (hk 1 (by decide)).trans f1
  replace f2 := (hk 2 (by decide)).trans f2
  replace f16 : a9.tmps[16]?.getD undef = .bool (!b1) := f16
  clear hk hsz8 hde8 f15
  cases b1 with
  | false =>
    replace f16 : a9.tmps[16]?.getD undef = .bool true := f16
    refine wpList_leave (not_wanted (j := 7) (t := 16) (b := false) rfl rfl (.inr f16)) hsz9 hde9 17 rfl (by decide) fun a10 hsz10 hde10 f17 hk => ?_
    replace f0 := (hk 0 (by decide)).trans f0
    replace f1 := (hk 1 (by decide)).trans f1
    replace f2 := (hk 2 (by decide)).trans f2
    replace f16 := (hk 16 (by decide)).trans f16
    clear hk hsz9 hde9
    refine wpList_leave (not_wanted (j := 7) (t := 16) (b := false) rfl rfl (.inr f16)) hsz10 hde10 18 rfl (by decide) fun a11 hsz11 hde11 f18 hk => ?_
    replace f0 := (hk 0 (by decide)).trans f0
    replace f1 := (hk 1 (by decide)).trans f1
    replace f2 := (hk 2 (by decide)).trans f2
    replace f16 := (hk 16 (by decide)).trans f16
    replace f17 := (hk 17 (by decide)).trans f17
    clear hk hsz10 hde10
    refine wpList_leave (not_wanted (j := 7) (t := 16) (b := false) rfl rfl (.inr f16)) hsz11 hde11 19 rfl (by decide) fun a12 hsz12 hde12 f19 hk => ?_
    replace f0 := (hk 0 (by decide)).trans f0
    replace f1 := (hk 1 (by decide)).trans f1
    replace f2 := (hk 2 (by decide)).trans f2
    replace f16 := (hk 16 (by decide)).trans f16
    clear hk hsz11 hde11 f17 f18
    refine wpList_leave (not_wanted (j := 7) (t := 16) (b := false) rfl rfl (.inr f16)) hsz12 hde12 20 rfl (by decide) fun a13 hsz13 hde13 f20 hk => ?_
    replace f0 := (hk 0 (by decide)).trans f0
    replace f1 := (hk 1 (by decide)).trans f1
    replace f2 := (hk 2 (by decide)).trans f2
    replace f16 := (hk 16 (by decide)).trans f16
    clear hk hsz12 hde12 f19
    refine wpList_leave (not_wanted (j := 7) (t := 16) (b := false) rfl rfl (.inr f16)) hsz13 hde13 21 rfl (by decide) fun a14 hsz14 hde14 f21 hk => ?_
    replace f0 := (hk 0 (by decide)).trans f0
    replace f1 := (hk 1 (by decide)).trans f1
    replace f2 := (hk 2 (by decide)).trans f2
    replace f16 := (hk 16 (by decide)).trans f16
    clear hk hsz13 hde13 f20
    refine wpList_next rfl hsz14 hde14 22 rfl (by decide) fun K hK => ?_
    go_simp
    refine hK _ _ fun a15 hsz15 hde15 f22 hk => ?_
    clear hK K
    replace f0 := (hk 0 (by decide)).trans f0
    replace f1 := (hk 1 (by decide)).trans f1
    replace f2 := (hk 2 (by decide)).trans f2
    replace f22 : a15.tmps[22]?.getD undef = .bool true := f22
    clear hk hsz14 hde14 f16 f21
    refine wpList_nil ?_
    refine then_go ?_
    repeat with_reducible refine wp_seq ?_
    refine wp_cond_true (eval_at f22) ?_
    clear f22
    repeat with_reducible refine wp_seq ?_
    refine wp_region_lit ?_
    refine wpList_next rfl hsz15 hde15 23 rfl (by decide) fun K hK => ?_
    go_simp
    refine (Hlv.out _ Hw1.out).mono ?_
    rintro e8 w8 ⟨rfl, hb9⟩
    go_simp
    refine hK _ _ fun a16 hsz16 hde16 f23 hk => ?_
    clear hK K
    replace f0 := (hk 0 (by decide)).trans f0
    replace f1 := (hk 1 (by decide)).trans f1
    replace f2 := (hk 2 (by decide)).trans f2
    replace f23 : a16.tmps[23]?.getD undef = .bool true := f23
    clear hk hsz15 hde15
    have Hwx := Lib.hid (below_call Hw1.out hb9)
    clear hb9
    refine wpList_next rfl hsz16 hde16 6 rfl (by decide) fun K hK => ?_
    go_simp
    refine hK _ _ fun a17 hsz17 hde17 f6 hk => ?_
    clear hK K
    replace f0 := (hk 0 (by decide)).trans f0
    replace f1 := (hk 1 (by decide)).trans f1
    replace f2 := (hk 2 (by decide)).trans f2
    replace f6 : a17.tmps[6]?.getD undef = .bool true := f6
    clear hk hsz16 hde16 f23
    refine wpList_nil ?_
    refine then_go ?_
    refine wp_ret ?_
    repeat first | with_reducible refine then_ret ?_ | with_reducible refine block_ret ?_
    refine ret_tmp Tryd.results3 hde17 f6 ?_
    exact ⟨rfl, Hwx.out⟩
  | true =>
    replace f16 : a9.tmps[16]?.getD undef = .bool false := f16
    have hsh2 := short14_any (fun _ => True) (some ⟨w1.heap.size, 0, none⟩) 2 [a, p] (w1.alloc (.cells #[.string ⟨a.toArray⟩, .string ⟨p.toArray⟩] 9)) (rd_new14 w1 9 [a, p])
    rw [← HB2.out] at hsh2
    have Hsh2 := Lib.hid hsh2
    have Hw2 := Lib.hid (Hw1.out.alloc Hw1.out.size (.cells #[.string ⟨a.toArray⟩, .string ⟨p.toArray⟩] 9))
    clear hsh2
    refine wpList_nextg (wanted_of (j := 7) (t := 16) (b := false) rfl rfl f16) hsz9 hde9 17 rfl (by decide) fun K hK => ?_
    go_simp
    refine hK _ _ fun a10 hsz10 hde10 f17 hk => ?_
    clear hK K
    replace f0 := (hk 0 (by decide)).trans f0
    replace f1 := (hk 1 (by decide)).trans f1
    replace f2 := (hk 2 (by decide)).trans f2
    replace f16 := (hk 16 (by decide)).trans f16
    replace f17 : a10.tmps[17]?.getD undef = .string ⟨a.toArray⟩ := f17
    clear hk hsz9 hde9
    refine wpList_nextg (wanted_of (j := 7) (t := 16) (b := false) rfl rfl f16) hsz10 hde10 18 rfl (by decide) fun K hK => ?_
    go_simp
    refine hK _ _ fun a11 hsz11 hde11 f18 hk => ?_
    clear hK K
    replace f0 := (hk 0 (by decide)).trans f0
    replace f1 := (hk 1 (by decide)).trans f1
    replace f2 := (hk 2 (by decide)).trans f2
    replace f16 := (hk 16 (by decide)).trans f16
    replace f17 := (hk 17 (by decide)).trans f17
    replace f18 : a11.tmps[18]?.getD undef = .string ⟨p.toArray⟩ := f18
    clear hk hsz10 hde10
    refine wpList_nextg (wanted_of (j := 7) (t := 16) (b := false) rfl rfl f16) hsz11 hde11 19 rfl (by decide) fun K hK => ?_
    go_simp
    refine hK _ _ fun a12 hsz12 hde12 f19 hk => ?_
    clear hK K
    replace f0 := (hk 0 (by decide)).trans f0
    replace f1 := (hk 1 (by decide)).trans f1
    replace f2 := (hk 2 (by decide)).trans f2
    replace f16 := (hk 16 (by decide)).trans f16
    replace f19 : a12.tmps[19]?.getD undef = .slice (some ⟨w1.heap.size, 0, none⟩) 2 2 := f19
    clear hk hsz11 hde11 f17 f18
    refine wpList_nextg (wanted_of (j := 7) (t := 16) (b := false) rfl rfl f16) hsz12 hde12 20 rfl (by decide) fun K hK => ?_
    go_simp
    refine Hsh2.out.mono ?_
    rintro e2 w2 ⟨rfl, hw2⟩
    have Hw3 := Lib.hid (show Below w.heap.size w w2 by rw [← hw2]; exact Hw2.out)
    clear hw2
    go_simp
    refine hK _ _ fun a13 hsz13 hde13 f20 hk => ?_
    clear hK K
    replace f0 := (hk 0 (by decide)).trans f0
    replace f1 := (hk 1 (by decide)).trans f1
    replace f2 := (hk 2 (by decide)).trans f2
    replace f16 := (hk 16 (by decide)).trans f16
    replace f20 : a13.tmps[20]?.getD undef = .bool b2 := f20
    clear hk hsz12 hde12 f19
    refine wpList_nextg (wanted_of (j := 7) (t := 16) (b := false) rfl rfl f16) hsz13 hde13 21 rfl (by decide) fun K hK => ?_
    go_simp
    refine hK _ _ fun a14 hsz14 hde14 f21 hk => ?_
    clear hK K
    replace f0 := (hk 0 (by decide)).trans f0
    replace f1 := (hk 1 (by decide)).trans f1
    replace f2 := (hk 2 (by decide)).trans f2
    replace f16 := (hk 16 (by decide)).trans f16
    replace f21 : a14.tmps[21]?.getD undef = .bool (!b2) := f21
    clear hk hsz13 hde13 f20
    refine wpList_next rfl hsz14 hde14 22 rfl (by decide) fun K hK => ?_
    go_simp
    refine hK _ _ fun a15 hsz15 hde15 f22 hk => ?_
    clear hK K
    replace f0 := (hk 0 (by decide)).trans f0
    replace f1 := (hk 1 (by decide)).trans f1
    replace f2 := (hk 2 (by decide)).trans f2
    replace f22 : a15.tmps[22]?.getD undef = .bool (!b2) := f22
    clear hk hsz14 hde14 f16 f21
    refine wpList_nil ?_
    refine then_go ?_
    repeat with_reducible refine wp_seq ?_
    cases b2 with
    | false =>
      replace f22 : a15.tmps[22]?.getD undef = .bool true := f22
      refine wp_cond_true (eval_at f22) ?_
      clear f22
      repeat with_reducible refine wp_seq ?_
      refine wp_region_lit ?_
      refine wpList_next rfl hsz15 hde15 23 rfl (by decide) fun K hK => ?_
      go_simp
      refine (Hlv.out _ Hw3.out).mono ?_
      rintro e8 w8 ⟨rfl, hb9⟩
      go_simp
      refine hK _ _ fun a16 hsz16 hde16 f23 hk => ?_
      clear hK K
      replace f0 := (hk 0 (by decide)).trans f0
      replace f1 := (hk 1 (by decide)).trans f1
      replace f2 := (hk 2 (by decide)).trans f2
      replace f23 : a16.tmps[23]?.getD undef = .bool true := f23
      clear hk hsz15 hde15
      have Hwx := Lib.hid (below_call Hw3.out hb9)
      clear hb9
      refine wpList_next rfl hsz16 hde16 6 rfl (by decide) fun K hK => ?_
      go_simp
      refine hK _ _ fun a17 hsz17 hde17 f6 hk => ?_
      clear hK K
      replace f0 := (hk 0 (by decide)).trans f0
      replace f1 := (hk 1 (by decide)).trans f1
      replace f2 := (hk 2 (by decide)).trans f2
      replace f6 : a17.tmps[6]?.getD undef = .bool true := f6
      clear hk hsz16 hde16 f23
      refine wpList_nil ?_
      refine then_go ?_
      refine wp_ret ?_
      repeat first | with_reducible refine then_ret ?_ | with_reducible refine block_ret ?_
      refine ret_tmp Tryd.results3 hde17 f6 ?_
      exact ⟨rfl, Hwx.out⟩
    | true =>
      replace f22 : a15.tmps[22]?.getD undef = .bool false := f22
      refine wp_cond_false (eval_at f22) ?_
      refine wp_skip ?_
      refine then_go ?_
      clear f22
      repeat with_reducible refine wp_seq ?_
      obtain ⟨hal, hpl⟩ := short_len HB2.out.symm
      obtain ⟨E, hE⟩ : ∃ E, E = (cleanV L).2 := ⟨_, rfl⟩
      obtain ⟨O, hO⟩ : ∃ O, O = (cleanV L).1 := ⟨_, rfl⟩
      rw [← hE, ← hO] at Hcl
      have HE := Lib.hid hE
      have HO := Lib.hid hO
      clear hE hO
      refine wp_region_lit ?_
      refine wpList_next rfl hsz15 hde15 25 rfl (by decide) fun K hK => ?_
      go_simp
      refine hK _ _ fun a16 hsz16 hde16 f25 hk => ?_
      clear hK K
      replace f0 := (hk 0 (by decide)).trans f0
      replace f1 := (hk 1 (by decide)).trans f1
      replace f2 := (hk 2 (by decide)).trans f2
      replace f25 : a16.tmps[25]?.getD undef = .slice A n c := f25
      clear hk hsz15 hde15
      refine wpList_next rfl hsz16 hde16 26 rfl (by decide) fun K hK => ?_
      go_simp
      refine (Hcl.out _ Hw3.out rfl).mono ?_
      rintro e3 w3 ⟨⟨vo, rfl, hto⟩, hb9⟩
      have Hw4 := Lib.hid (below_call Hw3.out hb9)
      have Hto := Lib.hid hto
      clear hto hb9
      go_simp
      refine hK _ _ fun a17 hsz17 hde17 f26 hk => ?_
      clear hK K
      replace f0 := (hk 0 (by decide)).trans f0
      replace f1 := (hk 1 (by decide)).trans f1
      replace f2 := (hk 2 (by decide)).trans f2
      replace f26 : a17.tmps[26]?.getD undef = .tuple #[vo, .int .i64 E] := f26
      clear hk hsz16 hde16 f25
      refine wpList_next rfl hsz17 hde17 24 rfl (by decide) fun K hK => ?_
      go_simp
      refine hK _ _ fun a18 hsz18 hde18 f24 hk => ?_
      clear hK K
      replace f0 := (hk 0 (by decide)).trans f0
      replace f1 := (hk 1 (by decide)).trans f1
      replace f2 := (hk 2 (by decide)).trans f2
      replace f24 : a18.tmps[24]?.getD undef = .tuple #[vo, .int .i64 E] := f24
      clear hk hsz17 hde17 f26
      refine wpList_next rfl hsz18 hde18 27 rfl (by decide) fun K hK => ?_
      go_simp
      refine hK _ _ fun a19 hsz19 hde19 f27 hk => ?_
      clear hK K
      replace f0 := (hk 0 (by decide)).trans f0
      replace f1 := (hk 1 (by decide)).trans f1
      replace f2 := (hk 2 (by decide)).trans f2
      replace f24 := (hk 24 (by decide)).trans f24
      replace f27 : a19.tmps[27]?.getD undef = vo := f27
      clear hk hsz18 hde18
      refine wpList_next rfl hsz19 hde19 28 rfl (by decide) fun K hK => ?_
      go_simp
      refine hK _ _ fun a20 hsz20 hde20 f28 hk => ?_
      clear hK K
      replace f0 := (hk 0 (by decide)).trans f0
      replace f1 := (hk 1 (by decide)).trans f1
      replace f2 := (hk 2 (by decide)).trans f2
      replace f27 := (hk 27 (by decide)).trans f27
      replace f28 : a20.tmps[28]?.getD undef = .int .i64 E := f28
      clear hk hsz19 hde19 f24
      refine wpList_next rfl hsz20 hde20 7 rfl (by decide) fun K hK => ?_
      go_simp
      refine hK _ _ fun a21 hsz21 hde21 f7 hk => ?_
      clear hK K
      replace f0 := (hk 0 (by decide)).trans f0
      replace f1 := (hk 1 (by decide)).trans f1
      replace f2 := (hk 2 (by decide)).trans f2
      replace f28 := (hk 28 (by decide)).trans f28
      replace f7 : a21.tmps[7]?.getD undef = vo := f7
      clear hk hsz20 hde20 f27
      refine wpList_next rfl hsz21 hde21 8 rfl (by decide) fun K hK => ?_
      go_simp
      refine hK _ _ fun a22 hsz22 hde22 f8 hk => ?_
      clear hK K
      replace f0 := (hk 0 (by decide)).trans f0
      replace f1 := (hk 1 (by decide)).trans f1
      replace f2 := (hk 2 (by decide)).trans f2
      replace f7 := (hk 7 (by decide)).trans f7
      replace f8 : a22.tmps[8]?.getD undef = .int .i64 E := f8
      clear hk hsz21 hde21 f28
      refine wpList_nil ?_
      refine then_go ?_
      repeat with_reducible refine wp_seq ?_
      obtain ⟨Ao, co, hvo, hco1, hco2, hro⟩ := Hto.out
      obtain ⟨m, hm⟩ : ∃ m, m = O.length := ⟨_, rfl⟩
      rw [← hm] at hvo hco1
      have Hm := Lib.hid hm
      subst hvo
      have Hro := Lib.hid hro
      clear hm hro Hto
      by_cases hE0 : E = 0
      · have HE0 := Lib.hid hE0
        clear hE0
        refine wp_region_lit ?_
        refine wpList_next rfl hsz22 hde22 29 rfl (by decide) fun K hK => ?_
        go_simp
        refine hK _ _ fun a23 hsz23 hde23 f29 hk => ?_
        clear hK K
        replace f0 := (hk 0 (by decide)).trans f0
        replace f1 := (hk 1 (by decide)).trans f1
        replace f2 := (hk 2 (by decide)).trans f2
        replace f7 := (hk 7 (by decide)).trans f7
        replace f8 := (hk 8 (by decide)).trans f8
        replace f29 : a23.tmps[29]?.getD undef = .int .i64 E := f29
        clear hk hsz22 hde22
        refine wpList_next rfl hsz23 hde23 30 rfl (by decide) fun K hK => ?_
        go_simp
        refine hK _ _ fun a24 hsz24 hde24 f30 hk => ?_
        clear hK K
        replace f0 := (hk 0 (by decide)).trans f0
        replace f1 := (hk 1 (by decide)).trans f1
        replace f2 := (hk 2 (by decide)).trans f2
        replace f7 := (hk 7 (by decide)).trans f7
        replace f8 := (hk 8 (by decide)).trans f8
        clear hk hsz23 hde23 f29
        replace f30 : a24.tmps[30]?.getD undef = .bool false := f30.trans (by have h7 := HE0.out; first | (rw [h7]; rfl) | (simp [h7]; done))
        refine wpList_nil ?_
        refine then_go ?_
        repeat with_reducible refine wp_seq ?_
        refine wp_cond_false (eval_at f30) ?_
        refine wp_skip ?_
        refine then_go ?_
        clear f30 f8
        repeat with_reducible refine wp_seq ?_
        obtain ⟨hpa, hle, hO1⟩ := cleanV_ok (HE.out.symm.trans HE0.out)
        have hO2 : O = cleanT L := by rw [HO.out]; exact hO1
        have htops : Tops L O := by rw [hO2]; exact cleanT_tops hpa
        have Hh2 := Lib.hid fun s z (hz : Below w3.heap.size w3 z) => has_any (fun _ => True) Ao co O s z (He.out.grow (below_call Hw4.out hz)) (Hro.out.grow hz) (by rw [hO2]; omega)
        have Hl2 := Lib.hid fun s z (hz : Below w3.heap.size w3 z) => leads_any (fun _ => True) Ao co O s z (He.out.grow (below_call Hw4.out hz)) (Hro.out.grow hz) (by rw [hO2]; omega)
        rw [← Hm.out] at Hh2 Hl2
        obtain ⟨h, hh⟩ : ∃ h, h = chHas L a := ⟨_, rfl⟩
        obtain ⟨l, hl⟩ : ∃ l, l = chLeads L a := ⟨_, rfl⟩
        have Hha := Lib.hid fun z hz => Hhas.out a z hz rfl
        have Hla := Lib.hid fun z hz => Hlea.out a z hz rfl
        have Hhb := Lib.hid (Hh2.out a)
        have Hlb := Lib.hid (Hl2.out a)
        rw [← hh] at Hha
        rw [← hl] at Hla
        rw [htops.has a, ← hh] at Hhb
        rw [htops.leads a, ← hl] at Hlb
        have Hhh := Lib.hid hh
        have ne1 : (h != h) = false := by cases h <;> rfl
        have ne2 : (l != l) = false := by cases l <;> rfl
        have Hn1 := Lib.hid ne1
        have Hn2 := Lib.hid ne2
        have Hw4r := Lib.hid (Below.refl w3.heap.size w3)
        clear hpa hle hO1 hO2 htops hh hl ne1 ne2 hco1 hco2
        refine wp_region_lit ?_
        refine wpList_next rfl hsz24 hde24 34 rfl (by decide) fun K hK => ?_
        go_simp
        refine hK _ _ fun a25 hsz25 hde25 f34 hk => ?_
        clear hK K
        replace f0 := (hk 0 (by decide)).trans f0
        replace f1 := (hk 1 (by decide)).trans f1
        replace f2 := (hk 2 (by decide)).trans f2
        replace f7 := (hk 7 (by decide)).trans f7
        replace f34 : a25.tmps[34]?.getD undef = .slice Ao m co := f34
        clear hk hsz24 hde24
        refine wpList_next rfl hsz25 hde25 35 rfl (by decide) fun K hK => ?_
        go_simp
        refine hK _ _ fun a26 hsz26 hde26 f35 hk => ?_
        clear hK K
        replace f0 := (hk 0 (by decide)).trans f0
        replace f1 := (hk 1 (by decide)).trans f1
        replace f2 := (hk 2 (by decide)).trans f2
        replace f7 := (hk 7 (by decide)).trans f7
        replace f34 := (hk 34 (by decide)).trans f34
        replace f35 : a26.tmps[35]?.getD undef = .string ⟨a.toArray⟩ := f35
        clear hk hsz25 hde25
        refine wpList_next rfl hsz26 hde26 36 rfl (by decide) fun K hK => ?_
        go_simp
        refine (Hhb.out _ Hw4r.out).mono ?_
        rintro e4 w4 ⟨rfl, hb9⟩
        go_simp
        refine hK _ _ fun a27 hsz27 hde27 f36 hk => ?_
        clear hK K
        replace f0 := (hk 0 (by decide)).trans f0
        replace f1 := (hk 1 (by decide)).trans f1
        replace f2 := (hk 2 (by decide)).trans f2
        replace f7 := (hk 7 (by decide)).trans f7
        replace f36 : a27.tmps[36]?.getD undef = .bool h := f36
        clear hk hsz26 hde26 f34 f35
        have Hw5 := Lib.hid hb9
        clear hb9
        refine wpList_next rfl hsz27 hde27 37 rfl (by decide) fun K hK => ?_
        go_simp
        refine hK _ _ fun a28 hsz28 hde28 f37 hk => ?_
        clear hK K
        replace f0 := (hk 0 (by decide)).trans f0
        replace f1 := (hk 1 (by decide)).trans f1
        replace f2 := (hk 2 (by decide)).trans f2
        replace f7 := (hk 7 (by decide)).trans f7
        replace f36 := (hk 36 (by decide)).trans f36
        replace f37 : a28.tmps[37]?.getD undef = .slice A n c := f37
        clear hk hsz27 hde27
        refine wpList_next rfl hsz28 hde28 38 rfl (by decide) fun K hK => ?_
        go_simp
        refine hK _ _ fun a29 hsz29 hde29 f38 hk => ?_
        clear hK K
        replace f0 := (hk 0 (by decide)).trans f0
        replace f1 := (hk 1 (by decide)).trans f1
        replace f2 := (hk 2 (by decide)).trans f2
        replace f7 := (hk 7 (by decide)).trans f7
        replace f36 := (hk 36 (by decide)).trans f36
        replace f37 := (hk 37 (by decide)).trans f37
        replace f38 : a29.tmps[38]?.getD undef = .string ⟨a.toArray⟩ := f38
        clear hk hsz28 hde28
        refine wpList_next rfl hsz29 hde29 39 rfl (by decide) fun K hK => ?_
        go_simp
        refine (Hha.out _ (below_call Hw4.out Hw5.out)).mono ?_
        rintro e5 w5 ⟨rfl, hb9⟩
        go_simp
        refine hK _ _ fun a30 hsz30 hde30 f39 hk => ?_
        clear hK K
        replace f0 := (hk 0 (by decide)).trans f0
        replace f1 := (hk 1 (by decide)).trans f1
        replace f2 := (hk 2 (by decide)).trans f2
        replace f7 := (hk 7 (by decide)).trans f7
        replace f36 := (hk 36 (by decide)).trans f36
        replace f39 : a30.tmps[39]?.getD undef = .bool h := f39
        clear hk hsz29 hde29 f37 f38
        have Hw6 := Lib.hid (below_call Hw5.out hb9)
        clear hb9
        refine wpList_next rfl hsz30 hde30 40 rfl (by decide) fun K hK => ?_
        have ne1 := Hn1.out
        go_simp
        refine hK _ _ fun a31 hsz31 hde31 f40 hk => ?_
        clear hK K
        replace f0 := (hk 0 (by decide)).trans f0
        replace f1 := (hk 1 (by decide)).trans f1
        replace f2 := (hk 2 (by decide)).trans f2
        replace f7 := (hk 7 (by decide)).trans f7
        replace f40 : a31.tmps[40]?.getD undef = .bool false := f40
        clear hk hsz30 hde30 f36 f39
        clear ne1
        refine wpList_next rfl hsz31 hde31 41 rfl (by decide) fun K hK => ?_
        go_simp
        refine hK _ _ fun a32 hsz32 hde32 f41 hk => ?_
        clear hK K
        replace f0 := (hk 0 (by decide)).trans f0
        replace f1 := (hk 1 (by decide)).trans f1
        replace f2 := (hk 2 (by decide)).trans f2
        replace f7 := (hk 7 (by decide)).trans f7
        replace f41 : a32.tmps[41]?.getD undef = .bool false := f41
        clear hk hsz31 hde31 f40
        refine wpList_nextg (wanted_of (j := 7) (t := 41) (b := false) rfl rfl f41) hsz32 hde32 42 rfl (by decide) fun K hK => ?_
        go_simp
        refine hK _ _ fun a33 hsz33 hde33 f42 hk => ?_
        clear hK K
        replace f0 := (hk 0 (by decide)).trans f0
        replace f1 := (hk 1 (by decide)).trans f1
        replace f2 := (hk 2 (by decide)).trans f2
        replace f7 := (hk 7 (by decide)).trans f7
        replace f41 := (hk 41 (by decide)).trans f41
        replace f42 : a33.tmps[42]?.getD undef = .slice Ao m co := f42
        clear hk hsz32 hde32
        refine wpList_nextg (wanted_of (j := 7) (t := 41) (b := false) rfl rfl f41) hsz33 hde33 43 rfl (by decide) fun K hK => ?_
        go_simp
        refine hK _ _ fun a34 hsz34 hde34 f43 hk => ?_
        clear hK K
        replace f0 := (hk 0 (by decide)).trans f0
        replace f1 := (hk 1 (by decide)).trans f1
        replace f2 := (hk 2 (by decide)).trans f2
        replace f7 := (hk 7 (by decide)).trans f7
        replace f41 := (hk 41 (by decide)).trans f41
        replace f42 := (hk 42 (by decide)).trans f42
        replace f43 : a34.tmps[43]?.getD undef = .string ⟨a.toArray⟩ := f43
        clear hk hsz33 hde33
        refine wpList_nextg (wanted_of (j := 7) (t := 41) (b := false) rfl rfl f41) hsz34 hde34 44 rfl (by decide) fun K hK => ?_
        go_simp
        refine (Hlb.out _ Hw6.out).mono ?_
        rintro e6 w6 ⟨rfl, hb9⟩
        go_simp
        refine hK _ _ fun a35 hsz35 hde35 f44 hk => ?_
        clear hK K
        replace f0 := (hk 0 (by decide)).trans f0
        replace f1 := (hk 1 (by decide)).trans f1
        replace f2 := (hk 2 (by decide)).trans f2
        replace f7 := (hk 7 (by decide)).trans f7
        replace f41 := (hk 41 (by decide)).trans f41
        replace f44 : a35.tmps[44]?.getD undef = .bool l := f44
        clear hk hsz34 hde34 f42 f43
        have Hw7 := Lib.hid (below_call Hw6.out hb9)
        clear hb9
        refine wpList_nextg (wanted_of (j := 7) (t := 41) (b := false) rfl rfl f41) hsz35 hde35 45 rfl (by decide) fun K hK => ?_
        go_simp
        refine hK _ _ fun a36 hsz36 hde36 f45 hk => ?_
        clear hK K
        replace f0 := (hk 0 (by decide)).trans f0
        replace f1 := (hk 1 (by decide)).trans f1
        replace f2 := (hk 2 (by decide)).trans f2
        replace f7 := (hk 7 (by decide)).trans f7
        replace f41 := (hk 41 (by decide)).trans f41
        replace f44 := (hk 44 (by decide)).trans f44
        replace f45 : a36.tmps[45]?.getD undef = .slice A n c := f45
        clear hk hsz35 hde35
        refine wpList_nextg (wanted_of (j := 7) (t := 41) (b := false) rfl rfl f41) hsz36 hde36 46 rfl (by decide) fun K hK => ?_
        go_simp
        refine hK _ _ fun a37 hsz37 hde37 f46 hk => ?_
        clear hK K
        replace f0 := (hk 0 (by decide)).trans f0
        replace f1 := (hk 1 (by decide)).trans f1
        replace f2 := (hk 2 (by decide)).trans f2
        replace f7 := (hk 7 (by decide)).trans f7
        replace f41 := (hk 41 (by decide)).trans f41
        replace f44 := (hk 44 (by decide)).trans f44
        replace f45 := (hk 45 (by decide)).trans f45
        replace f46 : a37.tmps[46]?.getD undef = .string ⟨a.toArray⟩ := f46
        clear hk hsz36 hde36
        refine wpList_nextg (wanted_of (j := 7) (t := 41) (b := false) rfl rfl f41) hsz37 hde37 47 rfl (by decide) fun K hK => ?_
        go_simp
        refine (Hla.out _ (below_call Hw4.out Hw7.out)).mono ?_
        rintro e7 w7 ⟨rfl, hb9⟩
        go_simp
        refine hK _ _ fun a38 hsz38 hde38 f47 hk => ?_
        clear hK K
        replace f0 := (hk 0 (by decide)).trans f0
        replace f1 := (hk 1 (by decide)).trans f1
        replace f2 := (hk 2 (by decide)).trans f2
        replace f7 := (hk 7 (by decide)).trans f7
        replace f41 := (hk 41 (by decide)).trans f41
        replace f44 := (hk 44 (by decide)).trans f44
        replace f47 : a38.tmps[47]?.getD undef = .bool l := f47
        clear hk hsz37 hde37 f45 f46
        have Hw8 := Lib.hid (below_call Hw7.out hb9)
        clear hb9
        refine wpList_nextg (wanted_of (j := 7) (t := 41) (b := false) rfl rfl f41) hsz38 hde38 48 rfl (by decide) fun K hK => ?_
        have ne2 := Hn2.out
        go_simp
        refine hK _ _ fun a39 hsz39 hde39 f48 hk => ?_
        clear hK K
        replace f0 := (hk 0 (by decide)).trans f0
        replace f1 := (hk 1 (by decide)).trans f1
        replace f2 := (hk 2 (by decide)).trans f2
        replace f7 := (hk 7 (by decide)).trans f7
        replace f41 := (hk 41 (by decide)).trans f41
        replace f48 : a39.tmps[48]?.getD undef = .bool false := f48
        clear hk hsz38 hde38 f44 f47
        clear ne2
        refine wpList_next rfl hsz39 hde39 49 rfl (by decide) fun K hK => ?_
        go_simp
        refine hK _ _ fun a40 hsz40 hde40 f49 hk => ?_
        clear hK K
        replace f0 := (hk 0 (by decide)).trans f0
        replace f1 := (hk 1 (by decide)).trans f1
        replace f2 := (hk 2 (by decide)).trans f2
        replace f7 := (hk 7 (by decide)).trans f7
        replace f49 : a40.tmps[49]?.getD undef = .bool false := f49
        clear hk hsz39 hde39 f41 f48
        refine wpList_nil ?_
        refine then_go ?_
        repeat with_reducible refine wp_seq ?_
        refine wp_cond_false (eval_at f49) ?_
        refine wp_skip ?_
        refine then_go ?_
        clear f49 f7
        repeat with_reducible refine wp_seq ?_
        cases h with
        | false =>
          refine wp_region_lit ?_
          refine wpList_next rfl hsz40 hde40 50 rfl (by decide) fun K hK => ?_
          go_simp
          refine hK _ _ fun a41 hsz41 hde41 f50 hk => ?_
          clear hK K
          replace f0 := (hk 0 (by decide)).trans f0
          replace f1 := (hk 1 (by decide)).trans f1
          replace f2 := (hk 2 (by decide)).trans f2
          replace f50 : a41.tmps[50]?.getD undef = .slice A n c := f50
          clear hk hsz40 hde40
          refine wpList_next rfl hsz41 hde41 51 rfl (by decide) fun K hK => ?_
          go_simp
          refine hK _ _ fun a42 hsz42 hde42 f51 hk => ?_
          clear hK K
          replace f0 := (hk 0 (by decide)).trans f0
          replace f1 := (hk 1 (by decide)).trans f1
          replace f2 := (hk 2 (by decide)).trans f2
          replace f50 := (hk 50 (by decide)).trans f50
          replace f51 : a42.tmps[51]?.getD undef = .string ⟨a.toArray⟩ := f51
          clear hk hsz41 hde41
          refine wpList_next rfl hsz42 hde42 52 rfl (by decide) fun K hK => ?_
          go_simp
          refine (Hha.out _ (below_call Hw4.out Hw8.out)).mono ?_
          rintro e8 w8 ⟨rfl, hb9⟩
          go_simp
          refine hK _ _ fun a43 hsz43 hde43 f52 hk => ?_
          clear hK K
          replace f0 := (hk 0 (by decide)).trans f0
          replace f1 := (hk 1 (by decide)).trans f1
          replace f2 := (hk 2 (by decide)).trans f2
          replace f52 : a43.tmps[52]?.getD undef = .bool false := f52
          clear hk hsz42 hde42 f50 f51
          have Hw9 := Lib.hid (below_call Hw8.out hb9)
          clear hb9
          refine wpList_next rfl hsz43 hde43 53 rfl (by decide) fun K hK => ?_
          go_simp
          refine hK _ _ fun a44 hsz44 hde44 f53 hk => ?_
          clear hK K
          replace f0 := (hk 0 (by decide)).trans f0
          replace f1 := (hk 1 (by decide)).trans f1
          replace f2 := (hk 2 (by decide)).trans f2
          replace f53 : a44.tmps[53]?.getD undef = .bool true := f53
          clear hk hsz43 hde43 f52
          refine wpList_next rfl hsz44 hde44 54 rfl (by decide) fun K hK => ?_
          go_simp
          refine hK _ _ fun a45 hsz45 hde45 f54 hk => ?_
          clear hK K
          replace f0 := (hk 0 (by decide)).trans f0
          replace f1 := (hk 1 (by decide)).trans f1
          replace f2 := (hk 2 (by decide)).trans f2
          replace f54 : a45.tmps[54]?.getD undef = .bool true := f54
          clear hk hsz44 hde44 f53
          refine wpList_leave (not_wanted (j := 4) (t := 54) (b := false) rfl rfl (.inr f54)) hsz45 hde45 55 rfl (by decide) fun a46 hsz46 hde46 f55 hk => ?_
          replace f0 := (hk 0 (by decide)).trans f0
          replace f1 := (hk 1 (by decide)).trans f1
          replace f2 := (hk 2 (by decide)).trans f2
          replace f54 := (hk 54 (by decide)).trans f54
          clear hk hsz45 hde45
          refine wpList_leave (not_wanted (j := 4) (t := 54) (b := false) rfl rfl (.inr f54)) hsz46 hde46 56 rfl (by decide) fun a47 hsz47 hde47 f56 hk => ?_
          replace f0 := (hk 0 (by decide)).trans f0
          replace f1 := (hk 1 (by decide)).trans f1
          replace f2 := (hk 2 (by decide)).trans f2
          replace f54 := (hk 54 (by decide)).trans f54
          clear hk hsz46 hde46 f55
          refine wpList_leave (not_wanted (j := 4) (t := 54) (b := false) rfl rfl (.inr f54)) hsz47 hde47 57 rfl (by decide) fun a48 hsz48 hde48 f57 hk => ?_
          replace f0 := (hk 0 (by decide)).trans f0
          replace f1 := (hk 1 (by decide)).trans f1
          replace f2 := (hk 2 (by decide)).trans f2
          replace f54 := (hk 54 (by decide)).trans f54
          replace f56 := (hk 56 (by decide)).trans f56
          clear hk hsz47 hde47
          refine wpList_leave (not_wanted (j := 4) (t := 54) (b := false) rfl rfl (.inr f54)) hsz48 hde48 58 rfl (by decide) fun a49 hsz49 hde49 f58 hk => ?_
          replace f0 := (hk 0 (by decide)).trans f0
          replace f1 := (hk 1 (by decide)).trans f1
          replace f2 := (hk 2 (by decide)).trans f2
          replace f54 := (hk 54 (by decide)).trans f54
          clear hk hsz48 hde48 f56 f57
          refine wpList_leave (not_wanted (j := 4) (t := 54) (b := false) rfl rfl (.inr f54)) hsz49 hde49 59 rfl (by decide) fun a50 hsz50 hde50 f59 hk => ?_
          replace f0 := (hk 0 (by decide)).trans f0
          replace f1 := (hk 1 (by decide)).trans f1
          replace f2 := (hk 2 (by decide)).trans f2
          replace f54 := (hk 54 (by decide)).trans f54
          clear hk hsz49 hde49 f58
          refine wpList_leave (not_wanted (j := 4) (t := 54) (b := false) rfl rfl (.inr f54)) hsz50 hde50 60 rfl (by decide) fun a51 hsz51 hde51 f60 hk => ?_
          replace f0 := (hk 0 (by decide)).trans f0
          replace f1 := (hk 1 (by decide)).trans f1
          replace f2 := (hk 2 (by decide)).trans f2
          replace f54 := (hk 54 (by decide)).trans f54
          clear hk hsz50 hde50 f59
          refine wpList_next rfl hsz51 hde51 61 rfl (by decide) fun K hK => ?_
          go_simp
          refine hK _ _ fun a52 hsz52 hde52 f61 hk => ?_
          clear hK K
          replace f0 := (hk 0 (by decide)).trans f0
          replace f1 := (hk 1 (by decide)).trans f1
          replace f2 := (hk 2 (by decide)).trans f2
          replace f61 : a52.tmps[61]?.getD undef = .bool true := f61
          clear hk hsz51 hde51 f54 f60
          refine wpList_nil ?_
          refine then_go ?_
          repeat with_reducible refine wp_seq ?_
          refine wp_cond_true (eval_at f61) ?_
          clear f61
          repeat with_reducible refine wp_seq ?_
          refine wp_region_lit ?_
          refine wpList_next rfl hsz52 hde52 6 rfl (by decide) fun K hK => ?_
          go_simp
          refine hK _ _ fun a53 hsz53 hde53 f6 hk => ?_
          clear hK K
          replace f0 := (hk 0 (by decide)).trans f0
          replace f1 := (hk 1 (by decide)).trans f1
          replace f2 := (hk 2 (by decide)).trans f2
          replace f6 : a53.tmps[6]?.getD undef = .bool true := f6
          clear hk hsz52 hde52
          refine wpList_nil ?_
          refine then_go ?_
          refine wp_ret ?_
          repeat first | with_reducible refine then_ret ?_ | with_reducible refine block_ret ?_
          refine ret_tmp Tryd.results3 hde53 f6 ?_
          exact ⟨rfl, below_call Hw4.out Hw9.out⟩
        | true =>
          obtain ⟨q, hq⟩ : ∃ q, q = pathB (a ++ 47 :: p) := ⟨_, rfl⟩
          have Hpq := Lib.hid (fun z => refpath_any (a ++ 47 :: p) z)
          rw [← hq] at Hpq
          have Hq := Lib.hid hq
          have hlen : (a ++ [47]).length = a.length + 1 := by simp
          clear hq
          refine wp_region_lit ?_
          refine wpList_next rfl hsz40 hde40 50 rfl (by decide) fun K hK => ?_
          go_simp
          refine hK _ _ fun a41 hsz41 hde41 f50 hk => ?_
          clear hK K
          replace f0 := (hk 0 (by decide)).trans f0
          replace f1 := (hk 1 (by decide)).trans f1
          replace f2 := (hk 2 (by decide)).trans f2
          replace f50 : a41.tmps[50]?.getD undef = .slice A n c := f50
          clear hk hsz40 hde40
          refine wpList_next rfl hsz41 hde41 51 rfl (by decide) fun K hK => ?_
          go_simp
          refine hK _ _ fun a42 hsz42 hde42 f51 hk => ?_
          clear hK K
          replace f0 := (hk 0 (by decide)).trans f0
          replace f1 := (hk 1 (by decide)).trans f1
          replace f2 := (hk 2 (by decide)).trans f2
          replace f50 := (hk 50 (by decide)).trans f50
          replace f51 : a42.tmps[51]?.getD undef = .string ⟨a.toArray⟩ := f51
          clear hk hsz41 hde41
          refine wpList_next rfl hsz42 hde42 52 rfl (by decide) fun K hK => ?_
          go_simp
          refine (Hha.out _ (below_call Hw4.out Hw8.out)).mono ?_
          rintro e8 w8 ⟨rfl, hb9⟩
          go_simp
          refine hK _ _ fun a43 hsz43 hde43 f52 hk => ?_
          clear hK K
          replace f0 := (hk 0 (by decide)).trans f0
          replace f1 := (hk 1 (by decide)).trans f1
          replace f2 := (hk 2 (by decide)).trans f2
          replace f52 : a43.tmps[52]?.getD undef = .bool true := f52
          clear hk hsz42 hde42 f50 f51
          have Hw9 := Lib.hid (below_call Hw8.out hb9)
          clear hb9
          refine wpList_next rfl hsz43 hde43 53 rfl (by decide) fun K hK => ?_
          go_simp
          refine hK _ _ fun a44 hsz44 hde44 f53 hk => ?_
          clear hK K
          replace f0 := (hk 0 (by decide)).trans f0
          replace f1 := (hk 1 (by decide)).trans f1
          replace f2 := (hk 2 (by decide)).trans f2
          replace f53 : a44.tmps[53]?.getD undef = .bool false := f53
          clear hk hsz43 hde43 f52
          refine wpList_next rfl hsz44 hde44 54 rfl (by decide) fun K hK => ?_
          go_simp
          refine hK _ _ fun a45 hsz45 hde45 f54 hk => ?_
          clear hK K
          replace f0 := (hk 0 (by decide)).trans f0
          replace f1 := (hk 1 (by decide)).trans f1
          replace f2 := (hk 2 (by decide)).trans f2
          replace f54 : a45.tmps[54]?.getD undef = .bool false := f54
          clear hk hsz44 hde44 f53
          refine wpList_nextg (wanted_of (j := 4) (t := 54) (b := false) rfl rfl f54) hsz45 hde45 55 rfl (by decide) fun K hK => ?_
          go_simp
          refine hK _ _ fun a46 hsz46 hde46 f55 hk => ?_
          clear hK K
          replace f0 := (hk 0 (by decide)).trans f0
          replace f1 := (hk 1 (by decide)).trans f1
          replace f2 := (hk 2 (by decide)).trans f2
          replace f54 := (hk 54 (by decide)).trans f54
          replace f55 : a46.tmps[55]?.getD undef = .string ⟨a.toArray⟩ := f55
          clear hk hsz45 hde45
          refine wpList_nextg (wanted_of (j := 4) (t := 54) (b := false) rfl rfl f54) hsz46 hde46 56 rfl (by decide) fun K hK => ?_
          have e0 := run_str_add (P := Tryd.prog) w8 a [47] (by simp; omega)
          unfold str at e0
          go_simp
          refine hK _ _ fun a47 hsz47 hde47 f56 hk => ?_
          clear hK K
          replace f0 := (hk 0 (by decide)).trans f0
          replace f1 := (hk 1 (by decide)).trans f1
          replace f2 := (hk 2 (by decide)).trans f2
          replace f54 := (hk 54 (by decide)).trans f54
          replace f56 : a47.tmps[56]?.getD undef = .string ⟨(a ++ [47]).toArray⟩ := f56
          clear hk hsz46 hde46 f55
          clear e0
          refine wpList_nextg (wanted_of (j := 4) (t := 54) (b := false) rfl rfl f54) hsz47 hde47 57 rfl (by decide) fun K hK => ?_
          go_simp
          refine hK _ _ fun a48 hsz48 hde48 f57 hk => ?_
          clear hK K
          replace f0 := (hk 0 (by decide)).trans f0
          replace f1 := (hk 1 (by decide)).trans f1
          replace f2 := (hk 2 (by decide)).trans f2
          replace f54 := (hk 54 (by decide)).trans f54
          replace f56 := (hk 56 (by decide)).trans f56
          replace f57 : a48.tmps[57]?.getD undef = .string ⟨p.toArray⟩ := f57
          clear hk hsz47 hde47
          refine wpList_nextg (wanted_of (j := 4) (t := 54) (b := false) rfl rfl f54) hsz48 hde48 58 rfl (by decide) fun K hK => ?_
          have e0 := run_str_add (P := Tryd.prog) w8 (a ++ [47]) p (by simp; omega)
          rw [List.append_assoc] at e0
          unfold str at e0
          go_simp
          refine hK _ _ fun a49 hsz49 hde49 f58 hk => ?_
          clear hK K
          replace f0 := (hk 0 (by decide)).trans f0
          replace f1 := (hk 1 (by decide)).trans f1
          replace f2 := (hk 2 (by decide)).trans f2
          replace f54 := (hk 54 (by decide)).trans f54
          replace f58 : a49.tmps[58]?.getD undef = .string ⟨(a ++ 47 :: p).toArray⟩ := f58
          clear hk hsz48 hde48 f56 f57
          clear e0
          refine wpList_nextg (wanted_of (j := 4) (t := 54) (b := false) rfl rfl f54) hsz49 hde49 59 rfl (by decide) fun K hK => ?_
          go_simp
          refine (Hpq.out _).mono ?_
          rintro e9 w9 ⟨rfl, hb9⟩
          go_simp
          refine hK _ _ fun a50 hsz50 hde50 f59 hk => ?_
          clear hK K
          replace f0 := (hk 0 (by decide)).trans f0
          replace f1 := (hk 1 (by decide)).trans f1
          replace f2 := (hk 2 (by decide)).trans f2
          replace f54 := (hk 54 (by decide)).trans f54
          replace f59 : a50.tmps[59]?.getD undef = .bool q := f59
          clear hk hsz49 hde49 f58
          have Hw10 := Lib.hid (below_call Hw9.out hb9)
          clear hb9
          refine wpList_nextg (wanted_of (j := 4) (t := 54) (b := false) rfl rfl f54) hsz50 hde50 60 rfl (by decide) fun K hK => ?_
          go_simp
          refine hK _ _ fun a51 hsz51 hde51 f60 hk => ?_
          clear hK K
          replace f0 := (hk 0 (by decide)).trans f0
          replace f1 := (hk 1 (by decide)).trans f1
          replace f2 := (hk 2 (by decide)).trans f2
          replace f54 := (hk 54 (by decide)).trans f54
          replace f60 : a51.tmps[60]?.getD undef = .bool (!q) := f60
          clear hk hsz50 hde50 f59
          refine wpList_next rfl hsz51 hde51 61 rfl (by decide) fun K hK => ?_
          go_simp
          refine hK _ _ fun a52 hsz52 hde52 f61 hk => ?_
          clear hK K
          replace f0 := (hk 0 (by decide)).trans f0
          replace f1 := (hk 1 (by decide)).trans f1
          replace f2 := (hk 2 (by decide)).trans f2
          replace f61 : a52.tmps[61]?.getD undef = .bool (!q) := f61
          clear hk hsz51 hde51 f54 f60
          refine wpList_nil ?_
          refine then_go ?_
          repeat with_reducible refine wp_seq ?_
          cases q with
          | false =>
            replace f61 : a52.tmps[61]?.getD undef = .bool true := f61
            refine wp_cond_true (eval_at f61) ?_
            clear f61
            repeat with_reducible refine wp_seq ?_
            refine wp_region_lit ?_
            refine wpList_next rfl hsz52 hde52 6 rfl (by decide) fun K hK => ?_
            go_simp
            refine hK _ _ fun a53 hsz53 hde53 f6 hk => ?_
            clear hK K
            replace f0 := (hk 0 (by decide)).trans f0
            replace f1 := (hk 1 (by decide)).trans f1
            replace f2 := (hk 2 (by decide)).trans f2
            replace f6 : a53.tmps[6]?.getD undef = .bool true := f6
            clear hk hsz52 hde52
            refine wpList_nil ?_
            refine then_go ?_
            refine wp_ret ?_
            repeat first | with_reducible refine then_ret ?_ | with_reducible refine block_ret ?_
            refine ret_tmp Tryd.results3 hde53 f6 ?_
            exact ⟨rfl, below_call Hw4.out Hw10.out⟩
          | true =>
            replace f61 : a52.tmps[61]?.getD undef = .bool false := f61
            refine wp_cond_false (eval_at f61) ?_
            refine wp_skip ?_
            refine then_go ?_
            clear f61
            repeat with_reducible refine wp_seq ?_
            have hdn := has_down Hhh.out.symm fun _ h => within_more Hq.out.symm h
            have Hhc := Lib.hid fun z hz => Hhas.out (a ++ 47 :: p) z hz rfl
            rw [hdn] at Hhc
            clear hdn
            refine wp_region_lit ?_
            refine wpList_next rfl hsz52 hde52 62 rfl (by decide) fun K hK => ?_
            go_simp
            refine hK _ _ fun a53 hsz53 hde53 f62 hk => ?_
            clear hK K
            replace f0 := (hk 0 (by decide)).trans f0
            replace f1 := (hk 1 (by decide)).trans f1
            replace f2 := (hk 2 (by decide)).trans f2
            replace f62 : a53.tmps[62]?.getD undef = .slice A n c := f62
            clear hk hsz52 hde52
            refine wpList_next rfl hsz53 hde53 63 rfl (by decide) fun K hK => ?_
            go_simp
            refine hK _ _ fun a54 hsz54 hde54 f63 hk => ?_
            clear hK K
            replace f0 := (hk 0 (by decide)).trans f0
            replace f1 := (hk 1 (by decide)).trans f1
            replace f2 := (hk 2 (by decide)).trans f2
            replace f62 := (hk 62 (by decide)).trans f62
            replace f63 : a54.tmps[63]?.getD undef = .string ⟨a.toArray⟩ := f63
            clear hk hsz53 hde53
            refine wpList_next rfl hsz54 hde54 64 rfl (by decide) fun K hK => ?_
            have e0 := run_str_add (P := Tryd.prog) w9 a [47] (by simp; omega)
            unfold str at e0
            go_simp
            refine hK _ _ fun a55 hsz55 hde55 f64 hk => ?_
            clear hK K
            replace f0 := (hk 0 (by decide)).trans f0
            replace f1 := (hk 1 (by decide)).trans f1
            replace f2 := (hk 2 (by decide)).trans f2
            replace f62 := (hk 62 (by decide)).trans f62
            replace f64 : a55.tmps[64]?.getD undef = .string ⟨(a ++ [47]).toArray⟩ := f64
            clear hk hsz54 hde54 f63
            clear e0
            refine wpList_next rfl hsz55 hde55 65 rfl (by decide) fun K hK => ?_
            go_simp
            refine hK _ _ fun a56 hsz56 hde56 f65 hk => ?_
            clear hK K
            replace f0 := (hk 0 (by decide)).trans f0
            replace f1 := (hk 1 (by decide)).trans f1
            replace f2 := (hk 2 (by decide)).trans f2
            replace f62 := (hk 62 (by decide)).trans f62
            replace f64 := (hk 64 (by decide)).trans f64
            replace f65 : a56.tmps[65]?.getD undef = .string ⟨p.toArray⟩ := f65
            clear hk hsz55 hde55
            refine wpList_next rfl hsz56 hde56 66 rfl (by decide) fun K hK => ?_
            have e0 := run_str_add (P := Tryd.prog) w9 (a ++ [47]) p (by simp; omega)
            rw [List.append_assoc] at e0
            unfold str at e0
            go_simp
            refine hK _ _ fun a57 hsz57 hde57 f66 hk => ?_
            clear hK K
            replace f0 := (hk 0 (by decide)).trans f0
            replace f1 := (hk 1 (by decide)).trans f1
            replace f2 := (hk 2 (by decide)).trans f2
            replace f62 := (hk 62 (by decide)).trans f62
            replace f66 : a57.tmps[66]?.getD undef = .string ⟨(a ++ 47 :: p).toArray⟩ := f66
            clear hk hsz56 hde56 f64 f65
            clear e0
            refine wpList_next rfl hsz57 hde57 67 rfl (by decide) fun K hK => ?_
            go_simp
            refine (Hhc.out _ (below_call Hw4.out Hw10.out)).mono ?_
            rintro e7 w7 ⟨rfl, hb9⟩
            go_simp
            refine hK _ _ fun a58 hsz58 hde58 f67 hk => ?_
            clear hK K
            replace f0 := (hk 0 (by decide)).trans f0
            replace f1 := (hk 1 (by decide)).trans f1
            replace f2 := (hk 2 (by decide)).trans f2
            replace f67 : a58.tmps[67]?.getD undef = .bool true := f67
            clear hk hsz57 hde57 f62 f66
            have Hwz := Lib.hid (below_call (below_call Hw4.out Hw10.out) hb9)
            clear hb9
            refine wpList_next rfl hsz58 hde58 6 rfl (by decide) fun K hK => ?_
            go_simp
            refine hK _ _ fun a59 hsz59 hde59 f6 hk => ?_
            clear hK K
            replace f0 := (hk 0 (by decide)).trans f0
            replace f1 := (hk 1 (by decide)).trans f1
            replace f2 := (hk 2 (by decide)).trans f2
            replace f6 : a59.tmps[6]?.getD undef = .bool true := f6
            clear hk hsz58 hde58 f67
            refine wpList_nil ?_
            refine then_go ?_
            refine wp_ret ?_
            repeat first | with_reducible refine then_ret ?_ | with_reducible refine block_ret ?_
            refine ret_tmp Tryd.results3 hde59 f6 ?_
            exact ⟨rfl, Hwz.out⟩
      have Hne := Lib.hid hE0
      refine wp_region_lit ?_
      refine wpList_next rfl hsz22 hde22 29 rfl (by decide) fun K hK => ?_
      go_simp
      refine hK _ _ fun a23 hsz23 hde23 f29 hk => ?_
      clear hK K
      replace f0 := (hk 0 (by decide)).trans f0
      replace f1 := (hk 1 (by decide)).trans f1
      replace f2 := (hk 2 (by decide)).trans f2
      replace f7 := (hk 7 (by decide)).trans f7
      replace f8 := (hk 8 (by decide)).trans f8
      replace f29 : a23.tmps[29]?.getD undef = .int .i64 E := f29
      clear hk hsz22 hde22
      refine wpList_next rfl hsz23 hde23 30 rfl (by decide) fun K hK => ?_
      go_simp
      refine hK _ _ fun a24 hsz24 hde24 f30 hk => ?_
      clear hK K
      replace f0 := (hk 0 (by decide)).trans f0
      replace f1 := (hk 1 (by decide)).trans f1
      replace f2 := (hk 2 (by decide)).trans f2
      replace f7 := (hk 7 (by decide)).trans f7
      replace f8 := (hk 8 (by decide)).trans f8
      clear hk hsz23 hde23 f29
      replace f30 : a24.tmps[30]?.getD undef = .bool true := f30.trans (by first | rfl | (simp [hE0]; done) | (congr 1; simp [hE0]; done))
      refine wpList_nil ?_
      refine then_go ?_
      repeat with_reducible refine wp_seq ?_
      refine wp_cond_true (eval_at f30) ?_
      clear f30
      repeat with_reducible refine wp_seq ?_
      have hz := clean_len (L := L) (by rw [← HE.out]; exact hE0)
      rw [← HO.out, ← Hm.out] at hz
      have Hz := Lib.hid hz
      clear hz
      refine wp_region_lit ?_
      refine wpList_next rfl hsz24 hde24 31 rfl (by decide) fun K hK => ?_
      go_simp
      refine hK _ _ fun a25 hsz25 hde25 f31 hk => ?_
      clear hK K
      replace f0 := (hk 0 (by decide)).trans f0
      replace f1 := (hk 1 (by decide)).trans f1
      replace f2 := (hk 2 (by decide)).trans f2
      replace f7 := (hk 7 (by decide)).trans f7
      replace f8 := (hk 8 (by decide)).trans f8
      replace f31 : a25.tmps[31]?.getD undef = .slice Ao m co := f31
      clear hk hsz24 hde24
      refine wpList_next rfl hsz25 hde25 32 rfl (by decide) fun K hK => ?_
      go_simp
      refine hK _ _ fun a26 hsz26 hde26 f32 hk => ?_
      clear hK K
      replace f0 := (hk 0 (by decide)).trans f0
      replace f1 := (hk 1 (by decide)).trans f1
      replace f2 := (hk 2 (by decide)).trans f2
      replace f7 := (hk 7 (by decide)).trans f7
      replace f8 := (hk 8 (by decide)).trans f8
      replace f32 : a26.tmps[32]?.getD undef = .int .i64 ((m : Nat) : Int) := f32
      clear hk hsz25 hde25 f31
      refine wpList_next rfl hsz26 hde26 33 rfl (by decide) fun K hK => ?_
      have hz := Hz.out
      go_simp
      refine hK _ _ fun a27 hsz27 hde27 f33 hk => ?_
      clear hK K
      replace f0 := (hk 0 (by decide)).trans f0
      replace f1 := (hk 1 (by decide)).trans f1
      replace f2 := (hk 2 (by decide)).trans f2
      replace f7 := (hk 7 (by decide)).trans f7
      replace f8 := (hk 8 (by decide)).trans f8
      replace f33 : a27.tmps[33]?.getD undef = .bool true := f33
      clear hk hsz26 hde26 f32
      clear hz
      refine wpList_next rfl hsz27 hde27 6 rfl (by decide) fun K hK => ?_
      go_simp
      refine hK _ _ fun a28 hsz28 hde28 f6 hk => ?_
      clear hK K
      replace f0 := (hk 0 (by decide)).trans f0
      replace f1 := (hk 1 (by decide)).trans f1
      replace f2 := (hk 2 (by decide)).trans f2
      replace f7 := (hk 7 (by decide)).trans f7
      replace f8 := (hk 8 (by decide)).trans f8
      replace f6 : a28.tmps[6]?.getD undef = .bool true := f6
      clear hk hsz27 hde27 f33
      refine wpList_nil ?_
      refine then_go ?_
      refine wp_ret ?_
      repeat first | with_reducible refine then_ret ?_ | with_reducible refine block_ret ?_
      refine ret_tmp Tryd.results3 hde28 f6 ?_
      exact ⟨rfl, Hw4.out⟩
end Go.Proofs.YtgebodibamgipaaDoor
