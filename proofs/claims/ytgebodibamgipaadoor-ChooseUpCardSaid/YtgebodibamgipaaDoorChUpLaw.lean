/-
  The walk of ChooseUp.
-/
import Derived.Test.YtgebodibamgipaaDoorChLives
namespace Go.Proofs.YtgebodibamgipaaDoor
open Go.RowKit
set_option maxRecDepth 100000

theorem refJ_path (L : List Txt) : refJ L = pathT L := by
  cases L with
  | nil => rfl
  | cons a r => exact refJ_more (by simp)
theorem join_mem (L : List Txt) (p : Txt) (h : p ∈ L) : p.length ≤ (Lib.join L [47]).length := by
  induction L with
  | nil => cases h
  | cons a r ih =>
    rw [Lib.join_cons]
    rcases List.mem_cons.1 h with rfl | h
    · simp
    · have := ih h
      cases r with
      | nil => cases h
      | cons b q =>
        rw [Lib.join_cons] at this
        simp [Lib.joinTail] at this ⊢
        omega
theorem short_one {s : Txt} (h : shortC [s] = true) : s.length ≤ 200 := by
  unfold shortC at h
  simp at h
  omega
def UpInv (w2 : World) (v p : Value) (m : Nat) (k9 : Nat) (a : Act) (x : World) : Prop :=
  ∃ i : Nat, Hid (a.tmps.size = 51) ∧ Hid (a.defers = []) ∧ a.tmps[0]?.getD undef = v ∧ a.tmps[5]?.getD undef = p ∧ a.tmps[39]?.getD undef = .int .i64 ((m : Nat) : Int) ∧ a.tmps[40]?.getD undef = .int .i64 ((i : Nat) : Int) ∧ Hid (i ≤ m) ∧ Hid (Below w2.heap.size w2 x) ∧ k9 = m - i

set_option maxHeartbeats 4000000 in
theorem chooseup_walk (v : Value) (L : List Txt) (a : Txt) (w : World) (hv : IsL kStr w (fun _ => True) v L) (_ha : a.length ≤ 9223372036854775807) (he : Env w) :
    Calls Tryd.prog 4 #[v, .string ⟨a.toArray⟩] w fun e w' => e = .returned (.bool true) ∧ Below w.heap.size w w' := by
  obtain ⟨A, c, ds, rfl, hc1, hc2, hds, hmany⟩ := hv
  obtain ⟨rfl, _⟩ := kStr_cells hmany
  have He := Lib.hid he
  have Hsh := Lib.hid fun z (hz : Below w.heap.size w z) => short14_any (fun _ => True) A c L z (hds.grow hz)
  obtain ⟨b1, hb1⟩ : ∃ b, b = shortC L := ⟨_, rfl⟩
  rw [← hb1] at Hsh
  have HB1 := Lib.hid hb1
  have Hfew := Lib.hid (show b1 = true → L.length ≤ 20 from fun h => short_few (L := L) (by rw [← hb1]; exact h))
  have Hcl := Lib.hid fun z (hz : Below w.heap.size w z) (h : b1 = true) => clean_any (fun _ => True) A c L z (he.grow hz) (hds.grow hz) (by have := Hfew.out h; omega)
  have Hlea := Lib.hid fun s z (hz : Below w.heap.size w z) (h : b1 = true) => leads_any (fun _ => True) A c L s z (he.grow hz) (hds.grow hz) (by have := Hfew.out h; omega)
  have Hlv := Lib.hid fun z (hz : Below w.heap.size w z) => lives14_any z (he.grow hz)
  obtain ⟨n, hn⟩ : ∃ n, n = L.length := ⟨_, rfl⟩
  have Hn := Lib.hid hn
  rw [← hn] at Hsh Hcl Hlea ⊢
  obtain ⟨b2, hb2⟩ : ∃ b, b = shortC [a] := ⟨_, rfl⟩
  have HB2 := Lib.hid hb2
  obtain ⟨l, hl⟩ : ∃ l, l = chLeads L a := ⟨_, rfl⟩
  have Hl := Lib.hid hl
  have Hla := Lib.hid fun z hz h => Hlea.out a z hz h
  rw [← hl] at Hla
  clear hmany hc1 hc2 hds he hb1 hb2 hn _ha hl Hcl
  go_enter Tryd.func4, Tryd.ntmps4
  refine enter_abs (N := 51) rfl rfl fun a0 hsz0 hde0 hk => ?_
  have f0 : a0.tmps[0]?.getD undef = .slice A n c := hk 0
  have f1 : a0.tmps[1]?.getD undef = .string ⟨a.toArray⟩ := hk 1
  clear hk
  repeat with_reducible refine wp_seq ?_
  refine wp_region_lit ?_
  refine wpList_next rfl hsz0 hde0 4 rfl (by decide) fun K hK => ?_
  go_simp
  refine hK _ _ fun a1 hsz1 hde1 f4 hk => ?_
  clear hK K
  replace f0 := (hk 0 (by decide)).trans f0
  replace f1 := (hk 1 (by decide)).trans f1
  clear hk hsz0 hde0
  refine wpList_nil ?_
  clear f4
  refine then_go ?_
  repeat with_reducible refine wp_seq ?_
  have Hw0 := Lib.hid (Below.refl w.heap.size w)
  refine wp_region_lit ?_
  refine wpList_next rfl hsz1 hde1 8 rfl (by decide) fun K hK => ?_
  go_simp
  refine (Hlv.out _ Hw0.out).mono ?_
  rintro e1 w1 ⟨rfl, hb9⟩
  go_simp
  refine hK _ _ fun a2 hsz2 hde2 f8 hk => ?_
  clear hK K
  replace f0 := (hk 0 (by decide)).trans f0
  replace f1 := (hk 1 (by decide)).trans f1
  replace f8 : a2.tmps[8]?.getD undef = .bool true := f8
  clear hk hsz1 hde1
  have Hw1 := Lib.hid (below_call Hw0.out hb9)
  clear hb9
  refine wpList_next rfl hsz2 hde2 9 rfl (by decide) fun K hK => ?_
  go_simp
  refine hK _ _ fun a3 hsz3 hde3 f9 hk => ?_
  clear hK K
  replace f0 := (hk 0 (by decide)).trans f0
  replace f1 := (hk 1 (by decide)).trans f1
  replace f9 : a3.tmps[9]?.getD undef = .bool false := f9
  clear hk hsz2 hde2 f8
  refine wpList_next rfl hsz3 hde3 10 rfl (by decide) fun K hK => ?_
  go_simp
  refine hK _ _ fun a4 hsz4 hde4 f10 hk => ?_
  clear hK K
  replace f0 := (hk 0 (by decide)).trans f0
  replace f1 := (hk 1 (by decide)).trans f1
  replace f10 : a4.tmps[10]?.getD undef = .bool false := f10
  clear hk hsz3 hde3 f9
  refine wpList_nextg (wanted_of (j := 2) (t := 10) (b := false) rfl rfl f10) hsz4 hde4 11 rfl (by decide) fun K hK => ?_
  go_simp
  refine hK _ _ fun a5 hsz5 hde5 f11 hk => ?_
  clear hK K
  replace f0 := (hk 0 (by decide)).trans f0
  replace f1 := (hk 1 (by decide)).trans f1
  replace f10 := (hk 10 (by decide)).trans f10
  replace f11 : a5.tmps[11]?.getD undef = .slice A n c := f11
  clear hk hsz4 hde4
  refine wpList_nextg (wanted_of (j := 2) (t := 10) (b := false) rfl rfl f10) hsz5 hde5 12 rfl (by decide) fun K hK => ?_
  go_simp
  refine (Hsh.out _ Hw1.out).mono ?_
  rintro e2 w2 ⟨rfl, rfl⟩
  go_simp
  refine hK _ _ fun a6 hsz6 hde6 f12 hk => ?_
  clear hK K
  replace f0 := (hk 0 (by decide)).trans f0
  replace f1 := (hk 1 (by decide)).trans f1
  replace f10 := (hk 10 (by decide)).trans f10
  replace f12 : a6.tmps[12]?.getD undef = .bool b1 := f12
  clear hk hsz5 hde5 f11
  refine wpList_nextg (wanted_of (j := 2) (t := 10) (b := false) rfl rfl f10) hsz6 hde6 13 rfl (by decide) fun K hK => ?_
  go_simp
  refine hK _ _ fun a7 hsz7 hde7 f13 hk => ?_
  clear hK K
  replace f0 := (hk 0 (by decide)).trans f0
  replace f1 := (hk 1 (by decide)).trans f1
  replace f10 := (hk 10 (by decide)).trans f10
  replace f13 : a7.tmps[13]?.getD undef = .bool (!b1) := f13
  clear hk hsz6 hde6 f12
  refine wpList_next rfl hsz7 hde7 14 rfl (by decide) fun K hK => ?_
  go_simp
  refine hK _ _ fun a8 hsz8 hde8 f14 hk => ?_
  clear hK K
  replace f0 := (hk 0 (by decide)).trans f0
  replace f1 := (hk 1 (by decide)).trans f1
  replace f14 : a8.tmps[14]?.getD undef = .bool (!b1) := f14
  clear hk hsz7 hde7 f10 f13
  refine wpList_next rfl hsz8 hde8 15 rfl (by decide) fun K hK => ?_
  go_simp
  refine hK _ _ fun a9 hsz9 hde9 f15 hk => ?_
  clear hK K
  replace f0 := (hk 0 (by decide)).trans f0
  replace f1 := (hk 1 (by decide)).trans f1
  replace f15 : a9.tmps[15]?.getD undef = .bool (!b1) := f15
  clear hk hsz8 hde8 f14
  cases b1 with
  | false =>
    replace f15 : a9.tmps[15]?.getD undef = .bool true := f15
    refine wpList_leave (not_wanted (j := 7) (t := 15) (b := false) rfl rfl (.inr f15)) hsz9 hde9 16 rfl (by decide) fun a10 hsz10 hde10 f16 hk => ?_
    replace f0 := (hk 0 (by decide)).trans f0
    replace f1 := (hk 1 (by decide)).trans f1
    replace f15 := (hk 15 (by decide)).trans f15
    clear hk hsz9 hde9
    refine wpList_leave (not_wanted (j := 7) (t := 15) (b := false) rfl rfl (.inr f15)) hsz10 hde10 17 rfl (by decide) fun a11 hsz11 hde11 f17 hk => ?_
    replace f0 := (hk 0 (by decide)).trans f0
    replace f1 := (hk 1 (by decide)).trans f1
    replace f15 := (hk 15 (by decide)).trans f15
    clear hk hsz10 hde10 f16
    refine wpList_leave (not_wanted (j := 7) (t := 15) (b := false) rfl rfl (.inr f15)) hsz11 hde11 18 rfl (by decide) fun a12 hsz12 hde12 f18 hk => ?_
    replace f0 := (hk 0 (by decide)).trans f0
    replace f1 := (hk 1 (by decide)).trans f1
    replace f15 := (hk 15 (by decide)).trans f15
    clear hk hsz11 hde11 f17
    refine wpList_leave (not_wanted (j := 7) (t := 15) (b := false) rfl rfl (.inr f15)) hsz12 hde12 19 rfl (by decide) fun a13 hsz13 hde13 f19 hk => ?_
    replace f0 := (hk 0 (by decide)).trans f0
    replace f1 := (hk 1 (by decide)).trans f1
    replace f15 := (hk 15 (by decide)).trans f15
    clear hk hsz12 hde12 f18
    refine wpList_next rfl hsz13 hde13 20 rfl (by decide) fun K hK => ?_
    go_simp
    refine hK _ _ fun a14 hsz14 hde14 f20 hk => ?_
    clear hK K
    replace f0 := (hk 0 (by decide)).trans f0
    replace f1 := (hk 1 (by decide)).trans f1
    replace f20 : a14.tmps[20]?.getD undef = .bool true := f20
    clear hk hsz13 hde13 f15 f19
    refine wpList_next rfl hsz14 hde14 21 rfl (by decide) fun K hK => ?_
    go_simp
    refine hK _ _ fun a15 hsz15 hde15 f21 hk => ?_
    clear hK K
    replace f0 := (hk 0 (by decide)).trans f0
    replace f1 := (hk 1 (by decide)).trans f1
    replace f21 : a15.tmps[21]?.getD undef = .bool true := f21
    clear hk hsz14 hde14 f20
    refine wpList_leave (not_wanted (j := 13) (t := 21) (b := false) rfl rfl (.inr f21)) hsz15 hde15 22 rfl (by decide) fun a16 hsz16 hde16 f22 hk => ?_
    replace f0 := (hk 0 (by decide)).trans f0
    replace f1 := (hk 1 (by decide)).trans f1
    replace f21 := (hk 21 (by decide)).trans f21
    clear hk hsz15 hde15
    refine wpList_leave (not_wanted (j := 13) (t := 21) (b := false) rfl rfl (.inr f21)) hsz16 hde16 23 rfl (by decide) fun a17 hsz17 hde17 f23 hk => ?_
    replace f0 := (hk 0 (by decide)).trans f0
    replace f1 := (hk 1 (by decide)).trans f1
    replace f21 := (hk 21 (by decide)).trans f21
    replace f22 := (hk 22 (by decide)).trans f22
    clear hk hsz16 hde16
    refine wpList_leave (not_wanted (j := 13) (t := 21) (b := false) rfl rfl (.inr f21)) hsz17 hde17 24 rfl (by decide) fun a18 hsz18 hde18 f24 hk => ?_
    replace f0 := (hk 0 (by decide)).trans f0
    replace f1 := (hk 1 (by decide)).trans f1
    replace f21 := (hk 21 (by decide)).trans f21
    clear hk hsz17 hde17 f22 f23
    refine wpList_leave (not_wanted (j := 13) (t := 21) (b := false) rfl rfl (.inr f21)) hsz18 hde18 25 rfl (by decide) fun a19 hsz19 hde19 f25 hk => ?_
    replace f0 := (hk 0 (by decide)).trans f0
    replace f1 := (hk 1 (by decide)).trans f1
    replace f21 := (hk 21 (by decide)).trans f21
    clear hk hsz18 hde18 f24
    refine wpList_next rfl hsz19 hde19 26 rfl (by decide) fun K hK => ?_
    go_simp
    refine hK _ _ fun a20 hsz20 hde20 f26 hk => ?_
    clear hK K
    replace f0 := (hk 0 (by decide)).trans f0
    replace f1 := (hk 1 (by decide)).trans f1
    replace f26 : a20.tmps[26]?.getD undef = .bool true := f26
    clear hk hsz19 hde19 f21 f25
    refine wpList_nil ?_
    refine then_go ?_
    repeat with_reducible refine wp_seq ?_
    refine wp_cond_true (eval_at f26) ?_
    clear f26
    repeat with_reducible refine wp_seq ?_
    refine wp_region_lit ?_
    refine wpList_next rfl hsz20 hde20 27 rfl (by decide) fun K hK => ?_
    go_simp
    refine (Hlv.out _ Hw1.out).mono ?_
    rintro e8 w8 ⟨rfl, hb9⟩
    go_simp
    refine hK _ _ fun a21 hsz21 hde21 f27 hk => ?_
    clear hK K
    replace f0 := (hk 0 (by decide)).trans f0
    replace f1 := (hk 1 (by decide)).trans f1
    replace f27 : a21.tmps[27]?.getD undef = .bool true := f27
    clear hk hsz20 hde20
    have Hwx := Lib.hid (below_call Hw1.out hb9)
    clear hb9
    refine wpList_next rfl hsz21 hde21 4 rfl (by decide) fun K hK => ?_
    go_simp
    refine hK _ _ fun a22 hsz22 hde22 f4 hk => ?_
    clear hK K
    replace f0 := (hk 0 (by decide)).trans f0
    replace f1 := (hk 1 (by decide)).trans f1
    replace f4 : a22.tmps[4]?.getD undef = .bool true := f4
    clear hk hsz21 hde21 f27
    refine wpList_nil ?_
    refine then_go ?_
    refine wp_ret ?_
    repeat first | with_reducible refine then_ret ?_ | with_reducible refine block_ret ?_
    refine ret_tmp Tryd.results4 hde22 f4 ?_
    exact ⟨rfl, Hwx.out⟩
  | true =>
    replace f15 : a9.tmps[15]?.getD undef = .bool false := f15
    have hsh2 := short14_any (fun _ => True) (some ⟨w1.heap.size, 0, none⟩) 1 [a] (w1.alloc (.cells #[.string ⟨a.toArray⟩] 9)) (rd_new14 w1 9 [a])
    rw [← HB2.out] at hsh2
    have Hsh2 := Lib.hid hsh2
    have Hw2 := Lib.hid (Hw1.out.alloc Hw1.out.size (.cells #[.string ⟨a.toArray⟩] 9))
    clear hsh2
    refine wpList_nextg (wanted_of (j := 7) (t := 15) (b := false) rfl rfl f15) hsz9 hde9 16 rfl (by decide) fun K hK => ?_
    go_simp
    refine hK _ _ fun a10 hsz10 hde10 f16 hk => ?_
    clear hK K
    replace f0 := (hk 0 (by decide)).trans f0
    replace f1 := (hk 1 (by decide)).trans f1
    replace f15 := (hk 15 (by decide)).trans f15
    replace f16 : a10.tmps[16]?.getD undef = .string ⟨a.toArray⟩ := f16
    clear hk hsz9 hde9
    refine wpList_nextg (wanted_of (j := 7) (t := 15) (b := false) rfl rfl f15) hsz10 hde10 17 rfl (by decide) fun K hK => ?_
    go_simp
    refine hK _ _ fun a11 hsz11 hde11 f17 hk => ?_
    clear hK K
    replace f0 := (hk 0 (by decide)).trans f0
    replace f1 := (hk 1 (by decide)).trans f1
    replace f15 := (hk 15 (by decide)).trans f15
    replace f17 : a11.tmps[17]?.getD undef = .slice (some ⟨w1.heap.size, 0, none⟩) 1 1 := f17
    clear hk hsz10 hde10 f16
    refine wpList_nextg (wanted_of (j := 7) (t := 15) (b := false) rfl rfl f15) hsz11 hde11 18 rfl (by decide) fun K hK => ?_
    go_simp
    refine Hsh2.out.mono ?_
    rintro e2 w2 ⟨rfl, hw2⟩
    have Hw3 := Lib.hid (show Below w.heap.size w w2 by rw [← hw2]; exact Hw2.out)
    clear hw2
    go_simp
    refine hK _ _ fun a12 hsz12 hde12 f18 hk => ?_
    clear hK K
    replace f0 := (hk 0 (by decide)).trans f0
    replace f1 := (hk 1 (by decide)).trans f1
    replace f15 := (hk 15 (by decide)).trans f15
    replace f18 : a12.tmps[18]?.getD undef = .bool b2 := f18
    clear hk hsz11 hde11 f17
    refine wpList_nextg (wanted_of (j := 7) (t := 15) (b := false) rfl rfl f15) hsz12 hde12 19 rfl (by decide) fun K hK => ?_
    go_simp
    refine hK _ _ fun a13 hsz13 hde13 f19 hk => ?_
    clear hK K
    replace f0 := (hk 0 (by decide)).trans f0
    replace f1 := (hk 1 (by decide)).trans f1
    replace f15 := (hk 15 (by decide)).trans f15
    replace f19 : a13.tmps[19]?.getD undef = .bool (!b2) := f19
    clear hk hsz12 hde12 f18
    refine wpList_next rfl hsz13 hde13 20 rfl (by decide) fun K hK => ?_
    go_simp
    refine hK _ _ fun a14 hsz14 hde14 f20 hk => ?_
    clear hK K
    replace f0 := (hk 0 (by decide)).trans f0
    replace f1 := (hk 1 (by decide)).trans f1
    replace f20 : a14.tmps[20]?.getD undef = .bool (!b2) := f20
    clear hk hsz13 hde13 f15 f19
    refine wpList_next rfl hsz14 hde14 21 rfl (by decide) fun K hK => ?_
    go_simp
    refine hK _ _ fun a15 hsz15 hde15 f21 hk => ?_
    clear hK K
    replace f0 := (hk 0 (by decide)).trans f0
    replace f1 := (hk 1 (by decide)).trans f1
    replace f21 : a15.tmps[21]?.getD undef = .bool (!b2) := f21
    clear hk hsz14 hde14 f20
    cases b2 with
    | false =>
      replace f21 : a15.tmps[21]?.getD undef = .bool true := f21
      refine wpList_leave (not_wanted (j := 13) (t := 21) (b := false) rfl rfl (.inr f21)) hsz15 hde15 22 rfl (by decide) fun a16 hsz16 hde16 f22 hk => ?_
      replace f0 := (hk 0 (by decide)).trans f0
      replace f1 := (hk 1 (by decide)).trans f1
      replace f21 := (hk 21 (by decide)).trans f21
      clear hk hsz15 hde15
      refine wpList_leave (not_wanted (j := 13) (t := 21) (b := false) rfl rfl (.inr f21)) hsz16 hde16 23 rfl (by decide) fun a17 hsz17 hde17 f23 hk => ?_
      replace f0 := (hk 0 (by decide)).trans f0
      replace f1 := (hk 1 (by decide)).trans f1
      replace f21 := (hk 21 (by decide)).trans f21
      replace f22 := (hk 22 (by decide)).trans f22
      clear hk hsz16 hde16
      refine wpList_leave (not_wanted (j := 13) (t := 21) (b := false) rfl rfl (.inr f21)) hsz17 hde17 24 rfl (by decide) fun a18 hsz18 hde18 f24 hk => ?_
      replace f0 := (hk 0 (by decide)).trans f0
      replace f1 := (hk 1 (by decide)).trans f1
      replace f21 := (hk 21 (by decide)).trans f21
      clear hk hsz17 hde17 f22 f23
      refine wpList_leave (not_wanted (j := 13) (t := 21) (b := false) rfl rfl (.inr f21)) hsz18 hde18 25 rfl (by decide) fun a19 hsz19 hde19 f25 hk => ?_
      replace f0 := (hk 0 (by decide)).trans f0
      replace f1 := (hk 1 (by decide)).trans f1
      replace f21 := (hk 21 (by decide)).trans f21
      clear hk hsz18 hde18 f24
      refine wpList_next rfl hsz19 hde19 26 rfl (by decide) fun K hK => ?_
      go_simp
      refine hK _ _ fun a20 hsz20 hde20 f26 hk => ?_
      clear hK K
      replace f0 := (hk 0 (by decide)).trans f0
      replace f1 := (hk 1 (by decide)).trans f1
      replace f26 : a20.tmps[26]?.getD undef = .bool true := f26
      clear hk hsz19 hde19 f21 f25
      refine wpList_nil ?_
      refine then_go ?_
      repeat with_reducible refine wp_seq ?_
      refine wp_cond_true (eval_at f26) ?_
      clear f26
      repeat with_reducible refine wp_seq ?_
      refine wp_region_lit ?_
      refine wpList_next rfl hsz20 hde20 27 rfl (by decide) fun K hK => ?_
      go_simp
      refine (Hlv.out _ Hw3.out).mono ?_
      rintro e8 w8 ⟨rfl, hb9⟩
      go_simp
      refine hK _ _ fun a21 hsz21 hde21 f27 hk => ?_
      clear hK K
      replace f0 := (hk 0 (by decide)).trans f0
      replace f1 := (hk 1 (by decide)).trans f1
      replace f27 : a21.tmps[27]?.getD undef = .bool true := f27
      clear hk hsz20 hde20
      have Hwx := Lib.hid (below_call Hw3.out hb9)
      clear hb9
      refine wpList_next rfl hsz21 hde21 4 rfl (by decide) fun K hK => ?_
      go_simp
      refine hK _ _ fun a22 hsz22 hde22 f4 hk => ?_
      clear hK K
      replace f0 := (hk 0 (by decide)).trans f0
      replace f1 := (hk 1 (by decide)).trans f1
      replace f4 : a22.tmps[4]?.getD undef = .bool true := f4
      clear hk hsz21 hde21 f27
      refine wpList_nil ?_
      refine then_go ?_
      refine wp_ret ?_
      repeat first | with_reducible refine then_ret ?_ | with_reducible refine block_ret ?_
      refine ret_tmp Tryd.results4 hde22 f4 ?_
      exact ⟨rfl, Hwx.out⟩
    | true =>
      replace f21 : a15.tmps[21]?.getD undef = .bool false := f21
      refine wpList_nextg (wanted_of (j := 13) (t := 21) (b := false) rfl rfl f21) hsz15 hde15 22 rfl (by decide) fun K hK => ?_
      go_simp
      refine hK _ _ fun a16 hsz16 hde16 f22 hk => ?_
      clear hK K
      replace f0 := (hk 0 (by decide)).trans f0
      replace f1 := (hk 1 (by decide)).trans f1
      replace f21 := (hk 21 (by decide)).trans f21
      replace f22 : a16.tmps[22]?.getD undef = .slice A n c := f22
      clear hk hsz15 hde15
      refine wpList_nextg (wanted_of (j := 13) (t := 21) (b := false) rfl rfl f21) hsz16 hde16 23 rfl (by decide) fun K hK => ?_
      go_simp
      refine hK _ _ fun a17 hsz17 hde17 f23 hk => ?_
      clear hK K
      replace f0 := (hk 0 (by decide)).trans f0
      replace f1 := (hk 1 (by decide)).trans f1
      replace f21 := (hk 21 (by decide)).trans f21
      replace f22 := (hk 22 (by decide)).trans f22
      replace f23 : a17.tmps[23]?.getD undef = .string ⟨a.toArray⟩ := f23
      clear hk hsz16 hde16
      refine wpList_nextg (wanted_of (j := 13) (t := 21) (b := false) rfl rfl f21) hsz17 hde17 24 rfl (by decide) fun K hK => ?_
      go_simp
      refine (Hla.out _ Hw3.out rfl).mono ?_
      rintro e3 w3 ⟨rfl, hb9⟩
      go_simp
      refine hK _ _ fun a18 hsz18 hde18 f24 hk => ?_
      clear hK K
      replace f0 := (hk 0 (by decide)).trans f0
      replace f1 := (hk 1 (by decide)).trans f1
      replace f21 := (hk 21 (by decide)).trans f21
      replace f24 : a18.tmps[24]?.getD undef = .bool l := f24
      clear hk hsz17 hde17 f22 f23
      have Hw4 := Lib.hid (below_call Hw3.out hb9)
      clear hb9
      refine wpList_nextg (wanted_of (j := 13) (t := 21) (b := false) rfl rfl f21) hsz18 hde18 25 rfl (by decide) fun K hK => ?_
      go_simp
      refine hK _ _ fun a19 hsz19 hde19 f25 hk => ?_
      clear hK K
      replace f0 := (hk 0 (by decide)).trans f0
      replace f1 := (hk 1 (by decide)).trans f1
      replace f21 := (hk 21 (by decide)).trans f21
      replace f25 : a19.tmps[25]?.getD undef = .bool (!l) := f25
      clear hk hsz18 hde18 f24
      refine wpList_next rfl hsz19 hde19 26 rfl (by decide) fun K hK => ?_
      go_simp
      refine hK _ _ fun a20 hsz20 hde20 f26 hk => ?_
      clear hK K
      replace f0 := (hk 0 (by decide)).trans f0
      replace f1 := (hk 1 (by decide)).trans f1
      replace f26 : a20.tmps[26]?.getD undef = .bool (!l) := f26
      clear hk hsz19 hde19 f21 f25
      refine wpList_nil ?_
      refine then_go ?_
      repeat with_reducible refine wp_seq ?_
      cases l with
      | false =>
        replace f26 : a20.tmps[26]?.getD undef = .bool true := f26
        refine wp_cond_true (eval_at f26) ?_
        clear f26
        repeat with_reducible refine wp_seq ?_
        refine wp_region_lit ?_
        refine wpList_next rfl hsz20 hde20 27 rfl (by decide) fun K hK => ?_
        go_simp
        refine (Hlv.out _ Hw4.out).mono ?_
        rintro e8 w8 ⟨rfl, hb9⟩
        go_simp
        refine hK _ _ fun a21 hsz21 hde21 f27 hk => ?_
        clear hK K
        replace f0 := (hk 0 (by decide)).trans f0
        replace f1 := (hk 1 (by decide)).trans f1
        replace f27 : a21.tmps[27]?.getD undef = .bool true := f27
        clear hk hsz20 hde20
        have Hwx := Lib.hid (below_call Hw4.out hb9)
        clear hb9
        refine wpList_next rfl hsz21 hde21 4 rfl (by decide) fun K hK => ?_
        go_simp
        refine hK _ _ fun a22 hsz22 hde22 f4 hk => ?_
        clear hK K
        replace f0 := (hk 0 (by decide)).trans f0
        replace f1 := (hk 1 (by decide)).trans f1
        replace f4 : a22.tmps[4]?.getD undef = .bool true := f4
        clear hk hsz21 hde21 f27
        refine wpList_nil ?_
        refine then_go ?_
        refine wp_ret ?_
        repeat first | with_reducible refine then_ret ?_ | with_reducible refine block_ret ?_
        refine ret_tmp Tryd.results4 hde22 f4 ?_
        exact ⟨rfl, Hwx.out⟩
      | true =>
        replace f26 : a20.tmps[26]?.getD undef = .bool false := f26
        refine wp_cond_false (eval_at f26) ?_
        refine wp_skip ?_
        refine then_go ?_
        clear f26
        repeat with_reducible refine wp_seq ?_
        have Hrs := Lib.hid (refsplit_any a w3)
        refine wp_region_lit ?_
        refine wpList_next rfl hsz20 hde20 29 rfl (by decide) fun K hK => ?_
        go_simp
        refine hK _ _ fun a21 hsz21 hde21 f29 hk => ?_
        clear hK K
        replace f0 := (hk 0 (by decide)).trans f0
        replace f1 := (hk 1 (by decide)).trans f1
        replace f29 : a21.tmps[29]?.getD undef = .string ⟨a.toArray⟩ := f29
        clear hk hsz20 hde20
        refine wpList_next rfl hsz21 hde21 30 rfl (by decide) fun K hK => ?_
        go_simp
        refine Hrs.out.mono ?_
        rintro e4 w4 ⟨hb9, hcase⟩
        obtain ⟨vx, ce, he4, hcase2⟩ : ∃ (vx : Value) (ce : Int), e4 = .returned (.tuple #[vx, .int .i64 ce]) ∧ ((∃ X Ax cx, splitV a = some X ∧ X.length ≤ cx ∧ cx ≤ maxLen ∧ vx = .slice Ax X.length cx ∧ ce = 0 ∧ Rd w4 (fun _ => True) Ax (X.map str)) ∨ (splitV a = none ∧ ce = 20)) := by
          rcases hcase with ⟨X, Ax, cx, h1, h2, h3, h4, h5⟩ | ⟨h1, h2⟩
          · exact ⟨_, _, h4, .inl ⟨X, Ax, cx, h1, h2, h3, rfl, rfl, h5⟩⟩
          · exact ⟨_, _, h2, .inr ⟨h1, rfl⟩⟩
        subst he4
        have Hcase := Lib.hid hcase2
        have Hw5 := Lib.hid (below_call Hw4.out hb9)
        clear hcase hcase2 hb9
        go_simp
        refine hK _ _ fun a22 hsz22 hde22 f30 hk => ?_
        clear hK K
        replace f0 := (hk 0 (by decide)).trans f0
        replace f1 := (hk 1 (by decide)).trans f1
        replace f30 : a22.tmps[30]?.getD undef = .tuple #[vx, .int .i64 ce] := f30
        clear hk hsz21 hde21 f29
        refine wpList_next rfl hsz22 hde22 28 rfl (by decide) fun K hK => ?_
        go_simp
        refine hK _ _ fun a23 hsz23 hde23 f28 hk => ?_
        clear hK K
        replace f0 := (hk 0 (by decide)).trans f0
        replace f1 := (hk 1 (by decide)).trans f1
        replace f28 : a23.tmps[28]?.getD undef = .tuple #[vx, .int .i64 ce] := f28
        clear hk hsz22 hde22 f30
        refine wpList_next rfl hsz23 hde23 31 rfl (by decide) fun K hK => ?_
        go_simp
        refine hK _ _ fun a24 hsz24 hde24 f31 hk => ?_
        clear hK K
        replace f0 := (hk 0 (by decide)).trans f0
        replace f1 := (hk 1 (by decide)).trans f1
        replace f28 := (hk 28 (by decide)).trans f28
        replace f31 : a24.tmps[31]?.getD undef = vx := f31
        clear hk hsz23 hde23
        refine wpList_next rfl hsz24 hde24 32 rfl (by decide) fun K hK => ?_
        go_simp
        refine hK _ _ fun a25 hsz25 hde25 f32 hk => ?_
        clear hK K
        replace f0 := (hk 0 (by decide)).trans f0
        replace f1 := (hk 1 (by decide)).trans f1
        replace f31 := (hk 31 (by decide)).trans f31
        replace f32 : a25.tmps[32]?.getD undef = .int .i64 ce := f32
        clear hk hsz24 hde24 f28
        refine wpList_next rfl hsz25 hde25 5 rfl (by decide) fun K hK => ?_
        go_simp
        refine hK _ _ fun a26 hsz26 hde26 f5 hk => ?_
        clear hK K
        replace f0 := (hk 0 (by decide)).trans f0
        replace f1 := (hk 1 (by decide)).trans f1
        replace f32 := (hk 32 (by decide)).trans f32
        replace f5 : a26.tmps[5]?.getD undef = vx := f5
        clear hk hsz25 hde25 f31
        refine wpList_next rfl hsz26 hde26 6 rfl (by decide) fun K hK => ?_
        go_simp
        refine hK _ _ fun a27 hsz27 hde27 f6 hk => ?_
        clear hK K
        replace f0 := (hk 0 (by decide)).trans f0
        replace f1 := (hk 1 (by decide)).trans f1
        replace f5 := (hk 5 (by decide)).trans f5
        replace f6 : a27.tmps[6]?.getD undef = .int .i64 ce := f6
        clear hk hsz26 hde26 f32
        refine wpList_nil ?_
        refine then_go ?_
        repeat with_reducible refine wp_seq ?_
        rcases Hcase.out with ⟨X, Ax, cx, hX, hX1, hX2, rfl, rfl, hrx⟩ | ⟨hX, rfl⟩
        · obtain ⟨m, hm⟩ : ∃ m, m = X.length := ⟨_, rfl⟩
          rw [← hm] at f5 hX1
          have Hm := Lib.hid hm
          have HX := Lib.hid hX
          have Hrx := Lib.hid hrx
          have Hpl := Lib.hid (split_path hX)
          have hm10 : m ≤ 10 := by rw [hm]; exact Hpl.out.2.1
          have hmx : maxLen ≤ 9223372036854775807 := by decide
          clear Hcase hX hrx hm
          refine wp_region_lit ?_
          refine wpList_next rfl hsz27 hde27 33 rfl (by decide) fun K hK => ?_
          go_simp
          refine hK _ _ fun a28 hsz28 hde28 f33 hk => ?_
          clear hK K
          replace f0 := (hk 0 (by decide)).trans f0
          replace f1 := (hk 1 (by decide)).trans f1
          replace f5 := (hk 5 (by decide)).trans f5
          replace f6 := (hk 6 (by decide)).trans f6
          replace f33 : a28.tmps[33]?.getD undef = .int .i64 0 := f33
          clear hk hsz27 hde27
          refine wpList_next rfl hsz28 hde28 34 rfl (by decide) fun K hK => ?_
          go_simp
          refine hK _ _ fun a29 hsz29 hde29 f34 hk => ?_
          clear hK K
          replace f0 := (hk 0 (by decide)).trans f0
          replace f1 := (hk 1 (by decide)).trans f1
          replace f5 := (hk 5 (by decide)).trans f5
          replace f6 := (hk 6 (by decide)).trans f6
          replace f34 : a29.tmps[34]?.getD undef = .bool false := f34
          clear hk hsz28 hde28 f33
          refine wpList_nil ?_
          refine then_go ?_
          repeat with_reducible refine wp_seq ?_
          refine wp_cond_false (eval_at f34) ?_
          refine wp_skip ?_
          refine then_go ?_
          clear f34 f6 f1
          repeat with_reducible refine wp_seq ?_
          refine wp_region_lit ?_
          refine wpList_next rfl hsz29 hde29 38 rfl (by decide) fun K hK => ?_
          go_simp
          refine hK _ _ fun a30 hsz30 hde30 f38 hk => ?_
          clear hK K
          replace f0 := (hk 0 (by decide)).trans f0
          replace f5 := (hk 5 (by decide)).trans f5
          replace f38 : a30.tmps[38]?.getD undef = .slice Ax m cx := f38
          clear hk hsz29 hde29
          refine wpList_next rfl hsz30 hde30 39 rfl (by decide) fun K hK => ?_
          go_simp
          refine hK _ _ fun a31 hsz31 hde31 f39 hk => ?_
          clear hK K
          replace f0 := (hk 0 (by decide)).trans f0
          replace f5 := (hk 5 (by decide)).trans f5
          replace f39 : a31.tmps[39]?.getD undef = .int .i64 ((m : Nat) : Int) := f39
          clear hk hsz30 hde30 f38
          refine wpList_next rfl hsz31 hde31 40 rfl (by decide) fun K hK => ?_
          go_simp
          refine hK _ _ fun a32 hsz32 hde32 f40 hk => ?_
          clear hK K
          replace f0 := (hk 0 (by decide)).trans f0
          replace f5 := (hk 5 (by decide)).trans f5
          replace f39 := (hk 39 (by decide)).trans f39
          replace f40 : a32.tmps[40]?.getD undef = .int .i64 ((0 : Nat) : Int) := f40
          clear hk hsz31 hde31
          refine wpList_nil ?_
          refine then_go ?_
          repeat with_reducible refine wp_seq ?_
          refine wp_block ?_
          refine wp_loop_ghost (UpInv w4 (.slice A n c) (.slice Ax m cx) m) (m - 0) ?_ ?_
          · exact ⟨0, hsz32, hde32, f0, f5, f39, f40, Lib.hid (Nat.zero_le _), Lib.hid (Below.refl _ _), rfl⟩
          clear hsz32 hde32 f0 f5 f39 f40
          intro n2 a59 wr hI
          obtain ⟨i, hsz59, hde59, f0, f5, f39, f40, Hi, Hbw, hn2⟩ := hI
          have Hn2 := Lib.hid hn2
          clear hn2
          repeat with_reducible refine wp_seq ?_
          by_cases hlt : i < m
          · skip
            refine wp_region_lit ?_
            refine wpList_next rfl hsz59 hde59 41 rfl (by decide) fun K hK => ?_
            go_simp
            refine hK _ _ fun a60 hsz60 hde60 f41 hk => ?_
            clear hK K
            replace f0 := (hk 0 (by decide)).trans f0
            replace f5 := (hk 5 (by decide)).trans f5
            replace f39 := (hk 39 (by decide)).trans f39
            replace f40 := (hk 40 (by decide)).trans f40
            clear hk hsz59 hde59
            replace f41 : a60.tmps[41]?.getD undef = .bool true := f41.trans (by first | rfl | (congr 1; first | exact decide_eq_true (by omega) | exact decide_eq_false (by omega)) | (simp; omega))
            refine wpList_nil ?_
            refine then_go ?_
            repeat with_reducible refine wp_seq ?_
            refine wp_cond_true (eval_at f41) ?_
            refine wp_skip ?_
            refine then_go ?_
            clear f41
            repeat with_reducible refine wp_seq ?_
            refine wp_block ?_
            repeat with_reducible refine wp_seq ?_
            refine wp_region_lit ?_
            refine wpList_next rfl hsz60 hde60 42 rfl (by decide) fun K hK => ?_
            go_simp
            refine hK _ _ fun a61 hsz61 hde61 f42 hk => ?_
            clear hK K
            replace f0 := (hk 0 (by decide)).trans f0
            replace f5 := (hk 5 (by decide)).trans f5
            replace f39 := (hk 39 (by decide)).trans f39
            replace f40 := (hk 40 (by decide)).trans f40
            replace f42 : a61.tmps[42]?.getD undef = .int .i64 ((i : Nat) : Int) := f42
            clear hk hsz60 hde60
            refine wpList_next rfl hsz61 hde61 7 rfl (by decide) fun K hK => ?_
            go_simp
            refine hK _ _ fun a62 hsz62 hde62 f7 hk => ?_
            clear hK K
            replace f0 := (hk 0 (by decide)).trans f0
            replace f5 := (hk 5 (by decide)).trans f5
            replace f39 := (hk 39 (by decide)).trans f39
            replace f40 := (hk 40 (by decide)).trans f40
            replace f7 : a62.tmps[7]?.getD undef = .int .i64 ((i : Nat) : Int) := f7
            clear hk hsz61 hde61 f42
            refine wpList_nil ?_
            refine then_go ?_
            repeat with_reducible refine wp_seq ?_
            have hpl1 : ∀ p, p ∈ X.take i → p.length ≤ 1000 := fun p hp => by
              have h1 := Hpl.out
              have h2 : p.length ≤ (pathT X).length := by
                unfold pathT
                have h3 := join_mem X p (List.mem_of_mem_take hp)
                simp
                omega
              rw [← h1.1] at h2
              omega
            have hrt := (Hrx.out.grow Hbw.out).take (k := i)
            rw [← List.map_take] at hrt
            have hj := refjoin_any (fun _ => True) Ax cx (X.take i) (by rw [List.length_take]; omega) hpl1 wr hrt
            rw [refJ_path, List.length_take, Nat.min_eq_left (by rw [← Hm.out]; omega)] at hj
            have hup := leads_up HX.out i Hl.out.symm
            have hll := Hlea.out (pathT (X.take i)) wr (below_call Hw5.out Hbw.out) rfl
            rw [hup] at hll
            obtain ⟨TX, hTX⟩ : ∃ T, T = pathT (X.take i) := ⟨_, rfl⟩
            rw [← hTX] at hj hll
            have Hj := Lib.hid hj
            have Hll := Lib.hid hll
            have hi0 : (0 : Int) ≤ (i : Int) := by omega
            have hic : (i : Int) ≤ (cx : Int) := by omega
            have hic2 : i ≤ cx := by omega
            clear hpl1 hrt hj hup hll hTX
            refine wp_region_lit ?_
            refine wpList_next rfl hsz62 hde62 43 rfl (by decide) fun K hK => ?_
            go_simp
            refine hK _ _ fun a63 hsz63 hde63 f43 hk => ?_
            clear hK K
            replace f0 := (hk 0 (by decide)).trans f0
            replace f5 := (hk 5 (by decide)).trans f5
            replace f39 := (hk 39 (by decide)).trans f39
            replace f40 := (hk 40 (by decide)).trans f40
            replace f7 := (hk 7 (by decide)).trans f7
            replace f43 : a63.tmps[43]?.getD undef = .slice A n c := f43
            clear hk hsz62 hde62
            refine wpList_next rfl hsz63 hde63 44 rfl (by decide) fun K hK => ?_
            go_simp
            refine hK _ _ fun a64 hsz64 hde64 f44 hk => ?_
            clear hK K
            replace f0 := (hk 0 (by decide)).trans f0
            replace f5 := (hk 5 (by decide)).trans f5
            replace f39 := (hk 39 (by decide)).trans f39
            replace f40 := (hk 40 (by decide)).trans f40
            replace f7 := (hk 7 (by decide)).trans f7
            replace f43 := (hk 43 (by decide)).trans f43
            replace f44 : a64.tmps[44]?.getD undef = .slice Ax m cx := f44
            clear hk hsz63 hde63
            refine wpList_next rfl hsz64 hde64 45 rfl (by decide) fun K hK => ?_
            go_simp
            refine hK _ _ fun a65 hsz65 hde65 f45 hk => ?_
            clear hK K
            replace f0 := (hk 0 (by decide)).trans f0
            replace f5 := (hk 5 (by decide)).trans f5
            replace f39 := (hk 39 (by decide)).trans f39
            replace f40 := (hk 40 (by decide)).trans f40
            replace f7 := (hk 7 (by decide)).trans f7
            replace f43 := (hk 43 (by decide)).trans f43
            replace f44 := (hk 44 (by decide)).trans f44
            replace f45 : a65.tmps[45]?.getD undef = .int .i64 ((i : Nat) : Int) := f45
            clear hk hsz64 hde64
            refine wpList_next rfl hsz65 hde65 46 rfl (by decide) fun K hK => ?_
            go_simp
            refine hK _ _ fun a66 hsz66 hde66 f46 hk => ?_
            clear hK K
            replace f0 := (hk 0 (by decide)).trans f0
            replace f5 := (hk 5 (by decide)).trans f5
            replace f39 := (hk 39 (by decide)).trans f39
            replace f40 := (hk 40 (by decide)).trans f40
            replace f7 := (hk 7 (by decide)).trans f7
            replace f43 := (hk 43 (by decide)).trans f43
            replace f46 : a66.tmps[46]?.getD undef = .slice Ax i cx := f46
            clear hk hsz65 hde65 f44 f45
            refine wpList_next rfl hsz66 hde66 47 rfl (by decide) fun K hK => ?_
            go_simp
            refine (Hj.out).mono ?_
            rintro e7 w7 ⟨rfl, rfl⟩
            go_simp
            refine hK _ _ fun a67 hsz67 hde67 f47 hk => ?_
            clear hK K
            replace f0 := (hk 0 (by decide)).trans f0
            replace f5 := (hk 5 (by decide)).trans f5
            replace f39 := (hk 39 (by decide)).trans f39
            replace f40 := (hk 40 (by decide)).trans f40
            replace f7 := (hk 7 (by decide)).trans f7
            replace f43 := (hk 43 (by decide)).trans f43
            replace f47 : a67.tmps[47]?.getD undef = .string ⟨TX.toArray⟩ := f47
            clear hk hsz66 hde66 f46
            refine wpList_next rfl hsz67 hde67 48 rfl (by decide) fun K hK => ?_
            go_simp
            refine (Hll.out).mono ?_
            rintro e8 w8 ⟨rfl, hb9⟩
            go_simp
            refine hK _ _ fun a68 hsz68 hde68 f48 hk => ?_
            clear hK K
            replace f0 := (hk 0 (by decide)).trans f0
            replace f5 := (hk 5 (by decide)).trans f5
            replace f39 := (hk 39 (by decide)).trans f39
            replace f40 := (hk 40 (by decide)).trans f40
            replace f7 := (hk 7 (by decide)).trans f7
            replace f48 : a68.tmps[48]?.getD undef = .bool true := f48
            clear hk hsz67 hde67 f43 f47
            have Hb8 := Lib.hid (below_call Hbw.out hb9)
            clear hb9
            refine wpList_next rfl hsz68 hde68 49 rfl (by decide) fun K hK => ?_
            go_simp
            refine hK _ _ fun a69 hsz69 hde69 f49 hk => ?_
            clear hK K
            replace f0 := (hk 0 (by decide)).trans f0
            replace f5 := (hk 5 (by decide)).trans f5
            replace f39 := (hk 39 (by decide)).trans f39
            replace f40 := (hk 40 (by decide)).trans f40
            replace f7 := (hk 7 (by decide)).trans f7
            replace f49 : a69.tmps[49]?.getD undef = .bool false := f49
            clear hk hsz68 hde68 f48
            refine wpList_nil ?_
            refine then_go ?_
            repeat with_reducible refine wp_seq ?_
            clear f7
            refine wp_cond_false (eval_at f49) ?_
            refine wp_skip ?_
            repeat first | with_reducible refine block_go ?_ | with_reducible refine then_go ?_
            clear f49
            repeat with_reducible refine wp_seq ?_
            refine wp_region_lit ?_
            refine wpList_next rfl hsz69 hde69 50 rfl (by decide) fun K hK => ?_
            go_simp
            refine hK _ _ fun a70 hsz70 hde70 f50 hk => ?_
            clear hK K
            replace f0 := (hk 0 (by decide)).trans f0
            replace f5 := (hk 5 (by decide)).trans f5
            replace f39 := (hk 39 (by decide)).trans f39
            replace f40 := (hk 40 (by decide)).trans f40
            clear hk hsz69 hde69
            replace f50 : a70.tmps[50]?.getD undef = .int .i64 (((i + 1 : Nat) : Int)) := f50.trans (by first | rfl | (congr 1; done) | (congr 1; omega) | (congr 1; rw [IntKind.wrap_i64] <;> omega))
            refine wpList_next rfl hsz70 hde70 40 rfl (by decide) fun K hK => ?_
            go_simp
            refine hK _ _ fun a71 hsz71 hde71 f40 hk => ?_
            clear hK K
            replace f0 := (hk 0 (by decide)).trans f0
            replace f5 := (hk 5 (by decide)).trans f5
            replace f39 := (hk 39 (by decide)).trans f39
            replace f40 : a71.tmps[40]?.getD undef = .int .i64 ((i + 1 : Nat) : Int) := f40
            clear hk hsz70 hde70 f50
            refine wpList_nil ?_
            refine then_go ?_
            exact ⟨m - (i + 1), by rw [Hn2.out]; omega, i + 1, hsz71, hde71, f0, f5, f39, f40, Lib.hid (by omega), Hb8, rfl⟩
          refine wp_region_lit ?_
          refine wpList_next rfl hsz59 hde59 41 rfl (by decide) fun K hK => ?_
          go_simp
          refine hK _ _ fun a60 hsz60 hde60 f41 hk => ?_
          clear hK K
          replace f0 := (hk 0 (by decide)).trans f0
          replace f5 := (hk 5 (by decide)).trans f5
          replace f39 := (hk 39 (by decide)).trans f39
          replace f40 := (hk 40 (by decide)).trans f40
          clear hk hsz59 hde59
          replace f41 : a60.tmps[41]?.getD undef = .bool false := f41.trans (by first | rfl | (congr 1; first | exact decide_eq_true (by omega) | exact decide_eq_false (by omega)) | (simp; omega))
          refine wpList_nil ?_
          refine then_go ?_
          repeat with_reducible refine wp_seq ?_
          refine wp_cond_false (eval_at f41) ?_
          refine wp_exit ?_
          repeat with_reducible refine then_exit ?_
          refine block_exit ?_
          repeat first | with_reducible refine block_go ?_ | with_reducible refine then_go ?_
          clear f41 f0 f5 f39 f40
          repeat with_reducible refine wp_seq ?_
          refine wp_region_lit ?_
          refine wpList_next rfl hsz60 hde60 4 rfl (by decide) fun K hK => ?_
          go_simp
          refine hK _ _ fun a61 hsz61 hde61 f4 hk => ?_
          clear hK K
          replace f4 : a61.tmps[4]?.getD undef = .bool true := f4
          clear hk hsz60 hde60
          refine wpList_nil ?_
          refine then_go ?_
          refine wp_ret ?_
          repeat first | with_reducible refine then_ret ?_ | with_reducible refine block_ret ?_
          refine ret_tmp Tryd.results4 hde61 f4 ?_
          exact ⟨rfl, below_call Hw5.out Hbw.out⟩
        · have hnil := leads_none hX Hl.out.symm
          have hn0 : n = 0 := by rw [Hn.out, hnil]; rfl
          have Hn0 := Lib.hid hn0
          clear hn0 hX Hcase
          refine wp_region_lit ?_
          refine wpList_next rfl hsz27 hde27 33 rfl (by decide) fun K hK => ?_
          go_simp
          refine hK _ _ fun a28 hsz28 hde28 f33 hk => ?_
          clear hK K
          replace f0 := (hk 0 (by decide)).trans f0
          replace f1 := (hk 1 (by decide)).trans f1
          replace f5 := (hk 5 (by decide)).trans f5
          replace f6 := (hk 6 (by decide)).trans f6
          replace f33 : a28.tmps[33]?.getD undef = .int .i64 20 := f33
          clear hk hsz27 hde27
          refine wpList_next rfl hsz28 hde28 34 rfl (by decide) fun K hK => ?_
          go_simp
          refine hK _ _ fun a29 hsz29 hde29 f34 hk => ?_
          clear hK K
          replace f0 := (hk 0 (by decide)).trans f0
          replace f1 := (hk 1 (by decide)).trans f1
          replace f5 := (hk 5 (by decide)).trans f5
          replace f6 := (hk 6 (by decide)).trans f6
          replace f34 : a29.tmps[34]?.getD undef = .bool true := f34
          clear hk hsz28 hde28 f33
          refine wpList_nil ?_
          refine then_go ?_
          repeat with_reducible refine wp_seq ?_
          refine wp_cond_true (eval_at f34) ?_
          clear f34 f6 f5 f1
          repeat with_reducible refine wp_seq ?_
          refine wp_region_lit ?_
          refine wpList_next rfl hsz29 hde29 35 rfl (by decide) fun K hK => ?_
          go_simp
          refine hK _ _ fun a30 hsz30 hde30 f35 hk => ?_
          clear hK K
          replace f0 := (hk 0 (by decide)).trans f0
          replace f35 : a30.tmps[35]?.getD undef = .slice A n c := f35
          clear hk hsz29 hde29
          refine wpList_next rfl hsz30 hde30 36 rfl (by decide) fun K hK => ?_
          go_simp
          refine hK _ _ fun a31 hsz31 hde31 f36 hk => ?_
          clear hK K
          replace f0 := (hk 0 (by decide)).trans f0
          replace f36 : a31.tmps[36]?.getD undef = .int .i64 ((n : Nat) : Int) := f36
          clear hk hsz30 hde30 f35
          refine wpList_next rfl hsz31 hde31 37 rfl (by decide) fun K hK => ?_
          go_simp
          refine hK _ _ fun a32 hsz32 hde32 f37 hk => ?_
          clear hK K
          replace f0 := (hk 0 (by decide)).trans f0
          clear hk hsz31 hde31 f36
          replace f37 : a32.tmps[37]?.getD undef = .bool true := f37.trans (by have h7 := Hn0.out; first | (rw [h7]; rfl) | (simp [h7]; done))
          refine wpList_next rfl hsz32 hde32 4 rfl (by decide) fun K hK => ?_
          go_simp
          refine hK _ _ fun a33 hsz33 hde33 f4 hk => ?_
          clear hK K
          replace f0 := (hk 0 (by decide)).trans f0
          replace f4 : a33.tmps[4]?.getD undef = .bool true := f4
          clear hk hsz32 hde32 f37
          refine wpList_nil ?_
          refine then_go ?_
          refine wp_ret ?_
          repeat first | with_reducible refine then_ret ?_ | with_reducible refine block_ret ?_
          refine ret_tmp Tryd.results4 hde33 f4 ?_
          exact ⟨rfl, Hw5.out⟩
end Go.Proofs.YtgebodibamgipaaDoor
