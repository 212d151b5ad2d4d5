/-
  choose.Check, isBelowAnother; the document's under and Check.
-/
import Derived.Test.YtgebodibamgipaaGreatDoorChClean
import Derived.Sort.Walk0
namespace Go.Proofs.YtgebodibamgipaaGreatDoor
open Go.RowKit
set_option maxRecDepth 100000

theorem leq_val (a b : Txt) : (Op.bytesLess (⟨a.toArray⟩ : ByteArray).toList (⟨b.toArray⟩ : ByteArray).toList || (⟨a.toArray⟩ : ByteArray).toList == (⟨b.toArray⟩ : ByteArray).toList) = decide (a ≤ b) := by
  rw [Bool.eq_iff_iff, Bool.or_eq_true, bytesLess_eq, decide_eq_true_iff, beq_iff_eq, decide_eq_true_iff]
  simp only [Lib.toList_data]
  constructor
  · rintro (h | rfl)
    · exact List.not_lt.1 fun h2 => List.lt_irrefl a (List.lt_trans h h2)
    · exact List.le_refl a
  · intro h
    by_cases he : a = b
    · exact .inr he
    · exact .inl (txt_lt_of h he)
theorem below1_pred (s : Txt) (b : Nat) (w : World) (he : Env w) (hc : w.cell? ⟨b, 0, none⟩ = some (.string ⟨s.toArray⟩)) : PredT 32 #[.pointer (some ⟨b, 0, none⟩)] (fun t => (t != s) && withinV s t) w := fun W x hW => by
  have h1 := (hW.cell (p := ⟨b, 0, none⟩) (World.block_lt_of_cell? w _ hc)).trans hc
  have H := Lib.hid (pwithin_any s x W (he.grow hW))
  clear hc
  by_cases hxs : x = s
  · subst hxs
    have e : ((x != x) && withinV x x) = false := by simp
    show Calls _ _ _ _ fun e w' => e = .returned (.bool ((x != x) && withinV x x)) ∧ _
    rw [e]
    clear e
    go_enter Tryz.func32, Tryz.ntmps32
    go_wp2_with fail
    go_ret
    exact ⟨rfl, Below.refl _ _⟩
  · show Calls _ _ _ _ fun e w' => e = .returned (.bool ((x != s) && withinV s x)) ∧ _
    go_enter Tryz.func32, Tryz.ntmps32
    go_wp2_with fail
    refine H.out.mono ?_
    rintro e w1 ⟨rfl, hb⟩
    go_wp2_with fail
    go_ret
    exact ⟨rfl, hb⟩
theorem below_any (ok : Nat → Prop) (A : Option Addr) (c : Nat) (L : List Txt) (s : Txt) (w : World) (he : Env w) (hL : Rd w ok A (L.map str)) (hl : L.length ≤ 100000) :
    Calls Tryz.prog 20 #[.string ⟨s.toArray⟩, .slice A L.length c] w fun e w' => e = .returned (.bool (underB L s)) ∧ Below w.heap.size w w' := by
  have hbel : Below w.heap.size w (w.alloc (.cells #[.string ⟨s.toArray⟩] 9)) := (Below.refl _ _).alloc (Nat.le_refl _) _
  have H := Lib.hid (containsT_any 32 #[.pointer (some ⟨w.heap.size, 0, none⟩)] (fun t => (t != s) && withinV s t) (enters_of Tryz.func32 (by kernel_rfl) rfl) ok A c L _ (hL.grow hbel) hl (below1_pred s w.heap.size _ (he.grow hbel) ((Blk.new w 9 #[.string ⟨s.toArray⟩]).cell 0)))
  have hE : underB L s = L.any fun t => (t != s) && withinV s t := rfl
  rw [hE]
  obtain ⟨n, hn⟩ : ∃ n, n = L.length := ⟨_, rfl⟩
  obtain ⟨Q, hQ⟩ : ∃ Q, Q = L.any fun t => (t != s) && withinV s t := ⟨_, rfl⟩
  rw [← hQ, ← hn] at H
  rw [← hn, ← hQ]
  have Hbel := Lib.hid hbel
  clear hE hQ hn hL hl he hbel
  go_enter Tryz.func20, Tryz.ntmps20
  go_wp2_with fail
  refine H.out.mono ?_
  rintro e w1 ⟨rfl, hb⟩
  go_wp2_with fail
  go_ret
  exact ⟨rfl, below_call Hbel.out hb⟩
theorem chAt_eq {L : List Txt} {i : Nat} (h : i < L.length) {p d u : Bool} (hp : p = pathB L[i]) (hd : d = (decide (0 < i) && decide (L[i] ≤ L.getD (i - 1) []))) (hu : u = underB L L[i]) : chAt L i = if p = false then 20 else if (d || u) = true then 7 else 0 := by
  have e : L.getD i [] = L[i] := by simp [h]
  unfold chAt
  rw [e, ← hp, ← hu]
  by_cases h1 : p = false
  · rw [if_pos h1, if_pos h1]
  · rw [if_neg h1, if_neg h1]
    by_cases h2 : (d || u) = true
    · rw [if_pos h2, if_pos]
      rw [Bool.or_eq_true, hd, Bool.and_eq_true, decide_eq_true_iff, decide_eq_true_iff] at h2
      exact h2
    · rw [if_neg h2, if_neg]
      intro h3
      apply h2
      rw [Bool.or_eq_true, hd, Bool.and_eq_true, decide_eq_true_iff, decide_eq_true_iff]
      exact h3
theorem chCheck_at {L : List Txt} {i : Nat} (h8 : ¬ 8 < L.length) (h : i < L.length) (h0 : ∀ k, k < i → chAt L k = 0) (hne : chAt L i ≠ 0) : chCheck L = chAt L i := by
  unfold chCheck
  rw [if_neg h8]
  have := chFrom_at (l := L) L.length 0 i (fun k _ hk => h0 k (by omega)) h (by rw [Nat.zero_add]; exact hne)
  rwa [Nat.zero_add] at this
theorem chCheck_none {L : List Txt} (h8 : ¬ 8 < L.length) (h0 : ∀ k, k < L.length → chAt L k = 0) : chCheck L = 0 := by
  unfold chCheck
  rw [if_neg h8]
  exact chFrom_zero _ _ fun k _ hk => h0 k (by omega)
theorem chAt_step {L : List Txt} {i : Nat} (h0 : ∀ k, k < i → chAt L k = 0) (h : chAt L i = 0) : ∀ k, k < i + 1 → chAt L k = 0 := fun k hk => by
  by_cases e : k = i
  · rw [e]; exact h
  · exact h0 k (by omega)
def UnInv (w : World) (v t : Value) (L : List Txt) (s : Txt) (n : Nat) (k9 : Nat) (a : Act) (x : World) : Prop :=
  ∃ i : Nat, Hid (a.tmps.size = 26) ∧ Hid (a.defers = []) ∧ a.tmps[0]?.getD undef = v ∧ a.tmps[1]?.getD undef = t ∧ a.tmps[5]?.getD undef = .int .i64 ((i : Nat) : Int) ∧ Hid (i ≤ n) ∧ Hid (((L.take i).any fun t => (t != s) && withinV s t) = false) ∧ Hid (Below w.heap.size w x) ∧ k9 = n - i
set_option maxHeartbeats 2000000 in
theorem refunder_any (ok : Nat → Prop) (A : Option Addr) (c : Nat) (L : List Txt) (s : Txt) (w : World) (hL : Rd w ok A (L.map str)) (hl : L.length ≤ 100000) :
    Calls Tryz.prog 19 #[.slice A L.length c, .string ⟨s.toArray⟩] w fun e w' => e = .returned (.bool (underB L s)) ∧ Below w.heap.size w w' := by
  have HL := Lib.hid hL
  obtain ⟨n, hn⟩ : ∃ n, n = L.length := ⟨_, rfl⟩
  rw [← hn] at hl ⊢
  have Hn := Lib.hid hn
  clear hL hn
  go_enter Tryz.func19, Tryz.ntmps19
  refine enter_abs (N := 26) rfl rfl fun a0 hsz0 hde0 hk => ?_
  have f0 : a0.tmps[0]?.getD undef = .slice A n c := hk 0
  have f1 : a0.tmps[1]?.getD undef = .string ⟨s.toArray⟩ := hk 1
  clear hk
  repeat with_reducible refine wp_seq ?_
  refine wp_region_lit ?_
  refine wpList_next rfl hsz0 hde0 4 rfl (by decide) fun K hK => ?_
  go_simp
  refine hK _ _ fun a1 hsz1 hde1 f4 hk => ?_
  clear hK K
  replace f0 := (hk 0 (by decide)).trans f0
  replace f1 := (hk 1 (by decide)).trans f1
  clear hk hsz0 hde0
  refine wpList_nil ?_
  clear f4
  refine then_go ?_
  repeat with_reducible refine wp_seq ?_
  refine wp_region_lit ?_
  refine wpList_next rfl hsz1 hde1 5 rfl (by decide) fun K hK => ?_
  go_simp
  refine hK _ _ fun a2 hsz2 hde2 f5 hk => ?_
  clear hK K
  replace f0 := (hk 0 (by decide)).trans f0
  replace f1 := (hk 1 (by decide)).trans f1
  replace f5 : a2.tmps[5]?.getD undef = .int .i64 ((0 : Nat) : Int) := f5
  clear hk hsz1 hde1
  refine wpList_nil ?_
  refine then_go ?_
  repeat with_reducible refine wp_seq ?_
  refine wp_block ?_
  refine wp_loop_ghost (UnInv w (.slice A n c) (.string ⟨s.toArray⟩) L s n) (n - 0) ?_ ?_
  · exact ⟨0, hsz2, hde2, f0, f1, f5, Lib.hid (Nat.zero_le _), Lib.hid (by rw [List.take_zero]; rfl), Lib.hid (Below.refl _ _), rfl⟩
  clear hsz2 hde2 f0 f1 f5
  intro n2 a19 wr hI
  obtain ⟨i, hsz19, hde19, f0, f1, f5, Hi, Hno, Hbw, hn2⟩ := hI
  have Hn2 := Lib.hid hn2
  clear hn2
  repeat with_reducible refine wp_seq ?_
  by_cases hlt : i < n
  · skip
    refine wp_region_lit ?_
    refine wpList_next rfl hsz19 hde19 6 rfl (by decide) fun K hK => ?_
    go_simp
    refine hK _ _ fun a20 hsz20 hde20 f6 hk => ?_
    clear hK K
    replace f0 := (hk 0 (by decide)).trans f0
    replace f1 := (hk 1 (by decide)).trans f1
    replace f5 := (hk 5 (by decide)).trans f5
    clear hk hsz19 hde19
    refine wpList_next rfl hsz20 hde20 7 rfl (by decide) fun K hK => ?_
    go_simp
    refine hK _ _ fun a21 hsz21 hde21 f7 hk => ?_
    clear hK K
    replace f0 := (hk 0 (by decide)).trans f0
    replace f1 := (hk 1 (by decide)).trans f1
    replace f5 := (hk 5 (by decide)).trans f5
    replace f6 := (hk 6 (by decide)).trans f6
    clear hk hsz20 hde20
    refine wpList_next rfl hsz21 hde21 8 rfl (by decide) fun K hK => ?_
    go_simp
    refine hK _ _ fun a22 hsz22 hde22 f8 hk => ?_
    clear hK K
    replace f0 := (hk 0 (by decide)).trans f0
    replace f1 := (hk 1 (by decide)).trans f1
    replace f5 := (hk 5 (by decide)).trans f5
    replace f6 := (hk 6 (by decide)).trans f6
    clear hk hsz21 hde21 f7
    refine wpList_next rfl hsz22 hde22 9 rfl (by decide) fun K hK => ?_
    go_simp
    refine hK _ _ fun a23 hsz23 hde23 f9 hk => ?_
    clear hK K
    replace f0 := (hk 0 (by decide)).trans f0
    replace f1 := (hk 1 (by decide)).trans f1
    replace f5 := (hk 5 (by decide)).trans f5
    clear hk hsz22 hde22 f6 f8
    replace f9 : a23.tmps[9]?.getD undef = .bool true := f9.trans (by first | rfl | (congr 1; first | exact decide_eq_true (by omega) | exact decide_eq_false (by omega)) | (simp; omega))
    refine wpList_nil ?_
    refine then_go ?_
    repeat with_reducible refine wp_seq ?_
    refine wp_cond_true (eval_at f9) ?_
    refine wp_skip ?_
    refine then_go ?_
    clear f9
    repeat with_reducible refine wp_seq ?_
    refine wp_block ?_
    repeat with_reducible refine wp_seq ?_
    have hil : i < L.length := by rw [← Hn.out]; exact hlt
    obtain ⟨b, off, hA, hc⟩ := cells_at Hbw.out HL.out (by intro e; subst e; simp at hil)
    have c1 := hc i hil
    obtain ⟨tx, hx⟩ : ∃ x, x = L[i] := ⟨_, rfl⟩
    rw [← hx] at c1
    have Hx := Lib.hid hx
    have hi0 : (0 : Int) ≤ (i : Int) := by omega
    have hinn : (i : Int) < (n : Int) := by omega
    subst hA
    have Hwi := Lib.hid (refwithin_any s tx wr)
    obtain ⟨q, hq⟩ : ∃ q, q = withinV s tx := ⟨_, rfl⟩
    rw [← hq] at Hwi
    have Hq := Lib.hid hq
    obtain ⟨d, hd⟩ : ∃ d, d = (tx != s) := ⟨_, rfl⟩
    have Hd := Lib.hid hd
    clear hc hx hq hd
    refine wp_region_lit ?_
    refine wpList_next rfl hsz23 hde23 12 rfl (by decide) fun K hK => ?_
    go_simp
    refine hK _ _ fun a24 hsz24 hde24 f12 hk => ?_
    clear hK K
    replace f0 := (hk 0 (by decide)).trans f0
    replace f1 := (hk 1 (by decide)).trans f1
    replace f5 := (hk 5 (by decide)).trans f5
    replace f12 : a24.tmps[12]?.getD undef = .slice (some ⟨b, off, none⟩) n c := f12
    clear hk hsz23 hde23
    refine wpList_next rfl hsz24 hde24 13 rfl (by decide) fun K hK => ?_
    go_simp
    refine hK _ _ fun a25 hsz25 hde25 f13 hk => ?_
    clear hK K
    replace f0 := (hk 0 (by decide)).trans f0
    replace f1 := (hk 1 (by decide)).trans f1
    replace f5 := (hk 5 (by decide)).trans f5
    replace f12 := (hk 12 (by decide)).trans f12
    replace f13 : a25.tmps[13]?.getD undef = .int .i64 ((i : Nat) : Int) := f13
    clear hk hsz24 hde24
    refine wpList_next rfl hsz25 hde25 14 rfl (by decide) fun K hK => ?_
    go_simp
    refine hK _ _ fun a26 hsz26 hde26 f14 hk => ?_
    clear hK K
    replace f0 := (hk 0 (by decide)).trans f0
    replace f1 := (hk 1 (by decide)).trans f1
    replace f5 := (hk 5 (by decide)).trans f5
    replace f14 : a26.tmps[14]?.getD undef = .pointer (some ⟨b, off + i, none⟩) := f14
    clear hk hsz25 hde25 f12 f13
    refine wpList_next rfl hsz26 hde26 15 rfl (by decide) fun K hK => ?_
    go_simp
    refine hK _ _ fun a27 hsz27 hde27 f15 hk => ?_
    clear hK K
    replace f0 := (hk 0 (by decide)).trans f0
    replace f1 := (hk 1 (by decide)).trans f1
    replace f5 := (hk 5 (by decide)).trans f5
    replace f15 : a27.tmps[15]?.getD undef = .string ⟨tx.toArray⟩ := f15
    clear hk hsz26 hde26 f14
    refine wpList_next rfl hsz27 hde27 16 rfl (by decide) fun K hK => ?_
    go_simp
    refine hK _ _ fun a28 hsz28 hde28 f16 hk => ?_
    clear hK K
    replace f0 := (hk 0 (by decide)).trans f0
    replace f1 := (hk 1 (by decide)).trans f1
    replace f5 := (hk 5 (by decide)).trans f5
    replace f15 := (hk 15 (by decide)).trans f15
    replace f16 : a28.tmps[16]?.getD undef = .string ⟨s.toArray⟩ := f16
    clear hk hsz27 hde27
    refine wpList_next rfl hsz28 hde28 17 rfl (by decide) fun K hK => ?_
    go_simp
    refine hK _ _ fun a29 hsz29 hde29 f17 hk => ?_
    clear hK K
    replace f0 := (hk 0 (by decide)).trans f0
    replace f1 := (hk 1 (by decide)).trans f1
    replace f5 := (hk 5 (by decide)).trans f5
    clear hk hsz28 hde28 f15 f16
    replace f17 : a29.tmps[17]?.getD undef = .bool d := f17.trans (by rw [Hd.out]; rfl)
    refine wpList_next rfl hsz29 hde29 18 rfl (by decide) fun K hK => ?_
    go_simp
    refine hK _ _ fun a30 hsz30 hde30 f18 hk => ?_
    clear hK K
    replace f0 := (hk 0 (by decide)).trans f0
    replace f1 := (hk 1 (by decide)).trans f1
    replace f5 := (hk 5 (by decide)).trans f5
    replace f18 : a30.tmps[18]?.getD undef = .bool d := f18
    clear hk hsz29 hde29 f17
    cases d with
    | false =>
      refine wpList_leave (not_wanted (j := 6) (t := 18) (b := true) rfl rfl (.inr f18)) hsz30 hde30 19 rfl (by decide) fun a31 hsz31 hde31 f19 hk => ?_
      replace f0 := (hk 0 (by decide)).trans f0
      replace f1 := (hk 1 (by decide)).trans f1
      replace f5 := (hk 5 (by decide)).trans f5
      replace f18 := (hk 18 (by decide)).trans f18
      clear hk hsz30 hde30
      refine wpList_leave (not_wanted (j := 6) (t := 18) (b := true) rfl rfl (.inr f18)) hsz31 hde31 20 rfl (by decide) fun a32 hsz32 hde32 f20 hk => ?_
      replace f0 := (hk 0 (by decide)).trans f0
      replace f1 := (hk 1 (by decide)).trans f1
      replace f5 := (hk 5 (by decide)).trans f5
      replace f18 := (hk 18 (by decide)).trans f18
      replace f19 := (hk 19 (by decide)).trans f19
      clear hk hsz31 hde31
      refine wpList_leave (not_wanted (j := 6) (t := 18) (b := true) rfl rfl (.inr f18)) hsz32 hde32 21 rfl (by decide) fun a33 hsz33 hde33 f21 hk => ?_
      replace f0 := (hk 0 (by decide)).trans f0
      replace f1 := (hk 1 (by decide)).trans f1
      replace f5 := (hk 5 (by decide)).trans f5
      replace f18 := (hk 18 (by decide)).trans f18
      replace f19 := (hk 19 (by decide)).trans f19
      replace f20 := (hk 20 (by decide)).trans f20
      clear hk hsz32 hde32
      refine wpList_leave (not_wanted (j := 6) (t := 18) (b := true) rfl rfl (.inr f18)) hsz33 hde33 22 rfl (by decide) fun a34 hsz34 hde34 f22 hk => ?_
      replace f0 := (hk 0 (by decide)).trans f0
      replace f1 := (hk 1 (by decide)).trans f1
      replace f5 := (hk 5 (by decide)).trans f5
      replace f18 := (hk 18 (by decide)).trans f18
      replace f19 := (hk 19 (by decide)).trans f19
      clear hk hsz33 hde33 f20 f21
      refine wpList_leave (not_wanted (j := 6) (t := 18) (b := true) rfl rfl (.inr f18)) hsz34 hde34 23 rfl (by decide) fun a35 hsz35 hde35 f23 hk => ?_
      replace f0 := (hk 0 (by decide)).trans f0
      replace f1 := (hk 1 (by decide)).trans f1
      replace f5 := (hk 5 (by decide)).trans f5
      replace f18 := (hk 18 (by decide)).trans f18
      replace f19 := (hk 19 (by decide)).trans f19
      clear hk hsz34 hde34 f22
      refine wpList_leave (not_wanted (j := 6) (t := 18) (b := true) rfl rfl (.inr f18)) hsz35 hde35 24 rfl (by decide) fun a36 hsz36 hde36 f24 hk => ?_
      replace f0 := (hk 0 (by decide)).trans f0
      replace f1 := (hk 1 (by decide)).trans f1
      replace f5 := (hk 5 (by decide)).trans f5
      replace f18 := (hk 18 (by decide)).trans f18
      clear hk hsz35 hde35 f19 f23
      refine wpList_next rfl hsz36 hde36 25 rfl (by decide) fun K hK => ?_
      go_simp
      refine hK _ _ fun a37 hsz37 hde37 f25 hk => ?_
      clear hK K
      replace f0 := (hk 0 (by decide)).trans f0
      replace f1 := (hk 1 (by decide)).trans f1
      replace f5 := (hk 5 (by decide)).trans f5
      replace f25 : a37.tmps[25]?.getD undef = .bool false := f25
      clear hk hsz36 hde36 f18 f24
      refine wpList_nil ?_
      clear c1
      refine then_go ?_
      repeat with_reducible refine wp_seq ?_
      refine wp_cond_false (eval_at f25) ?_
      refine wp_skip ?_
      repeat first | with_reducible refine block_go ?_ | with_reducible refine then_go ?_
      clear f25
      repeat with_reducible refine wp_seq ?_
      refine wp_region_lit ?_
      refine wpList_next rfl hsz37 hde37 10 rfl (by decide) fun K hK => ?_
      go_simp
      refine hK _ _ fun a38 hsz38 hde38 f10 hk => ?_
      clear hK K
      replace f0 := (hk 0 (by decide)).trans f0
      replace f1 := (hk 1 (by decide)).trans f1
      replace f5 := (hk 5 (by decide)).trans f5
      clear hk hsz37 hde37
      refine wpList_next rfl hsz38 hde38 11 rfl (by decide) fun K hK => ?_
      go_simp
      refine hK _ _ fun a39 hsz39 hde39 f11 hk => ?_
      clear hK K
      replace f0 := (hk 0 (by decide)).trans f0
      replace f1 := (hk 1 (by decide)).trans f1
      replace f5 := (hk 5 (by decide)).trans f5
      clear hk hsz38 hde38 f10
      replace f11 : a39.tmps[11]?.getD undef = .int .i64 (((i + 1 : Nat) : Int)) := f11.trans (by first | rfl | (congr 1; done) | (congr 1; omega) | (congr 1; rw [IntKind.wrap_i64] <;> omega))
      refine wpList_next rfl hsz39 hde39 5 rfl (by decide) fun K hK => ?_
      go_simp
      refine hK _ _ fun a40 hsz40 hde40 f5 hk => ?_
      clear hK K
      replace f0 := (hk 0 (by decide)).trans f0
      replace f1 := (hk 1 (by decide)).trans f1
      replace f5 : a40.tmps[5]?.getD undef = .int .i64 ((i + 1 : Nat) : Int) := f5
      clear hk hsz39 hde39 f11
      refine wpList_nil ?_
      refine then_go ?_
      exact ⟨n - (i + 1), by rw [Hn2.out]; omega, i + 1, hsz40, hde40, f0, f1, f5, Lib.hid (by omega), Lib.hid (any_take hil Hno.out (by rw [← Hx.out, ← Hd.out]; rfl)), Hbw, rfl⟩
    | true =>
      refine wpList_nextg (wanted_of (j := 6) (t := 18) (b := true) rfl rfl f18) hsz30 hde30 19 rfl (by decide) fun K hK => ?_
      go_simp
      refine hK _ _ fun a31 hsz31 hde31 f19 hk => ?_
      clear hK K
      replace f0 := (hk 0 (by decide)).trans f0
      replace f1 := (hk 1 (by decide)).trans f1
      replace f5 := (hk 5 (by decide)).trans f5
      replace f18 := (hk 18 (by decide)).trans f18
      replace f19 : a31.tmps[19]?.getD undef = .string ⟨s.toArray⟩ := f19
      clear hk hsz30 hde30
      refine wpList_nextg (wanted_of (j := 6) (t := 18) (b := true) rfl rfl f18) hsz31 hde31 20 rfl (by decide) fun K hK => ?_
      go_simp
      refine hK _ _ fun a32 hsz32 hde32 f20 hk => ?_
      clear hK K
      replace f0 := (hk 0 (by decide)).trans f0
      replace f1 := (hk 1 (by decide)).trans f1
      replace f5 := (hk 5 (by decide)).trans f5
      replace f18 := (hk 18 (by decide)).trans f18
      replace f19 := (hk 19 (by decide)).trans f19
      replace f20 : a32.tmps[20]?.getD undef = .slice (some ⟨b, off, none⟩) n c := f20
      clear hk hsz31 hde31
      refine wpList_nextg (wanted_of (j := 6) (t := 18) (b := true) rfl rfl f18) hsz32 hde32 21 rfl (by decide) fun K hK => ?_
      go_simp
      refine hK _ _ fun a33 hsz33 hde33 f21 hk => ?_
      clear hK K
      replace f0 := (hk 0 (by decide)).trans f0
      replace f1 := (hk 1 (by decide)).trans f1
      replace f5 := (hk 5 (by decide)).trans f5
      replace f18 := (hk 18 (by decide)).trans f18
      replace f19 := (hk 19 (by decide)).trans f19
      replace f20 := (hk 20 (by decide)).trans f20
      replace f21 : a33.tmps[21]?.getD undef = .int .i64 ((i : Nat) : Int) := f21
      clear hk hsz32 hde32
      refine wpList_nextg (wanted_of (j := 6) (t := 18) (b := true) rfl rfl f18) hsz33 hde33 22 rfl (by decide) fun K hK => ?_
      go_simp
      refine hK _ _ fun a34 hsz34 hde34 f22 hk => ?_
      clear hK K
      replace f0 := (hk 0 (by decide)).trans f0
      replace f1 := (hk 1 (by decide)).trans f1
      replace f5 := (hk 5 (by decide)).trans f5
      replace f18 := (hk 18 (by decide)).trans f18
      replace f19 := (hk 19 (by decide)).trans f19
      replace f22 : a34.tmps[22]?.getD undef = .pointer (some ⟨b, off + i, none⟩) := f22
      clear hk hsz33 hde33 f20 f21
      refine wpList_nextg (wanted_of (j := 6) (t := 18) (b := true) rfl rfl f18) hsz34 hde34 23 rfl (by decide) fun K hK => ?_
      go_simp
      refine hK _ _ fun a35 hsz35 hde35 f23 hk => ?_
      clear hK K
      replace f0 := (hk 0 (by decide)).trans f0
      replace f1 := (hk 1 (by decide)).trans f1
      replace f5 := (hk 5 (by decide)).trans f5
      replace f18 := (hk 18 (by decide)).trans f18
      replace f19 := (hk 19 (by decide)).trans f19
      replace f23 : a35.tmps[23]?.getD undef = .string ⟨tx.toArray⟩ := f23
      clear hk hsz34 hde34 f22
      refine wpList_nextg (wanted_of (j := 6) (t := 18) (b := true) rfl rfl f18) hsz35 hde35 24 rfl (by decide) fun K hK => ?_
      go_simp
      refine (Hwi.out).mono ?_
      rintro e1 w1 ⟨rfl, hb1⟩
      go_simp
      refine hK _ _ fun a36 hsz36 hde36 f24 hk => ?_
      clear hK K
      replace f0 := (hk 0 (by decide)).trans f0
      replace f1 := (hk 1 (by decide)).trans f1
      replace f5 := (hk 5 (by decide)).trans f5
      replace f18 := (hk 18 (by decide)).trans f18
      replace f24 : a36.tmps[24]?.getD undef = .bool q := f24
      clear hk hsz35 hde35 f19 f23
      have Hb1 := Lib.hid (below_call Hbw.out hb1)
      clear hb1
      refine wpList_next rfl hsz36 hde36 25 rfl (by decide) fun K hK => ?_
      go_simp
      refine hK _ _ fun a37 hsz37 hde37 f25 hk => ?_
      clear hK K
      replace f0 := (hk 0 (by decide)).trans f0
      replace f1 := (hk 1 (by decide)).trans f1
      replace f5 := (hk 5 (by decide)).trans f5
      replace f25 : a37.tmps[25]?.getD undef = .bool q := f25
      clear hk hsz36 hde36 f18 f24
      refine wpList_nil ?_
      clear c1
      refine then_go ?_
      repeat with_reducible refine wp_seq ?_
      cases q with
      | true =>
        refine wp_cond_true (eval_at f25) ?_
        clear f25
        repeat with_reducible refine wp_seq ?_
        refine wp_region_lit ?_
        refine wpList_next rfl hsz37 hde37 4 rfl (by decide) fun K hK => ?_
        go_simp
        refine hK _ _ fun a38 hsz38 hde38 f4 hk => ?_
        clear hK K
        replace f0 := (hk 0 (by decide)).trans f0
        replace f1 := (hk 1 (by decide)).trans f1
        replace f5 := (hk 5 (by decide)).trans f5
        replace f4 : a38.tmps[4]?.getD undef = .bool true := f4
        clear hk hsz37 hde37
        refine wpList_nil ?_
        refine then_go ?_
        refine wp_ret ?_
        repeat first | with_reducible refine then_ret ?_ | with_reducible refine block_ret ?_
        refine ret_tmp Tryz.results19 hde38 f4 ?_
        exact ⟨by rw [show underB L s = true from any_at hil (by rw [← Hx.out, ← Hd.out, ← Hq.out]; rfl)], Hb1.out⟩
      | false =>
        refine wp_cond_false (eval_at f25) ?_
        refine wp_skip ?_
        repeat first | with_reducible refine block_go ?_ | with_reducible refine then_go ?_
        clear f25
        repeat with_reducible refine wp_seq ?_
        refine wp_region_lit ?_
        refine wpList_next rfl hsz37 hde37 10 rfl (by decide) fun K hK => ?_
        go_simp
        refine hK _ _ fun a38 hsz38 hde38 f10 hk => ?_
        clear hK K
        replace f0 := (hk 0 (by decide)).trans f0
        replace f1 := (hk 1 (by decide)).trans f1
        replace f5 := (hk 5 (by decide)).trans f5
        clear hk hsz37 hde37
        refine wpList_next rfl hsz38 hde38 11 rfl (by decide) fun K hK => ?_
        go_simp
        refine hK _ _ fun a39 hsz39 hde39 f11 hk => ?_
        clear hK K
        replace f0 := (hk 0 (by decide)).trans f0
        replace f1 := (hk 1 (by decide)).trans f1
        replace f5 := (hk 5 (by decide)).trans f5
        clear hk hsz38 hde38 f10
        replace f11 : a39.tmps[11]?.getD undef = .int .i64 (((i + 1 : Nat) : Int)) := f11.trans (by first | rfl | (congr 1; done) | (congr 1; omega) | (congr 1; rw [IntKind.wrap_i64] <;> omega))
        refine wpList_next rfl hsz39 hde39 5 rfl (by decide) fun K hK => ?_
        go_simp
        refine hK _ _ fun a40 hsz40 hde40 f5 hk => ?_
        clear hK K
        replace f0 := (hk 0 (by decide)).trans f0
        replace f1 := (hk 1 (by decide)).trans f1
        replace f5 : a40.tmps[5]?.getD undef = .int .i64 ((i + 1 : Nat) : Int) := f5
        clear hk hsz39 hde39 f11
        refine wpList_nil ?_
        refine then_go ?_
        exact ⟨n - (i + 1), by rw [Hn2.out]; omega, i + 1, hsz40, hde40, f0, f1, f5, Lib.hid (by omega), Lib.hid (any_take hil Hno.out (by rw [← Hx.out, ← Hd.out, ← Hq.out]; rfl)), Hb1, rfl⟩
  refine wp_region_lit ?_
  refine wpList_next rfl hsz19 hde19 6 rfl (by decide) fun K hK => ?_
  go_simp
  refine hK _ _ fun a20 hsz20 hde20 f6 hk => ?_
  clear hK K
  replace f0 := (hk 0 (by decide)).trans f0
  replace f1 := (hk 1 (by decide)).trans f1
  replace f5 := (hk 5 (by decide)).trans f5
  clear hk hsz19 hde19
  refine wpList_next rfl hsz20 hde20 7 rfl (by decide) fun K hK => ?_
  go_simp
  refine hK _ _ fun a21 hsz21 hde21 f7 hk => ?_
  clear hK K
  replace f0 := (hk 0 (by decide)).trans f0
  replace f1 := (hk 1 (by decide)).trans f1
  replace f5 := (hk 5 (by decide)).trans f5
  replace f6 := (hk 6 (by decide)).trans f6
  clear hk hsz20 hde20
  refine wpList_next rfl hsz21 hde21 8 rfl (by decide) fun K hK => ?_
  go_simp
  refine hK _ _ fun a22 hsz22 hde22 f8 hk => ?_
  clear hK K
  replace f0 := (hk 0 (by decide)).trans f0
  replace f1 := (hk 1 (by decide)).trans f1
  replace f5 := (hk 5 (by decide)).trans f5
  replace f6 := (hk 6 (by decide)).trans f6
  clear hk hsz21 hde21 f7
  refine wpList_next rfl hsz22 hde22 9 rfl (by decide) fun K hK => ?_
  go_simp
  refine hK _ _ fun a23 hsz23 hde23 f9 hk => ?_
  clear hK K
  replace f0 := (hk 0 (by decide)).trans f0
  replace f1 := (hk 1 (by decide)).trans f1
  replace f5 := (hk 5 (by decide)).trans f5
  clear hk hsz22 hde22 f6 f8
  replace f9 : a23.tmps[9]?.getD undef = .bool false := f9.trans (by first | rfl | (congr 1; first | exact decide_eq_true (by omega) | exact decide_eq_false (by omega)) | (simp; omega))
  refine wpList_nil ?_
  refine then_go ?_
  repeat with_reducible refine wp_seq ?_
  refine wp_cond_false (eval_at f9) ?_
  refine wp_exit ?_
  repeat with_reducible refine then_exit ?_
  refine block_exit ?_
  repeat first | with_reducible refine block_go ?_ | with_reducible refine then_go ?_
  clear f9 f0 f1 f5
  repeat with_reducible refine wp_seq ?_
  refine wp_region_lit ?_
  refine wpList_next rfl hsz23 hde23 4 rfl (by decide) fun K hK => ?_
  go_simp
  refine hK _ _ fun a24 hsz24 hde24 f4 hk => ?_
  clear hK K
  replace f4 : a24.tmps[4]?.getD undef = .bool false := f4
  clear hk hsz23 hde23
  refine wpList_nil ?_
  refine then_go ?_
  have hfin := Hno.out
  rw [List.take_of_length_le (by have := Hi.out; have := Hn.out; omega)] at hfin
  refine wp_ret ?_
  repeat first | with_reducible refine then_ret ?_ | with_reducible refine block_ret ?_
  refine ret_tmp Tryz.results19 hde24 f4 ?_
  exact ⟨by rw [show underB L s = false from hfin], Hbw.out⟩
def CcInv (w : World) (v : Value) (L : List Txt) (n : Nat) (k9 : Nat) (a : Act) (x : World) : Prop :=
  ∃ i : Nat, Hid (a.tmps.size = 35) ∧ Hid (a.defers = []) ∧ a.tmps[0]?.getD undef = v ∧ a.tmps[8]?.getD undef = v ∧ a.tmps[9]?.getD undef = .int .i64 ((n : Nat) : Int) ∧ a.tmps[10]?.getD undef = .int .i64 ((i : Nat) : Int) ∧ Hid (i ≤ n) ∧ Hid (∀ k, k < i → chAt L k = 0) ∧ Hid (Below w.heap.size w x) ∧ k9 = n - i
set_option maxHeartbeats 4000000 in
theorem check14_any (ok : Nat → Prop) (A : Option Addr) (c : Nat) (L : List Txt) (w : World) (he : Env w) (hL : Rd w ok A (L.map str)) (hl : L.length ≤ 100000) :
    Calls Tryz.prog 9 #[.slice A L.length c] w fun e w' => e = .returned (.int .i64 (chCheck L)) ∧ Below w.heap.size w w' := by
  have HL := Lib.hid hL
  have Hun := Lib.hid fun s z (hz : Below w.heap.size w z) => below_any ok A c L s z (he.grow hz) (hL.grow hz) hl
  have Hpa := Lib.hid fun s z (hz : Below w.heap.size w z) => ispath_any s z (he.grow hz)
  obtain ⟨n, hn⟩ : ∃ n, n = L.length := ⟨_, rfl⟩
  rw [← hn] at hl Hun ⊢
  have Hn := Lib.hid hn
  clear hL hn
  go_enter Tryz.func9, Tryz.ntmps9
  refine enter_abs (N := 35) rfl rfl fun a0 hsz0 hde0 hk => ?_
  have f0 : a0.tmps[0]?.getD undef = .slice A n c := hk 0
  clear hk
  repeat with_reducible refine wp_seq ?_
  refine wp_region_lit ?_
  refine wpList_next rfl hsz0 hde0 2 rfl (by decide) fun K hK => ?_
  go_simp
  refine hK _ _ fun a1 hsz1 hde1 f2 hk => ?_
  clear hK K
  replace f0 := (hk 0 (by decide)).trans f0
  clear hk hsz0 hde0
  refine wpList_nil ?_
  clear f2
  refine then_go ?_
  repeat with_reducible refine wp_seq ?_
  by_cases h8 : 8 < n
  · skip
    refine wp_region_lit ?_
    refine wpList_next rfl hsz1 hde1 5 rfl (by decide) fun K hK => ?_
    go_simp
    refine hK _ _ fun a2 hsz2 hde2 f5 hk => ?_
    clear hK K
    replace f0 := (hk 0 (by decide)).trans f0
    replace f5 : a2.tmps[5]?.getD undef = .slice A n c := f5
    clear hk hsz1 hde1
    refine wpList_next rfl hsz2 hde2 6 rfl (by decide) fun K hK => ?_
    go_simp
    refine hK _ _ fun a3 hsz3 hde3 f6 hk => ?_
    clear hK K
    replace f0 := (hk 0 (by decide)).trans f0
    replace f6 : a3.tmps[6]?.getD undef = .int .i64 ((n : Nat) : Int) := f6
    clear hk hsz2 hde2 f5
    refine wpList_next rfl hsz3 hde3 7 rfl (by decide) fun K hK => ?_
    go_simp
    refine hK _ _ fun a4 hsz4 hde4 f7 hk => ?_
    clear hK K
    replace f0 := (hk 0 (by decide)).trans f0
    clear hk hsz3 hde3 f6
    replace f7 : a4.tmps[7]?.getD undef = .bool true := f7.trans (by first | rfl | (congr 1; first | exact decide_eq_true (by omega) | exact decide_eq_false (by omega)) | (simp; omega))
    refine wpList_nil ?_
    refine then_go ?_
    repeat with_reducible refine wp_seq ?_
    refine wp_cond_true (eval_at f7) ?_
    clear f7
    repeat with_reducible refine wp_seq ?_
    refine wp_region_lit ?_
    refine wpList_next rfl hsz4 hde4 2 rfl (by decide) fun K hK => ?_
    go_simp
    refine hK _ _ fun a5 hsz5 hde5 f2 hk => ?_
    clear hK K
    replace f0 := (hk 0 (by decide)).trans f0
    replace f2 : a5.tmps[2]?.getD undef = .int .i64 4 := f2
    clear hk hsz4 hde4
    refine wpList_nil ?_
    refine then_go ?_
    refine wp_ret ?_
    repeat first | with_reducible refine then_ret ?_ | with_reducible refine block_ret ?_
    refine ret_tmp Tryz.results9 hde5 f2 ?_
    exact ⟨by rw [show chCheck L = 4 from if_pos (by rw [← Hn.out]; exact h8)], Below.refl _ _⟩
  refine wp_region_lit ?_
  refine wpList_next rfl hsz1 hde1 5 rfl (by decide) fun K hK => ?_
  go_simp
  refine hK _ _ fun a2 hsz2 hde2 f5 hk => ?_
  clear hK K
  replace f0 := (hk 0 (by decide)).trans f0
  replace f5 : a2.tmps[5]?.getD undef = .slice A n c := f5
  clear hk hsz1 hde1
  refine wpList_next rfl hsz2 hde2 6 rfl (by decide) fun K hK => ?_
  go_simp
  refine hK _ _ fun a3 hsz3 hde3 f6 hk => ?_
  clear hK K
  replace f0 := (hk 0 (by decide)).trans f0
  replace f6 : a3.tmps[6]?.getD undef = .int .i64 ((n : Nat) : Int) := f6
  clear hk hsz2 hde2 f5
  refine wpList_next rfl hsz3 hde3 7 rfl (by decide) fun K hK => ?_
  go_simp
  refine hK _ _ fun a4 hsz4 hde4 f7 hk => ?_
  clear hK K
  replace f0 := (hk 0 (by decide)).trans f0
  clear hk hsz3 hde3 f6
  replace f7 : a4.tmps[7]?.getD undef = .bool false := f7.trans (by first | rfl | (congr 1; first | exact decide_eq_true (by omega) | exact decide_eq_false (by omega)) | (simp; omega))
  refine wpList_nil ?_
  refine then_go ?_
  repeat with_reducible refine wp_seq ?_
  refine wp_cond_false (eval_at f7) ?_
  refine wp_skip ?_
  refine then_go ?_
  clear f7
  repeat with_reducible refine wp_seq ?_
  have H8 := Lib.hid (show ¬ 8 < L.length by rw [← Hn.out]; exact h8)
  refine wp_region_lit ?_
  refine wpList_next rfl hsz4 hde4 8 rfl (by decide) fun K hK => ?_
  go_simp
  refine hK _ _ fun a5 hsz5 hde5 f8 hk => ?_
  clear hK K
  replace f0 := (hk 0 (by decide)).trans f0
  replace f8 : a5.tmps[8]?.getD undef = .slice A n c := f8
  clear hk hsz4 hde4
  refine wpList_next rfl hsz5 hde5 9 rfl (by decide) fun K hK => ?_
  go_simp
  refine hK _ _ fun a6 hsz6 hde6 f9 hk => ?_
  clear hK K
  replace f0 := (hk 0 (by decide)).trans f0
  replace f8 := (hk 8 (by decide)).trans f8
  replace f9 : a6.tmps[9]?.getD undef = .int .i64 ((n : Nat) : Int) := f9
  clear hk hsz5 hde5
  refine wpList_next rfl hsz6 hde6 10 rfl (by decide) fun K hK => ?_
  go_simp
  refine hK _ _ fun a7 hsz7 hde7 f10 hk => ?_
  clear hK K
  replace f0 := (hk 0 (by decide)).trans f0
  replace f8 := (hk 8 (by decide)).trans f8
  replace f9 := (hk 9 (by decide)).trans f9
  replace f10 : a7.tmps[10]?.getD undef = .int .i64 ((0 : Nat) : Int) := f10
  clear hk hsz6 hde6
  refine wpList_nil ?_
  refine then_go ?_
  repeat with_reducible refine wp_seq ?_
  refine wp_block ?_
  refine wp_loop_ghost (CcInv w (.slice A n c) L n) (n - 0) ?_ ?_
  · exact ⟨0, hsz7, hde7, f0, f8, f9, f10, Lib.hid (Nat.zero_le _), Lib.hid (fun k hk => absurd hk (Nat.not_lt_zero k)), Lib.hid (Below.refl _ _), rfl⟩
  clear hsz7 hde7 f0 f8 f9 f10
  intro n2 a19 wr hI
  obtain ⟨i, hsz19, hde19, f0, f8, f9, f10, Hi, Hno, Hbw, hn2⟩ := hI
  have Hn2 := Lib.hid hn2
  clear hn2
  repeat with_reducible refine wp_seq ?_
  by_cases hlt : i < n
  · skip
    refine wp_region_lit ?_
    refine wpList_next rfl hsz19 hde19 11 rfl (by decide) fun K hK => ?_
    go_simp
    refine hK _ _ fun a20 hsz20 hde20 f11 hk => ?_
    clear hK K
    replace f0 := (hk 0 (by decide)).trans f0
    replace f8 := (hk 8 (by decide)).trans f8
    replace f9 := (hk 9 (by decide)).trans f9
    replace f10 := (hk 10 (by decide)).trans f10
    clear hk hsz19 hde19
    replace f11 : a20.tmps[11]?.getD undef = .bool true := f11.trans (by first | rfl | (congr 1; first | exact decide_eq_true (by omega) | exact decide_eq_false (by omega)) | (simp; omega))
    refine wpList_nil ?_
    refine then_go ?_
    repeat with_reducible refine wp_seq ?_
    refine wp_cond_true (eval_at f11) ?_
    refine wp_skip ?_
    refine then_go ?_
    clear f11
    repeat with_reducible refine wp_seq ?_
    refine wp_block ?_
    repeat with_reducible refine wp_seq ?_
    have hil : i < L.length := by rw [← Hn.out]; exact hlt
    obtain ⟨b, off, hA, hc⟩ := cells_at Hbw.out HL.out (by intro e; subst e; simp at hil)
    have c1 := hc i hil
    obtain ⟨tx, hx⟩ : ∃ x, x = L[i] := ⟨_, rfl⟩
    rw [← hx] at c1
    have Hx := Lib.hid hx
    have hi0 : (0 : Int) ≤ (i : Int) := by omega
    have hinn : (i : Int) < (n : Int) := by omega
    subst hA
    have Hip := Lib.hid (Hpa.out tx wr Hbw.out)
    obtain ⟨p, hp⟩ : ∃ q, q = pathB tx := ⟨_, rfl⟩
    rw [← hp] at Hip
    have Hp := Lib.hid hp
    have Hux := Lib.hid (Hun.out tx)
    obtain ⟨u, hu⟩ : ∃ u, u = underB L tx := ⟨_, rfl⟩
    rw [← hu] at Hux
    have Hu := Lib.hid hu
    obtain ⟨y, hy⟩ : ∃ y, y = L.getD (i - 1) [] := ⟨_, rfl⟩
    obtain ⟨d, hd⟩ : ∃ d, d = decide (tx ≤ y) := ⟨_, rfl⟩
    have Hd := Lib.hid hd
    have Hat := Lib.hid (show chAt L i = if p = false then 20 else if ((decide (0 < i) && d) || u) = true then 7 else 0 from chAt_eq hil (by rw [hp, hx]) (by rw [hd, hx, hy]) (by rw [hu, hx]))
    have Hcy := Lib.hid (show 0 < i → ∀ z, Below w.heap.size w z → z.cell? ⟨b, off + (i - 1), none⟩ = some (.string ⟨y.toArray⟩) from fun h z hz => by
      have h1 : i - 1 < L.length := by omega
      obtain ⟨b5, off5, hA5, hc5⟩ := cells_at hz HL.out (by intro e; subst e; simp at hil)
      cases hA5
      rw [hc5 (i - 1) h1, hy]
      simp [h1])
    have Hcx := Lib.hid (show ∀ z, Below w.heap.size w z → z.cell? ⟨b, off + i, none⟩ = some (.string ⟨tx.toArray⟩) from fun z hz => by
      obtain ⟨b5, off5, hA5, hc5⟩ := cells_at hz HL.out (by intro e; subst e; simp at hil)
      cases hA5
      rw [hc5 i hil, hx])
    clear hc hx hp hu hd hy
    refine wp_region_lit ?_
    refine wpList_next rfl hsz20 hde20 12 rfl (by decide) fun K hK => ?_
    go_simp
    refine hK _ _ fun a21 hsz21 hde21 f12 hk => ?_
    clear hK K
    replace f0 := (hk 0 (by decide)).trans f0
    replace f8 := (hk 8 (by decide)).trans f8
    replace f9 := (hk 9 (by decide)).trans f9
    replace f10 := (hk 10 (by decide)).trans f10
    replace f12 : a21.tmps[12]?.getD undef = .int .i64 ((i : Nat) : Int) := f12
    clear hk hsz20 hde20
    refine wpList_next rfl hsz21 hde21 13 rfl (by decide) fun K hK => ?_
    go_simp
    refine hK _ _ fun a22 hsz22 hde22 f13 hk => ?_
    clear hK K
    replace f0 := (hk 0 (by decide)).trans f0
    replace f8 := (hk 8 (by decide)).trans f8
    replace f9 := (hk 9 (by decide)).trans f9
    replace f10 := (hk 10 (by decide)).trans f10
    replace f12 := (hk 12 (by decide)).trans f12
    replace f13 : a22.tmps[13]?.getD undef = .pointer (some ⟨b, off + i, none⟩) := f13
    clear hk hsz21 hde21
    refine wpList_next rfl hsz22 hde22 14 rfl (by decide) fun K hK => ?_
    go_simp
    refine hK _ _ fun a23 hsz23 hde23 f14 hk => ?_
    clear hK K
    replace f0 := (hk 0 (by decide)).trans f0
    replace f8 := (hk 8 (by decide)).trans f8
    replace f9 := (hk 9 (by decide)).trans f9
    replace f10 := (hk 10 (by decide)).trans f10
    replace f12 := (hk 12 (by decide)).trans f12
    replace f14 : a23.tmps[14]?.getD undef = .string ⟨tx.toArray⟩ := f14
    clear hk hsz22 hde22 f13
    refine wpList_next rfl hsz23 hde23 3 rfl (by decide) fun K hK => ?_
    go_simp
    refine hK _ _ fun a24 hsz24 hde24 f3 hk => ?_
    clear hK K
    replace f0 := (hk 0 (by decide)).trans f0
    replace f8 := (hk 8 (by decide)).trans f8
    replace f9 := (hk 9 (by decide)).trans f9
    replace f10 := (hk 10 (by decide)).trans f10
    replace f14 := (hk 14 (by decide)).trans f14
    replace f3 : a24.tmps[3]?.getD undef = .int .i64 ((i : Nat) : Int) := f3
    clear hk hsz23 hde23 f12
    refine wpList_next rfl hsz24 hde24 4 rfl (by decide) fun K hK => ?_
    go_simp
    refine hK _ _ fun a25 hsz25 hde25 f4 hk => ?_
    clear hK K
    replace f0 := (hk 0 (by decide)).trans f0
    replace f8 := (hk 8 (by decide)).trans f8
    replace f9 := (hk 9 (by decide)).trans f9
    replace f10 := (hk 10 (by decide)).trans f10
    replace f3 := (hk 3 (by decide)).trans f3
    replace f4 : a25.tmps[4]?.getD undef = .string ⟨tx.toArray⟩ := f4
    clear hk hsz24 hde24 f14
    refine wpList_nil ?_
    refine then_go ?_
    repeat with_reducible refine wp_seq ?_
    refine wp_region_lit ?_
    refine wpList_next rfl hsz25 hde25 15 rfl (by decide) fun K hK => ?_
    go_simp
    refine hK _ _ fun a26 hsz26 hde26 f15 hk => ?_
    clear hK K
    replace f0 := (hk 0 (by decide)).trans f0
    replace f8 := (hk 8 (by decide)).trans f8
    replace f9 := (hk 9 (by decide)).trans f9
    replace f10 := (hk 10 (by decide)).trans f10
    replace f3 := (hk 3 (by decide)).trans f3
    replace f4 := (hk 4 (by decide)).trans f4
    replace f15 : a26.tmps[15]?.getD undef = .string ⟨tx.toArray⟩ := f15
    clear hk hsz25 hde25
    refine wpList_next rfl hsz26 hde26 16 rfl (by decide) fun K hK => ?_
    go_simp
    refine (Hip.out).mono ?_
    rintro e1 w1 ⟨rfl, hb1⟩
    go_simp
    refine hK _ _ fun a27 hsz27 hde27 f16 hk => ?_
    clear hK K
    replace f0 := (hk 0 (by decide)).trans f0
    replace f8 := (hk 8 (by decide)).trans f8
    replace f9 := (hk 9 (by decide)).trans f9
    replace f10 := (hk 10 (by decide)).trans f10
    replace f3 := (hk 3 (by decide)).trans f3
    replace f4 := (hk 4 (by decide)).trans f4
    replace f16 : a27.tmps[16]?.getD undef = .bool p := f16
    clear hk hsz26 hde26 f15
    have Hb1 := Lib.hid (below_call Hbw.out hb1)
    clear hb1
    refine wpList_next rfl hsz27 hde27 17 rfl (by decide) fun K hK => ?_
    go_simp
    refine hK _ _ fun a28 hsz28 hde28 f17 hk => ?_
    clear hK K
    replace f0 := (hk 0 (by decide)).trans f0
    replace f8 := (hk 8 (by decide)).trans f8
    replace f9 := (hk 9 (by decide)).trans f9
    replace f10 := (hk 10 (by decide)).trans f10
    replace f3 := (hk 3 (by decide)).trans f3
    replace f4 := (hk 4 (by decide)).trans f4
    replace f17 : a28.tmps[17]?.getD undef = .bool (!p) := f17
    clear hk hsz27 hde27 f16
    refine wpList_nil ?_
    clear c1
    refine then_go ?_
    repeat with_reducible refine wp_seq ?_
    cases p with
    | false =>
      replace f17 : a28.tmps[17]?.getD undef = .bool true := f17
      refine wp_cond_true (eval_at f17) ?_
      clear f17
      repeat with_reducible refine wp_seq ?_
      refine wp_region_lit ?_
      refine wpList_next rfl hsz28 hde28 2 rfl (by decide) fun K hK => ?_
      go_simp
      refine hK _ _ fun a29 hsz29 hde29 f2 hk => ?_
      clear hK K
      replace f0 := (hk 0 (by decide)).trans f0
      replace f8 := (hk 8 (by decide)).trans f8
      replace f9 := (hk 9 (by decide)).trans f9
      replace f10 := (hk 10 (by decide)).trans f10
      replace f3 := (hk 3 (by decide)).trans f3
      replace f4 := (hk 4 (by decide)).trans f4
      replace f2 : a29.tmps[2]?.getD undef = .int .i64 20 := f2
      clear hk hsz28 hde28
      refine wpList_nil ?_
      refine then_go ?_
      refine wp_ret ?_
      repeat first | with_reducible refine then_ret ?_ | with_reducible refine block_ret ?_
      refine ret_tmp Tryz.results9 hde29 f2 ?_
      exact ⟨by rw [chCheck_at H8.out hil Hno.out (by rw [Hat.out]; rw [if_pos rfl]; decide), Hat.out]; rw [if_pos rfl], Hb1.out⟩
    | true =>
      replace f17 : a28.tmps[17]?.getD undef = .bool false := f17
      refine wp_cond_false (eval_at f17) ?_
      refine wp_skip ?_
      refine then_go ?_
      clear f17
      repeat with_reducible refine wp_seq ?_
      have Hat2 := Lib.hid (show chAt L i = if ((decide (0 < i) && d) || u) = true then 7 else 0 by rw [Hat.out, if_neg (by simp)])
      clear Hat
      by_cases h0 : i = 0
      · have H0 := Lib.hid (show ¬ 0 < i by omega)
        have h0n : ¬ 0 < i := H0.out
        clear h0
        refine wp_region_lit ?_
        refine wpList_next rfl hsz28 hde28 18 rfl (by decide) fun K hK => ?_
        go_simp
        refine hK _ _ fun a29 hsz29 hde29 f18 hk => ?_
        clear hK K
        replace f0 := (hk 0 (by decide)).trans f0
        replace f8 := (hk 8 (by decide)).trans f8
        replace f9 := (hk 9 (by decide)).trans f9
        replace f10 := (hk 10 (by decide)).trans f10
        replace f3 := (hk 3 (by decide)).trans f3
        replace f4 := (hk 4 (by decide)).trans f4
        replace f18 : a29.tmps[18]?.getD undef = .int .i64 ((i : Nat) : Int) := f18
        clear hk hsz28 hde28
        refine wpList_next rfl hsz29 hde29 19 rfl (by decide) fun K hK => ?_
        go_simp
        refine hK _ _ fun a30 hsz30 hde30 f19 hk => ?_
        clear hK K
        replace f0 := (hk 0 (by decide)).trans f0
        replace f8 := (hk 8 (by decide)).trans f8
        replace f9 := (hk 9 (by decide)).trans f9
        replace f10 := (hk 10 (by decide)).trans f10
        replace f3 := (hk 3 (by decide)).trans f3
        replace f4 := (hk 4 (by decide)).trans f4
        clear hk hsz29 hde29 f18
        replace f19 : a30.tmps[19]?.getD undef = .bool false := f19.trans (by first | rfl | (congr 1; first | exact decide_eq_true (by omega) | exact decide_eq_false (by omega)) | (simp; omega))
        refine wpList_next rfl hsz30 hde30 20 rfl (by decide) fun K hK => ?_
        go_simp
        refine hK _ _ fun a31 hsz31 hde31 f20 hk => ?_
        clear hK K
        replace f0 := (hk 0 (by decide)).trans f0
        replace f8 := (hk 8 (by decide)).trans f8
        replace f9 := (hk 9 (by decide)).trans f9
        replace f10 := (hk 10 (by decide)).trans f10
        replace f3 := (hk 3 (by decide)).trans f3
        replace f4 := (hk 4 (by decide)).trans f4
        replace f20 : a31.tmps[20]?.getD undef = .bool false := f20
        clear hk hsz30 hde30 f19
        refine wpList_leave (not_wanted (j := 2) (t := 20) (b := true) rfl rfl (.inr f20)) hsz31 hde31 21 rfl (by decide) fun a32 hsz32 hde32 f21 hk => ?_
        replace f0 := (hk 0 (by decide)).trans f0
        replace f8 := (hk 8 (by decide)).trans f8
        replace f9 := (hk 9 (by decide)).trans f9
        replace f10 := (hk 10 (by decide)).trans f10
        replace f3 := (hk 3 (by decide)).trans f3
        replace f4 := (hk 4 (by decide)).trans f4
        replace f20 := (hk 20 (by decide)).trans f20
        clear hk hsz31 hde31
        refine wpList_leave (not_wanted (j := 2) (t := 20) (b := true) rfl rfl (.inr f20)) hsz32 hde32 22 rfl (by decide) fun a33 hsz33 hde33 f22 hk => ?_
        replace f0 := (hk 0 (by decide)).trans f0
        replace f8 := (hk 8 (by decide)).trans f8
        replace f9 := (hk 9 (by decide)).trans f9
        replace f10 := (hk 10 (by decide)).trans f10
        replace f3 := (hk 3 (by decide)).trans f3
        replace f4 := (hk 4 (by decide)).trans f4
        replace f20 := (hk 20 (by decide)).trans f20
        replace f21 := (hk 21 (by decide)).trans f21
        clear hk hsz32 hde32
        refine wpList_leave (not_wanted (j := 2) (t := 20) (b := true) rfl rfl (.inr f20)) hsz33 hde33 23 rfl (by decide) fun a34 hsz34 hde34 f23 hk => ?_
        replace f0 := (hk 0 (by decide)).trans f0
        replace f8 := (hk 8 (by decide)).trans f8
        replace f9 := (hk 9 (by decide)).trans f9
        replace f10 := (hk 10 (by decide)).trans f10
        replace f3 := (hk 3 (by decide)).trans f3
        replace f4 := (hk 4 (by decide)).trans f4
        replace f20 := (hk 20 (by decide)).trans f20
        replace f21 := (hk 21 (by decide)).trans f21
        replace f22 := (hk 22 (by decide)).trans f22
        clear hk hsz33 hde33
        refine wpList_leave (not_wanted (j := 2) (t := 20) (b := true) rfl rfl (.inr f20)) hsz34 hde34 24 rfl (by decide) fun a35 hsz35 hde35 f24 hk => ?_
        replace f0 := (hk 0 (by decide)).trans f0
        replace f8 := (hk 8 (by decide)).trans f8
        replace f9 := (hk 9 (by decide)).trans f9
        replace f10 := (hk 10 (by decide)).trans f10
        replace f3 := (hk 3 (by decide)).trans f3
        replace f4 := (hk 4 (by decide)).trans f4
        replace f20 := (hk 20 (by decide)).trans f20
        replace f21 := (hk 21 (by decide)).trans f21
        replace f22 := (hk 22 (by decide)).trans f22
        clear hk hsz34 hde34 f23
        refine wpList_leave (not_wanted (j := 2) (t := 20) (b := true) rfl rfl (.inr f20)) hsz35 hde35 25 rfl (by decide) fun a36 hsz36 hde36 f25 hk => ?_
        replace f0 := (hk 0 (by decide)).trans f0
        replace f8 := (hk 8 (by decide)).trans f8
        replace f9 := (hk 9 (by decide)).trans f9
        replace f10 := (hk 10 (by decide)).trans f10
        replace f3 := (hk 3 (by decide)).trans f3
        replace f4 := (hk 4 (by decide)).trans f4
        replace f20 := (hk 20 (by decide)).trans f20
        replace f21 := (hk 21 (by decide)).trans f21
        clear hk hsz35 hde35 f22 f24
        refine wpList_leave (not_wanted (j := 2) (t := 20) (b := true) rfl rfl (.inr f20)) hsz36 hde36 26 rfl (by decide) fun a37 hsz37 hde37 f26 hk => ?_
        replace f0 := (hk 0 (by decide)).trans f0
        replace f8 := (hk 8 (by decide)).trans f8
        replace f9 := (hk 9 (by decide)).trans f9
        replace f10 := (hk 10 (by decide)).trans f10
        replace f3 := (hk 3 (by decide)).trans f3
        replace f4 := (hk 4 (by decide)).trans f4
        replace f20 := (hk 20 (by decide)).trans f20
        replace f21 := (hk 21 (by decide)).trans f21
        clear hk hsz36 hde36 f25
        refine wpList_leave (not_wanted (j := 2) (t := 20) (b := true) rfl rfl (.inr f20)) hsz37 hde37 27 rfl (by decide) fun a38 hsz38 hde38 f27 hk => ?_
        replace f0 := (hk 0 (by decide)).trans f0
        replace f8 := (hk 8 (by decide)).trans f8
        replace f9 := (hk 9 (by decide)).trans f9
        replace f10 := (hk 10 (by decide)).trans f10
        replace f3 := (hk 3 (by decide)).trans f3
        replace f4 := (hk 4 (by decide)).trans f4
        replace f20 := (hk 20 (by decide)).trans f20
        clear hk hsz37 hde37 f21 f26
        refine wpList_next rfl hsz38 hde38 28 rfl (by decide) fun K hK => ?_
        go_simp
        refine hK _ _ fun a39 hsz39 hde39 f28 hk => ?_
        clear hK K
        replace f0 := (hk 0 (by decide)).trans f0
        replace f8 := (hk 8 (by decide)).trans f8
        replace f9 := (hk 9 (by decide)).trans f9
        replace f10 := (hk 10 (by decide)).trans f10
        replace f3 := (hk 3 (by decide)).trans f3
        replace f4 := (hk 4 (by decide)).trans f4
        replace f28 : a39.tmps[28]?.getD undef = .bool false := f28
        clear hk hsz38 hde38 f20 f27
        refine wpList_next rfl hsz39 hde39 29 rfl (by decide) fun K hK => ?_
        go_simp
        refine hK _ _ fun a40 hsz40 hde40 f29 hk => ?_
        clear hK K
        replace f0 := (hk 0 (by decide)).trans f0
        replace f8 := (hk 8 (by decide)).trans f8
        replace f9 := (hk 9 (by decide)).trans f9
        replace f10 := (hk 10 (by decide)).trans f10
        replace f3 := (hk 3 (by decide)).trans f3
        replace f4 := (hk 4 (by decide)).trans f4
        replace f29 : a40.tmps[29]?.getD undef = .bool false := f29
        clear hk hsz39 hde39 f28
        refine wpList_nextg (wanted_of (j := 11) (t := 29) (b := false) rfl rfl f29) hsz40 hde40 30 rfl (by decide) fun K hK => ?_
        go_simp
        refine hK _ _ fun a41 hsz41 hde41 f30 hk => ?_
        clear hK K
        replace f0 := (hk 0 (by decide)).trans f0
        replace f8 := (hk 8 (by decide)).trans f8
        replace f9 := (hk 9 (by decide)).trans f9
        replace f10 := (hk 10 (by decide)).trans f10
        replace f3 := (hk 3 (by decide)).trans f3
        replace f4 := (hk 4 (by decide)).trans f4
        replace f29 := (hk 29 (by decide)).trans f29
        replace f30 : a41.tmps[30]?.getD undef = .string ⟨tx.toArray⟩ := f30
        clear hk hsz40 hde40
        refine wpList_nextg (wanted_of (j := 11) (t := 29) (b := false) rfl rfl f29) hsz41 hde41 31 rfl (by decide) fun K hK => ?_
        go_simp
        refine hK _ _ fun a42 hsz42 hde42 f31 hk => ?_
        clear hK K
        replace f0 := (hk 0 (by decide)).trans f0
        replace f8 := (hk 8 (by decide)).trans f8
        replace f9 := (hk 9 (by decide)).trans f9
        replace f10 := (hk 10 (by decide)).trans f10
        replace f3 := (hk 3 (by decide)).trans f3
        replace f4 := (hk 4 (by decide)).trans f4
        replace f29 := (hk 29 (by decide)).trans f29
        replace f30 := (hk 30 (by decide)).trans f30
        replace f31 : a42.tmps[31]?.getD undef = .slice (some ⟨b, off, none⟩) n c := f31
        clear hk hsz41 hde41
        refine wpList_nextg (wanted_of (j := 11) (t := 29) (b := false) rfl rfl f29) hsz42 hde42 32 rfl (by decide) fun K hK => ?_
        go_simp
        refine (Hux.out _ Hb1.out).mono ?_
        rintro e2 w2 ⟨rfl, hb2⟩
        go_simp
        refine hK _ _ fun a43 hsz43 hde43 f32 hk => ?_
        clear hK K
        replace f0 := (hk 0 (by decide)).trans f0
        replace f8 := (hk 8 (by decide)).trans f8
        replace f9 := (hk 9 (by decide)).trans f9
        replace f10 := (hk 10 (by decide)).trans f10
        replace f3 := (hk 3 (by decide)).trans f3
        replace f4 := (hk 4 (by decide)).trans f4
        replace f29 := (hk 29 (by decide)).trans f29
        replace f32 : a43.tmps[32]?.getD undef = .bool u := f32
        clear hk hsz42 hde42 f30 f31
        have Hb2 := Lib.hid (below_call Hb1.out hb2)
        clear hb2
        refine wpList_next rfl hsz43 hde43 33 rfl (by decide) fun K hK => ?_
        go_simp
        refine hK _ _ fun a44 hsz44 hde44 f33 hk => ?_
        clear hK K
        replace f0 := (hk 0 (by decide)).trans f0
        replace f8 := (hk 8 (by decide)).trans f8
        replace f9 := (hk 9 (by decide)).trans f9
        replace f10 := (hk 10 (by decide)).trans f10
        replace f3 := (hk 3 (by decide)).trans f3
        replace f4 := (hk 4 (by decide)).trans f4
        replace f33 : a44.tmps[33]?.getD undef = .bool u := f33
        clear hk hsz43 hde43 f29 f32
        refine wpList_nil ?_
        refine then_go ?_
        repeat with_reducible refine wp_seq ?_
        cases u with
        | true =>
          refine wp_cond_true (eval_at f33) ?_
          clear f33
          repeat with_reducible refine wp_seq ?_
          refine wp_region_lit ?_
          refine wpList_next rfl hsz44 hde44 2 rfl (by decide) fun K hK => ?_
          go_simp
          refine hK _ _ fun a45 hsz45 hde45 f2 hk => ?_
          clear hK K
          replace f0 := (hk 0 (by decide)).trans f0
          replace f8 := (hk 8 (by decide)).trans f8
          replace f9 := (hk 9 (by decide)).trans f9
          replace f10 := (hk 10 (by decide)).trans f10
          replace f3 := (hk 3 (by decide)).trans f3
          replace f4 := (hk 4 (by decide)).trans f4
          replace f2 : a45.tmps[2]?.getD undef = .int .i64 7 := f2
          clear hk hsz44 hde44
          refine wpList_nil ?_
          refine then_go ?_
          refine wp_ret ?_
          repeat first | with_reducible refine then_ret ?_ | with_reducible refine block_ret ?_
          refine ret_tmp Tryz.results9 hde45 f2 ?_
          exact ⟨by rw [chCheck_at H8.out hil Hno.out (by rw [Hat2.out, if_pos (by simp [H0.out])]; decide), Hat2.out, if_pos (by simp [H0.out])], Hb2.out⟩
        | false =>
          refine wp_cond_false (eval_at f33) ?_
          refine wp_skip ?_
          repeat first | with_reducible refine block_go ?_ | with_reducible refine then_go ?_
          clear f33 f3 f4
          repeat with_reducible refine wp_seq ?_
          refine wp_region_lit ?_
          refine wpList_next rfl hsz44 hde44 34 rfl (by decide) fun K hK => ?_
          go_simp
          refine hK _ _ fun a45 hsz45 hde45 f34 hk => ?_
          clear hK K
          replace f0 := (hk 0 (by decide)).trans f0
          replace f8 := (hk 8 (by decide)).trans f8
          replace f9 := (hk 9 (by decide)).trans f9
          replace f10 := (hk 10 (by decide)).trans f10
          clear hk hsz44 hde44
          replace f34 : a45.tmps[34]?.getD undef = .int .i64 (((i + 1 : Nat) : Int)) := f34.trans (by first | rfl | (congr 1; done) | (congr 1; omega) | (congr 1; rw [IntKind.wrap_i64] <;> omega))
          refine wpList_next rfl hsz45 hde45 10 rfl (by decide) fun K hK => ?_
          go_simp
          refine hK _ _ fun a46 hsz46 hde46 f10 hk => ?_
          clear hK K
          replace f0 := (hk 0 (by decide)).trans f0
          replace f8 := (hk 8 (by decide)).trans f8
          replace f9 := (hk 9 (by decide)).trans f9
          replace f10 : a46.tmps[10]?.getD undef = .int .i64 ((i + 1 : Nat) : Int) := f10
          clear hk hsz45 hde45 f34
          refine wpList_nil ?_
          refine then_go ?_
          exact ⟨n - (i + 1), by rw [Hn2.out]; omega, i + 1, hsz46, hde46, f0, f8, f9, f10, Lib.hid (by omega), Lib.hid (chAt_step Hno.out (by rw [Hat2.out, if_neg (by simp [H0.out])])), Lib.hid Hb2.out, rfl⟩
      have h0n : 0 < i := by omega
      have H0 := Lib.hid h0n
      have hcy := Hcy.out h0n
      obtain ⟨j, hj⟩ : ∃ j, j = i - 1 := ⟨_, rfl⟩
      have Hj := Lib.hid hj
      rw [← hj] at hcy
      have Hcz := Lib.hid hcy
      have hji : (i : Int) - 1 = (j : Int) := by omega
      have hj0 : (0 : Int) ≤ (j : Int) := by omega
      have hjn : (j : Int) < (n : Int) := by omega
      have Hji := Lib.hid hji
      clear hj hji hcy
      cases d with
      | true =>
        refine wp_region_lit ?_
        refine wpList_next rfl hsz28 hde28 18 rfl (by decide) fun K hK => ?_
        go_simp
        refine hK _ _ fun a29 hsz29 hde29 f18 hk => ?_
        clear hK K
        replace f0 := (hk 0 (by decide)).trans f0
        replace f8 := (hk 8 (by decide)).trans f8
        replace f9 := (hk 9 (by decide)).trans f9
        replace f10 := (hk 10 (by decide)).trans f10
        replace f3 := (hk 3 (by decide)).trans f3
        replace f4 := (hk 4 (by decide)).trans f4
        replace f18 : a29.tmps[18]?.getD undef = .int .i64 ((i : Nat) : Int) := f18
        clear hk hsz28 hde28
        refine wpList_next rfl hsz29 hde29 19 rfl (by decide) fun K hK => ?_
        go_simp
        refine hK _ _ fun a30 hsz30 hde30 f19 hk => ?_
        clear hK K
        replace f0 := (hk 0 (by decide)).trans f0
        replace f8 := (hk 8 (by decide)).trans f8
        replace f9 := (hk 9 (by decide)).trans f9
        replace f10 := (hk 10 (by decide)).trans f10
        replace f3 := (hk 3 (by decide)).trans f3
        replace f4 := (hk 4 (by decide)).trans f4
        clear hk hsz29 hde29 f18
        replace f19 : a30.tmps[19]?.getD undef = .bool true := f19.trans (by first | rfl | (congr 1; first | exact decide_eq_true (by omega) | exact decide_eq_false (by omega)) | (simp; omega))
        refine wpList_next rfl hsz30 hde30 20 rfl (by decide) fun K hK => ?_
        go_simp
        refine hK _ _ fun a31 hsz31 hde31 f20 hk => ?_
        clear hK K
        replace f0 := (hk 0 (by decide)).trans f0
        replace f8 := (hk 8 (by decide)).trans f8
        replace f9 := (hk 9 (by decide)).trans f9
        replace f10 := (hk 10 (by decide)).trans f10
        replace f3 := (hk 3 (by decide)).trans f3
        replace f4 := (hk 4 (by decide)).trans f4
        replace f20 : a31.tmps[20]?.getD undef = .bool true := f20
        clear hk hsz30 hde30 f19
        refine wpList_nextg (wanted_of (j := 2) (t := 20) (b := true) rfl rfl f20) hsz31 hde31 21 rfl (by decide) fun K hK => ?_
        go_simp
        refine hK _ _ fun a32 hsz32 hde32 f21 hk => ?_
        clear hK K
        replace f0 := (hk 0 (by decide)).trans f0
        replace f8 := (hk 8 (by decide)).trans f8
        replace f9 := (hk 9 (by decide)).trans f9
        replace f10 := (hk 10 (by decide)).trans f10
        replace f3 := (hk 3 (by decide)).trans f3
        replace f4 := (hk 4 (by decide)).trans f4
        replace f20 := (hk 20 (by decide)).trans f20
        replace f21 : a32.tmps[21]?.getD undef = .string ⟨tx.toArray⟩ := f21
        clear hk hsz31 hde31
        refine wpList_nextg (wanted_of (j := 2) (t := 20) (b := true) rfl rfl f20) hsz32 hde32 22 rfl (by decide) fun K hK => ?_
        go_simp
        refine hK _ _ fun a33 hsz33 hde33 f22 hk => ?_
        clear hK K
        replace f0 := (hk 0 (by decide)).trans f0
        replace f8 := (hk 8 (by decide)).trans f8
        replace f9 := (hk 9 (by decide)).trans f9
        replace f10 := (hk 10 (by decide)).trans f10
        replace f3 := (hk 3 (by decide)).trans f3
        replace f4 := (hk 4 (by decide)).trans f4
        replace f20 := (hk 20 (by decide)).trans f20
        replace f21 := (hk 21 (by decide)).trans f21
        replace f22 : a33.tmps[22]?.getD undef = .slice (some ⟨b, off, none⟩) n c := f22
        clear hk hsz32 hde32
        refine wpList_nextg (wanted_of (j := 2) (t := 20) (b := true) rfl rfl f20) hsz33 hde33 23 rfl (by decide) fun K hK => ?_
        go_simp
        refine hK _ _ fun a34 hsz34 hde34 f23 hk => ?_
        clear hK K
        replace f0 := (hk 0 (by decide)).trans f0
        replace f8 := (hk 8 (by decide)).trans f8
        replace f9 := (hk 9 (by decide)).trans f9
        replace f10 := (hk 10 (by decide)).trans f10
        replace f3 := (hk 3 (by decide)).trans f3
        replace f4 := (hk 4 (by decide)).trans f4
        replace f20 := (hk 20 (by decide)).trans f20
        replace f21 := (hk 21 (by decide)).trans f21
        replace f22 := (hk 22 (by decide)).trans f22
        replace f23 : a34.tmps[23]?.getD undef = .int .i64 ((i : Nat) : Int) := f23
        clear hk hsz33 hde33
        refine wpList_nextg (wanted_of (j := 2) (t := 20) (b := true) rfl rfl f20) hsz34 hde34 24 rfl (by decide) fun K hK => ?_
        have h7 := Hji.out
        go_simp
        refine hK _ _ fun a35 hsz35 hde35 f24 hk => ?_
        clear hK K
        replace f0 := (hk 0 (by decide)).trans f0
        replace f8 := (hk 8 (by decide)).trans f8
        replace f9 := (hk 9 (by decide)).trans f9
        replace f10 := (hk 10 (by decide)).trans f10
        replace f3 := (hk 3 (by decide)).trans f3
        replace f4 := (hk 4 (by decide)).trans f4
        replace f20 := (hk 20 (by decide)).trans f20
        replace f21 := (hk 21 (by decide)).trans f21
        replace f22 := (hk 22 (by decide)).trans f22
        clear hk hsz34 hde34 f23
        replace f24 : a35.tmps[24]?.getD undef = .int .i64 ((j : Nat) : Int) := f24.trans (by first | rfl | (rw [h7]; done) | (congr 1; done) | (congr 1; omega) | (congr 1; rw [IntKind.wrap_i64] <;> omega))
        clear h7
        refine wpList_nextg (wanted_of (j := 2) (t := 20) (b := true) rfl rfl f20) hsz35 hde35 25 rfl (by decide) fun K hK => ?_
        go_simp
        refine hK _ _ fun a36 hsz36 hde36 f25 hk => ?_
        clear hK K
        replace f0 := (hk 0 (by decide)).trans f0
        replace f8 := (hk 8 (by decide)).trans f8
        replace f9 := (hk 9 (by decide)).trans f9
        replace f10 := (hk 10 (by decide)).trans f10
        replace f3 := (hk 3 (by decide)).trans f3
        replace f4 := (hk 4 (by decide)).trans f4
        replace f20 := (hk 20 (by decide)).trans f20
        replace f21 := (hk 21 (by decide)).trans f21
        replace f25 : a36.tmps[25]?.getD undef = .pointer (some ⟨b, off + j, none⟩) := f25
        clear hk hsz35 hde35 f22 f24
        refine wpList_nextg (wanted_of (j := 2) (t := 20) (b := true) rfl rfl f20) hsz36 hde36 26 rfl (by decide) fun K hK => ?_
        have c8 := Hcz.out _ Hb1.out
        go_simp
        refine hK _ _ fun a37 hsz37 hde37 f26 hk => ?_
        clear hK K
        replace f0 := (hk 0 (by decide)).trans f0
        replace f8 := (hk 8 (by decide)).trans f8
        replace f9 := (hk 9 (by decide)).trans f9
        replace f10 := (hk 10 (by decide)).trans f10
        replace f3 := (hk 3 (by decide)).trans f3
        replace f4 := (hk 4 (by decide)).trans f4
        replace f20 := (hk 20 (by decide)).trans f20
        replace f21 := (hk 21 (by decide)).trans f21
        replace f26 : a37.tmps[26]?.getD undef = .string ⟨y.toArray⟩ := f26
        clear hk hsz36 hde36 f25
        clear c8
        refine wpList_nextg (wanted_of (j := 2) (t := 20) (b := true) rfl rfl f20) hsz37 hde37 27 rfl (by decide) fun K hK => ?_
        go_simp
        refine hK _ _ fun a38 hsz38 hde38 f27 hk => ?_
        clear hK K
        replace f0 := (hk 0 (by decide)).trans f0
        replace f8 := (hk 8 (by decide)).trans f8
        replace f9 := (hk 9 (by decide)).trans f9
        replace f10 := (hk 10 (by decide)).trans f10
        replace f3 := (hk 3 (by decide)).trans f3
        replace f4 := (hk 4 (by decide)).trans f4
        replace f20 := (hk 20 (by decide)).trans f20
        clear hk hsz37 hde37 f21 f26
        replace f27 : a38.tmps[27]?.getD undef = .bool true := f27.trans (by rw [leq_val, ← Hd.out])
        refine wpList_next rfl hsz38 hde38 28 rfl (by decide) fun K hK => ?_
        go_simp
        refine hK _ _ fun a39 hsz39 hde39 f28 hk => ?_
        clear hK K
        replace f0 := (hk 0 (by decide)).trans f0
        replace f8 := (hk 8 (by decide)).trans f8
        replace f9 := (hk 9 (by decide)).trans f9
        replace f10 := (hk 10 (by decide)).trans f10
        replace f3 := (hk 3 (by decide)).trans f3
        replace f4 := (hk 4 (by decide)).trans f4
        replace f28 : a39.tmps[28]?.getD undef = .bool true := f28
        clear hk hsz38 hde38 f20 f27
        refine wpList_next rfl hsz39 hde39 29 rfl (by decide) fun K hK => ?_
        go_simp
        refine hK _ _ fun a40 hsz40 hde40 f29 hk => ?_
        clear hK K
        replace f0 := (hk 0 (by decide)).trans f0
        replace f8 := (hk 8 (by decide)).trans f8
        replace f9 := (hk 9 (by decide)).trans f9
        replace f10 := (hk 10 (by decide)).trans f10
        replace f3 := (hk 3 (by decide)).trans f3
        replace f4 := (hk 4 (by decide)).trans f4
        replace f29 : a40.tmps[29]?.getD undef = .bool true := f29
        clear hk hsz39 hde39 f28
        refine wpList_leave (not_wanted (j := 11) (t := 29) (b := false) rfl rfl (.inr f29)) hsz40 hde40 30 rfl (by decide) fun a41 hsz41 hde41 f30 hk => ?_
        replace f0 := (hk 0 (by decide)).trans f0
        replace f8 := (hk 8 (by decide)).trans f8
        replace f9 := (hk 9 (by decide)).trans f9
        replace f10 := (hk 10 (by decide)).trans f10
        replace f3 := (hk 3 (by decide)).trans f3
        replace f4 := (hk 4 (by decide)).trans f4
        replace f29 := (hk 29 (by decide)).trans f29
        clear hk hsz40 hde40
        refine wpList_leave (not_wanted (j := 11) (t := 29) (b := false) rfl rfl (.inr f29)) hsz41 hde41 31 rfl (by decide) fun a42 hsz42 hde42 f31 hk => ?_
        replace f0 := (hk 0 (by decide)).trans f0
        replace f8 := (hk 8 (by decide)).trans f8
        replace f9 := (hk 9 (by decide)).trans f9
        replace f10 := (hk 10 (by decide)).trans f10
        replace f3 := (hk 3 (by decide)).trans f3
        replace f4 := (hk 4 (by decide)).trans f4
        replace f29 := (hk 29 (by decide)).trans f29
        replace f30 := (hk 30 (by decide)).trans f30
        clear hk hsz41 hde41
        refine wpList_leave (not_wanted (j := 11) (t := 29) (b := false) rfl rfl (.inr f29)) hsz42 hde42 32 rfl (by decide) fun a43 hsz43 hde43 f32 hk => ?_
        replace f0 := (hk 0 (by decide)).trans f0
        replace f8 := (hk 8 (by decide)).trans f8
        replace f9 := (hk 9 (by decide)).trans f9
        replace f10 := (hk 10 (by decide)).trans f10
        replace f3 := (hk 3 (by decide)).trans f3
        replace f4 := (hk 4 (by decide)).trans f4
        replace f29 := (hk 29 (by decide)).trans f29
        clear hk hsz42 hde42 f30 f31
        refine wpList_next rfl hsz43 hde43 33 rfl (by decide) fun K hK => ?_
        go_simp
        refine hK _ _ fun a44 hsz44 hde44 f33 hk => ?_
        clear hK K
        replace f0 := (hk 0 (by decide)).trans f0
        replace f8 := (hk 8 (by decide)).trans f8
        replace f9 := (hk 9 (by decide)).trans f9
        replace f10 := (hk 10 (by decide)).trans f10
        replace f3 := (hk 3 (by decide)).trans f3
        replace f4 := (hk 4 (by decide)).trans f4
        replace f33 : a44.tmps[33]?.getD undef = .bool true := f33
        clear hk hsz43 hde43 f29 f32
        refine wpList_nil ?_
        refine then_go ?_
        repeat with_reducible refine wp_seq ?_
        refine wp_cond_true (eval_at f33) ?_
        clear f33
        repeat with_reducible refine wp_seq ?_
        refine wp_region_lit ?_
        refine wpList_next rfl hsz44 hde44 2 rfl (by decide) fun K hK => ?_
        go_simp
        refine hK _ _ fun a45 hsz45 hde45 f2 hk => ?_
        clear hK K
        replace f0 := (hk 0 (by decide)).trans f0
        replace f8 := (hk 8 (by decide)).trans f8
        replace f9 := (hk 9 (by decide)).trans f9
        replace f10 := (hk 10 (by decide)).trans f10
        replace f3 := (hk 3 (by decide)).trans f3
        replace f4 := (hk 4 (by decide)).trans f4
        replace f2 : a45.tmps[2]?.getD undef = .int .i64 7 := f2
        clear hk hsz44 hde44
        refine wpList_nil ?_
        refine then_go ?_
        refine wp_ret ?_
        repeat first | with_reducible refine then_ret ?_ | with_reducible refine block_ret ?_
        refine ret_tmp Tryz.results9 hde45 f2 ?_
        exact ⟨by rw [chCheck_at H8.out hil Hno.out (by rw [Hat2.out, if_pos (by simp [H0.out])]; decide), Hat2.out, if_pos (by simp [H0.out])], Hb1.out⟩
      | false =>
        refine wp_region_lit ?_
        refine wpList_next rfl hsz28 hde28 18 rfl (by decide) fun K hK => ?_
        go_simp
        refine hK _ _ fun a29 hsz29 hde29 f18 hk => ?_
        clear hK K
        replace f0 := (hk 0 (by decide)).trans f0
        replace f8 := (hk 8 (by decide)).trans f8
        replace f9 := (hk 9 (by decide)).trans f9
        replace f10 := (hk 10 (by decide)).trans f10
        replace f3 := (hk 3 (by decide)).trans f3
        replace f4 := (hk 4 (by decide)).trans f4
        replace f18 : a29.tmps[18]?.getD undef = .int .i64 ((i : Nat) : Int) := f18
        clear hk hsz28 hde28
        refine wpList_next rfl hsz29 hde29 19 rfl (by decide) fun K hK => ?_
        go_simp
        refine hK _ _ fun a30 hsz30 hde30 f19 hk => ?_
        clear hK K
        replace f0 := (hk 0 (by decide)).trans f0
        replace f8 := (hk 8 (by decide)).trans f8
        replace f9 := (hk 9 (by decide)).trans f9
        replace f10 := (hk 10 (by decide)).trans f10
        replace f3 := (hk 3 (by decide)).trans f3
        replace f4 := (hk 4 (by decide)).trans f4
        clear hk hsz29 hde29 f18
        replace f19 : a30.tmps[19]?.getD undef = .bool true := f19.trans (by first | rfl | (congr 1; first | exact decide_eq_true (by omega) | exact decide_eq_false (by omega)) | (simp; omega))
        refine wpList_next rfl hsz30 hde30 20 rfl (by decide) fun K hK => ?_
        go_simp
        refine hK _ _ fun a31 hsz31 hde31 f20 hk => ?_
        clear hK K
        replace f0 := (hk 0 (by decide)).trans f0
        replace f8 := (hk 8 (by decide)).trans f8
        replace f9 := (hk 9 (by decide)).trans f9
        replace f10 := (hk 10 (by decide)).trans f10
        replace f3 := (hk 3 (by decide)).trans f3
        replace f4 := (hk 4 (by decide)).trans f4
        replace f20 : a31.tmps[20]?.getD undef = .bool true := f20
        clear hk hsz30 hde30 f19
        refine wpList_nextg (wanted_of (j := 2) (t := 20) (b := true) rfl rfl f20) hsz31 hde31 21 rfl (by decide) fun K hK => ?_
        go_simp
        refine hK _ _ fun a32 hsz32 hde32 f21 hk => ?_
        clear hK K
        replace f0 := (hk 0 (by decide)).trans f0
        replace f8 := (hk 8 (by decide)).trans f8
        replace f9 := (hk 9 (by decide)).trans f9
        replace f10 := (hk 10 (by decide)).trans f10
        replace f3 := (hk 3 (by decide)).trans f3
        replace f4 := (hk 4 (by decide)).trans f4
        replace f20 := (hk 20 (by decide)).trans f20
        replace f21 : a32.tmps[21]?.getD undef = .string ⟨tx.toArray⟩ := f21
        clear hk hsz31 hde31
        refine wpList_nextg (wanted_of (j := 2) (t := 20) (b := true) rfl rfl f20) hsz32 hde32 22 rfl (by decide) fun K hK => ?_
        go_simp
        refine hK _ _ fun a33 hsz33 hde33 f22 hk => ?_
        clear hK K
        replace f0 := (hk 0 (by decide)).trans f0
        replace f8 := (hk 8 (by decide)).trans f8
        replace f9 := (hk 9 (by decide)).trans f9
        replace f10 := (hk 10 (by decide)).trans f10
        replace f3 := (hk 3 (by decide)).trans f3
        replace f4 := (hk 4 (by decide)).trans f4
        replace f20 := (hk 20 (by decide)).trans f20
        replace f21 := (hk 21 (by decide)).trans f21
        replace f22 : a33.tmps[22]?.getD undef = .slice (some ⟨b, off, none⟩) n c := f22
        clear hk hsz32 hde32
        refine wpList_nextg (wanted_of (j := 2) (t := 20) (b := true) rfl rfl f20) hsz33 hde33 23 rfl (by decide) fun K hK => ?_
        go_simp
        refine hK _ _ fun a34 hsz34 hde34 f23 hk => ?_
        clear hK K
        replace f0 := (hk 0 (by decide)).trans f0
        replace f8 := (hk 8 (by decide)).trans f8
        replace f9 := (hk 9 (by decide)).trans f9
        replace f10 := (hk 10 (by decide)).trans f10
        replace f3 := (hk 3 (by decide)).trans f3
        replace f4 := (hk 4 (by decide)).trans f4
        replace f20 := (hk 20 (by decide)).trans f20
        replace f21 := (hk 21 (by decide)).trans f21
        replace f22 := (hk 22 (by decide)).trans f22
        replace f23 : a34.tmps[23]?.getD undef = .int .i64 ((i : Nat) : Int) := f23
        clear hk hsz33 hde33
        refine wpList_nextg (wanted_of (j := 2) (t := 20) (b := true) rfl rfl f20) hsz34 hde34 24 rfl (by decide) fun K hK => ?_
        have h7 := Hji.out
        go_simp
        refine hK _ _ fun a35 hsz35 hde35 f24 hk => ?_
        clear hK K
        replace f0 := (hk 0 (by decide)).trans f0
        replace f8 := (hk 8 (by decide)).trans f8
        replace f9 := (hk 9 (by decide)).trans f9
        replace f10 := (hk 10 (by decide)).trans f10
        replace f3 := (hk 3 (by decide)).trans f3
        replace f4 := (hk 4 (by decide)).trans f4
        replace f20 := (hk 20 (by decide)).trans f20
        replace f21 := (hk 21 (by decide)).trans f21
        replace f22 := (hk 22 (by decide)).trans f22
        clear hk hsz34 hde34 f23
        replace f24 : a35.tmps[24]?.getD undef = .int .i64 ((j : Nat) : Int) := f24.trans (by first | rfl | (rw [h7]; done) | (congr 1; done) | (congr 1; omega) | (congr 1; rw [IntKind.wrap_i64] <;> omega))
        clear h7
        refine wpList_nextg (wanted_of (j := 2) (t := 20) (b := true) rfl rfl f20) hsz35 hde35 25 rfl (by decide) fun K hK => ?_
        go_simp
        refine hK _ _ fun a36 hsz36 hde36 f25 hk => ?_
        clear hK K
        replace f0 := (hk 0 (by decide)).trans f0
        replace f8 := (hk 8 (by decide)).trans f8
        replace f9 := (hk 9 (by decide)).trans f9
        replace f10 := (hk 10 (by decide)).trans f10
        replace f3 := (hk 3 (by decide)).trans f3
        replace f4 := (hk 4 (by decide)).trans f4
        replace f20 := (hk 20 (by decide)).trans f20
        replace f21 := (hk 21 (by decide)).trans f21
        replace f25 : a36.tmps[25]?.getD undef = .pointer (some ⟨b, off + j, none⟩) := f25
        clear hk hsz35 hde35 f22 f24
        refine wpList_nextg (wanted_of (j := 2) (t := 20) (b := true) rfl rfl f20) hsz36 hde36 26 rfl (by decide) fun K hK => ?_
        have c8 := Hcz.out _ Hb1.out
        go_simp
        refine hK _ _ fun a37 hsz37 hde37 f26 hk => ?_
        clear hK K
        replace f0 := (hk 0 (by decide)).trans f0
        replace f8 := (hk 8 (by decide)).trans f8
        replace f9 := (hk 9 (by decide)).trans f9
        replace f10 := (hk 10 (by decide)).trans f10
        replace f3 := (hk 3 (by decide)).trans f3
        replace f4 := (hk 4 (by decide)).trans f4
        replace f20 := (hk 20 (by decide)).trans f20
        replace f21 := (hk 21 (by decide)).trans f21
        replace f26 : a37.tmps[26]?.getD undef = .string ⟨y.toArray⟩ := f26
        clear hk hsz36 hde36 f25
        clear c8
        refine wpList_nextg (wanted_of (j := 2) (t := 20) (b := true) rfl rfl f20) hsz37 hde37 27 rfl (by decide) fun K hK => ?_
        go_simp
        refine hK _ _ fun a38 hsz38 hde38 f27 hk => ?_
        clear hK K
        replace f0 := (hk 0 (by decide)).trans f0
        replace f8 := (hk 8 (by decide)).trans f8
        replace f9 := (hk 9 (by decide)).trans f9
        replace f10 := (hk 10 (by decide)).trans f10
        replace f3 := (hk 3 (by decide)).trans f3
        replace f4 := (hk 4 (by decide)).trans f4
        replace f20 := (hk 20 (by decide)).trans f20
        clear hk hsz37 hde37 f21 f26
        replace f27 : a38.tmps[27]?.getD undef = .bool false := f27.trans (by rw [leq_val, ← Hd.out])
        refine wpList_next rfl hsz38 hde38 28 rfl (by decide) fun K hK => ?_
        go_simp
        refine hK _ _ fun a39 hsz39 hde39 f28 hk => ?_
        clear hK K
        replace f0 := (hk 0 (by decide)).trans f0
        replace f8 := (hk 8 (by decide)).trans f8
        replace f9 := (hk 9 (by decide)).trans f9
        replace f10 := (hk 10 (by decide)).trans f10
        replace f3 := (hk 3 (by decide)).trans f3
        replace f4 := (hk 4 (by decide)).trans f4
        replace f28 : a39.tmps[28]?.getD undef = .bool false := f28
        clear hk hsz38 hde38 f20 f27
        refine wpList_next rfl hsz39 hde39 29 rfl (by decide) fun K hK => ?_
        go_simp
        refine hK _ _ fun a40 hsz40 hde40 f29 hk => ?_
        clear hK K
        replace f0 := (hk 0 (by decide)).trans f0
        replace f8 := (hk 8 (by decide)).trans f8
        replace f9 := (hk 9 (by decide)).trans f9
        replace f10 := (hk 10 (by decide)).trans f10
        replace f3 := (hk 3 (by decide)).trans f3
        replace f4 := (hk 4 (by decide)).trans f4
        replace f29 : a40.tmps[29]?.getD undef = .bool false := f29
        clear hk hsz39 hde39 f28
        refine wpList_nextg (wanted_of (j := 11) (t := 29) (b := false) rfl rfl f29) hsz40 hde40 30 rfl (by decide) fun K hK => ?_
        go_simp
        refine hK _ _ fun a41 hsz41 hde41 f30 hk => ?_
        clear hK K
        replace f0 := (hk 0 (by decide)).trans f0
        replace f8 := (hk 8 (by decide)).trans f8
        replace f9 := (hk 9 (by decide)).trans f9
        replace f10 := (hk 10 (by decide)).trans f10
        replace f3 := (hk 3 (by decide)).trans f3
        replace f4 := (hk 4 (by decide)).trans f4
        replace f29 := (hk 29 (by decide)).trans f29
        replace f30 : a41.tmps[30]?.getD undef = .string ⟨tx.toArray⟩ := f30
        clear hk hsz40 hde40
        refine wpList_nextg (wanted_of (j := 11) (t := 29) (b := false) rfl rfl f29) hsz41 hde41 31 rfl (by decide) fun K hK => ?_
        go_simp
        refine hK _ _ fun a42 hsz42 hde42 f31 hk => ?_
        clear hK K
        replace f0 := (hk 0 (by decide)).trans f0
        replace f8 := (hk 8 (by decide)).trans f8
        replace f9 := (hk 9 (by decide)).trans f9
        replace f10 := (hk 10 (by decide)).trans f10
        replace f3 := (hk 3 (by decide)).trans f3
        replace f4 := (hk 4 (by decide)).trans f4
        replace f29 := (hk 29 (by decide)).trans f29
        replace f30 := (hk 30 (by decide)).trans f30
        replace f31 : a42.tmps[31]?.getD undef = .slice (some ⟨b, off, none⟩) n c := f31
        clear hk hsz41 hde41
        refine wpList_nextg (wanted_of (j := 11) (t := 29) (b := false) rfl rfl f29) hsz42 hde42 32 rfl (by decide) fun K hK => ?_
        go_simp
        refine (Hux.out _ Hb1.out).mono ?_
        rintro e2 w2 ⟨rfl, hb2⟩
        go_simp
        refine hK _ _ fun a43 hsz43 hde43 f32 hk => ?_
        clear hK K
        replace f0 := (hk 0 (by decide)).trans f0
        replace f8 := (hk 8 (by decide)).trans f8
        replace f9 := (hk 9 (by decide)).trans f9
        replace f10 := (hk 10 (by decide)).trans f10
        replace f3 := (hk 3 (by decide)).trans f3
        replace f4 := (hk 4 (by decide)).trans f4
        replace f29 := (hk 29 (by decide)).trans f29
        replace f32 : a43.tmps[32]?.getD undef = .bool u := f32
        clear hk hsz42 hde42 f30 f31
        have Hb2 := Lib.hid (below_call Hb1.out hb2)
        clear hb2
        refine wpList_next rfl hsz43 hde43 33 rfl (by decide) fun K hK => ?_
        go_simp
        refine hK _ _ fun a44 hsz44 hde44 f33 hk => ?_
        clear hK K
        replace f0 := (hk 0 (by decide)).trans f0
        replace f8 := (hk 8 (by decide)).trans f8
        replace f9 := (hk 9 (by decide)).trans f9
        replace f10 := (hk 10 (by decide)).trans f10
        replace f3 := (hk 3 (by decide)).trans f3
        replace f4 := (hk 4 (by decide)).trans f4
        replace f33 : a44.tmps[33]?.getD undef = .bool u := f33
        clear hk hsz43 hde43 f29 f32
        refine wpList_nil ?_
        refine then_go ?_
        repeat with_reducible refine wp_seq ?_
        cases u with
        | true =>
          refine wp_cond_true (eval_at f33) ?_
          clear f33
          repeat with_reducible refine wp_seq ?_
          refine wp_region_lit ?_
          refine wpList_next rfl hsz44 hde44 2 rfl (by decide) fun K hK => ?_
          go_simp
          refine hK _ _ fun a45 hsz45 hde45 f2 hk => ?_
          clear hK K
          replace f0 := (hk 0 (by decide)).trans f0
          replace f8 := (hk 8 (by decide)).trans f8
          replace f9 := (hk 9 (by decide)).trans f9
          replace f10 := (hk 10 (by decide)).trans f10
          replace f3 := (hk 3 (by decide)).trans f3
          replace f4 := (hk 4 (by decide)).trans f4
          replace f2 : a45.tmps[2]?.getD undef = .int .i64 7 := f2
          clear hk hsz44 hde44
          refine wpList_nil ?_
          refine then_go ?_
          refine wp_ret ?_
          repeat first | with_reducible refine then_ret ?_ | with_reducible refine block_ret ?_
          refine ret_tmp Tryz.results9 hde45 f2 ?_
          exact ⟨by rw [chCheck_at H8.out hil Hno.out (by rw [Hat2.out, if_pos (by simp [H0.out])]; decide), Hat2.out, if_pos (by simp [H0.out])], Hb2.out⟩
        | false =>
          refine wp_cond_false (eval_at f33) ?_
          refine wp_skip ?_
          repeat first | with_reducible refine block_go ?_ | with_reducible refine then_go ?_
          clear f33 f3 f4
          repeat with_reducible refine wp_seq ?_
          refine wp_region_lit ?_
          refine wpList_next rfl hsz44 hde44 34 rfl (by decide) fun K hK => ?_
          go_simp
          refine hK _ _ fun a45 hsz45 hde45 f34 hk => ?_
          clear hK K
          replace f0 := (hk 0 (by decide)).trans f0
          replace f8 := (hk 8 (by decide)).trans f8
          replace f9 := (hk 9 (by decide)).trans f9
          replace f10 := (hk 10 (by decide)).trans f10
          clear hk hsz44 hde44
          replace f34 : a45.tmps[34]?.getD undef = .int .i64 (((i + 1 : Nat) : Int)) := f34.trans (by first | rfl | (congr 1; done) | (congr 1; omega) | (congr 1; rw [IntKind.wrap_i64] <;> omega))
          refine wpList_next rfl hsz45 hde45 10 rfl (by decide) fun K hK => ?_
          go_simp
          refine hK _ _ fun a46 hsz46 hde46 f10 hk => ?_
          clear hK K
          replace f0 := (hk 0 (by decide)).trans f0
          replace f8 := (hk 8 (by decide)).trans f8
          replace f9 := (hk 9 (by decide)).trans f9
          replace f10 : a46.tmps[10]?.getD undef = .int .i64 ((i + 1 : Nat) : Int) := f10
          clear hk hsz45 hde45 f34
          refine wpList_nil ?_
          refine then_go ?_
          exact ⟨n - (i + 1), by rw [Hn2.out]; omega, i + 1, hsz46, hde46, f0, f8, f9, f10, Lib.hid (by omega), Lib.hid (chAt_step Hno.out (by rw [Hat2.out, if_neg (by simp [H0.out])])), Lib.hid Hb2.out, rfl⟩
  refine wp_region_lit ?_
  refine wpList_next rfl hsz19 hde19 11 rfl (by decide) fun K hK => ?_
  go_simp
  refine hK _ _ fun a20 hsz20 hde20 f11 hk => ?_
  clear hK K
  replace f0 := (hk 0 (by decide)).trans f0
  replace f8 := (hk 8 (by decide)).trans f8
  replace f9 := (hk 9 (by decide)).trans f9
  replace f10 := (hk 10 (by decide)).trans f10
  clear hk hsz19 hde19
  replace f11 : a20.tmps[11]?.getD undef = .bool false := f11.trans (by first | rfl | (congr 1; first | exact decide_eq_true (by omega) | exact decide_eq_false (by omega)) | (simp; omega))
  refine wpList_nil ?_
  refine then_go ?_
  repeat with_reducible refine wp_seq ?_
  refine wp_cond_false (eval_at f11) ?_
  refine wp_exit ?_
  repeat with_reducible refine then_exit ?_
  refine block_exit ?_
  repeat first | with_reducible refine block_go ?_ | with_reducible refine then_go ?_
  clear f11 f0 f8 f9 f10
  repeat with_reducible refine wp_seq ?_
  refine wp_region_lit ?_
  refine wpList_next rfl hsz20 hde20 2 rfl (by decide) fun K hK => ?_
  go_simp
  refine hK _ _ fun a21 hsz21 hde21 f2 hk => ?_
  clear hK K
  replace f2 : a21.tmps[2]?.getD undef = .int .i64 0 := f2
  clear hk hsz20 hde20
  refine wpList_nil ?_
  refine then_go ?_
  refine wp_ret ?_
  repeat first | with_reducible refine then_ret ?_ | with_reducible refine block_ret ?_
  refine ret_tmp Tryz.results9 hde21 f2 ?_
  exact ⟨by rw [chCheck_none H8.out (fun k hk => Hno.out k (by have := Hi.out; have := Hn.out; omega))], Hbw.out⟩
end Go.Proofs.YtgebodibamgipaaGreatDoor
