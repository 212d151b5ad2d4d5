/-
  slices.stableCmpFunc and slices.SortStableFunc of entries by their names.
-/
import Derived.Test.YtcpjgohclncbkaaDoorEnSym
namespace Go.Proofs.YtcpjgohclncbkaaDoor
open Go.RowKit
set_option maxRecDepth 100000

/-- Sorted blocks of that length, of which the last may be shorter: those of the first list, each with what stood there in the second. -/
inductive SB (k : Nat) : List Ent → List Ent → Prop
  | nil : SB k [] []
  | last (C D : List Ent) (h1 : C.Perm D) (h2 : C.Pairwise ltE) (h3 : C.length ≤ k) : SB k C D
  | cons (C D S T : List Ent) (h1 : C.Perm D) (h2 : C.Pairwise ltE) (h3 : C.length = k) (h : SB k S T) : SB k (C ++ S) (D ++ T)
inductive FB (k : Nat) : List Ent → List Ent → Prop
  | nil : FB k [] []
  | snoc (C D S T : List Ent) (h : FB k S T) (h1 : C.Perm D) (h2 : C.Pairwise ltE) (h3 : C.length = k) : FB k (S ++ C) (T ++ D)
theorem SB.perm {k : Nat} {S T : List Ent} (h : SB k S T) : S.Perm T := by
  induction h with
  | nil => exact List.Perm.refl _
  | last C D h1 h2 h3 => exact h1
  | cons C D S T h1 h2 h3 h ih => exact h1.append ih
theorem FB.perm {k : Nat} {S T : List Ent} (h : FB k S T) : S.Perm T := by
  induction h with
  | nil => exact List.Perm.refl _
  | snoc C D S T h h1 h2 h3 ih => exact ih.append h1
theorem FB.sb {k : Nat} {S T : List Ent} (h : FB k S T) : ∀ {R U : List Ent}, SB k R U → SB k (S ++ R) (T ++ U) := by
  induction h with
  | nil => intro R U h; exact h
  | snoc C D S T h h1 h2 h3 ih =>
    intro R U hr
    rw [List.append_assoc, List.append_assoc]
    exact ih (.cons C D R U h1 h2 h3 hr)
theorem SB.two {k : Nat} {R U : List Ent} (h : SB k R U) (h0 : 0 < k) (hl : 2 * k ≤ R.length) : ∃ C1 C2 D1 D2 R2 U2, R = C1 ++ (C2 ++ R2) ∧ U = D1 ++ (D2 ++ U2) ∧ C1.Perm D1 ∧ C2.Perm D2 ∧ C1.Pairwise ltE ∧ C2.Pairwise ltE ∧ C1.length = k ∧ C2.length = k ∧ SB k R2 U2 := by
  cases h with
  | nil => simp at hl; omega
  | last C D h1 h2 h3 => omega
  | cons C D S T h1 h2 h3 h =>
    rw [List.length_append] at hl
    cases h with
    | nil => simp at hl; omega
    | last _ _ g1 g2 g3 => exact ⟨C, S, D, T, [], [], by simp, by simp, h1, g1, h2, g2, h3, by omega, .nil⟩
    | cons C2 D2 S2 T2 g1 g2 g3 g => exact ⟨C, C2, D, D2, S2, T2, rfl, rfl, h1, g1, h2, g2, h3, g3, g⟩
theorem SB.part {k : Nat} {R U : List Ent} (h : SB k R U) (hl : k < R.length) (hl2 : R.length < 2 * k) : ∃ C1 C2 D1 D2, R = C1 ++ C2 ∧ U = D1 ++ D2 ∧ C1.Perm D1 ∧ C2.Perm D2 ∧ C1.Pairwise ltE ∧ C2.Pairwise ltE ∧ C1.length = k ∧ 0 < C2.length := by
  cases h with
  | nil => simp at hl
  | last C D h1 h2 h3 => omega
  | cons C D S T h1 h2 h3 h =>
    rw [List.length_append] at hl hl2
    cases h with
    | nil => simp at hl; omega
    | last _ _ g1 g2 g3 => exact ⟨C, _, D, _, rfl, rfl, h1, g1, h2, g2, h3, by omega⟩
    | cons C2 D2 S2 T2 g1 g2 g3 g => rw [List.length_append] at hl2; omega
theorem SB.one {k : Nat} {R U : List Ent} (h : SB k R U) (hl : R.length ≤ k) : R.Perm U ∧ R.Pairwise ltE := by
  cases h with
  | nil => exact ⟨List.Perm.refl _, List.Pairwise.nil⟩
  | last C D h1 h2 h3 => exact ⟨h1, h2⟩
  | cons C D S T h1 h2 h3 h =>
    rw [List.length_append] at hl
    obtain rfl : S = [] := List.eq_nil_of_length_eq_zero (by omega)
    have hp := h.perm
    rw [List.nil_perm] at hp
    subst hp
    rw [List.append_nil, List.append_nil]
    exact ⟨h1, h2⟩
theorem prec_parts {T D1 D2 U : List Ent} (h : (T ++ (D1 ++ (D2 ++ U))).Pairwise prec) {C1 C2 : List Ent} (p1 : C1.Perm D1) (p2 : C2.Perm D2) : ∀ x ∈ C1, ∀ y ∈ C2, prec x y := by
  intro x hx y hy
  have h1 := (List.pairwise_append.1 (List.pairwise_append.1 h).2.1).2.2
  exact h1 x (p1.mem_iff.1 hx) y (by simp [p2.mem_iff.1 hy])
/-- What a stable sort comes to. -/
def StPost (base : Nat) (v : Value) (L : List Ent) (w : World) (e : Ending) (w' : World) : Prop := e = .returned (.tuple #[]) ∧ (∃ M, OwnE w' base v M ∧ M.Perm L ∧ M.Pairwise ltE) ∧ Below base w w'
def T1Inv (w : World) (base : Nat) (v : Value) (L : List Ent) (n : Nat) (k9 : Nat) (a : Act) (x : World) : Prop :=
  ∃ S T U, Hid (a.tmps.size = 63) ∧ Hid (a.defers = []) ∧ a.tmps[0]?.getD undef = v ∧ a.tmps[1]?.getD undef = .int .i64 ((n : Nat) : Int) ∧ a.tmps[2]?.getD undef = .func (.func 49) #[] #[] ∧ a.tmps[6]?.getD undef = .int .i64 20 ∧ a.tmps[7]?.getD undef = .int .i64 ((S.length : Nat) : Int) ∧ a.tmps[8]?.getD undef = .int .i64 ((S.length + 20 : Nat) : Int) ∧ Hid (L = T ++ U) ∧ Hid (FB 20 S T) ∧ Hid (OwnE x base v (S ++ U)) ∧ Hid (Below base w x) ∧ k9 = U.length
def T2Inv (w : World) (base : Nat) (v : Value) (L : List Ent) (n : Nat) (k9 : Nat) (a : Act) (x : World) : Prop :=
  ∃ (bs : Nat) (M : List Ent), Hid (a.tmps.size = 63) ∧ Hid (a.defers = []) ∧ a.tmps[0]?.getD undef = v ∧ a.tmps[1]?.getD undef = .int .i64 ((n : Nat) : Int) ∧ a.tmps[2]?.getD undef = .func (.func 49) #[] #[] ∧ a.tmps[6]?.getD undef = .int .i64 ((bs : Nat) : Int) ∧ Hid (0 < bs ∧ bs ≤ 2000) ∧ Hid (SB bs M L) ∧ Hid (OwnE x base v M) ∧ Hid (Below base w x) ∧ k9 = n - bs
def T3Inv (w : World) (base : Nat) (v : Value) (L : List Ent) (n bs c2 : Nat) (k9 : Nat) (a : Act) (x : World) : Prop :=
  ∃ S T R U, Hid (a.tmps.size = 63) ∧ Hid (a.defers = []) ∧ a.tmps[0]?.getD undef = v ∧ a.tmps[1]?.getD undef = .int .i64 ((n : Nat) : Int) ∧ a.tmps[2]?.getD undef = .func (.func 49) #[] #[] ∧ a.tmps[6]?.getD undef = .int .i64 ((bs : Nat) : Int) ∧ a.tmps[7]?.getD undef = .int .i64 ((S.length : Nat) : Int) ∧ a.tmps[8]?.getD undef = .int .i64 ((S.length + c2 : Nat) : Int) ∧ Hid (L = T ++ U) ∧ Hid (FB c2 S T) ∧ Hid (SB bs R U) ∧ Hid (OwnE x base v (S ++ R)) ∧ Hid (Below base w x) ∧ k9 = R.length

set_option maxHeartbeats 8000000 in
theorem stable_any (base : Nat) (v : Value) (L : List Ent) (w : World) (hown : OwnE w base v L) (hL : L.Pairwise prec) (hl : L.length ≤ 1000) (hb : base ≤ w.heap.size) (n : Nat) (hn : n = L.length) :
    Calls Tryd.prog 66 #[v, .int .i64 ((n : Nat) : Int), .func (.func 49) #[] #[]] w (StPost base v L w) := by
  have Hown0 := Lib.hid hown
  have HL := Lib.hid hL
  have Hb := Lib.hid hb
  have Hn := Lib.hid hn
  have hnl : n ≤ 1000 := by omega
  clear hown hb hn hl hL
  go_enter Tryd.func66, Tryd.ntmps66
  refine enter_abs (N := 63) rfl rfl fun a0 hsz0 hde0 hk => ?_
  have f0 : a0.tmps[0]?.getD undef = v := hk 0
  have f1 : a0.tmps[1]?.getD undef = .int .i64 ((n : Nat) : Int) := hk 1
  have f2 : a0.tmps[2]?.getD undef = .func (.func 49) #[] #[] := hk 2
  clear hk
  repeat with_reducible refine wp_seq ?_
  refine wp_region_lit ?_
  refine wpList_next rfl hsz0 hde0 6 rfl (by decide) fun K hK => ?_
  go_simp
  refine hK _ _ fun a1 hsz1 hde1 f6 hk => ?_
  clear hK K
  replace f0 := (hk 0 (by decide)).trans f0
  replace f1 := (hk 1 (by decide)).trans f1
  replace f2 := (hk 2 (by decide)).trans f2
  replace f6 : a1.tmps[6]?.getD undef = .int .i64 20 := f6
  clear hk hsz0 hde0
  refine wpList_nil ?_
  refine then_go ?_
  repeat with_reducible refine wp_seq ?_
  refine wp_region_lit ?_
  refine wpList_next rfl hsz1 hde1 10 rfl (by decide) fun K hK => ?_
  go_simp
  refine hK _ _ fun a2 hsz2 hde2 f10 hk => ?_
  clear hK K
  replace f0 := (hk 0 (by decide)).trans f0
  replace f1 := (hk 1 (by decide)).trans f1
  replace f2 := (hk 2 (by decide)).trans f2
  replace f6 := (hk 6 (by decide)).trans f6
  replace f10 : a2.tmps[10]?.getD undef = .int .i64 20 := f10
  clear hk hsz1 hde1
  refine wpList_next rfl hsz2 hde2 7 rfl (by decide) fun K hK => ?_
  go_simp
  refine hK _ _ fun a3 hsz3 hde3 f7 hk => ?_
  clear hK K
  replace f0 := (hk 0 (by decide)).trans f0
  replace f1 := (hk 1 (by decide)).trans f1
  replace f2 := (hk 2 (by decide)).trans f2
  replace f6 := (hk 6 (by decide)).trans f6
  replace f10 := (hk 10 (by decide)).trans f10
  replace f7 : a3.tmps[7]?.getD undef = .int .i64 (((([] : List Ent).length) : Nat) : Int) := f7
  clear hk hsz2 hde2
  refine wpList_next rfl hsz3 hde3 8 rfl (by decide) fun K hK => ?_
  go_simp
  refine hK _ _ fun a4 hsz4 hde4 f8 hk => ?_
  clear hK K
  replace f0 := (hk 0 (by decide)).trans f0
  replace f1 := (hk 1 (by decide)).trans f1
  replace f2 := (hk 2 (by decide)).trans f2
  replace f6 := (hk 6 (by decide)).trans f6
  replace f7 := (hk 7 (by decide)).trans f7
  replace f8 : a4.tmps[8]?.getD undef = .int .i64 (((([] : List Ent).length) + 20 : Nat) : Int) := f8
  clear hk hsz3 hde3 f10
  refine wpList_nil ?_
  refine then_go ?_
  repeat with_reducible refine wp_seq ?_
  refine wp_block ?_
  refine wp_loop_ghost (T1Inv w base v L n) L.length ?_ ?_
  · exact ⟨[], [], L, hsz4, hde4, f0, f1, f2, f6, f7, f8, Lib.hid rfl, Lib.hid .nil, Hown0, Lib.hid (Below.refl _ _), rfl⟩
  clear Hown0
  clear hsz4 hde4 f0 f1 f2 f6 f7 f8
  intro n2 a19 wx hI
  obtain ⟨S, T, U, hsz19, hde19, f0, f1, f2, f6, f7, f8, HLe, HF, Hown, Hbw, hn2⟩ := hI
  have Hn2 := Lib.hid hn2
  clear hn2
  obtain ⟨p, hp⟩ : ∃ p, p = S.length := ⟨_, rfl⟩
  obtain ⟨b, hbe⟩ : ∃ b, b = p + 20 := ⟨_, rfl⟩
  rw [show ((S.length + 20 : Nat) : Int) = ((b : Nat) : Int) by rw [hbe, hp]] at f8
  rw [← hp] at f7
  have Hp := Lib.hid hp
  have Hbe := Lib.hid hbe
  have hnu : n = p + U.length := by have h1 := HF.out.perm.length_eq; rw [Hn.out, HLe.out, List.length_append, hp]; omega
  have hpb : p ≤ 1000 ∧ b ≤ 4000 := by omega
  have Hnu := Lib.hid hnu
  clear hp hbe hnu
  repeat with_reducible refine wp_seq ?_
  have Hsz := Lib.hid (Nat.le_trans Hb.out Hbw.out.size)
  by_cases hlt : b ≤ n
  · skip
    refine wp_region_lit ?_
    refine wpList_next rfl hsz19 hde19 11 rfl (by decide) fun K hK => ?_
    go_simp
    refine hK _ _ fun a20 hsz20 hde20 f11 hk => ?_
    clear hK K
    replace f0 := (hk 0 (by decide)).trans f0
    replace f1 := (hk 1 (by decide)).trans f1
    replace f2 := (hk 2 (by decide)).trans f2
    replace f6 := (hk 6 (by decide)).trans f6
    replace f7 := (hk 7 (by decide)).trans f7
    replace f8 := (hk 8 (by decide)).trans f8
    replace f11 : a20.tmps[11]?.getD undef = .int .i64 ((b : Nat) : Int) := f11
    clear hk hsz19 hde19
    refine wpList_next rfl hsz20 hde20 12 rfl (by decide) fun K hK => ?_
    go_simp
    refine hK _ _ fun a21 hsz21 hde21 f12 hk => ?_
    clear hK K
    replace f0 := (hk 0 (by decide)).trans f0
    replace f1 := (hk 1 (by decide)).trans f1
    replace f2 := (hk 2 (by decide)).trans f2
    replace f6 := (hk 6 (by decide)).trans f6
    replace f7 := (hk 7 (by decide)).trans f7
    replace f8 := (hk 8 (by decide)).trans f8
    replace f11 := (hk 11 (by decide)).trans f11
    replace f12 : a21.tmps[12]?.getD undef = .int .i64 ((n : Nat) : Int) := f12
    clear hk hsz20 hde20
    refine wpList_next rfl hsz21 hde21 13 rfl (by decide) fun K hK => ?_
    go_simp
    refine hK _ _ fun a22 hsz22 hde22 f13 hk => ?_
    clear hK K
    replace f0 := (hk 0 (by decide)).trans f0
    replace f1 := (hk 1 (by decide)).trans f1
    replace f2 := (hk 2 (by decide)).trans f2
    replace f6 := (hk 6 (by decide)).trans f6
    replace f7 := (hk 7 (by decide)).trans f7
    replace f8 := (hk 8 (by decide)).trans f8
    clear hk hsz21 hde21 f11 f12
    replace f13 : a22.tmps[13]?.getD undef = .bool true := f13.trans (by first | rfl | (congr 1; first | exact decide_eq_true (by omega) | exact decide_eq_false (by omega)) | (simp; omega))
    refine wpList_nil ?_
    refine then_go ?_
    repeat with_reducible refine wp_seq ?_
    refine wp_cond_true (eval_at f13) ?_
    refine wp_skip ?_
    refine then_go ?_
    clear f13
    repeat with_reducible refine wp_seq ?_
    refine wp_block ?_
    repeat with_reducible refine wp_seq ?_
    have hnu := Hnu.out
    have hU : 20 ≤ U.length := by have := Hbe.out; omega
    have hb20 : b = p + (U.take 20).length := by rw [List.length_take, Hbe.out]; omega
    have hin := insertion_any base v S (U.take 20) (U.drop 20) wx (by rw [List.take_append_drop]; exact Hown.out) (((List.pairwise_append.1 (show (T ++ U).Pairwise prec by rw [← HLe.out]; exact HL.out)).2.1).sublist (List.take_sublist _ _)) (by rw [List.take_append_drop, List.length_append]; have := Hp.out; omega) Hsz.out p b Hp.out hb20
    have Hin := Lib.hid hin
    clear hin hb20 hnu
    refine wp_region_lit ?_
    refine wpList_next rfl hsz22 hde22 14 rfl (by decide) fun K hK => ?_
    go_simp
    refine hK _ _ fun a23 hsz23 hde23 f14 hk => ?_
    clear hK K
    replace f0 := (hk 0 (by decide)).trans f0
    replace f1 := (hk 1 (by decide)).trans f1
    replace f2 := (hk 2 (by decide)).trans f2
    replace f6 := (hk 6 (by decide)).trans f6
    replace f7 := (hk 7 (by decide)).trans f7
    replace f8 := (hk 8 (by decide)).trans f8
    replace f14 : a23.tmps[14]?.getD undef = v := f14
    clear hk hsz22 hde22
    refine wpList_next rfl hsz23 hde23 15 rfl (by decide) fun K hK => ?_
    go_simp
    refine hK _ _ fun a24 hsz24 hde24 f15 hk => ?_
    clear hK K
    replace f0 := (hk 0 (by decide)).trans f0
    replace f1 := (hk 1 (by decide)).trans f1
    replace f2 := (hk 2 (by decide)).trans f2
    replace f6 := (hk 6 (by decide)).trans f6
    replace f7 := (hk 7 (by decide)).trans f7
    replace f8 := (hk 8 (by decide)).trans f8
    replace f14 := (hk 14 (by decide)).trans f14
    replace f15 : a24.tmps[15]?.getD undef = .int .i64 ((p : Nat) : Int) := f15
    clear hk hsz23 hde23
    refine wpList_next rfl hsz24 hde24 16 rfl (by decide) fun K hK => ?_
    go_simp
    refine hK _ _ fun a25 hsz25 hde25 f16 hk => ?_
    clear hK K
    replace f0 := (hk 0 (by decide)).trans f0
    replace f1 := (hk 1 (by decide)).trans f1
    replace f2 := (hk 2 (by decide)).trans f2
    replace f6 := (hk 6 (by decide)).trans f6
    replace f7 := (hk 7 (by decide)).trans f7
    replace f8 := (hk 8 (by decide)).trans f8
    replace f14 := (hk 14 (by decide)).trans f14
    replace f15 := (hk 15 (by decide)).trans f15
    replace f16 : a25.tmps[16]?.getD undef = .int .i64 ((b : Nat) : Int) := f16
    clear hk hsz24 hde24
    refine wpList_next rfl hsz25 hde25 17 rfl (by decide) fun K hK => ?_
    go_simp
    refine hK _ _ fun a26 hsz26 hde26 f17 hk => ?_
    clear hK K
    replace f0 := (hk 0 (by decide)).trans f0
    replace f1 := (hk 1 (by decide)).trans f1
    replace f2 := (hk 2 (by decide)).trans f2
    replace f6 := (hk 6 (by decide)).trans f6
    replace f7 := (hk 7 (by decide)).trans f7
    replace f8 := (hk 8 (by decide)).trans f8
    replace f14 := (hk 14 (by decide)).trans f14
    replace f15 := (hk 15 (by decide)).trans f15
    replace f16 := (hk 16 (by decide)).trans f16
    replace f17 : a26.tmps[17]?.getD undef = .func (.func 49) #[] #[] := f17
    clear hk hsz25 hde25
    refine wpList_next rfl hsz26 hde26 18 rfl (by decide) fun K hK => ?_
    go_simp
    refine Hin.out.mono ?_
    rintro e7 w7 ⟨rfl, ⟨C, hown7, hpm7, hps7⟩, hb7⟩
    go_simp
    refine hK _ _ fun a27 hsz27 hde27 f18 hk => ?_
    clear hK K
    replace f0 := (hk 0 (by decide)).trans f0
    replace f1 := (hk 1 (by decide)).trans f1
    replace f2 := (hk 2 (by decide)).trans f2
    replace f6 := (hk 6 (by decide)).trans f6
    replace f7 := (hk 7 (by decide)).trans f7
    replace f8 := (hk 8 (by decide)).trans f8
    clear hk hsz26 hde26 f14 f15 f16 f17
    clear f18
    refine wpList_nil ?_
    refine then_go ?_
    repeat with_reducible refine wp_seq ?_
    have hCl : C.length = 20 := by rw [hpm7.length_eq, List.length_take]; omega
    have Hown7 := Lib.hid (show OwnE w7 base v ((S ++ C) ++ U.drop 20) by rw [List.append_assoc]; exact hown7)
    have Hb7 := Lib.hid (Hbw.out.trans hb7)
    have HF7 := Lib.hid (show FB 20 (S ++ C) (T ++ U.take 20) from .snoc C (U.take 20) S T HF.out hpm7 hps7 hCl)
    have HSl := Lib.hid (show (S ++ C).length = b by rw [List.length_append, hCl, Hbe.out, Hp.out])
    clear hown7 hpm7 hps7 hb7 Hin
    refine wp_region_lit ?_
    refine wpList_next rfl hsz27 hde27 19 rfl (by decide) fun K hK => ?_
    go_simp
    refine hK _ _ fun a28 hsz28 hde28 f19 hk => ?_
    clear hK K
    replace f0 := (hk 0 (by decide)).trans f0
    replace f1 := (hk 1 (by decide)).trans f1
    replace f2 := (hk 2 (by decide)).trans f2
    replace f6 := (hk 6 (by decide)).trans f6
    replace f7 := (hk 7 (by decide)).trans f7
    replace f8 := (hk 8 (by decide)).trans f8
    replace f19 : a28.tmps[19]?.getD undef = .int .i64 ((b : Nat) : Int) := f19
    clear hk hsz27 hde27
    refine wpList_next rfl hsz28 hde28 7 rfl (by decide) fun K hK => ?_
    go_simp
    refine hK _ _ fun a29 hsz29 hde29 f7 hk => ?_
    clear hK K
    replace f0 := (hk 0 (by decide)).trans f0
    replace f1 := (hk 1 (by decide)).trans f1
    replace f2 := (hk 2 (by decide)).trans f2
    replace f6 := (hk 6 (by decide)).trans f6
    replace f8 := (hk 8 (by decide)).trans f8
    replace f7 : a29.tmps[7]?.getD undef = .int .i64 ((b : Nat) : Int) := f7
    clear hk hsz28 hde28 f19
    refine wpList_nil ?_
    refine then_go ?_
    repeat with_reducible refine wp_seq ?_
    refine wp_region_lit ?_
    refine wpList_next rfl hsz29 hde29 20 rfl (by decide) fun K hK => ?_
    go_simp
    refine hK _ _ fun a30 hsz30 hde30 f20 hk => ?_
    clear hK K
    replace f0 := (hk 0 (by decide)).trans f0
    replace f1 := (hk 1 (by decide)).trans f1
    replace f2 := (hk 2 (by decide)).trans f2
    replace f6 := (hk 6 (by decide)).trans f6
    replace f8 := (hk 8 (by decide)).trans f8
    replace f7 := (hk 7 (by decide)).trans f7
    replace f20 : a30.tmps[20]?.getD undef = .int .i64 ((b : Nat) : Int) := f20
    clear hk hsz29 hde29
    refine wpList_next rfl hsz30 hde30 21 rfl (by decide) fun K hK => ?_
    go_simp
    refine hK _ _ fun a31 hsz31 hde31 f21 hk => ?_
    clear hK K
    replace f0 := (hk 0 (by decide)).trans f0
    replace f1 := (hk 1 (by decide)).trans f1
    replace f2 := (hk 2 (by decide)).trans f2
    replace f6 := (hk 6 (by decide)).trans f6
    replace f8 := (hk 8 (by decide)).trans f8
    replace f7 := (hk 7 (by decide)).trans f7
    replace f20 := (hk 20 (by decide)).trans f20
    replace f21 : a31.tmps[21]?.getD undef = .int .i64 20 := f21
    clear hk hsz30 hde30
    refine wpList_next rfl hsz31 hde31 22 rfl (by decide) fun K hK => ?_
    go_simp
    refine hK _ _ fun a32 hsz32 hde32 f22 hk => ?_
    clear hK K
    replace f0 := (hk 0 (by decide)).trans f0
    replace f1 := (hk 1 (by decide)).trans f1
    replace f2 := (hk 2 (by decide)).trans f2
    replace f6 := (hk 6 (by decide)).trans f6
    replace f8 := (hk 8 (by decide)).trans f8
    replace f7 := (hk 7 (by decide)).trans f7
    clear hk hsz31 hde31 f20 f21
    replace f22 : a32.tmps[22]?.getD undef = .int .i64 (((b + 20 : Nat) : Int)) := f22.trans (by first | rfl | (congr 1; done) | (congr 1; omega) | (congr 1; rw [IntKind.wrap_i64] <;> omega))
    refine wpList_next rfl hsz32 hde32 8 rfl (by decide) fun K hK => ?_
    go_simp
    refine hK _ _ fun a33 hsz33 hde33 f8 hk => ?_
    clear hK K
    replace f0 := (hk 0 (by decide)).trans f0
    replace f1 := (hk 1 (by decide)).trans f1
    replace f2 := (hk 2 (by decide)).trans f2
    replace f6 := (hk 6 (by decide)).trans f6
    replace f7 := (hk 7 (by decide)).trans f7
    replace f8 : a33.tmps[8]?.getD undef = .int .i64 ((b + 20 : Nat) : Int) := f8
    clear hk hsz32 hde32 f22
    refine wpList_nil ?_
    repeat first | with_reducible refine block_go ?_ | with_reducible refine then_go ?_
    rw [← HSl.out] at f7 f8
    exact ⟨(U.drop 20).length, by rw [Hn2.out, List.length_drop]; omega, S ++ C, T ++ U.take 20, U.drop 20, hsz33, hde33, f0, f1, f2, f6, f7, f8, Lib.hid (by rw [List.append_assoc, List.take_append_drop]; exact HLe.out), HF7, Hown7, Hb7, rfl⟩
  refine wp_region_lit ?_
  refine wpList_next rfl hsz19 hde19 11 rfl (by decide) fun K hK => ?_
  go_simp
  refine hK _ _ fun a20 hsz20 hde20 f11 hk => ?_
  clear hK K
  replace f0 := (hk 0 (by decide)).trans f0
  replace f1 := (hk 1 (by decide)).trans f1
  replace f2 := (hk 2 (by decide)).trans f2
  replace f6 := (hk 6 (by decide)).trans f6
  replace f7 := (hk 7 (by decide)).trans f7
  replace f8 := (hk 8 (by decide)).trans f8
  replace f11 : a20.tmps[11]?.getD undef = .int .i64 ((b : Nat) : Int) := f11
  clear hk hsz19 hde19
  refine wpList_next rfl hsz20 hde20 12 rfl (by decide) fun K hK => ?_
  go_simp
  refine hK _ _ fun a21 hsz21 hde21 f12 hk => ?_
  clear hK K
  replace f0 := (hk 0 (by decide)).trans f0
  replace f1 := (hk 1 (by decide)).trans f1
  replace f2 := (hk 2 (by decide)).trans f2
  replace f6 := (hk 6 (by decide)).trans f6
  replace f7 := (hk 7 (by decide)).trans f7
  replace f8 := (hk 8 (by decide)).trans f8
  replace f11 := (hk 11 (by decide)).trans f11
  replace f12 : a21.tmps[12]?.getD undef = .int .i64 ((n : Nat) : Int) := f12
  clear hk hsz20 hde20
  refine wpList_next rfl hsz21 hde21 13 rfl (by decide) fun K hK => ?_
  go_simp
  refine hK _ _ fun a22 hsz22 hde22 f13 hk => ?_
  clear hK K
  replace f0 := (hk 0 (by decide)).trans f0
  replace f1 := (hk 1 (by decide)).trans f1
  replace f2 := (hk 2 (by decide)).trans f2
  replace f6 := (hk 6 (by decide)).trans f6
  replace f7 := (hk 7 (by decide)).trans f7
  replace f8 := (hk 8 (by decide)).trans f8
  clear hk hsz21 hde21 f11 f12
  replace f13 : a22.tmps[13]?.getD undef = .bool false := f13.trans (by first | rfl | (congr 1; first | exact decide_eq_true (by omega) | exact decide_eq_false (by omega)) | (simp; omega))
  refine wpList_nil ?_
  refine then_go ?_
  repeat with_reducible refine wp_seq ?_
  refine wp_cond_false (eval_at f13) ?_
  refine wp_exit ?_
  repeat with_reducible refine then_exit ?_
  refine block_exit ?_
  repeat first | with_reducible refine block_go ?_ | with_reducible refine then_go ?_
  clear f13
  repeat with_reducible refine wp_seq ?_
  have hnu := Hnu.out
  have hU : U.length < 20 := by have := Hbe.out; omega
  have hnp : n = p + U.length := hnu
  have hin := insertion_any base v S U [] wx (by rw [List.append_nil]; exact Hown.out) ((List.pairwise_append.1 (show (T ++ U).Pairwise prec by rw [← HLe.out]; exact HL.out)).2.1) (by rw [List.append_nil, List.length_append]; have := Hp.out; omega) Hsz.out p n Hp.out hnp
  have Hin := Lib.hid hin
  have HU := Lib.hid hU
  clear hin hnp hnu hU
  clear f8
  refine wp_region_lit ?_
  refine wpList_next rfl hsz22 hde22 23 rfl (by decide) fun K hK => ?_
  go_simp
  refine hK _ _ fun a23 hsz23 hde23 f23 hk => ?_
  clear hK K
  replace f0 := (hk 0 (by decide)).trans f0
  replace f1 := (hk 1 (by decide)).trans f1
  replace f2 := (hk 2 (by decide)).trans f2
  replace f6 := (hk 6 (by decide)).trans f6
  replace f7 := (hk 7 (by decide)).trans f7
  replace f23 : a23.tmps[23]?.getD undef = v := f23
  clear hk hsz22 hde22
  refine wpList_next rfl hsz23 hde23 24 rfl (by decide) fun K hK => ?_
  go_simp
  refine hK _ _ fun a24 hsz24 hde24 f24 hk => ?_
  clear hK K
  replace f0 := (hk 0 (by decide)).trans f0
  replace f1 := (hk 1 (by decide)).trans f1
  replace f2 := (hk 2 (by decide)).trans f2
  replace f6 := (hk 6 (by decide)).trans f6
  replace f7 := (hk 7 (by decide)).trans f7
  replace f23 := (hk 23 (by decide)).trans f23
  replace f24 : a24.tmps[24]?.getD undef = .int .i64 ((p : Nat) : Int) := f24
  clear hk hsz23 hde23
  refine wpList_next rfl hsz24 hde24 25 rfl (by decide) fun K hK => ?_
  go_simp
  refine hK _ _ fun a25 hsz25 hde25 f25 hk => ?_
  clear hK K
  replace f0 := (hk 0 (by decide)).trans f0
  replace f1 := (hk 1 (by decide)).trans f1
  replace f2 := (hk 2 (by decide)).trans f2
  replace f6 := (hk 6 (by decide)).trans f6
  replace f7 := (hk 7 (by decide)).trans f7
  replace f23 := (hk 23 (by decide)).trans f23
  replace f24 := (hk 24 (by decide)).trans f24
  replace f25 : a25.tmps[25]?.getD undef = .int .i64 ((n : Nat) : Int) := f25
  clear hk hsz24 hde24
  refine wpList_next rfl hsz25 hde25 26 rfl (by decide) fun K hK => ?_
  go_simp
  refine hK _ _ fun a26 hsz26 hde26 f26 hk => ?_
  clear hK K
  replace f0 := (hk 0 (by decide)).trans f0
  replace f1 := (hk 1 (by decide)).trans f1
  replace f2 := (hk 2 (by decide)).trans f2
  replace f6 := (hk 6 (by decide)).trans f6
  replace f7 := (hk 7 (by decide)).trans f7
  replace f23 := (hk 23 (by decide)).trans f23
  replace f24 := (hk 24 (by decide)).trans f24
  replace f25 := (hk 25 (by decide)).trans f25
  replace f26 : a26.tmps[26]?.getD undef = .func (.func 49) #[] #[] := f26
  clear hk hsz25 hde25
  refine wpList_next rfl hsz26 hde26 27 rfl (by decide) fun K hK => ?_
  go_simp
  refine Hin.out.mono ?_
  rintro e7 w7 ⟨rfl, ⟨C, hown7, hpm7, hps7⟩, hb7⟩
  go_simp
  refine hK _ _ fun a27 hsz27 hde27 f27 hk => ?_
  clear hK K
  replace f0 := (hk 0 (by decide)).trans f0
  replace f1 := (hk 1 (by decide)).trans f1
  replace f2 := (hk 2 (by decide)).trans f2
  replace f6 := (hk 6 (by decide)).trans f6
  replace f7 := (hk 7 (by decide)).trans f7
  clear hk hsz26 hde26 f23 f24 f25 f26
  clear f27
  refine wpList_nil ?_
  clear f7
  refine then_go ?_
  repeat with_reducible refine wp_seq ?_
  have HownM := Lib.hid (show OwnE w7 base v (S ++ C) by rw [List.append_nil] at hown7; exact hown7)
  have HbM := Lib.hid (Hbw.out.trans hb7)
  have HSB := Lib.hid (show SB 20 (S ++ C) L by rw [HLe.out]; exact HF.out.sb (.last C U hpm7 hps7 (by rw [hpm7.length_eq]; exact Nat.le_of_lt HU.out)))
  clear hown7 hpm7 hps7 hb7 Hin Hown Hbw HF HLe Hp Hbe hpb Hsz HU hlt Hn2 Hnu
  rw [show (20 : Int) = ((20 : Nat) : Int) from rfl] at f6
  refine wp_block ?_
  refine wp_loop_ghost (T2Inv w base v L n) (n - 20) ?_ ?_
  · exact ⟨20, S ++ C, hsz27, hde27, f0, f1, f2, f6, Lib.hid (by omega), HSB, HownM, HbM, rfl⟩
  clear HSB HownM HbM
  clear hsz27 hde27 f0 f1 f2 f6
  intro n4 a39 wy hI
  obtain ⟨bs, M, hsz39, hde39, f0, f1, f2, f6, Hbs, HSB, Hown, Hbw, hn4⟩ := hI
  have Hn4 := Lib.hid hn4
  clear hn4
  obtain ⟨hbs0, hbs1⟩ := Hbs.out
  repeat with_reducible refine wp_seq ?_
  by_cases hlt : bs < n
  · skip
    refine wp_region_lit ?_
    refine wpList_next rfl hsz39 hde39 28 rfl (by decide) fun K hK => ?_
    go_simp
    refine hK _ _ fun a40 hsz40 hde40 f28 hk => ?_
    clear hK K
    replace f0 := (hk 0 (by decide)).trans f0
    replace f1 := (hk 1 (by decide)).trans f1
    replace f2 := (hk 2 (by decide)).trans f2
    replace f6 := (hk 6 (by decide)).trans f6
    replace f28 : a40.tmps[28]?.getD undef = .int .i64 ((bs : Nat) : Int) := f28
    clear hk hsz39 hde39
    refine wpList_next rfl hsz40 hde40 29 rfl (by decide) fun K hK => ?_
    go_simp
    refine hK _ _ fun a41 hsz41 hde41 f29 hk => ?_
    clear hK K
    replace f0 := (hk 0 (by decide)).trans f0
    replace f1 := (hk 1 (by decide)).trans f1
    replace f2 := (hk 2 (by decide)).trans f2
    replace f6 := (hk 6 (by decide)).trans f6
    replace f28 := (hk 28 (by decide)).trans f28
    replace f29 : a41.tmps[29]?.getD undef = .int .i64 ((n : Nat) : Int) := f29
    clear hk hsz40 hde40
    refine wpList_next rfl hsz41 hde41 30 rfl (by decide) fun K hK => ?_
    go_simp
    refine hK _ _ fun a42 hsz42 hde42 f30 hk => ?_
    clear hK K
    replace f0 := (hk 0 (by decide)).trans f0
    replace f1 := (hk 1 (by decide)).trans f1
    replace f2 := (hk 2 (by decide)).trans f2
    replace f6 := (hk 6 (by decide)).trans f6
    clear hk hsz41 hde41 f28 f29
    replace f30 : a42.tmps[30]?.getD undef = .bool true := f30.trans (by first | rfl | (congr 1; first | exact decide_eq_true (by omega) | exact decide_eq_false (by omega)) | (simp; omega))
    refine wpList_nil ?_
    refine then_go ?_
    repeat with_reducible refine wp_seq ?_
    refine wp_cond_true (eval_at f30) ?_
    refine wp_skip ?_
    refine then_go ?_
    clear f30
    repeat with_reducible refine wp_seq ?_
    refine wp_block ?_
    repeat with_reducible refine wp_seq ?_
    obtain ⟨c2, hc2⟩ : ∃ c2, c2 = 2 * bs := ⟨_, rfl⟩
    have Hc2 := Lib.hid hc2
    have hc2b : c2 ≤ 2000 := by omega
    clear hc2
    refine wp_region_lit ?_
    refine wpList_next rfl hsz42 hde42 31 rfl (by decide) fun K hK => ?_
    go_simp
    refine hK _ _ fun a43 hsz43 hde43 f31 hk => ?_
    clear hK K
    replace f0 := (hk 0 (by decide)).trans f0
    replace f1 := (hk 1 (by decide)).trans f1
    replace f2 := (hk 2 (by decide)).trans f2
    replace f6 := (hk 6 (by decide)).trans f6
    replace f31 : a43.tmps[31]?.getD undef = .int .i64 ((bs : Nat) : Int) := f31
    clear hk hsz42 hde42
    refine wpList_next rfl hsz43 hde43 32 rfl (by decide) fun K hK => ?_
    go_simp
    refine hK _ _ fun a44 hsz44 hde44 f32 hk => ?_
    clear hK K
    replace f0 := (hk 0 (by decide)).trans f0
    replace f1 := (hk 1 (by decide)).trans f1
    replace f2 := (hk 2 (by decide)).trans f2
    replace f6 := (hk 6 (by decide)).trans f6
    clear hk hsz43 hde43 f31
    replace f32 : a44.tmps[32]?.getD undef = .int .i64 (((c2 : Nat) : Int)) := f32.trans (by have h7 := Hc2.out; first | rfl | (congr 1; done) | (congr 1; omega) | (congr 1; rw [IntKind.wrap_i64] <;> omega))
    refine wpList_next rfl hsz44 hde44 7 rfl (by decide) fun K hK => ?_
    go_simp
    refine hK _ _ fun a45 hsz45 hde45 f7 hk => ?_
    clear hK K
    replace f0 := (hk 0 (by decide)).trans f0
    replace f1 := (hk 1 (by decide)).trans f1
    replace f2 := (hk 2 (by decide)).trans f2
    replace f6 := (hk 6 (by decide)).trans f6
    replace f32 := (hk 32 (by decide)).trans f32
    replace f7 : a45.tmps[7]?.getD undef = .int .i64 ((([] : List Ent).length : Nat) : Int) := f7
    clear hk hsz44 hde44
    refine wpList_next rfl hsz45 hde45 8 rfl (by decide) fun K hK => ?_
    go_simp
    refine hK _ _ fun a46 hsz46 hde46 f8 hk => ?_
    clear hK K
    replace f0 := (hk 0 (by decide)).trans f0
    replace f1 := (hk 1 (by decide)).trans f1
    replace f2 := (hk 2 (by decide)).trans f2
    replace f6 := (hk 6 (by decide)).trans f6
    replace f7 := (hk 7 (by decide)).trans f7
    clear hk hsz45 hde45 f32
    replace f8 : a46.tmps[8]?.getD undef = .int .i64 ((([] : List Ent).length + c2 : Nat) : Int) := f8.trans (by simp)
    refine wpList_nil ?_
    refine then_go ?_
    repeat with_reducible refine wp_seq ?_
    refine wp_block ?_
    refine wp_loop_ghost (T3Inv w base v L n bs c2) M.length ?_ ?_
    · exact ⟨[], [], M, L, hsz46, hde46, f0, f1, f2, f6, f7, f8, Lib.hid rfl, Lib.hid .nil, HSB, Hown, Hbw, rfl⟩
    clear Hown Hbw HSB
    clear hsz46 hde46 f0 f1 f2 f6 f7 f8
    intro n3 a59 wz hI
    obtain ⟨S, T, R, U, hsz59, hde59, f0, f1, f2, f6, f7, f8, HLe, HF, HS, Hown, Hbw, hn3⟩ := hI
    have Hn3 := Lib.hid hn3
    clear hn3
    obtain ⟨p, hp⟩ : ∃ p, p = S.length := ⟨_, rfl⟩
    obtain ⟨b, hbe⟩ : ∃ b, b = p + c2 := ⟨_, rfl⟩
    rw [show ((S.length + c2 : Nat) : Int) = ((b : Nat) : Int) by rw [hbe, hp]] at f8
    rw [← hp] at f7
    have Hp := Lib.hid hp
    have Hbe := Lib.hid hbe
    have hnu : n = p + R.length := by have h1 := HF.out.perm.length_eq; rw [Hn.out, HLe.out, List.length_append, hp]; have h2 := HS.out.perm.length_eq; omega
    have hpb : p ≤ 1000 ∧ b ≤ 4000 := by omega
    have Hnu := Lib.hid hnu
    clear hp hbe hnu
    repeat with_reducible refine wp_seq ?_
    have Hsz := Lib.hid (Nat.le_trans Hb.out Hbw.out.size)
    by_cases hle : b ≤ n
    · skip
      refine wp_region_lit ?_
      refine wpList_next rfl hsz59 hde59 33 rfl (by decide) fun K hK => ?_
      go_simp
      refine hK _ _ fun a60 hsz60 hde60 f33 hk => ?_
      clear hK K
      replace f0 := (hk 0 (by decide)).trans f0
      replace f1 := (hk 1 (by decide)).trans f1
      replace f2 := (hk 2 (by decide)).trans f2
      replace f6 := (hk 6 (by decide)).trans f6
      replace f7 := (hk 7 (by decide)).trans f7
      replace f8 := (hk 8 (by decide)).trans f8
      replace f33 : a60.tmps[33]?.getD undef = .int .i64 ((b : Nat) : Int) := f33
      clear hk hsz59 hde59
      refine wpList_next rfl hsz60 hde60 34 rfl (by decide) fun K hK => ?_
      go_simp
      refine hK _ _ fun a61 hsz61 hde61 f34 hk => ?_
      clear hK K
      replace f0 := (hk 0 (by decide)).trans f0
      replace f1 := (hk 1 (by decide)).trans f1
      replace f2 := (hk 2 (by decide)).trans f2
      replace f6 := (hk 6 (by decide)).trans f6
      replace f7 := (hk 7 (by decide)).trans f7
      replace f8 := (hk 8 (by decide)).trans f8
      replace f33 := (hk 33 (by decide)).trans f33
      replace f34 : a61.tmps[34]?.getD undef = .int .i64 ((n : Nat) : Int) := f34
      clear hk hsz60 hde60
      refine wpList_next rfl hsz61 hde61 35 rfl (by decide) fun K hK => ?_
      go_simp
      refine hK _ _ fun a62 hsz62 hde62 f35 hk => ?_
      clear hK K
      replace f0 := (hk 0 (by decide)).trans f0
      replace f1 := (hk 1 (by decide)).trans f1
      replace f2 := (hk 2 (by decide)).trans f2
      replace f6 := (hk 6 (by decide)).trans f6
      replace f7 := (hk 7 (by decide)).trans f7
      replace f8 := (hk 8 (by decide)).trans f8
      clear hk hsz61 hde61 f33 f34
      replace f35 : a62.tmps[35]?.getD undef = .bool true := f35.trans (by first | rfl | (congr 1; first | exact decide_eq_true (by omega) | exact decide_eq_false (by omega)) | (simp; omega))
      refine wpList_nil ?_
      refine then_go ?_
      repeat with_reducible refine wp_seq ?_
      refine wp_cond_true (eval_at f35) ?_
      refine wp_skip ?_
      refine then_go ?_
      clear f35
      repeat with_reducible refine wp_seq ?_
      refine wp_block ?_
      repeat with_reducible refine wp_seq ?_
      have hnu := Hnu.out
      obtain ⟨C1, C2, D1, D2, R2, U2, rfl, rfl, hp1, hp2, hs1, hs2, hl1, hl2, hr2⟩ := HS.out.two hbs0 (by have := Hbe.out; have := Hc2.out; omega)
      obtain ⟨mm, hmm⟩ : ∃ mm, mm = p + bs := ⟨_, rfl⟩
      have hmmb : mm ≤ 4000 := by omega
      have Hmm := Lib.hid hmm
      have hsym := symmerge_any base v _ S C1 C2 R2 p mm b wz (Nat.lt_succ_self _) ⟨Hown.out, hs1, hs2, prec_parts (by rw [← HLe.out]; exact HL.out) hp1 hp2, Hsz.out, Hp.out, by rw [hl1, hmm], by rw [hl2, hmm, Hbe.out, Hc2.out]; omega, by rw [List.length_append, List.length_append, hl1, hl2] at hnu; have := Hbe.out; have := Hc2.out; omega, by rw [hl1]; exact hbs0, by rw [hl2]; exact hbs0⟩
      have Hsym := Lib.hid hsym
      have Hpp := Lib.hid (And.intro hp1 (And.intro hp2 (And.intro hl1 hl2)))
      have Hr2 := Lib.hid hr2
      clear hsym hp1 hp2 hs1 hs2 hl1 hl2 hr2 hmm hnu
      refine wp_region_lit ?_
      refine wpList_next rfl hsz62 hde62 36 rfl (by decide) fun K hK => ?_
      go_simp
      refine hK _ _ fun a63 hsz63 hde63 f36 hk => ?_
      clear hK K
      replace f0 := (hk 0 (by decide)).trans f0
      replace f1 := (hk 1 (by decide)).trans f1
      replace f2 := (hk 2 (by decide)).trans f2
      replace f6 := (hk 6 (by decide)).trans f6
      replace f7 := (hk 7 (by decide)).trans f7
      replace f8 := (hk 8 (by decide)).trans f8
      replace f36 : a63.tmps[36]?.getD undef = v := f36
      clear hk hsz62 hde62
      refine wpList_next rfl hsz63 hde63 37 rfl (by decide) fun K hK => ?_
      go_simp
      refine hK _ _ fun a64 hsz64 hde64 f37 hk => ?_
      clear hK K
      replace f0 := (hk 0 (by decide)).trans f0
      replace f1 := (hk 1 (by decide)).trans f1
      replace f2 := (hk 2 (by decide)).trans f2
      replace f6 := (hk 6 (by decide)).trans f6
      replace f7 := (hk 7 (by decide)).trans f7
      replace f8 := (hk 8 (by decide)).trans f8
      replace f36 := (hk 36 (by decide)).trans f36
      replace f37 : a64.tmps[37]?.getD undef = .int .i64 ((p : Nat) : Int) := f37
      clear hk hsz63 hde63
      refine wpList_next rfl hsz64 hde64 38 rfl (by decide) fun K hK => ?_
      go_simp
      refine hK _ _ fun a65 hsz65 hde65 f38 hk => ?_
      clear hK K
      replace f0 := (hk 0 (by decide)).trans f0
      replace f1 := (hk 1 (by decide)).trans f1
      replace f2 := (hk 2 (by decide)).trans f2
      replace f6 := (hk 6 (by decide)).trans f6
      replace f7 := (hk 7 (by decide)).trans f7
      replace f8 := (hk 8 (by decide)).trans f8
      replace f36 := (hk 36 (by decide)).trans f36
      replace f37 := (hk 37 (by decide)).trans f37
      replace f38 : a65.tmps[38]?.getD undef = .int .i64 ((p : Nat) : Int) := f38
      clear hk hsz64 hde64
      refine wpList_next rfl hsz65 hde65 39 rfl (by decide) fun K hK => ?_
      go_simp
      refine hK _ _ fun a66 hsz66 hde66 f39 hk => ?_
      clear hK K
      replace f0 := (hk 0 (by decide)).trans f0
      replace f1 := (hk 1 (by decide)).trans f1
      replace f2 := (hk 2 (by decide)).trans f2
      replace f6 := (hk 6 (by decide)).trans f6
      replace f7 := (hk 7 (by decide)).trans f7
      replace f8 := (hk 8 (by decide)).trans f8
      replace f36 := (hk 36 (by decide)).trans f36
      replace f37 := (hk 37 (by decide)).trans f37
      replace f38 := (hk 38 (by decide)).trans f38
      replace f39 : a66.tmps[39]?.getD undef = .int .i64 ((bs : Nat) : Int) := f39
      clear hk hsz65 hde65
      refine wpList_next rfl hsz66 hde66 40 rfl (by decide) fun K hK => ?_
      go_simp
      refine hK _ _ fun a67 hsz67 hde67 f40 hk => ?_
      clear hK K
      replace f0 := (hk 0 (by decide)).trans f0
      replace f1 := (hk 1 (by decide)).trans f1
      replace f2 := (hk 2 (by decide)).trans f2
      replace f6 := (hk 6 (by decide)).trans f6
      replace f7 := (hk 7 (by decide)).trans f7
      replace f8 := (hk 8 (by decide)).trans f8
      replace f36 := (hk 36 (by decide)).trans f36
      replace f37 := (hk 37 (by decide)).trans f37
      clear hk hsz66 hde66 f38 f39
      replace f40 : a67.tmps[40]?.getD undef = .int .i64 (((mm : Nat) : Int)) := f40.trans (by have h7 := Hmm.out; first | rfl | (congr 1; done) | (congr 1; omega) | (congr 1; rw [IntKind.wrap_i64] <;> omega))
      refine wpList_next rfl hsz67 hde67 41 rfl (by decide) fun K hK => ?_
      go_simp
      refine hK _ _ fun a68 hsz68 hde68 f41 hk => ?_
      clear hK K
      replace f0 := (hk 0 (by decide)).trans f0
      replace f1 := (hk 1 (by decide)).trans f1
      replace f2 := (hk 2 (by decide)).trans f2
      replace f6 := (hk 6 (by decide)).trans f6
      replace f7 := (hk 7 (by decide)).trans f7
      replace f8 := (hk 8 (by decide)).trans f8
      replace f36 := (hk 36 (by decide)).trans f36
      replace f37 := (hk 37 (by decide)).trans f37
      replace f40 := (hk 40 (by decide)).trans f40
      replace f41 : a68.tmps[41]?.getD undef = .int .i64 ((b : Nat) : Int) := f41
      clear hk hsz67 hde67
      refine wpList_next rfl hsz68 hde68 42 rfl (by decide) fun K hK => ?_
      go_simp
      refine hK _ _ fun a69 hsz69 hde69 f42 hk => ?_
      clear hK K
      replace f0 := (hk 0 (by decide)).trans f0
      replace f1 := (hk 1 (by decide)).trans f1
      replace f2 := (hk 2 (by decide)).trans f2
      replace f6 := (hk 6 (by decide)).trans f6
      replace f7 := (hk 7 (by decide)).trans f7
      replace f8 := (hk 8 (by decide)).trans f8
      replace f36 := (hk 36 (by decide)).trans f36
      replace f37 := (hk 37 (by decide)).trans f37
      replace f40 := (hk 40 (by decide)).trans f40
      replace f41 := (hk 41 (by decide)).trans f41
      replace f42 : a69.tmps[42]?.getD undef = .func (.func 49) #[] #[] := f42
      clear hk hsz68 hde68
      refine wpList_next rfl hsz69 hde69 43 rfl (by decide) fun K hK => ?_
      go_simp
      refine Hsym.out.mono ?_
      rintro e7 w7 ⟨rfl, ⟨C, hown7, hpm7, hps7⟩, hb7⟩
      go_simp
      refine hK _ _ fun a70 hsz70 hde70 f43 hk => ?_
      clear hK K
      replace f0 := (hk 0 (by decide)).trans f0
      replace f1 := (hk 1 (by decide)).trans f1
      replace f2 := (hk 2 (by decide)).trans f2
      replace f6 := (hk 6 (by decide)).trans f6
      replace f7 := (hk 7 (by decide)).trans f7
      replace f8 := (hk 8 (by decide)).trans f8
      clear hk hsz69 hde69 f36 f37 f40 f41 f42
      clear f43
      refine wpList_nil ?_
      refine then_go ?_
      repeat with_reducible refine wp_seq ?_
      have hCl : C.length = c2 := by rw [hpm7.length_eq, List.length_append, Hpp.out.2.2.1, Hpp.out.2.2.2, Hc2.out]; omega
      have Hown7 := Lib.hid (show OwnE w7 base v ((S ++ C) ++ R2) by rw [List.append_assoc]; exact hown7)
      have Hb7 := Lib.hid (Hbw.out.trans hb7)
      have HF7 := Lib.hid (show FB c2 (S ++ C) (T ++ (D1 ++ D2)) from .snoc C (D1 ++ D2) S T HF.out (hpm7.trans (Hpp.out.1.append Hpp.out.2.1)) hps7 hCl)
      have HSl := Lib.hid (show (S ++ C).length = b by rw [List.length_append, hCl, Hbe.out, Hp.out])
      clear hown7 hpm7 hps7 hb7 Hsym
      refine wp_region_lit ?_
      refine wpList_next rfl hsz70 hde70 44 rfl (by decide) fun K hK => ?_
      go_simp
      refine hK _ _ fun a71 hsz71 hde71 f44 hk => ?_
      clear hK K
      replace f0 := (hk 0 (by decide)).trans f0
      replace f1 := (hk 1 (by decide)).trans f1
      replace f2 := (hk 2 (by decide)).trans f2
      replace f6 := (hk 6 (by decide)).trans f6
      replace f7 := (hk 7 (by decide)).trans f7
      replace f8 := (hk 8 (by decide)).trans f8
      replace f44 : a71.tmps[44]?.getD undef = .int .i64 ((b : Nat) : Int) := f44
      clear hk hsz70 hde70
      refine wpList_next rfl hsz71 hde71 7 rfl (by decide) fun K hK => ?_
      go_simp
      refine hK _ _ fun a72 hsz72 hde72 f7 hk => ?_
      clear hK K
      replace f0 := (hk 0 (by decide)).trans f0
      replace f1 := (hk 1 (by decide)).trans f1
      replace f2 := (hk 2 (by decide)).trans f2
      replace f6 := (hk 6 (by decide)).trans f6
      replace f8 := (hk 8 (by decide)).trans f8
      replace f7 : a72.tmps[7]?.getD undef = .int .i64 ((b : Nat) : Int) := f7
      clear hk hsz71 hde71 f44
      refine wpList_nil ?_
      refine then_go ?_
      repeat with_reducible refine wp_seq ?_
      refine wp_region_lit ?_
      refine wpList_next rfl hsz72 hde72 45 rfl (by decide) fun K hK => ?_
      go_simp
      refine hK _ _ fun a73 hsz73 hde73 f45 hk => ?_
      clear hK K
      replace f0 := (hk 0 (by decide)).trans f0
      replace f1 := (hk 1 (by decide)).trans f1
      replace f2 := (hk 2 (by decide)).trans f2
      replace f6 := (hk 6 (by decide)).trans f6
      replace f8 := (hk 8 (by decide)).trans f8
      replace f7 := (hk 7 (by decide)).trans f7
      replace f45 : a73.tmps[45]?.getD undef = .int .i64 ((b : Nat) : Int) := f45
      clear hk hsz72 hde72
      refine wpList_next rfl hsz73 hde73 46 rfl (by decide) fun K hK => ?_
      go_simp
      refine hK _ _ fun a74 hsz74 hde74 f46 hk => ?_
      clear hK K
      replace f0 := (hk 0 (by decide)).trans f0
      replace f1 := (hk 1 (by decide)).trans f1
      replace f2 := (hk 2 (by decide)).trans f2
      replace f6 := (hk 6 (by decide)).trans f6
      replace f8 := (hk 8 (by decide)).trans f8
      replace f7 := (hk 7 (by decide)).trans f7
      replace f45 := (hk 45 (by decide)).trans f45
      replace f46 : a74.tmps[46]?.getD undef = .int .i64 ((bs : Nat) : Int) := f46
      clear hk hsz73 hde73
      refine wpList_next rfl hsz74 hde74 47 rfl (by decide) fun K hK => ?_
      go_simp
      refine hK _ _ fun a75 hsz75 hde75 f47 hk => ?_
      clear hK K
      replace f0 := (hk 0 (by decide)).trans f0
      replace f1 := (hk 1 (by decide)).trans f1
      replace f2 := (hk 2 (by decide)).trans f2
      replace f6 := (hk 6 (by decide)).trans f6
      replace f8 := (hk 8 (by decide)).trans f8
      replace f7 := (hk 7 (by decide)).trans f7
      replace f45 := (hk 45 (by decide)).trans f45
      clear hk hsz74 hde74 f46
      replace f47 : a75.tmps[47]?.getD undef = .int .i64 (((c2 : Nat) : Int)) := f47.trans (by have h7 := Hc2.out; first | rfl | (congr 1; done) | (congr 1; omega) | (congr 1; rw [IntKind.wrap_i64] <;> omega))
      refine wpList_next rfl hsz75 hde75 48 rfl (by decide) fun K hK => ?_
      go_simp
      refine hK _ _ fun a76 hsz76 hde76 f48 hk => ?_
      clear hK K
      replace f0 := (hk 0 (by decide)).trans f0
      replace f1 := (hk 1 (by decide)).trans f1
      replace f2 := (hk 2 (by decide)).trans f2
      replace f6 := (hk 6 (by decide)).trans f6
      replace f8 := (hk 8 (by decide)).trans f8
      replace f7 := (hk 7 (by decide)).trans f7
      clear hk hsz75 hde75 f45 f47
      replace f48 : a76.tmps[48]?.getD undef = .int .i64 (((b + c2 : Nat) : Int)) := f48.trans (by first | rfl | (congr 1; done) | (congr 1; omega) | (congr 1; rw [IntKind.wrap_i64] <;> omega))
      refine wpList_next rfl hsz76 hde76 8 rfl (by decide) fun K hK => ?_
      go_simp
      refine hK _ _ fun a77 hsz77 hde77 f8 hk => ?_
      clear hK K
      replace f0 := (hk 0 (by decide)).trans f0
      replace f1 := (hk 1 (by decide)).trans f1
      replace f2 := (hk 2 (by decide)).trans f2
      replace f6 := (hk 6 (by decide)).trans f6
      replace f7 := (hk 7 (by decide)).trans f7
      replace f8 : a77.tmps[8]?.getD undef = .int .i64 ((b + c2 : Nat) : Int) := f8
      clear hk hsz76 hde76 f48
      refine wpList_nil ?_
      repeat first | with_reducible refine block_go ?_ | with_reducible refine then_go ?_
      rw [← HSl.out] at f7 f8
      exact ⟨R2.length, by rw [Hn3.out, List.length_append, List.length_append, Hpp.out.2.2.1]; omega, S ++ C, T ++ (D1 ++ D2), R2, U2, hsz77, hde77, f0, f1, f2, f6, f7, f8, Lib.hid (by rw [HLe.out]; simp), HF7, Hr2, Hown7, Hb7, rfl⟩
    refine wp_region_lit ?_
    refine wpList_next rfl hsz59 hde59 33 rfl (by decide) fun K hK => ?_
    go_simp
    refine hK _ _ fun a60 hsz60 hde60 f33 hk => ?_
    clear hK K
    replace f0 := (hk 0 (by decide)).trans f0
    replace f1 := (hk 1 (by decide)).trans f1
    replace f2 := (hk 2 (by decide)).trans f2
    replace f6 := (hk 6 (by decide)).trans f6
    replace f7 := (hk 7 (by decide)).trans f7
    replace f8 := (hk 8 (by decide)).trans f8
    replace f33 : a60.tmps[33]?.getD undef = .int .i64 ((b : Nat) : Int) := f33
    clear hk hsz59 hde59
    refine wpList_next rfl hsz60 hde60 34 rfl (by decide) fun K hK => ?_
    go_simp
    refine hK _ _ fun a61 hsz61 hde61 f34 hk => ?_
    clear hK K
    replace f0 := (hk 0 (by decide)).trans f0
    replace f1 := (hk 1 (by decide)).trans f1
    replace f2 := (hk 2 (by decide)).trans f2
    replace f6 := (hk 6 (by decide)).trans f6
    replace f7 := (hk 7 (by decide)).trans f7
    replace f8 := (hk 8 (by decide)).trans f8
    replace f33 := (hk 33 (by decide)).trans f33
    replace f34 : a61.tmps[34]?.getD undef = .int .i64 ((n : Nat) : Int) := f34
    clear hk hsz60 hde60
    refine wpList_next rfl hsz61 hde61 35 rfl (by decide) fun K hK => ?_
    go_simp
    refine hK _ _ fun a62 hsz62 hde62 f35 hk => ?_
    clear hK K
    replace f0 := (hk 0 (by decide)).trans f0
    replace f1 := (hk 1 (by decide)).trans f1
    replace f2 := (hk 2 (by decide)).trans f2
    replace f6 := (hk 6 (by decide)).trans f6
    replace f7 := (hk 7 (by decide)).trans f7
    replace f8 := (hk 8 (by decide)).trans f8
    clear hk hsz61 hde61 f33 f34
    replace f35 : a62.tmps[35]?.getD undef = .bool false := f35.trans (by first | rfl | (congr 1; first | exact decide_eq_true (by omega) | exact decide_eq_false (by omega)) | (simp; omega))
    refine wpList_nil ?_
    refine then_go ?_
    repeat with_reducible refine wp_seq ?_
    refine wp_cond_false (eval_at f35) ?_
    refine wp_exit ?_
    repeat with_reducible refine then_exit ?_
    refine block_exit ?_
    repeat first | with_reducible refine block_go ?_ | with_reducible refine then_go ?_
    clear f35 f8
    repeat with_reducible refine wp_seq ?_
    obtain ⟨wq, hwq⟩ : ∃ wq, wq = wz := ⟨_, rfl⟩
    rw [← hwq] at Hown Hbw Hsz ⊢
    clear hwq
    obtain ⟨mm, hmm⟩ : ∃ mm, mm = p + bs := ⟨_, rfl⟩
    have hmmb : mm ≤ 4000 := by omega
    have Hmm := Lib.hid hmm
    clear hmm
    have hRl : R.length < 2 * bs := by have := Hbe.out; have := Hc2.out; have := Hnu.out; omega
    refine wp_region_lit ?_
    refine wpList_next rfl hsz62 hde62 49 rfl (by decide) fun K hK => ?_
    go_simp
    refine hK _ _ fun a63 hsz63 hde63 f49 hk => ?_
    clear hK K
    replace f0 := (hk 0 (by decide)).trans f0
    replace f1 := (hk 1 (by decide)).trans f1
    replace f2 := (hk 2 (by decide)).trans f2
    replace f6 := (hk 6 (by decide)).trans f6
    replace f7 := (hk 7 (by decide)).trans f7
    replace f49 : a63.tmps[49]?.getD undef = .int .i64 ((p : Nat) : Int) := f49
    clear hk hsz62 hde62
    refine wpList_next rfl hsz63 hde63 50 rfl (by decide) fun K hK => ?_
    go_simp
    refine hK _ _ fun a64 hsz64 hde64 f50 hk => ?_
    clear hK K
    replace f0 := (hk 0 (by decide)).trans f0
    replace f1 := (hk 1 (by decide)).trans f1
    replace f2 := (hk 2 (by decide)).trans f2
    replace f6 := (hk 6 (by decide)).trans f6
    replace f7 := (hk 7 (by decide)).trans f7
    replace f49 := (hk 49 (by decide)).trans f49
    replace f50 : a64.tmps[50]?.getD undef = .int .i64 ((bs : Nat) : Int) := f50
    clear hk hsz63 hde63
    refine wpList_next rfl hsz64 hde64 51 rfl (by decide) fun K hK => ?_
    go_simp
    refine hK _ _ fun a65 hsz65 hde65 f51 hk => ?_
    clear hK K
    replace f0 := (hk 0 (by decide)).trans f0
    replace f1 := (hk 1 (by decide)).trans f1
    replace f2 := (hk 2 (by decide)).trans f2
    replace f6 := (hk 6 (by decide)).trans f6
    replace f7 := (hk 7 (by decide)).trans f7
    clear hk hsz64 hde64 f49 f50
    replace f51 : a65.tmps[51]?.getD undef = .int .i64 (((mm : Nat) : Int)) := f51.trans (by have h7 := Hmm.out; first | rfl | (congr 1; done) | (congr 1; omega) | (congr 1; rw [IntKind.wrap_i64] <;> omega))
    refine wpList_next rfl hsz65 hde65 9 rfl (by decide) fun K hK => ?_
    go_simp
    refine hK _ _ fun a66 hsz66 hde66 f9 hk => ?_
    clear hK K
    replace f0 := (hk 0 (by decide)).trans f0
    replace f1 := (hk 1 (by decide)).trans f1
    replace f2 := (hk 2 (by decide)).trans f2
    replace f6 := (hk 6 (by decide)).trans f6
    replace f7 := (hk 7 (by decide)).trans f7
    replace f9 : a66.tmps[9]?.getD undef = .int .i64 ((mm : Nat) : Int) := f9
    clear hk hsz65 hde65 f51
    refine wpList_nil ?_
    refine then_go ?_
    repeat with_reducible refine wp_seq ?_
    by_cases hmn : mm < n
    · skip
      refine wp_region_lit ?_
      refine wpList_next rfl hsz66 hde66 52 rfl (by decide) fun K hK => ?_
      go_simp
      refine hK _ _ fun a67 hsz67 hde67 f52 hk => ?_
      clear hK K
      replace f0 := (hk 0 (by decide)).trans f0
      replace f1 := (hk 1 (by decide)).trans f1
      replace f2 := (hk 2 (by decide)).trans f2
      replace f6 := (hk 6 (by decide)).trans f6
      replace f7 := (hk 7 (by decide)).trans f7
      replace f9 := (hk 9 (by decide)).trans f9
      replace f52 : a67.tmps[52]?.getD undef = .int .i64 ((mm : Nat) : Int) := f52
      clear hk hsz66 hde66
      refine wpList_next rfl hsz67 hde67 53 rfl (by decide) fun K hK => ?_
      go_simp
      refine hK _ _ fun a68 hsz68 hde68 f53 hk => ?_
      clear hK K
      replace f0 := (hk 0 (by decide)).trans f0
      replace f1 := (hk 1 (by decide)).trans f1
      replace f2 := (hk 2 (by decide)).trans f2
      replace f6 := (hk 6 (by decide)).trans f6
      replace f7 := (hk 7 (by decide)).trans f7
      replace f9 := (hk 9 (by decide)).trans f9
      replace f52 := (hk 52 (by decide)).trans f52
      replace f53 : a68.tmps[53]?.getD undef = .int .i64 ((n : Nat) : Int) := f53
      clear hk hsz67 hde67
      refine wpList_next rfl hsz68 hde68 54 rfl (by decide) fun K hK => ?_
      go_simp
      refine hK _ _ fun a69 hsz69 hde69 f54 hk => ?_
      clear hK K
      replace f0 := (hk 0 (by decide)).trans f0
      replace f1 := (hk 1 (by decide)).trans f1
      replace f2 := (hk 2 (by decide)).trans f2
      replace f6 := (hk 6 (by decide)).trans f6
      replace f7 := (hk 7 (by decide)).trans f7
      replace f9 := (hk 9 (by decide)).trans f9
      clear hk hsz68 hde68 f52 f53
      replace f54 : a69.tmps[54]?.getD undef = .bool true := f54.trans (by first | rfl | (congr 1; first | exact decide_eq_true (by omega) | exact decide_eq_false (by omega)) | (simp; omega))
      refine wpList_nil ?_
      refine then_go ?_
      repeat with_reducible refine wp_seq ?_
      refine wp_cond_true (eval_at f54) ?_
      clear f54
      have hnu := Hnu.out
      obtain ⟨C1, C2, D1, D2, rfl, rfl, hp1, hp2, hs1, hs2, hl1, hl2⟩ := HS.out.part (by have := Hmm.out; omega) hRl
      have hsym := symmerge_any base v _ S C1 C2 [] p mm n wq (Nat.lt_succ_self _) ⟨by rw [List.append_nil]; exact Hown.out, hs1, hs2, prec_parts (T := T) (U := []) (by rw [List.append_nil, ← HLe.out]; exact HL.out) hp1 hp2, Hsz.out, Hp.out, by rw [hl1, Hmm.out], by rw [List.length_append, hl1] at hnu; rw [Hmm.out]; omega, by simp; omega, by rw [hl1]; exact hbs0, hl2⟩
      have Hsym := Lib.hid hsym
      have Hpp := Lib.hid (And.intro hp1 hp2)
      have Hrl := Lib.hid hRl
      clear hsym hp1 hp2 hs1 hs2 hl1 hl2 hnu hRl
      refine wp_region_lit ?_
      refine wpList_next rfl hsz69 hde69 55 rfl (by decide) fun K hK => ?_
      go_simp
      refine hK _ _ fun a70 hsz70 hde70 f55 hk => ?_
      clear hK K
      replace f0 := (hk 0 (by decide)).trans f0
      replace f1 := (hk 1 (by decide)).trans f1
      replace f2 := (hk 2 (by decide)).trans f2
      replace f6 := (hk 6 (by decide)).trans f6
      replace f7 := (hk 7 (by decide)).trans f7
      replace f9 := (hk 9 (by decide)).trans f9
      replace f55 : a70.tmps[55]?.getD undef = v := f55
      clear hk hsz69 hde69
      refine wpList_next rfl hsz70 hde70 56 rfl (by decide) fun K hK => ?_
      go_simp
      refine hK _ _ fun a71 hsz71 hde71 f56 hk => ?_
      clear hK K
      replace f0 := (hk 0 (by decide)).trans f0
      replace f1 := (hk 1 (by decide)).trans f1
      replace f2 := (hk 2 (by decide)).trans f2
      replace f6 := (hk 6 (by decide)).trans f6
      replace f7 := (hk 7 (by decide)).trans f7
      replace f9 := (hk 9 (by decide)).trans f9
      replace f55 := (hk 55 (by decide)).trans f55
      replace f56 : a71.tmps[56]?.getD undef = .int .i64 ((p : Nat) : Int) := f56
      clear hk hsz70 hde70
      refine wpList_next rfl hsz71 hde71 57 rfl (by decide) fun K hK => ?_
      go_simp
      refine hK _ _ fun a72 hsz72 hde72 f57 hk => ?_
      clear hK K
      replace f0 := (hk 0 (by decide)).trans f0
      replace f1 := (hk 1 (by decide)).trans f1
      replace f2 := (hk 2 (by decide)).trans f2
      replace f6 := (hk 6 (by decide)).trans f6
      replace f7 := (hk 7 (by decide)).trans f7
      replace f9 := (hk 9 (by decide)).trans f9
      replace f55 := (hk 55 (by decide)).trans f55
      replace f56 := (hk 56 (by decide)).trans f56
      replace f57 : a72.tmps[57]?.getD undef = .int .i64 ((mm : Nat) : Int) := f57
      clear hk hsz71 hde71
      refine wpList_next rfl hsz72 hde72 58 rfl (by decide) fun K hK => ?_
      go_simp
      refine hK _ _ fun a73 hsz73 hde73 f58 hk => ?_
      clear hK K
      replace f0 := (hk 0 (by decide)).trans f0
      replace f1 := (hk 1 (by decide)).trans f1
      replace f2 := (hk 2 (by decide)).trans f2
      replace f6 := (hk 6 (by decide)).trans f6
      replace f7 := (hk 7 (by decide)).trans f7
      replace f9 := (hk 9 (by decide)).trans f9
      replace f55 := (hk 55 (by decide)).trans f55
      replace f56 := (hk 56 (by decide)).trans f56
      replace f57 := (hk 57 (by decide)).trans f57
      replace f58 : a73.tmps[58]?.getD undef = .int .i64 ((n : Nat) : Int) := f58
      clear hk hsz72 hde72
      refine wpList_next rfl hsz73 hde73 59 rfl (by decide) fun K hK => ?_
      go_simp
      refine hK _ _ fun a74 hsz74 hde74 f59 hk => ?_
      clear hK K
      replace f0 := (hk 0 (by decide)).trans f0
      replace f1 := (hk 1 (by decide)).trans f1
      replace f2 := (hk 2 (by decide)).trans f2
      replace f6 := (hk 6 (by decide)).trans f6
      replace f7 := (hk 7 (by decide)).trans f7
      replace f9 := (hk 9 (by decide)).trans f9
      replace f55 := (hk 55 (by decide)).trans f55
      replace f56 := (hk 56 (by decide)).trans f56
      replace f57 := (hk 57 (by decide)).trans f57
      replace f58 := (hk 58 (by decide)).trans f58
      replace f59 : a74.tmps[59]?.getD undef = .func (.func 49) #[] #[] := f59
      clear hk hsz73 hde73
      refine wpList_next rfl hsz74 hde74 60 rfl (by decide) fun K hK => ?_
      go_simp
      refine Hsym.out.mono ?_
      rintro e7 w7 ⟨rfl, ⟨C, hown7, hpm7, hps7⟩, hb7⟩
      go_simp
      refine hK _ _ fun a75 hsz75 hde75 f60 hk => ?_
      clear hK K
      replace f0 := (hk 0 (by decide)).trans f0
      replace f1 := (hk 1 (by decide)).trans f1
      replace f2 := (hk 2 (by decide)).trans f2
      replace f6 := (hk 6 (by decide)).trans f6
      replace f7 := (hk 7 (by decide)).trans f7
      replace f9 := (hk 9 (by decide)).trans f9
      clear hk hsz74 hde74 f55 f56 f57 f58 f59
      clear f60
      refine wpList_nil ?_
      clear f7 f9
      have HownM := Lib.hid (show OwnE w7 base v (S ++ C) by rw [List.append_nil] at hown7; exact hown7)
      have HbM := Lib.hid (Hbw.out.trans hb7)
      have HSBn := Lib.hid (show SB c2 (S ++ C) L by rw [HLe.out]; exact HF.out.sb (.last C (D1 ++ D2) (hpm7.trans (Hpp.out.1.append Hpp.out.2)) hps7 (by rw [hpm7.length_eq, Hc2.out]; exact Nat.le_of_lt Hrl.out)))
      clear hown7 hpm7 hps7 hb7 Hsym
      repeat first | with_reducible refine block_go ?_ | with_reducible refine then_go ?_
      repeat with_reducible refine wp_seq ?_
      refine wp_region_lit ?_
      refine wpList_next rfl hsz75 hde75 61 rfl (by decide) fun K hK => ?_
      go_simp
      refine hK _ _ fun a76 hsz76 hde76 f61 hk => ?_
      clear hK K
      replace f0 := (hk 0 (by decide)).trans f0
      replace f1 := (hk 1 (by decide)).trans f1
      replace f2 := (hk 2 (by decide)).trans f2
      replace f6 := (hk 6 (by decide)).trans f6
      replace f61 : a76.tmps[61]?.getD undef = .int .i64 ((bs : Nat) : Int) := f61
      clear hk hsz75 hde75
      refine wpList_next rfl hsz76 hde76 62 rfl (by decide) fun K hK => ?_
      go_simp
      refine hK _ _ fun a77 hsz77 hde77 f62 hk => ?_
      clear hK K
      replace f0 := (hk 0 (by decide)).trans f0
      replace f1 := (hk 1 (by decide)).trans f1
      replace f2 := (hk 2 (by decide)).trans f2
      replace f6 := (hk 6 (by decide)).trans f6
      clear hk hsz76 hde76 f61
      replace f62 : a77.tmps[62]?.getD undef = .int .i64 (((c2 : Nat) : Int)) := f62.trans (by have h7 := Hc2.out; first | rfl | (congr 1; done) | (congr 1; omega) | (congr 1; rw [IntKind.wrap_i64] <;> omega))
      refine wpList_next rfl hsz77 hde77 6 rfl (by decide) fun K hK => ?_
      go_simp
      refine hK _ _ fun a78 hsz78 hde78 f6 hk => ?_
      clear hK K
      replace f0 := (hk 0 (by decide)).trans f0
      replace f1 := (hk 1 (by decide)).trans f1
      replace f2 := (hk 2 (by decide)).trans f2
      replace f6 : a78.tmps[6]?.getD undef = .int .i64 ((c2 : Nat) : Int) := f6
      clear hk hsz77 hde77 f62
      refine wpList_nil ?_
      repeat first | with_reducible refine block_go ?_ | with_reducible refine then_go ?_
      exact ⟨n - c2, by rw [Hn4.out]; have := Hc2.out; omega, c2, S ++ C, hsz78, hde78, f0, f1, f2, f6, Lib.hid (by have := Hc2.out; omega), HSBn, HownM, HbM, rfl⟩
    refine wp_region_lit ?_
    refine wpList_next rfl hsz66 hde66 52 rfl (by decide) fun K hK => ?_
    go_simp
    refine hK _ _ fun a67 hsz67 hde67 f52 hk => ?_
    clear hK K
    replace f0 := (hk 0 (by decide)).trans f0
    replace f1 := (hk 1 (by decide)).trans f1
    replace f2 := (hk 2 (by decide)).trans f2
    replace f6 := (hk 6 (by decide)).trans f6
    replace f7 := (hk 7 (by decide)).trans f7
    replace f9 := (hk 9 (by decide)).trans f9
    replace f52 : a67.tmps[52]?.getD undef = .int .i64 ((mm : Nat) : Int) := f52
    clear hk hsz66 hde66
    refine wpList_next rfl hsz67 hde67 53 rfl (by decide) fun K hK => ?_
    go_simp
    refine hK _ _ fun a68 hsz68 hde68 f53 hk => ?_
    clear hK K
    replace f0 := (hk 0 (by decide)).trans f0
    replace f1 := (hk 1 (by decide)).trans f1
    replace f2 := (hk 2 (by decide)).trans f2
    replace f6 := (hk 6 (by decide)).trans f6
    replace f7 := (hk 7 (by decide)).trans f7
    replace f9 := (hk 9 (by decide)).trans f9
    replace f52 := (hk 52 (by decide)).trans f52
    replace f53 : a68.tmps[53]?.getD undef = .int .i64 ((n : Nat) : Int) := f53
    clear hk hsz67 hde67
    refine wpList_next rfl hsz68 hde68 54 rfl (by decide) fun K hK => ?_
    go_simp
    refine hK _ _ fun a69 hsz69 hde69 f54 hk => ?_
    clear hK K
    replace f0 := (hk 0 (by decide)).trans f0
    replace f1 := (hk 1 (by decide)).trans f1
    replace f2 := (hk 2 (by decide)).trans f2
    replace f6 := (hk 6 (by decide)).trans f6
    replace f7 := (hk 7 (by decide)).trans f7
    replace f9 := (hk 9 (by decide)).trans f9
    clear hk hsz68 hde68 f52 f53
    replace f54 : a69.tmps[54]?.getD undef = .bool false := f54.trans (by first | rfl | (congr 1; first | exact decide_eq_true (by omega) | exact decide_eq_false (by omega)) | (simp; omega))
    refine wpList_nil ?_
    refine then_go ?_
    repeat with_reducible refine wp_seq ?_
    refine wp_cond_false (eval_at f54) ?_
    clear f54 f7 f9
    refine wp_skip ?_
    have hone := HS.out.one (by have := Hmm.out; have := Hnu.out; omega)
    have HSBn := Lib.hid (show SB c2 (S ++ R) L by rw [HLe.out]; exact HF.out.sb (.last R U hone.1 hone.2 (by have := Hc2.out; omega)))
    clear hone
    repeat first | with_reducible refine block_go ?_ | with_reducible refine then_go ?_
    repeat with_reducible refine wp_seq ?_
    refine wp_region_lit ?_
    refine wpList_next rfl hsz69 hde69 61 rfl (by decide) fun K hK => ?_
    go_simp
    refine hK _ _ fun a70 hsz70 hde70 f61 hk => ?_
    clear hK K
    replace f0 := (hk 0 (by decide)).trans f0
    replace f1 := (hk 1 (by decide)).trans f1
    replace f2 := (hk 2 (by decide)).trans f2
    replace f6 := (hk 6 (by decide)).trans f6
    replace f61 : a70.tmps[61]?.getD undef = .int .i64 ((bs : Nat) : Int) := f61
    clear hk hsz69 hde69
    refine wpList_next rfl hsz70 hde70 62 rfl (by decide) fun K hK => ?_
    go_simp
    refine hK _ _ fun a71 hsz71 hde71 f62 hk => ?_
    clear hK K
    replace f0 := (hk 0 (by decide)).trans f0
    replace f1 := (hk 1 (by decide)).trans f1
    replace f2 := (hk 2 (by decide)).trans f2
    replace f6 := (hk 6 (by decide)).trans f6
    clear hk hsz70 hde70 f61
    replace f62 : a71.tmps[62]?.getD undef = .int .i64 (((c2 : Nat) : Int)) := f62.trans (by have h7 := Hc2.out; first | rfl | (congr 1; done) | (congr 1; omega) | (congr 1; rw [IntKind.wrap_i64] <;> omega))
    refine wpList_next rfl hsz71 hde71 6 rfl (by decide) fun K hK => ?_
    go_simp
    refine hK _ _ fun a72 hsz72 hde72 f6 hk => ?_
    clear hK K
    replace f0 := (hk 0 (by decide)).trans f0
    replace f1 := (hk 1 (by decide)).trans f1
    replace f2 := (hk 2 (by decide)).trans f2
    replace f6 : a72.tmps[6]?.getD undef = .int .i64 ((c2 : Nat) : Int) := f6
    clear hk hsz71 hde71 f62
    refine wpList_nil ?_
    repeat first | with_reducible refine block_go ?_ | with_reducible refine then_go ?_
    exact ⟨n - c2, by rw [Hn4.out]; have := Hc2.out; omega, c2, S ++ R, hsz72, hde72, f0, f1, f2, f6, Lib.hid (by have := Hc2.out; omega), HSBn, Hown, Hbw, rfl⟩
  refine wp_region_lit ?_
  refine wpList_next rfl hsz39 hde39 28 rfl (by decide) fun K hK => ?_
  go_simp
  refine hK _ _ fun a40 hsz40 hde40 f28 hk => ?_
  clear hK K
  replace f0 := (hk 0 (by decide)).trans f0
  replace f1 := (hk 1 (by decide)).trans f1
  replace f2 := (hk 2 (by decide)).trans f2
  replace f6 := (hk 6 (by decide)).trans f6
  replace f28 : a40.tmps[28]?.getD undef = .int .i64 ((bs : Nat) : Int) := f28
  clear hk hsz39 hde39
  refine wpList_next rfl hsz40 hde40 29 rfl (by decide) fun K hK => ?_
  go_simp
  refine hK _ _ fun a41 hsz41 hde41 f29 hk => ?_
  clear hK K
  replace f0 := (hk 0 (by decide)).trans f0
  replace f1 := (hk 1 (by decide)).trans f1
  replace f2 := (hk 2 (by decide)).trans f2
  replace f6 := (hk 6 (by decide)).trans f6
  replace f28 := (hk 28 (by decide)).trans f28
  replace f29 : a41.tmps[29]?.getD undef = .int .i64 ((n : Nat) : Int) := f29
  clear hk hsz40 hde40
  refine wpList_next rfl hsz41 hde41 30 rfl (by decide) fun K hK => ?_
  go_simp
  refine hK _ _ fun a42 hsz42 hde42 f30 hk => ?_
  clear hK K
  replace f0 := (hk 0 (by decide)).trans f0
  replace f1 := (hk 1 (by decide)).trans f1
  replace f2 := (hk 2 (by decide)).trans f2
  replace f6 := (hk 6 (by decide)).trans f6
  clear hk hsz41 hde41 f28 f29
  replace f30 : a42.tmps[30]?.getD undef = .bool false := f30.trans (by first | rfl | (congr 1; first | exact decide_eq_true (by omega) | exact decide_eq_false (by omega)) | (simp; omega))
  refine wpList_nil ?_
  refine then_go ?_
  repeat with_reducible refine wp_seq ?_
  refine wp_cond_false (eval_at f30) ?_
  refine wp_exit ?_
  repeat with_reducible refine then_exit ?_
  refine block_exit ?_
  have hone := HSB.out.one (by have h7 := HSB.out.perm.length_eq; have := Hn.out; omega)
  refine end_none Tryd.results66 hde42 ⟨rfl, ⟨M, Hown.out, hone.1, hone.2⟩, Hbw.out⟩

set_option maxHeartbeats 4000000 in
theorem sortstable_any (base : Nat) (v : Value) (L : List Ent) (w : World) (hown : OwnE w base v L) (hL : L.Pairwise prec) (hl : L.length ≤ 1000) (hb : base ≤ w.heap.size) :
    Calls Tryd.prog 48 #[v, .func (.func 49) #[] #[]] w (StPost base v L w) := by
  have Hst := Lib.hid (stable_any base v L w hown hL hl hb L.length rfl)
  obtain ⟨A, c, rfl⟩ : ∃ A c, v = .slice A L.length c := let ⟨A, c, e, _⟩ := ent_at hown.isL; ⟨A, c, e⟩
  obtain ⟨n, hn⟩ : ∃ n, n = L.length := ⟨_, rfl⟩
  rw [← hn] at Hst ⊢
  clear hown hL hb hl hn
  go_enter Tryd.func48, Tryd.ntmps48
  refine enter_abs (N := 9) rfl rfl fun a0 hsz0 hde0 hk => ?_
  have f0 : a0.tmps[0]?.getD undef = .slice A n c := hk 0
  have f1 : a0.tmps[1]?.getD undef = .func (.func 49) #[] #[] := hk 1
  clear hk
  refine wp_region_lit ?_
  refine wpList_next rfl hsz0 hde0 4 rfl (by decide) fun K hK => ?_
  go_simp
  refine hK _ _ fun a1 hsz1 hde1 f4 hk => ?_
  clear hK K
  replace f0 := (hk 0 (by decide)).trans f0
  replace f1 := (hk 1 (by decide)).trans f1
  replace f4 : a1.tmps[4]?.getD undef = .slice A n c := f4
  clear hk hsz0 hde0
  refine wpList_next rfl hsz1 hde1 5 rfl (by decide) fun K hK => ?_
  go_simp
  refine hK _ _ fun a2 hsz2 hde2 f5 hk => ?_
  clear hK K
  replace f0 := (hk 0 (by decide)).trans f0
  replace f1 := (hk 1 (by decide)).trans f1
  replace f4 := (hk 4 (by decide)).trans f4
  replace f5 : a2.tmps[5]?.getD undef = .slice A n c := f5
  clear hk hsz1 hde1
  refine wpList_next rfl hsz2 hde2 6 rfl (by decide) fun K hK => ?_
  go_simp
  refine hK _ _ fun a3 hsz3 hde3 f6 hk => ?_
  clear hK K
  replace f0 := (hk 0 (by decide)).trans f0
  replace f1 := (hk 1 (by decide)).trans f1
  replace f4 := (hk 4 (by decide)).trans f4
  replace f6 : a3.tmps[6]?.getD undef = .int .i64 ((n : Nat) : Int) := f6
  clear hk hsz2 hde2 f5
  refine wpList_next rfl hsz3 hde3 7 rfl (by decide) fun K hK => ?_
  go_simp
  refine hK _ _ fun a4 hsz4 hde4 f7 hk => ?_
  clear hK K
  replace f0 := (hk 0 (by decide)).trans f0
  replace f1 := (hk 1 (by decide)).trans f1
  replace f4 := (hk 4 (by decide)).trans f4
  replace f6 := (hk 6 (by decide)).trans f6
  replace f7 : a4.tmps[7]?.getD undef = .func (.func 49) #[] #[] := f7
  clear hk hsz3 hde3
  refine wpList_next rfl hsz4 hde4 8 rfl (by decide) fun K hK => ?_
  go_simp
  refine Hst.out.mono ?_
  rintro e7 w7 ⟨rfl, hM, hb7⟩
  go_simp
  refine hK _ _ fun a5 hsz5 hde5 f8 hk => ?_
  clear hK K
  replace f0 := (hk 0 (by decide)).trans f0
  replace f1 := (hk 1 (by decide)).trans f1
  clear hk hsz4 hde4 f4 f6 f7
  clear f8
  refine wpList_nil ?_
  refine end_none Tryd.results48 hde5 ⟨rfl, hM, hb7⟩
end Go.Proofs.YtcpjgohclncbkaaDoor
