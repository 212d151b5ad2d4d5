/-
  The document's Check.
-/
import Derived.Test.YtgebodibamgipaaGreatDoorChCheck
import Derived.Test.YtgebodibamgipaaGreatDoorVeGood
namespace Go.Proofs.YtgebodibamgipaaGreatDoor
open Go.RowKit
set_option maxRecDepth 100000

def tblG (T : List (Nat × Value)) (s : Nat) (u : Value) (_ : World) : Prop := match T.lookup s with | some v => u = v | none => True
def RcInv (w : World) (v : Value) (L : List Txt) (n : Nat) (k9 : Nat) (a : Act) (x : World) : Prop :=
  ∃ i : Nat, Hid (a.tmps.size = 41) ∧ Hid (a.defers = []) ∧ a.tmps[0]?.getD undef = v ∧ a.tmps[3]?.getD undef = .int .i64 ((i : Nat) : Int) ∧ Hid (i ≤ n) ∧ Hid (∀ k, k < i → chAt L k = 0) ∧ Hid (Below w.heap.size w x) ∧ k9 = n - i
set_option maxHeartbeats 4000000 in
theorem refcheck14_any (ok : Nat → Prop) (A : Option Addr) (c : Nat) (L : List Txt) (w : World) (hL : Rd w ok A (L.map str)) (hl : L.length ≤ 100000) :
    Calls Tryz.prog 10 #[.slice A L.length c] w fun e w' => e = .returned (.int .i64 (chCheck L)) ∧ Below w.heap.size w w' := by
  have HL := Lib.hid hL
  have Hun := Lib.hid fun s z (hz : Below w.heap.size w z) => refunder_any ok A c L s z (hL.grow hz) hl
  have Hpa := Lib.hid fun s z (_hz : Below w.heap.size w z) => refpath_any s z
  obtain ⟨n, hn⟩ : ∃ n, n = L.length := ⟨_, rfl⟩
  rw [← hn] at hl Hun ⊢
  have Hn := Lib.hid hn
  clear hL hn
  go_enter Tryz.func10, Tryz.ntmps10
  refine enter_abs (N := 41) rfl rfl fun a0 hsz0 hde0 hk => ?_
  have f0 : a0.tmps[0]?.getD undef = .slice A n c := hk 0
  clear hk
  repeat with_reducible refine wp_seq ?_
  refine wp_region_lit ?_
  refine wpList_next rfl hsz0 hde0 2 rfl (by decide) fun K hK => ?_
  go_simp
  refine hK _ _ fun a1 hsz1 hde1 f2 hk => ?_
  clear hK K
  replace f0 := (hk 0 (by decide)).trans f0
  clear hk hsz0 hde0
  refine wpList_nil ?_
  clear f2
  refine then_go ?_
  repeat with_reducible refine wp_seq ?_
  by_cases h8 : 8 < n
  · skip
    refine wp_region_lit ?_
    refine wpList_next rfl hsz1 hde1 4 rfl (by decide) fun K hK => ?_
    go_simp
    refine hK _ _ fun a2 hsz2 hde2 f4 hk => ?_
    clear hK K
    replace f0 := (hk 0 (by decide)).trans f0
    replace f4 : a2.tmps[4]?.getD undef = .slice A n c := f4
    clear hk hsz1 hde1
    refine wpList_next rfl hsz2 hde2 5 rfl (by decide) fun K hK => ?_
    go_simp
    refine hK _ _ fun a3 hsz3 hde3 f5 hk => ?_
    clear hK K
    replace f0 := (hk 0 (by decide)).trans f0
    replace f5 : a3.tmps[5]?.getD undef = .int .i64 ((n : Nat) : Int) := f5
    clear hk hsz2 hde2 f4
    refine wpList_next rfl hsz3 hde3 6 rfl (by decide) fun K hK => ?_
    go_simp
    refine hK _ _ fun a4 hsz4 hde4 f6 hk => ?_
    clear hK K
    replace f0 := (hk 0 (by decide)).trans f0
    clear hk hsz3 hde3 f5
    replace f6 : a4.tmps[6]?.getD undef = .bool true := f6.trans (by first | rfl | (congr 1; first | exact decide_eq_true (by omega) | exact decide_eq_false (by omega)) | (simp; omega))
    refine wpList_nil ?_
    refine then_go ?_
    repeat with_reducible refine wp_seq ?_
    refine wp_cond_true (eval_at f6) ?_
    clear f6
    repeat with_reducible refine wp_seq ?_
    refine wp_region_lit ?_
    refine wpList_next rfl hsz4 hde4 2 rfl (by decide) fun K hK => ?_
    go_simp
    refine hK _ _ fun a5 hsz5 hde5 f2 hk => ?_
    clear hK K
    replace f0 := (hk 0 (by decide)).trans f0
    replace f2 : a5.tmps[2]?.getD undef = .int .i64 4 := f2
    clear hk hsz4 hde4
    refine wpList_nil ?_
    refine then_go ?_
    refine wp_ret ?_
    repeat first | with_reducible refine then_ret ?_ | with_reducible refine block_ret ?_
    refine ret_tmp Tryz.results10 hde5 f2 ?_
    exact ⟨by rw [show chCheck L = 4 from if_pos (by rw [← Hn.out]; exact h8)], Below.refl _ _⟩
  refine wp_region_lit ?_
  refine wpList_next rfl hsz1 hde1 4 rfl (by decide) fun K hK => ?_
  go_simp
  refine hK _ _ fun a2 hsz2 hde2 f4 hk => ?_
  clear hK K
  replace f0 := (hk 0 (by decide)).trans f0
  replace f4 : a2.tmps[4]?.getD undef = .slice A n c := f4
  clear hk hsz1 hde1
  refine wpList_next rfl hsz2 hde2 5 rfl (by decide) fun K hK => ?_
  go_simp
  refine hK _ _ fun a3 hsz3 hde3 f5 hk => ?_
  clear hK K
  replace f0 := (hk 0 (by decide)).trans f0
  replace f5 : a3.tmps[5]?.getD undef = .int .i64 ((n : Nat) : Int) := f5
  clear hk hsz2 hde2 f4
  refine wpList_next rfl hsz3 hde3 6 rfl (by decide) fun K hK => ?_
  go_simp
  refine hK _ _ fun a4 hsz4 hde4 f6 hk => ?_
  clear hK K
  replace f0 := (hk 0 (by decide)).trans f0
  clear hk hsz3 hde3 f5
  replace f6 : a4.tmps[6]?.getD undef = .bool false := f6.trans (by first | rfl | (congr 1; first | exact decide_eq_true (by omega) | exact decide_eq_false (by omega)) | (simp; omega))
  refine wpList_nil ?_
  refine then_go ?_
  repeat with_reducible refine wp_seq ?_
  refine wp_cond_false (eval_at f6) ?_
  refine wp_skip ?_
  refine then_go ?_
  clear f6
  repeat with_reducible refine wp_seq ?_
  have H8 := Lib.hid (show ¬ 8 < L.length by rw [← Hn.out]; exact h8)
  refine wp_region_lit ?_
  refine wpList_next rfl hsz4 hde4 3 rfl (by decide) fun K hK => ?_
  go_simp
  refine hK _ _ fun a5 hsz5 hde5 f3 hk => ?_
  clear hK K
  replace f0 := (hk 0 (by decide)).trans f0
  replace f3 : a5.tmps[3]?.getD undef = .int .i64 ((0 : Nat) : Int) := f3
  clear hk hsz4 hde4
  refine wpList_nil ?_
  refine then_go ?_
  repeat with_reducible refine wp_seq ?_
  refine wp_block ?_
  refine wp_loop_ghost (RcInv w (.slice A n c) L n) (n - 0) ?_ ?_
  · exact ⟨0, hsz5, hde5, f0, f3, Lib.hid (Nat.zero_le _), Lib.hid (fun k hk => absurd hk (Nat.not_lt_zero k)), Lib.hid (Below.refl _ _), rfl⟩
  clear hsz5 hde5 f0 f3
  intro n2 a19 wr hI
  obtain ⟨i, hsz19, hde19, f0, f3, Hi, Hno, Hbw, hn2⟩ := hI
  have Hn2 := Lib.hid hn2
  clear hn2
  repeat with_reducible refine wp_seq ?_
  by_cases hlt : i < n
  · skip
    refine wp_region_lit ?_
    refine wpList_next rfl hsz19 hde19 7 rfl (by decide) fun K hK => ?_
    go_simp
    refine hK _ _ fun a20 hsz20 hde20 f7 hk => ?_
    clear hK K
    replace f0 := (hk 0 (by decide)).trans f0
    replace f3 := (hk 3 (by decide)).trans f3
    clear hk hsz19 hde19
    refine wpList_next rfl hsz20 hde20 8 rfl (by decide) fun K hK => ?_
    go_simp
    refine hK _ _ fun a21 hsz21 hde21 f8 hk => ?_
    clear hK K
    replace f0 := (hk 0 (by decide)).trans f0
    replace f3 := (hk 3 (by decide)).trans f3
    replace f7 := (hk 7 (by decide)).trans f7
    clear hk hsz20 hde20
    refine wpList_next rfl hsz21 hde21 9 rfl (by decide) fun K hK => ?_
    go_simp
    refine hK _ _ fun a22 hsz22 hde22 f9 hk => ?_
    clear hK K
    replace f0 := (hk 0 (by decide)).trans f0
    replace f3 := (hk 3 (by decide)).trans f3
    replace f7 := (hk 7 (by decide)).trans f7
    clear hk hsz21 hde21 f8
    refine wpList_next rfl hsz22 hde22 10 rfl (by decide) fun K hK => ?_
    go_simp
    refine hK _ _ fun a23 hsz23 hde23 f10 hk => ?_
    clear hK K
    replace f0 := (hk 0 (by decide)).trans f0
    replace f3 := (hk 3 (by decide)).trans f3
    clear hk hsz22 hde22 f7 f9
    replace f10 : a23.tmps[10]?.getD undef = .bool true := f10.trans (by first | rfl | (congr 1; first | exact decide_eq_true (by omega) | exact decide_eq_false (by omega)) | (simp; omega))
    refine wpList_nil ?_
    refine then_go ?_
    repeat with_reducible refine wp_seq ?_
    refine wp_cond_true (eval_at f10) ?_
    refine wp_skip ?_
    refine then_go ?_
    clear f10
    repeat with_reducible refine wp_seq ?_
    refine wp_block ?_
    repeat with_reducible refine wp_seq ?_
    have hil : i < L.length := by rw [← Hn.out]; exact hlt
    obtain ⟨b, off, hA, hc⟩ := cells_at Hbw.out HL.out (by intro e; subst e; simp at hil)
    have c1 := hc i hil
    obtain ⟨tx, hx⟩ : ∃ x, x = L[i] := ⟨_, rfl⟩
    rw [← hx] at c1
    have Hx := Lib.hid hx
    have hi0 : (0 : Int) ≤ (i : Int) := by omega
    have hinn : (i : Int) < (n : Int) := by omega
    subst hA
    have Hip := Lib.hid (Hpa.out tx wr Hbw.out)
    obtain ⟨p, hp⟩ : ∃ q, q = pathB tx := ⟨_, rfl⟩
    rw [← hp] at Hip
    have Hp := Lib.hid hp
    have Hux := Lib.hid (Hun.out tx)
    obtain ⟨u, hu⟩ : ∃ u, u = underB L tx := ⟨_, rfl⟩
    rw [← hu] at Hux
    have Hu := Lib.hid hu
    obtain ⟨y, hy⟩ : ∃ y, y = L.getD (i - 1) [] := ⟨_, rfl⟩
    obtain ⟨d, hd⟩ : ∃ d, d = decide (tx ≤ y) := ⟨_, rfl⟩
    have Hd := Lib.hid hd
    have Hat := Lib.hid (show chAt L i = if p = false then 20 else if ((decide (0 < i) && d) || u) = true then 7 else 0 from chAt_eq hil (by rw [hp, hx]) (by rw [hd, hx, hy]) (by rw [hu, hx]))
    have Hcy := Lib.hid (show 0 < i → ∀ z, Below w.heap.size w z → z.cell? ⟨b, off + (i - 1), none⟩ = some (.string ⟨y.toArray⟩) from fun h z hz => by
      have h1 : i - 1 < L.length := by omega
      obtain ⟨b5, off5, hA5, hc5⟩ := cells_at hz HL.out (by intro e; subst e; simp at hil)
      cases hA5
      rw [hc5 (i - 1) h1, hy]
      simp [h1])
    have Hcx := Lib.hid (show ∀ z, Below w.heap.size w z → z.cell? ⟨b, off + i, none⟩ = some (.string ⟨tx.toArray⟩) from fun z hz => by
      obtain ⟨b5, off5, hA5, hc5⟩ := cells_at hz HL.out (by intro e; subst e; simp at hil)
      cases hA5
      rw [hc5 i hil, hx])
    clear hc hx hp hu hd hy
    refine wp_region_lit ?_
    refine wpList_next rfl hsz23 hde23 13 rfl (by decide) fun K hK => ?_
    go_simp
    refine hK _ _ fun a24 hsz24 hde24 f13 hk => ?_
    clear hK K
    replace f0 := (hk 0 (by decide)).trans f0
    replace f3 := (hk 3 (by decide)).trans f3
    replace f13 : a24.tmps[13]?.getD undef = .slice (some ⟨b, off, none⟩) n c := f13
    clear hk hsz23 hde23
    refine wpList_next rfl hsz24 hde24 14 rfl (by decide) fun K hK => ?_
    go_simp
    refine hK _ _ fun a25 hsz25 hde25 f14 hk => ?_
    clear hK K
    replace f0 := (hk 0 (by decide)).trans f0
    replace f3 := (hk 3 (by decide)).trans f3
    replace f13 := (hk 13 (by decide)).trans f13
    replace f14 : a25.tmps[14]?.getD undef = .int .i64 ((i : Nat) : Int) := f14
    clear hk hsz24 hde24
    refine wpList_next rfl hsz25 hde25 15 rfl (by decide) fun K hK => ?_
    go_simp
    refine hK _ _ fun a26 hsz26 hde26 f15 hk => ?_
    clear hK K
    replace f0 := (hk 0 (by decide)).trans f0
    replace f3 := (hk 3 (by decide)).trans f3
    replace f15 : a26.tmps[15]?.getD undef = .pointer (some ⟨b, off + i, none⟩) := f15
    clear hk hsz25 hde25 f13 f14
    refine wpList_next rfl hsz26 hde26 16 rfl (by decide) fun K hK => ?_
    go_simp
    refine hK _ _ fun a27 hsz27 hde27 f16 hk => ?_
    clear hK K
    replace f0 := (hk 0 (by decide)).trans f0
    replace f3 := (hk 3 (by decide)).trans f3
    replace f16 : a27.tmps[16]?.getD undef = .string ⟨tx.toArray⟩ := f16
    clear hk hsz26 hde26 f15
    refine wpList_next rfl hsz27 hde27 17 rfl (by decide) fun K hK => ?_
    go_simp
    refine (Hip.out).mono ?_
    rintro e1 w1 ⟨rfl, hb1⟩
    go_simp
    refine hK _ _ fun a28 hsz28 hde28 f17 hk => ?_
    clear hK K
    replace f0 := (hk 0 (by decide)).trans f0
    replace f3 := (hk 3 (by decide)).trans f3
    replace f17 : a28.tmps[17]?.getD undef = .bool p := f17
    clear hk hsz27 hde27 f16
    have Hb1 := Lib.hid (below_call Hbw.out hb1)
    clear hb1
    refine wpList_next rfl hsz28 hde28 18 rfl (by decide) fun K hK => ?_
    go_simp
    refine hK _ _ fun a29 hsz29 hde29 f18 hk => ?_
    clear hK K
    replace f0 := (hk 0 (by decide)).trans f0
    replace f3 := (hk 3 (by decide)).trans f3
    replace f18 : a29.tmps[18]?.getD undef = .bool (!p) := f18
    clear hk hsz28 hde28 f17
    refine wpList_nil ?_
    clear c1
    refine then_go ?_
    repeat with_reducible refine wp_seq ?_
    cases p with
    | false =>
      replace f18 : a29.tmps[18]?.getD undef = .bool true := f18
      refine wp_cond_true (eval_at f18) ?_
      clear f18
      repeat with_reducible refine wp_seq ?_
      refine wp_region_lit ?_
      refine wpList_next rfl hsz29 hde29 2 rfl (by decide) fun K hK => ?_
      go_simp
      refine hK _ _ fun a30 hsz30 hde30 f2 hk => ?_
      clear hK K
      replace f0 := (hk 0 (by decide)).trans f0
      replace f3 := (hk 3 (by decide)).trans f3
      replace f2 : a30.tmps[2]?.getD undef = .int .i64 20 := f2
      clear hk hsz29 hde29
      refine wpList_nil ?_
      refine then_go ?_
      refine wp_ret ?_
      repeat first | with_reducible refine then_ret ?_ | with_reducible refine block_ret ?_
      refine ret_tmp Tryz.results10 hde30 f2 ?_
      exact ⟨by rw [chCheck_at H8.out hil Hno.out (by rw [Hat.out]; rw [if_pos rfl]; decide), Hat.out]; rw [if_pos rfl], Hb1.out⟩
    | true =>
      replace f18 : a29.tmps[18]?.getD undef = .bool false := f18
      refine wp_cond_false (eval_at f18) ?_
      refine wp_skip ?_
      refine then_go ?_
      clear f18
      repeat with_reducible refine wp_seq ?_
      have Hat2 := Lib.hid (show chAt L i = if ((decide (0 < i) && d) || u) = true then 7 else 0 by rw [Hat.out, if_neg (by simp)])
      clear Hat
      by_cases h0 : i = 0
      · have H0 := Lib.hid (show ¬ 0 < i by omega)
        have h0n : ¬ 0 < i := H0.out
        clear h0
        refine wp_region_goodg (tblG [(19, .int .i64 ((i : Nat) : Int)), (20, .bool false), (21, .bool false), (22, undef), (23, undef), (24, undef), (25, undef), (26, undef), (27, undef), (28, undef), (29, undef), (30, undef), (31, undef), (32, .bool false), (33, .bool false), (34, .slice (some ⟨b, off, none⟩) n c), (35, .slice (some ⟨b, off, none⟩) n c), (36, .int .i64 ((i : Nat) : Int)), (37, .pointer (some ⟨b, off + i, none⟩)), (38, .string ⟨tx.toArray⟩), (39, .bool u), (40, .bool u)]) 41 (by kernel_rfl) (by kernel_rfl) (by kernel_rfl) (by kernel_rfl) hsz29.out ?_ ?_ ?_
        · intro t v7 x x' h _ _
          exact h
        · intro i7 o hi7 a x hbx hsame hpre K hK
          have hlt7 : i7 < 22 := (Array.getElem?_eq_some_iff.1 hi7).1
          rcases (show i7 = 0 ∨ i7 = 1 ∨ i7 = 2 ∨ i7 = 3 ∨ i7 = 4 ∨ i7 = 5 ∨ i7 = 6 ∨ i7 = 7 ∨ i7 = 8 ∨ i7 = 9 ∨ i7 = 10 ∨ i7 = 11 ∨ i7 = 12 ∨ i7 = 13 ∨ i7 = 14 ∨ i7 = 15 ∨ i7 = 16 ∨ i7 = 17 ∨ i7 = 18 ∨ i7 = 19 ∨ i7 = 20 ∨ i7 = 21 by omega) with rfl | rfl | rfl | rfl | rfl | rfl | rfl | rfl | rfl | rfl | rfl | rfl | rfl | rfl | rfl | rfl | rfl | rfl | rfl | rfl | rfl | rfl
          all_goals (have ho := Option.some.inj hi7; subst ho; clear hi7 hlt7)
          · have q3 : a.tmps[3]?.getD undef = .int .i64 ((i : Nat) : Int) := (hsame 3 (by decide +kernel)).trans f3
            refine step_plain rfl ?_
            have hk := Lib.hid (show ∀ v7 x', v7 = .int .i64 ((i : Nat) : Int) → Below x.heap.size x x' → K (a.put (some 19) v7) x' from hK)
            have Hbx := Lib.hid hbx
            clear hsame hpre hK hbx
            go_simp
            exact hk.out _ _ rfl (Below.refl _ _)
          · have q19 : a.tmps[19]?.getD undef = .int .i64 ((i : Nat) : Int) := hpre ⟨0, .data⟩ (by simp) rfl (by decide)
            refine step_plain rfl ?_
            have hk := Lib.hid (show ∀ v7 x', v7 = .bool false → Below x.heap.size x x' → K (a.put (some 20) v7) x' from hK)
            have Hbx := Lib.hid hbx
            clear hsame hpre hK hbx
            go_simp
            exact hk.out _ _ (by first | rfl | (congr 1; exact decide_eq_false (by omega)) | (simp; omega)) (Below.refl _ _)
          · have q20 : a.tmps[20]?.getD undef = .bool false := hpre ⟨1, .data⟩ (by simp) rfl (by decide)
            refine step_plain rfl ?_
            have hk := Lib.hid (show ∀ v7 x', v7 = .bool false → Below x.heap.size x x' → K (a.put (some 21) v7) x' from hK)
            have Hbx := Lib.hid hbx
            clear hsame hpre hK hbx
            go_simp
            exact hk.out _ _ rfl (Below.refl _ _)
          · have w21 : a.tmps[21]?.getD undef = .bool false := hpre ⟨2, .guard⟩ (by simp) rfl (by decide)
            refine step_left (not_wanted (j := 2) (t := 21) (b := true) rfl rfl (.inr w21)) ?_
            have hk := Lib.hid (show ∀ v7 x', v7 = undef → Below x.heap.size x x' → K (a.put (some 22) v7) x' from hK)
            have Hbx := Lib.hid hbx
            clear hsame hpre hK hbx w21
            exact hk.out _ _ rfl (Below.refl _ _)
          · have w21 : a.tmps[21]?.getD undef = .bool false := hpre ⟨2, .guard⟩ (by simp) rfl (by decide)
            refine step_left (not_wanted (j := 2) (t := 21) (b := true) rfl rfl (.inr w21)) ?_
            have hk := Lib.hid (show ∀ v7 x', v7 = undef → Below x.heap.size x x' → K (a.put (some 23) v7) x' from hK)
            have Hbx := Lib.hid hbx
            clear hsame hpre hK hbx w21
            exact hk.out _ _ rfl (Below.refl _ _)
          · have w21 : a.tmps[21]?.getD undef = .bool false := hpre ⟨2, .guard⟩ (by simp) rfl (by decide)
            refine step_left (not_wanted (j := 2) (t := 21) (b := true) rfl rfl (.inr w21)) ?_
            have hk := Lib.hid (show ∀ v7 x', v7 = undef → Below x.heap.size x x' → K (a.put (some 24) v7) x' from hK)
            have Hbx := Lib.hid hbx
            clear hsame hpre hK hbx w21
            exact hk.out _ _ rfl (Below.refl _ _)
          · have w21 : a.tmps[21]?.getD undef = .bool false := hpre ⟨2, .guard⟩ (by simp) rfl (by decide)
            refine step_left (not_wanted (j := 2) (t := 21) (b := true) rfl rfl (.inr w21)) ?_
            have hk := Lib.hid (show ∀ v7 x', v7 = undef → Below x.heap.size x x' → K (a.put (some 25) v7) x' from hK)
            have Hbx := Lib.hid hbx
            clear hsame hpre hK hbx w21
            exact hk.out _ _ rfl (Below.refl _ _)
          · have w21 : a.tmps[21]?.getD undef = .bool false := hpre ⟨2, .guard⟩ (by simp) rfl (by decide)
            refine step_left (not_wanted (j := 2) (t := 21) (b := true) rfl rfl (.inr w21)) ?_
            have hk := Lib.hid (show ∀ v7 x', v7 = undef → Below x.heap.size x x' → K (a.put (some 26) v7) x' from hK)
            have Hbx := Lib.hid hbx
            clear hsame hpre hK hbx w21
            exact hk.out _ _ rfl (Below.refl _ _)
          · have w21 : a.tmps[21]?.getD undef = .bool false := hpre ⟨2, .guard⟩ (by simp) rfl (by decide)
            refine step_left (not_wanted (j := 2) (t := 21) (b := true) rfl rfl (.inr w21)) ?_
            have hk := Lib.hid (show ∀ v7 x', v7 = undef → Below x.heap.size x x' → K (a.put (some 27) v7) x' from hK)
            have Hbx := Lib.hid hbx
            clear hsame hpre hK hbx w21
            exact hk.out _ _ rfl (Below.refl _ _)
          · have w21 : a.tmps[21]?.getD undef = .bool false := hpre ⟨2, .guard⟩ (by simp) rfl (by decide)
            refine step_left (not_wanted (j := 2) (t := 21) (b := true) rfl rfl (.inr w21)) ?_
            have hk := Lib.hid (show ∀ v7 x', v7 = undef → Below x.heap.size x x' → K (a.put (some 28) v7) x' from hK)
            have Hbx := Lib.hid hbx
            clear hsame hpre hK hbx w21
            exact hk.out _ _ rfl (Below.refl _ _)
          · have w21 : a.tmps[21]?.getD undef = .bool false := hpre ⟨2, .guard⟩ (by simp) rfl (by decide)
            refine step_left (not_wanted (j := 2) (t := 21) (b := true) rfl rfl (.inr w21)) ?_
            have hk := Lib.hid (show ∀ v7 x', v7 = undef → Below x.heap.size x x' → K (a.put (some 29) v7) x' from hK)
            have Hbx := Lib.hid hbx
            clear hsame hpre hK hbx w21
            exact hk.out _ _ rfl (Below.refl _ _)
          · have w21 : a.tmps[21]?.getD undef = .bool false := hpre ⟨2, .guard⟩ (by simp) rfl (by decide)
            refine step_left (not_wanted (j := 2) (t := 21) (b := true) rfl rfl (.inr w21)) ?_
            have hk := Lib.hid (show ∀ v7 x', v7 = undef → Below x.heap.size x x' → K (a.put (some 30) v7) x' from hK)
            have Hbx := Lib.hid hbx
            clear hsame hpre hK hbx w21
            exact hk.out _ _ rfl (Below.refl _ _)
          · have w21 : a.tmps[21]?.getD undef = .bool false := hpre ⟨2, .guard⟩ (by simp) rfl (by decide)
            refine step_left (not_wanted (j := 2) (t := 21) (b := true) rfl rfl (.inr w21)) ?_
            have hk := Lib.hid (show ∀ v7 x', v7 = undef → Below x.heap.size x x' → K (a.put (some 31) v7) x' from hK)
            have Hbx := Lib.hid hbx
            clear hsame hpre hK hbx w21
            exact hk.out _ _ rfl (Below.refl _ _)
          · have q21 : a.tmps[21]?.getD undef = .bool false := hpre ⟨2, .data⟩ (by simp) rfl (by decide)
            have q31 : a.tmps[31]?.getD undef = undef := hpre ⟨12, .data⟩ (by simp) rfl (by decide)
            refine step_plain rfl ?_
            have hk := Lib.hid (show ∀ v7 x', v7 = .bool false → Below x.heap.size x x' → K (a.put (some 32) v7) x' from hK)
            have Hbx := Lib.hid hbx
            clear hsame hpre hK hbx
            go_simp
            exact hk.out _ _ rfl (Below.refl _ _)
          · have q32 : a.tmps[32]?.getD undef = .bool false := hpre ⟨13, .data⟩ (by simp) rfl (by decide)
            refine step_plain rfl ?_
            have hk := Lib.hid (show ∀ v7 x', v7 = .bool false → Below x.heap.size x x' → K (a.put (some 33) v7) x' from hK)
            have Hbx := Lib.hid hbx
            clear hsame hpre hK hbx
            go_simp
            exact hk.out _ _ rfl (Below.refl _ _)
          · have q0 : a.tmps[0]?.getD undef = .slice (some ⟨b, off, none⟩) n c := (hsame 0 (by decide +kernel)).trans f0
            have w33 : a.tmps[33]?.getD undef = .bool false := hpre ⟨14, .guard⟩ (by simp) rfl (by decide)
            refine step_wanted (wanted_of (j := 14) (t := 33) (b := false) rfl rfl w33) ?_
            have hk := Lib.hid (show ∀ v7 x', v7 = .slice (some ⟨b, off, none⟩) n c → Below x.heap.size x x' → K (a.put (some 34) v7) x' from hK)
            have Hbx := Lib.hid hbx
            clear hsame hpre hK hbx w33
            go_simp
            exact hk.out _ _ rfl (Below.refl _ _)
          · have q0 : a.tmps[0]?.getD undef = .slice (some ⟨b, off, none⟩) n c := (hsame 0 (by decide +kernel)).trans f0
            have w33 : a.tmps[33]?.getD undef = .bool false := hpre ⟨14, .guard⟩ (by simp) rfl (by decide)
            refine step_wanted (wanted_of (j := 14) (t := 33) (b := false) rfl rfl w33) ?_
            have hk := Lib.hid (show ∀ v7 x', v7 = .slice (some ⟨b, off, none⟩) n c → Below x.heap.size x x' → K (a.put (some 35) v7) x' from hK)
            have Hbx := Lib.hid hbx
            clear hsame hpre hK hbx w33
            go_simp
            exact hk.out _ _ rfl (Below.refl _ _)
          · have q3 : a.tmps[3]?.getD undef = .int .i64 ((i : Nat) : Int) := (hsame 3 (by decide +kernel)).trans f3
            have w33 : a.tmps[33]?.getD undef = .bool false := hpre ⟨14, .guard⟩ (by simp) rfl (by decide)
            refine step_wanted (wanted_of (j := 14) (t := 33) (b := false) rfl rfl w33) ?_
            have hk := Lib.hid (show ∀ v7 x', v7 = .int .i64 ((i : Nat) : Int) → Below x.heap.size x x' → K (a.put (some 36) v7) x' from hK)
            have Hbx := Lib.hid hbx
            clear hsame hpre hK hbx w33
            go_simp
            exact hk.out _ _ rfl (Below.refl _ _)
          · have q35 : a.tmps[35]?.getD undef = .slice (some ⟨b, off, none⟩) n c := hpre ⟨16, .data⟩ (by simp) rfl (by decide)
            have q36 : a.tmps[36]?.getD undef = .int .i64 ((i : Nat) : Int) := hpre ⟨17, .data⟩ (by simp) rfl (by decide)
            have w33 : a.tmps[33]?.getD undef = .bool false := hpre ⟨14, .guard⟩ (by simp) rfl (by decide)
            refine step_wanted (wanted_of (j := 14) (t := 33) (b := false) rfl rfl w33) ?_
            have hk := Lib.hid (show ∀ v7 x', v7 = .pointer (some ⟨b, off + i, none⟩) → Below x.heap.size x x' → K (a.put (some 37) v7) x' from hK)
            have Hbx := Lib.hid hbx
            clear hsame hpre hK hbx w33
            go_simp
            exact hk.out _ _ rfl (Below.refl _ _)
          · have q37 : a.tmps[37]?.getD undef = .pointer (some ⟨b, off + i, none⟩) := hpre ⟨18, .data⟩ (by simp) rfl (by decide)
            have w33 : a.tmps[33]?.getD undef = .bool false := hpre ⟨14, .guard⟩ (by simp) rfl (by decide)
            refine step_wanted (wanted_of (j := 14) (t := 33) (b := false) rfl rfl w33) ?_
            have hk := Lib.hid (show ∀ v7 x', v7 = .string ⟨tx.toArray⟩ → Below x.heap.size x x' → K (a.put (some 38) v7) x' from hK)
            have Hbx := Lib.hid hbx
            clear hsame hpre hK hbx w33
            have c8 := Hcx.out _ (below_call Hb1.out Hbx.out)
            go_simp
            exact hk.out _ _ rfl (Below.refl _ _)
          · have q34 : a.tmps[34]?.getD undef = .slice (some ⟨b, off, none⟩) n c := hpre ⟨15, .data⟩ (by simp) rfl (by decide)
            have q38 : a.tmps[38]?.getD undef = .string ⟨tx.toArray⟩ := hpre ⟨19, .data⟩ (by simp) rfl (by decide)
            have w33 : a.tmps[33]?.getD undef = .bool false := hpre ⟨14, .guard⟩ (by simp) rfl (by decide)
            refine step_wanted (wanted_of (j := 14) (t := 33) (b := false) rfl rfl w33) ?_
            have hk := Lib.hid (show ∀ v7 x', v7 = .bool u → Below x.heap.size x x' → K (a.put (some 39) v7) x' from hK)
            have Hbx := Lib.hid hbx
            clear hsame hpre hK hbx w33
            go_simp
            refine (Hux.out _ (below_call Hb1.out Hbx.out)).mono ?_
            rintro e2 w2 ⟨rfl, hb2⟩
            go_simp
            exact hk.out _ _ rfl hb2
          · have q33 : a.tmps[33]?.getD undef = .bool false := hpre ⟨14, .data⟩ (by simp) rfl (by decide)
            have q39 : a.tmps[39]?.getD undef = .bool u := hpre ⟨20, .data⟩ (by simp) rfl (by decide)
            refine step_plain rfl ?_
            have hk := Lib.hid (show ∀ v7 x', v7 = .bool u → Below x.heap.size x x' → K (a.put (some 40) v7) x' from hK)
            have Hbx := Lib.hid hbx
            clear hsame hpre hK hbx
            go_simp
            exact hk.out _ _ rfl (Below.refl _ _)
        intro a30 x30 hbx hsame hG hsz30 hde30
        replace f0 := (hsame 0 (by decide +kernel)).trans f0
        replace f3 := (hsame 3 (by decide +kernel)).trans f3
        have f40 : a30.tmps[40]?.getD undef = .bool u := hG 21 (by decide)
        have Hbx30 := Lib.hid hbx
        have hsz30h := Lib.hid hsz30
        have hde30h := Lib.hid (hde30.trans hde29.out)
        clear hsame hG hbx hsz30 hde30 hsz29 hde29
        refine then_go ?_
        repeat with_reducible refine wp_seq ?_
        cases u with
        | true =>
          refine wp_cond_true (eval_at f40) ?_
          clear f40
          repeat with_reducible refine wp_seq ?_
          refine wp_region_lit ?_
          refine wpList_next rfl hsz30h hde30h 2 rfl (by decide) fun K hK => ?_
          go_simp
          refine hK _ _ fun a31 hsz31 hde31 f2 hk => ?_
          clear hK K
          replace f0 := (hk 0 (by decide)).trans f0
          replace f3 := (hk 3 (by decide)).trans f3
          replace f2 : a31.tmps[2]?.getD undef = .int .i64 7 := f2
          clear hk hsz30h hde30h
          refine wpList_nil ?_
          refine then_go ?_
          refine wp_ret ?_
          repeat first | with_reducible refine then_ret ?_ | with_reducible refine block_ret ?_
          refine ret_tmp Tryz.results10 hde31 f2 ?_
          exact ⟨by rw [chCheck_at H8.out hil Hno.out (by rw [Hat2.out, if_pos (by simp [H0.out])]; decide), Hat2.out, if_pos (by simp [H0.out])], (below_call Hb1.out Hbx30.out)⟩
        | false =>
          refine wp_cond_false (eval_at f40) ?_
          refine wp_skip ?_
          repeat first | with_reducible refine block_go ?_ | with_reducible refine then_go ?_
          clear f40
          repeat with_reducible refine wp_seq ?_
          refine wp_region_lit ?_
          refine wpList_next rfl hsz30h hde30h 11 rfl (by decide) fun K hK => ?_
          go_simp
          refine hK _ _ fun a31 hsz31 hde31 f11 hk => ?_
          clear hK K
          replace f0 := (hk 0 (by decide)).trans f0
          replace f3 := (hk 3 (by decide)).trans f3
          clear hk hsz30h hde30h
          refine wpList_next rfl hsz31 hde31 12 rfl (by decide) fun K hK => ?_
          go_simp
          refine hK _ _ fun a32 hsz32 hde32 f12 hk => ?_
          clear hK K
          replace f0 := (hk 0 (by decide)).trans f0
          replace f3 := (hk 3 (by decide)).trans f3
          clear hk hsz31 hde31 f11
          replace f12 : a32.tmps[12]?.getD undef = .int .i64 (((i + 1 : Nat) : Int)) := f12.trans (by first | rfl | (congr 1; done) | (congr 1; omega) | (congr 1; rw [IntKind.wrap_i64] <;> omega))
          refine wpList_next rfl hsz32 hde32 3 rfl (by decide) fun K hK => ?_
          go_simp
          refine hK _ _ fun a33 hsz33 hde33 f3 hk => ?_
          clear hK K
          replace f0 := (hk 0 (by decide)).trans f0
          replace f3 : a33.tmps[3]?.getD undef = .int .i64 ((i + 1 : Nat) : Int) := f3
          clear hk hsz32 hde32 f12
          refine wpList_nil ?_
          refine then_go ?_
          exact ⟨n - (i + 1), by rw [Hn2.out]; omega, i + 1, hsz33, hde33, f0, f3, Lib.hid (by omega), Lib.hid (chAt_step Hno.out (by rw [Hat2.out, if_neg (by simp [H0.out])])), Lib.hid (below_call Hb1.out Hbx30.out), rfl⟩
      have h0n : 0 < i := by omega
      have H0 := Lib.hid h0n
      have hcy := Hcy.out h0n
      obtain ⟨j, hj⟩ : ∃ j, j = i - 1 := ⟨_, rfl⟩
      have Hj := Lib.hid hj
      rw [← hj] at hcy
      have Hcz := Lib.hid hcy
      have hji : (i : Int) - 1 = (j : Int) := by omega
      have hj0 : (0 : Int) ≤ (j : Int) := by omega
      have hjn : (j : Int) < (n : Int) := by omega
      have Hji := Lib.hid hji
      clear hj hji hcy
      cases d with
      | true =>
        refine wp_region_goodg (tblG [(19, .int .i64 ((i : Nat) : Int)), (20, .bool true), (21, .bool true), (22, .slice (some ⟨b, off, none⟩) n c), (23, .int .i64 ((i : Nat) : Int)), (24, .pointer (some ⟨b, off + i, none⟩)), (25, .string ⟨tx.toArray⟩), (26, .slice (some ⟨b, off, none⟩) n c), (27, .int .i64 ((i : Nat) : Int)), (28, .int .i64 ((j : Nat) : Int)), (29, .pointer (some ⟨b, off + j, none⟩)), (30, .string ⟨y.toArray⟩), (31, .bool true), (32, .bool true), (33, .bool true), (34, undef), (35, undef), (36, undef), (37, undef), (38, undef), (39, undef), (40, .bool true)]) 41 (by kernel_rfl) (by kernel_rfl) (by kernel_rfl) (by kernel_rfl) hsz29.out ?_ ?_ ?_
        · intro t v7 x x' h _ _
          exact h
        · intro i7 o hi7 a x hbx hsame hpre K hK
          have hlt7 : i7 < 22 := (Array.getElem?_eq_some_iff.1 hi7).1
          rcases (show i7 = 0 ∨ i7 = 1 ∨ i7 = 2 ∨ i7 = 3 ∨ i7 = 4 ∨ i7 = 5 ∨ i7 = 6 ∨ i7 = 7 ∨ i7 = 8 ∨ i7 = 9 ∨ i7 = 10 ∨ i7 = 11 ∨ i7 = 12 ∨ i7 = 13 ∨ i7 = 14 ∨ i7 = 15 ∨ i7 = 16 ∨ i7 = 17 ∨ i7 = 18 ∨ i7 = 19 ∨ i7 = 20 ∨ i7 = 21 by omega) with rfl | rfl | rfl | rfl | rfl | rfl | rfl | rfl | rfl | rfl | rfl | rfl | rfl | rfl | rfl | rfl | rfl | rfl | rfl | rfl | rfl | rfl
          all_goals (have ho := Option.some.inj hi7; subst ho; clear hi7 hlt7)
          · have q3 : a.tmps[3]?.getD undef = .int .i64 ((i : Nat) : Int) := (hsame 3 (by decide +kernel)).trans f3
            refine step_plain rfl ?_
            have hk := Lib.hid (show ∀ v7 x', v7 = .int .i64 ((i : Nat) : Int) → Below x.heap.size x x' → K (a.put (some 19) v7) x' from hK)
            have Hbx := Lib.hid hbx
            clear hsame hpre hK hbx
            go_simp
            exact hk.out _ _ rfl (Below.refl _ _)
          · have q19 : a.tmps[19]?.getD undef = .int .i64 ((i : Nat) : Int) := hpre ⟨0, .data⟩ (by simp) rfl (by decide)
            refine step_plain rfl ?_
            have hk := Lib.hid (show ∀ v7 x', v7 = .bool true → Below x.heap.size x x' → K (a.put (some 20) v7) x' from hK)
            have Hbx := Lib.hid hbx
            clear hsame hpre hK hbx
            go_simp
            exact hk.out _ _ (by first | rfl | (congr 1; exact decide_eq_true (by omega)) | (simp; omega)) (Below.refl _ _)
          · have q20 : a.tmps[20]?.getD undef = .bool true := hpre ⟨1, .data⟩ (by simp) rfl (by decide)
            refine step_plain rfl ?_
            have hk := Lib.hid (show ∀ v7 x', v7 = .bool true → Below x.heap.size x x' → K (a.put (some 21) v7) x' from hK)
            have Hbx := Lib.hid hbx
            clear hsame hpre hK hbx
            go_simp
            exact hk.out _ _ rfl (Below.refl _ _)
          · have q0 : a.tmps[0]?.getD undef = .slice (some ⟨b, off, none⟩) n c := (hsame 0 (by decide +kernel)).trans f0
            have w21 : a.tmps[21]?.getD undef = .bool true := hpre ⟨2, .guard⟩ (by simp) rfl (by decide)
            refine step_wanted (wanted_of (j := 2) (t := 21) (b := true) rfl rfl w21) ?_
            have hk := Lib.hid (show ∀ v7 x', v7 = .slice (some ⟨b, off, none⟩) n c → Below x.heap.size x x' → K (a.put (some 22) v7) x' from hK)
            have Hbx := Lib.hid hbx
            clear hsame hpre hK hbx w21
            go_simp
            exact hk.out _ _ rfl (Below.refl _ _)
          · have q3 : a.tmps[3]?.getD undef = .int .i64 ((i : Nat) : Int) := (hsame 3 (by decide +kernel)).trans f3
            have w21 : a.tmps[21]?.getD undef = .bool true := hpre ⟨2, .guard⟩ (by simp) rfl (by decide)
            refine step_wanted (wanted_of (j := 2) (t := 21) (b := true) rfl rfl w21) ?_
            have hk := Lib.hid (show ∀ v7 x', v7 = .int .i64 ((i : Nat) : Int) → Below x.heap.size x x' → K (a.put (some 23) v7) x' from hK)
            have Hbx := Lib.hid hbx
            clear hsame hpre hK hbx w21
            go_simp
            exact hk.out _ _ rfl (Below.refl _ _)
          · have q22 : a.tmps[22]?.getD undef = .slice (some ⟨b, off, none⟩) n c := hpre ⟨3, .data⟩ (by simp) rfl (by decide)
            have q23 : a.tmps[23]?.getD undef = .int .i64 ((i : Nat) : Int) := hpre ⟨4, .data⟩ (by simp) rfl (by decide)
            have w21 : a.tmps[21]?.getD undef = .bool true := hpre ⟨2, .guard⟩ (by simp) rfl (by decide)
            refine step_wanted (wanted_of (j := 2) (t := 21) (b := true) rfl rfl w21) ?_
            have hk := Lib.hid (show ∀ v7 x', v7 = .pointer (some ⟨b, off + i, none⟩) → Below x.heap.size x x' → K (a.put (some 24) v7) x' from hK)
            have Hbx := Lib.hid hbx
            clear hsame hpre hK hbx w21
            go_simp
            exact hk.out _ _ rfl (Below.refl _ _)
          · have q24 : a.tmps[24]?.getD undef = .pointer (some ⟨b, off + i, none⟩) := hpre ⟨5, .data⟩ (by simp) rfl (by decide)
            have w21 : a.tmps[21]?.getD undef = .bool true := hpre ⟨2, .guard⟩ (by simp) rfl (by decide)
            refine step_wanted (wanted_of (j := 2) (t := 21) (b := true) rfl rfl w21) ?_
            have hk := Lib.hid (show ∀ v7 x', v7 = .string ⟨tx.toArray⟩ → Below x.heap.size x x' → K (a.put (some 25) v7) x' from hK)
            have Hbx := Lib.hid hbx
            clear hsame hpre hK hbx w21
            have c8 := Hcx.out _ (below_call Hb1.out Hbx.out)
            go_simp
            exact hk.out _ _ rfl (Below.refl _ _)
          · have q0 : a.tmps[0]?.getD undef = .slice (some ⟨b, off, none⟩) n c := (hsame 0 (by decide +kernel)).trans f0
            have w21 : a.tmps[21]?.getD undef = .bool true := hpre ⟨2, .guard⟩ (by simp) rfl (by decide)
            refine step_wanted (wanted_of (j := 2) (t := 21) (b := true) rfl rfl w21) ?_
            have hk := Lib.hid (show ∀ v7 x', v7 = .slice (some ⟨b, off, none⟩) n c → Below x.heap.size x x' → K (a.put (some 26) v7) x' from hK)
            have Hbx := Lib.hid hbx
            clear hsame hpre hK hbx w21
            go_simp
            exact hk.out _ _ rfl (Below.refl _ _)
          · have q3 : a.tmps[3]?.getD undef = .int .i64 ((i : Nat) : Int) := (hsame 3 (by decide +kernel)).trans f3
            have w21 : a.tmps[21]?.getD undef = .bool true := hpre ⟨2, .guard⟩ (by simp) rfl (by decide)
            refine step_wanted (wanted_of (j := 2) (t := 21) (b := true) rfl rfl w21) ?_
            have hk := Lib.hid (show ∀ v7 x', v7 = .int .i64 ((i : Nat) : Int) → Below x.heap.size x x' → K (a.put (some 27) v7) x' from hK)
            have Hbx := Lib.hid hbx
            clear hsame hpre hK hbx w21
            go_simp
            exact hk.out _ _ rfl (Below.refl _ _)
          · have q27 : a.tmps[27]?.getD undef = .int .i64 ((i : Nat) : Int) := hpre ⟨8, .data⟩ (by simp) rfl (by decide)
            have w21 : a.tmps[21]?.getD undef = .bool true := hpre ⟨2, .guard⟩ (by simp) rfl (by decide)
            refine step_wanted (wanted_of (j := 2) (t := 21) (b := true) rfl rfl w21) ?_
            have hk := Lib.hid (show ∀ v7 x', v7 = .int .i64 ((j : Nat) : Int) → Below x.heap.size x x' → K (a.put (some 28) v7) x' from hK)
            have Hbx := Lib.hid hbx
            clear hsame hpre hK hbx w21
            have h7 := Hji.out
            go_simp
            exact hk.out _ _ (by first | rfl | (rw [h7]; done) | (congr 1; done) | (congr 1; omega) | (congr 1; rw [IntKind.wrap_i64] <;> omega)) (Below.refl _ _)
          · have q26 : a.tmps[26]?.getD undef = .slice (some ⟨b, off, none⟩) n c := hpre ⟨7, .data⟩ (by simp) rfl (by decide)
            have q28 : a.tmps[28]?.getD undef = .int .i64 ((j : Nat) : Int) := hpre ⟨9, .data⟩ (by simp) rfl (by decide)
            have w21 : a.tmps[21]?.getD undef = .bool true := hpre ⟨2, .guard⟩ (by simp) rfl (by decide)
            refine step_wanted (wanted_of (j := 2) (t := 21) (b := true) rfl rfl w21) ?_
            have hk := Lib.hid (show ∀ v7 x', v7 = .pointer (some ⟨b, off + j, none⟩) → Below x.heap.size x x' → K (a.put (some 29) v7) x' from hK)
            have Hbx := Lib.hid hbx
            clear hsame hpre hK hbx w21
            go_simp
            exact hk.out _ _ rfl (Below.refl _ _)
          · have q29 : a.tmps[29]?.getD undef = .pointer (some ⟨b, off + j, none⟩) := hpre ⟨10, .data⟩ (by simp) rfl (by decide)
            have w21 : a.tmps[21]?.getD undef = .bool true := hpre ⟨2, .guard⟩ (by simp) rfl (by decide)
            refine step_wanted (wanted_of (j := 2) (t := 21) (b := true) rfl rfl w21) ?_
            have hk := Lib.hid (show ∀ v7 x', v7 = .string ⟨y.toArray⟩ → Below x.heap.size x x' → K (a.put (some 30) v7) x' from hK)
            have Hbx := Lib.hid hbx
            clear hsame hpre hK hbx w21
            have c8 := Hcz.out _ (below_call Hb1.out Hbx.out)
            go_simp
            exact hk.out _ _ rfl (Below.refl _ _)
          · have q25 : a.tmps[25]?.getD undef = .string ⟨tx.toArray⟩ := hpre ⟨6, .data⟩ (by simp) rfl (by decide)
            have q30 : a.tmps[30]?.getD undef = .string ⟨y.toArray⟩ := hpre ⟨11, .data⟩ (by simp) rfl (by decide)
            have w21 : a.tmps[21]?.getD undef = .bool true := hpre ⟨2, .guard⟩ (by simp) rfl (by decide)
            refine step_wanted (wanted_of (j := 2) (t := 21) (b := true) rfl rfl w21) ?_
            have hk := Lib.hid (show ∀ v7 x', v7 = .bool true → Below x.heap.size x x' → K (a.put (some 31) v7) x' from hK)
            have Hbx := Lib.hid hbx
            clear hsame hpre hK hbx w21
            go_simp
            exact hk.out _ _ (by rw [leq_val, ← Hd.out]) (Below.refl _ _)
          · have q21 : a.tmps[21]?.getD undef = .bool true := hpre ⟨2, .data⟩ (by simp) rfl (by decide)
            have q31 : a.tmps[31]?.getD undef = .bool true := hpre ⟨12, .data⟩ (by simp) rfl (by decide)
            refine step_plain rfl ?_
            have hk := Lib.hid (show ∀ v7 x', v7 = .bool true → Below x.heap.size x x' → K (a.put (some 32) v7) x' from hK)
            have Hbx := Lib.hid hbx
            clear hsame hpre hK hbx
            go_simp
            exact hk.out _ _ rfl (Below.refl _ _)
          · have q32 : a.tmps[32]?.getD undef = .bool true := hpre ⟨13, .data⟩ (by simp) rfl (by decide)
            refine step_plain rfl ?_
            have hk := Lib.hid (show ∀ v7 x', v7 = .bool true → Below x.heap.size x x' → K (a.put (some 33) v7) x' from hK)
            have Hbx := Lib.hid hbx
            clear hsame hpre hK hbx
            go_simp
            exact hk.out _ _ rfl (Below.refl _ _)
          · have w33 : a.tmps[33]?.getD undef = .bool true := hpre ⟨14, .guard⟩ (by simp) rfl (by decide)
            refine step_left (not_wanted (j := 14) (t := 33) (b := false) rfl rfl (.inr w33)) ?_
            have hk := Lib.hid (show ∀ v7 x', v7 = undef → Below x.heap.size x x' → K (a.put (some 34) v7) x' from hK)
            have Hbx := Lib.hid hbx
            clear hsame hpre hK hbx w33
            exact hk.out _ _ rfl (Below.refl _ _)
          · have w33 : a.tmps[33]?.getD undef = .bool true := hpre ⟨14, .guard⟩ (by simp) rfl (by decide)
            refine step_left (not_wanted (j := 14) (t := 33) (b := false) rfl rfl (.inr w33)) ?_
            have hk := Lib.hid (show ∀ v7 x', v7 = undef → Below x.heap.size x x' → K (a.put (some 35) v7) x' from hK)
            have Hbx := Lib.hid hbx
            clear hsame hpre hK hbx w33
            exact hk.out _ _ rfl (Below.refl _ _)
          · have w33 : a.tmps[33]?.getD undef = .bool true := hpre ⟨14, .guard⟩ (by simp) rfl (by decide)
            refine step_left (not_wanted (j := 14) (t := 33) (b := false) rfl rfl (.inr w33)) ?_
            have hk := Lib.hid (show ∀ v7 x', v7 = undef → Below x.heap.size x x' → K (a.put (some 36) v7) x' from hK)
            have Hbx := Lib.hid hbx
            clear hsame hpre hK hbx w33
            exact hk.out _ _ rfl (Below.refl _ _)
          · have w33 : a.tmps[33]?.getD undef = .bool true := hpre ⟨14, .guard⟩ (by simp) rfl (by decide)
            refine step_left (not_wanted (j := 14) (t := 33) (b := false) rfl rfl (.inr w33)) ?_
            have hk := Lib.hid (show ∀ v7 x', v7 = undef → Below x.heap.size x x' → K (a.put (some 37) v7) x' from hK)
            have Hbx := Lib.hid hbx
            clear hsame hpre hK hbx w33
            exact hk.out _ _ rfl (Below.refl _ _)
          · have w33 : a.tmps[33]?.getD undef = .bool true := hpre ⟨14, .guard⟩ (by simp) rfl (by decide)
            refine step_left (not_wanted (j := 14) (t := 33) (b := false) rfl rfl (.inr w33)) ?_
            have hk := Lib.hid (show ∀ v7 x', v7 = undef → Below x.heap.size x x' → K (a.put (some 38) v7) x' from hK)
            have Hbx := Lib.hid hbx
            clear hsame hpre hK hbx w33
            exact hk.out _ _ rfl (Below.refl _ _)
          · have w33 : a.tmps[33]?.getD undef = .bool true := hpre ⟨14, .guard⟩ (by simp) rfl (by decide)
            refine step_left (not_wanted (j := 14) (t := 33) (b := false) rfl rfl (.inr w33)) ?_
            have hk := Lib.hid (show ∀ v7 x', v7 = undef → Below x.heap.size x x' → K (a.put (some 39) v7) x' from hK)
            have Hbx := Lib.hid hbx
            clear hsame hpre hK hbx w33
            exact hk.out _ _ rfl (Below.refl _ _)
          · have q33 : a.tmps[33]?.getD undef = .bool true := hpre ⟨14, .data⟩ (by simp) rfl (by decide)
            have q39 : a.tmps[39]?.getD undef = undef := hpre ⟨20, .data⟩ (by simp) rfl (by decide)
            refine step_plain rfl ?_
            have hk := Lib.hid (show ∀ v7 x', v7 = .bool true → Below x.heap.size x x' → K (a.put (some 40) v7) x' from hK)
            have Hbx := Lib.hid hbx
            clear hsame hpre hK hbx
            go_simp
            exact hk.out _ _ rfl (Below.refl _ _)
        intro a30 x30 hbx hsame hG hsz30 hde30
        replace f0 := (hsame 0 (by decide +kernel)).trans f0
        replace f3 := (hsame 3 (by decide +kernel)).trans f3
        have f40 : a30.tmps[40]?.getD undef = .bool true := hG 21 (by decide)
        have Hbx30 := Lib.hid hbx
        have hsz30h := Lib.hid hsz30
        have hde30h := Lib.hid (hde30.trans hde29.out)
        clear hsame hG hbx hsz30 hde30 hsz29 hde29
        refine then_go ?_
        repeat with_reducible refine wp_seq ?_
        refine wp_cond_true (eval_at f40) ?_
        clear f40
        repeat with_reducible refine wp_seq ?_
        refine wp_region_lit ?_
        refine wpList_next rfl hsz30h hde30h 2 rfl (by decide) fun K hK => ?_
        go_simp
        refine hK _ _ fun a31 hsz31 hde31 f2 hk => ?_
        clear hK K
        replace f0 := (hk 0 (by decide)).trans f0
        replace f3 := (hk 3 (by decide)).trans f3
        replace f2 : a31.tmps[2]?.getD undef = .int .i64 7 := f2
        clear hk hsz30h hde30h
        refine wpList_nil ?_
        refine then_go ?_
        refine wp_ret ?_
        repeat first | with_reducible refine then_ret ?_ | with_reducible refine block_ret ?_
        refine ret_tmp Tryz.results10 hde31 f2 ?_
        exact ⟨by rw [chCheck_at H8.out hil Hno.out (by rw [Hat2.out, if_pos (by simp [H0.out])]; decide), Hat2.out, if_pos (by simp [H0.out])], (below_call Hb1.out Hbx30.out)⟩
      | false =>
        refine wp_region_goodg (tblG [(19, .int .i64 ((i : Nat) : Int)), (20, .bool true), (21, .bool true), (22, .slice (some ⟨b, off, none⟩) n c), (23, .int .i64 ((i : Nat) : Int)), (24, .pointer (some ⟨b, off + i, none⟩)), (25, .string ⟨tx.toArray⟩), (26, .slice (some ⟨b, off, none⟩) n c), (27, .int .i64 ((i : Nat) : Int)), (28, .int .i64 ((j : Nat) : Int)), (29, .pointer (some ⟨b, off + j, none⟩)), (30, .string ⟨y.toArray⟩), (31, .bool false), (32, .bool false), (33, .bool false), (34, .slice (some ⟨b, off, none⟩) n c), (35, .slice (some ⟨b, off, none⟩) n c), (36, .int .i64 ((i : Nat) : Int)), (37, .pointer (some ⟨b, off + i, none⟩)), (38, .string ⟨tx.toArray⟩), (39, .bool u), (40, .bool u)]) 41 (by kernel_rfl) (by kernel_rfl) (by kernel_rfl) (by kernel_rfl) hsz29.out ?_ ?_ ?_
        · intro t v7 x x' h _ _
          exact h
        · intro i7 o hi7 a x hbx hsame hpre K hK
          have hlt7 : i7 < 22 := (Array.getElem?_eq_some_iff.1 hi7).1
          rcases (show i7 = 0 ∨ i7 = 1 ∨ i7 = 2 ∨ i7 = 3 ∨ i7 = 4 ∨ i7 = 5 ∨ i7 = 6 ∨ i7 = 7 ∨ i7 = 8 ∨ i7 = 9 ∨ i7 = 10 ∨ i7 = 11 ∨ i7 = 12 ∨ i7 = 13 ∨ i7 = 14 ∨ i7 = 15 ∨ i7 = 16 ∨ i7 = 17 ∨ i7 = 18 ∨ i7 = 19 ∨ i7 = 20 ∨ i7 = 21 by omega) with rfl | rfl | rfl | rfl | rfl | rfl | rfl | rfl | rfl | rfl | rfl | rfl | rfl | rfl | rfl | rfl | rfl | rfl | rfl | rfl | rfl | rfl
          all_goals (have ho := Option.some.inj hi7; subst ho; clear hi7 hlt7)
          · have q3 : a.tmps[3]?.getD undef = .int .i64 ((i : Nat) : Int) := (hsame 3 (by decide +kernel)).trans f3
            refine step_plain rfl ?_
            have hk := Lib.hid (show ∀ v7 x', v7 = .int .i64 ((i : Nat) : Int) → Below x.heap.size x x' → K (a.put (some 19) v7) x' from hK)
            have Hbx := Lib.hid hbx
            clear hsame hpre hK hbx
            go_simp
            exact hk.out _ _ rfl (Below.refl _ _)
          · have q19 : a.tmps[19]?.getD undef = .int .i64 ((i : Nat) : Int) := hpre ⟨0, .data⟩ (by simp) rfl (by decide)
            refine step_plain rfl ?_
            have hk := Lib.hid (show ∀ v7 x', v7 = .bool true → Below x.heap.size x x' → K (a.put (some 20) v7) x' from hK)
            have Hbx := Lib.hid hbx
            clear hsame hpre hK hbx
            go_simp
            exact hk.out _ _ (by first | rfl | (congr 1; exact decide_eq_true (by omega)) | (simp; omega)) (Below.refl _ _)
          · have q20 : a.tmps[20]?.getD undef = .bool true := hpre ⟨1, .data⟩ (by simp) rfl (by decide)
            refine step_plain rfl ?_
            have hk := Lib.hid (show ∀ v7 x', v7 = .bool true → Below x.heap.size x x' → K (a.put (some 21) v7) x' from hK)
            have Hbx := Lib.hid hbx
            clear hsame hpre hK hbx
            go_simp
            exact hk.out _ _ rfl (Below.refl _ _)
          · have q0 : a.tmps[0]?.getD undef = .slice (some ⟨b, off, none⟩) n c := (hsame 0 (by decide +kernel)).trans f0
            have w21 : a.tmps[21]?.getD undef = .bool true := hpre ⟨2, .guard⟩ (by simp) rfl (by decide)
            refine step_wanted (wanted_of (j := 2) (t := 21) (b := true) rfl rfl w21) ?_
            have hk := Lib.hid (show ∀ v7 x', v7 = .slice (some ⟨b, off, none⟩) n c → Below x.heap.size x x' → K (a.put (some 22) v7) x' from hK)
            have Hbx := Lib.hid hbx
            clear hsame hpre hK hbx w21
            go_simp
            exact hk.out _ _ rfl (Below.refl _ _)
          · have q3 : a.tmps[3]?.getD undef = .int .i64 ((i : Nat) : Int) := (hsame 3 (by decide +kernel)).trans f3
            have w21 : a.tmps[21]?.getD undef = .bool true := hpre ⟨2, .guard⟩ (by simp) rfl (by decide)
            refine step_wanted (wanted_of (j := 2) (t := 21) (b := true) rfl rfl w21) ?_
            have hk := Lib.hid (show ∀ v7 x', v7 = .int .i64 ((i : Nat) : Int) → Below x.heap.size x x' → K (a.put (some 23) v7) x' from hK)
            have Hbx := Lib.hid hbx
            clear hsame hpre hK hbx w21
            go_simp
            exact hk.out _ _ rfl (Below.refl _ _)
          · have q22 : a.tmps[22]?.getD undef = .slice (some ⟨b, off, none⟩) n c := hpre ⟨3, .data⟩ (by simp) rfl (by decide)
            have q23 : a.tmps[23]?.getD undef = .int .i64 ((i : Nat) : Int) := hpre ⟨4, .data⟩ (by simp) rfl (by decide)
            have w21 : a.tmps[21]?.getD undef = .bool true := hpre ⟨2, .guard⟩ (by simp) rfl (by decide)
            refine step_wanted (wanted_of (j := 2) (t := 21) (b := true) rfl rfl w21) ?_
            have hk := Lib.hid (show ∀ v7 x', v7 = .pointer (some ⟨b, off + i, none⟩) → Below x.heap.size x x' → K (a.put (some 24) v7) x' from hK)
            have Hbx := Lib.hid hbx
            clear hsame hpre hK hbx w21
            go_simp
            exact hk.out _ _ rfl (Below.refl _ _)
          · have q24 : a.tmps[24]?.getD undef = .pointer (some ⟨b, off + i, none⟩) := hpre ⟨5, .data⟩ (by simp) rfl (by decide)
            have w21 : a.tmps[21]?.getD undef = .bool true := hpre ⟨2, .guard⟩ (by simp) rfl (by decide)
            refine step_wanted (wanted_of (j := 2) (t := 21) (b := true) rfl rfl w21) ?_
            have hk := Lib.hid (show ∀ v7 x', v7 = .string ⟨tx.toArray⟩ → Below x.heap.size x x' → K (a.put (some 25) v7) x' from hK)
            have Hbx := Lib.hid hbx
            clear hsame hpre hK hbx w21
            have c8 := Hcx.out _ (below_call Hb1.out Hbx.out)
            go_simp
            exact hk.out _ _ rfl (Below.refl _ _)
          · have q0 : a.tmps[0]?.getD undef = .slice (some ⟨b, off, none⟩) n c := (hsame 0 (by decide +kernel)).trans f0
            have w21 : a.tmps[21]?.getD undef = .bool true := hpre ⟨2, .guard⟩ (by simp) rfl (by decide)
            refine step_wanted (wanted_of (j := 2) (t := 21) (b := true) rfl rfl w21) ?_
            have hk := Lib.hid (show ∀ v7 x', v7 = .slice (some ⟨b, off, none⟩) n c → Below x.heap.size x x' → K (a.put (some 26) v7) x' from hK)
            have Hbx := Lib.hid hbx
            clear hsame hpre hK hbx w21
            go_simp
            exact hk.out _ _ rfl (Below.refl _ _)
          · have q3 : a.tmps[3]?.getD undef = .int .i64 ((i : Nat) : Int) := (hsame 3 (by decide +kernel)).trans f3
            have w21 : a.tmps[21]?.getD undef = .bool true := hpre ⟨2, .guard⟩ (by simp) rfl (by decide)
            refine step_wanted (wanted_of (j := 2) (t := 21) (b := true) rfl rfl w21) ?_
            have hk := Lib.hid (show ∀ v7 x', v7 = .int .i64 ((i : Nat) : Int) → Below x.heap.size x x' → K (a.put (some 27) v7) x' from hK)
            have Hbx := Lib.hid hbx
            clear hsame hpre hK hbx w21
            go_simp
            exact hk.out _ _ rfl (Below.refl _ _)
          · have q27 : a.tmps[27]?.getD undef = .int .i64 ((i : Nat) : Int) := hpre ⟨8, .data⟩ (by simp) rfl (by decide)
            have w21 : a.tmps[21]?.getD undef = .bool true := hpre ⟨2, .guard⟩ (by simp) rfl (by decide)
            refine step_wanted (wanted_of (j := 2) (t := 21) (b := true) rfl rfl w21) ?_
            have hk := Lib.hid (show ∀ v7 x', v7 = .int .i64 ((j : Nat) : Int) → Below x.heap.size x x' → K (a.put (some 28) v7) x' from hK)
            have Hbx := Lib.hid hbx
            clear hsame hpre hK hbx w21
            have h7 := Hji.out
            go_simp
            exact hk.out _ _ (by first | rfl | (rw [h7]; done) | (congr 1; done) | (congr 1; omega) | (congr 1; rw [IntKind.wrap_i64] <;> omega)) (Below.refl _ _)
          · have q26 : a.tmps[26]?.getD undef = .slice (some ⟨b, off, none⟩) n c := hpre ⟨7, .data⟩ (by simp) rfl (by decide)
            have q28 : a.tmps[28]?.getD undef = .int .i64 ((j : Nat) : Int) := hpre ⟨9, .data⟩ (by simp) rfl (by decide)
            have w21 : a.tmps[21]?.getD undef = .bool true := hpre ⟨2, .guard⟩ (by simp) rfl (by decide)
            refine step_wanted (wanted_of (j := 2) (t := 21) (b := true) rfl rfl w21) ?_
            have hk := Lib.hid (show ∀ v7 x', v7 = .pointer (some ⟨b, off + j, none⟩) → Below x.heap.size x x' → K (a.put (some 29) v7) x' from hK)
            have Hbx := Lib.hid hbx
            clear hsame hpre hK hbx w21
            go_simp
            exact hk.out _ _ rfl (Below.refl _ _)
          · have q29 : a.tmps[29]?.getD undef = .pointer (some ⟨b, off + j, none⟩) := hpre ⟨10, .data⟩ (by simp) rfl (by decide)
            have w21 : a.tmps[21]?.getD undef = .bool true := hpre ⟨2, .guard⟩ (by simp) rfl (by decide)
            refine step_wanted (wanted_of (j := 2) (t := 21) (b := true) rfl rfl w21) ?_
            have hk := Lib.hid (show ∀ v7 x', v7 = .string ⟨y.toArray⟩ → Below x.heap.size x x' → K (a.put (some 30) v7) x' from hK)
            have Hbx := Lib.hid hbx
            clear hsame hpre hK hbx w21
            have c8 := Hcz.out _ (below_call Hb1.out Hbx.out)
            go_simp
            exact hk.out _ _ rfl (Below.refl _ _)
          · have q25 : a.tmps[25]?.getD undef = .string ⟨tx.toArray⟩ := hpre ⟨6, .data⟩ (by simp) rfl (by decide)
            have q30 : a.tmps[30]?.getD undef = .string ⟨y.toArray⟩ := hpre ⟨11, .data⟩ (by simp) rfl (by decide)
            have w21 : a.tmps[21]?.getD undef = .bool true := hpre ⟨2, .guard⟩ (by simp) rfl (by decide)
            refine step_wanted (wanted_of (j := 2) (t := 21) (b := true) rfl rfl w21) ?_
            have hk := Lib.hid (show ∀ v7 x', v7 = .bool false → Below x.heap.size x x' → K (a.put (some 31) v7) x' from hK)
            have Hbx := Lib.hid hbx
            clear hsame hpre hK hbx w21
            go_simp
            exact hk.out _ _ (by rw [leq_val, ← Hd.out]) (Below.refl _ _)
          · have q21 : a.tmps[21]?.getD undef = .bool true := hpre ⟨2, .data⟩ (by simp) rfl (by decide)
            have q31 : a.tmps[31]?.getD undef = .bool false := hpre ⟨12, .data⟩ (by simp) rfl (by decide)
            refine step_plain rfl ?_
            have hk := Lib.hid (show ∀ v7 x', v7 = .bool false → Below x.heap.size x x' → K (a.put (some 32) v7) x' from hK)
            have Hbx := Lib.hid hbx
            clear hsame hpre hK hbx
            go_simp
            exact hk.out _ _ rfl (Below.refl _ _)
          · have q32 : a.tmps[32]?.getD undef = .bool false := hpre ⟨13, .data⟩ (by simp) rfl (by decide)
            refine step_plain rfl ?_
            have hk := Lib.hid (show ∀ v7 x', v7 = .bool false → Below x.heap.size x x' → K (a.put (some 33) v7) x' from hK)
            have Hbx := Lib.hid hbx
            clear hsame hpre hK hbx
            go_simp
            exact hk.out _ _ rfl (Below.refl _ _)
          · have q0 : a.tmps[0]?.getD undef = .slice (some ⟨b, off, none⟩) n c := (hsame 0 (by decide +kernel)).trans f0
            have w33 : a.tmps[33]?.getD undef = .bool false := hpre ⟨14, .guard⟩ (by simp) rfl (by decide)
            refine step_wanted (wanted_of (j := 14) (t := 33) (b := false) rfl rfl w33) ?_
            have hk := Lib.hid (show ∀ v7 x', v7 = .slice (some ⟨b, off, none⟩) n c → Below x.heap.size x x' → K (a.put (some 34) v7) x' from hK)
            have Hbx := Lib.hid hbx
            clear hsame hpre hK hbx w33
            go_simp
            exact hk.out _ _ rfl (Below.refl _ _)
          · have q0 : a.tmps[0]?.getD undef = .slice (some ⟨b, off, none⟩) n c := (hsame 0 (by decide +kernel)).trans f0
            have w33 : a.tmps[33]?.getD undef = .bool false := hpre ⟨14, .guard⟩ (by simp) rfl (by decide)
            refine step_wanted (wanted_of (j := 14) (t := 33) (b := false) rfl rfl w33) ?_
            have hk := Lib.hid (show ∀ v7 x', v7 = .slice (some ⟨b, off, none⟩) n c → Below x.heap.size x x' → K (a.put (some 35) v7) x' from hK)
            have Hbx := Lib.hid hbx
            clear hsame hpre hK hbx w33
            go_simp
            exact hk.out _ _ rfl (Below.refl _ _)
          · have q3 : a.tmps[3]?.getD undef = .int .i64 ((i : Nat) : Int) := (hsame 3 (by decide +kernel)).trans f3
            have w33 : a.tmps[33]?.getD undef = .bool false := hpre ⟨14, .guard⟩ (by simp) rfl (by decide)
            refine step_wanted (wanted_of (j := 14) (t := 33) (b := false) rfl rfl w33) ?_
            have hk := Lib.hid (show ∀ v7 x', v7 = .int .i64 ((i : Nat) : Int) → Below x.heap.size x x' → K (a.put (some 36) v7) x' from hK)
            have Hbx := Lib.hid hbx
            clear hsame hpre hK hbx w33
            go_simp
            exact hk.out _ _ rfl (Below.refl _ _)
          · have q35 : a.tmps[35]?.getD undef = .slice (some ⟨b, off, none⟩) n c := hpre ⟨16, .data⟩ (by simp) rfl (by decide)
            have q36 : a.tmps[36]?.getD undef = .int .i64 ((i : Nat) : Int) := hpre ⟨17, .data⟩ (by simp) rfl (by decide)
            have w33 : a.tmps[33]?.getD undef = .bool false := hpre ⟨14, .guard⟩ (by simp) rfl (by decide)
            refine step_wanted (wanted_of (j := 14) (t := 33) (b := false) rfl rfl w33) ?_
            have hk := Lib.hid (show ∀ v7 x', v7 = .pointer (some ⟨b, off + i, none⟩) → Below x.heap.size x x' → K (a.put (some 37) v7) x' from hK)
            have Hbx := Lib.hid hbx
            clear hsame hpre hK hbx w33
            go_simp
            exact hk.out _ _ rfl (Below.refl _ _)
          · have q37 : a.tmps[37]?.getD undef = .pointer (some ⟨b, off + i, none⟩) := hpre ⟨18, .data⟩ (by simp) rfl (by decide)
            have w33 : a.tmps[33]?.getD undef = .bool false := hpre ⟨14, .guard⟩ (by simp) rfl (by decide)
            refine step_wanted (wanted_of (j := 14) (t := 33) (b := false) rfl rfl w33) ?_
            have hk := Lib.hid (show ∀ v7 x', v7 = .string ⟨tx.toArray⟩ → Below x.heap.size x x' → K (a.put (some 38) v7) x' from hK)
            have Hbx := Lib.hid hbx
            clear hsame hpre hK hbx w33
            have c8 := Hcx.out _ (below_call Hb1.out Hbx.out)
            go_simp
            exact hk.out _ _ rfl (Below.refl _ _)
          · have q34 : a.tmps[34]?.getD undef = .slice (some ⟨b, off, none⟩) n c := hpre ⟨15, .data⟩ (by simp) rfl (by decide)
            have q38 : a.tmps[38]?.getD undef = .string ⟨tx.toArray⟩ := hpre ⟨19, .data⟩ (by simp) rfl (by decide)
            have w33 : a.tmps[33]?.getD undef = .bool false := hpre ⟨14, .guard⟩ (by simp) rfl (by decide)
            refine step_wanted (wanted_of (j := 14) (t := 33) (b := false) rfl rfl w33) ?_
            have hk := Lib.hid (show ∀ v7 x', v7 = .bool u → Below x.heap.size x x' → K (a.put (some 39) v7) x' from hK)
            have Hbx := Lib.hid hbx
            clear hsame hpre hK hbx w33
            go_simp
            refine (Hux.out _ (below_call Hb1.out Hbx.out)).mono ?_
            rintro e2 w2 ⟨rfl, hb2⟩
            go_simp
            exact hk.out _ _ rfl hb2
          · have q33 : a.tmps[33]?.getD undef = .bool false := hpre ⟨14, .data⟩ (by simp) rfl (by decide)
            have q39 : a.tmps[39]?.getD undef = .bool u := hpre ⟨20, .data⟩ (by simp) rfl (by decide)
            refine step_plain rfl ?_
            have hk := Lib.hid (show ∀ v7 x', v7 = .bool u → Below x.heap.size x x' → K (a.put (some 40) v7) x' from hK)
            have Hbx := Lib.hid hbx
            clear hsame hpre hK hbx
            go_simp
            exact hk.out _ _ rfl (Below.refl _ _)
        intro a30 x30 hbx hsame hG hsz30 hde30
        replace f0 := (hsame 0 (by decide +kernel)).trans f0
        replace f3 := (hsame 3 (by decide +kernel)).trans f3
        have f40 : a30.tmps[40]?.getD undef = .bool u := hG 21 (by decide)
        have Hbx30 := Lib.hid hbx
        have hsz30h := Lib.hid hsz30
        have hde30h := Lib.hid (hde30.trans hde29.out)
        clear hsame hG hbx hsz30 hde30 hsz29 hde29
        refine then_go ?_
        repeat with_reducible refine wp_seq ?_
        cases u with
        | true =>
          refine wp_cond_true (eval_at f40) ?_
          clear f40
          repeat with_reducible refine wp_seq ?_
          refine wp_region_lit ?_
          refine wpList_next rfl hsz30h hde30h 2 rfl (by decide) fun K hK => ?_
          go_simp
          refine hK _ _ fun a31 hsz31 hde31 f2 hk => ?_
          clear hK K
          replace f0 := (hk 0 (by decide)).trans f0
          replace f3 := (hk 3 (by decide)).trans f3
          replace f2 : a31.tmps[2]?.getD undef = .int .i64 7 := f2
          clear hk hsz30h hde30h
          refine wpList_nil ?_
          refine then_go ?_
          refine wp_ret ?_
          repeat first | with_reducible refine then_ret ?_ | with_reducible refine block_ret ?_
          refine ret_tmp Tryz.results10 hde31 f2 ?_
          exact ⟨by rw [chCheck_at H8.out hil Hno.out (by rw [Hat2.out, if_pos (by simp [H0.out])]; decide), Hat2.out, if_pos (by simp [H0.out])], (below_call Hb1.out Hbx30.out)⟩
        | false =>
          refine wp_cond_false (eval_at f40) ?_
          refine wp_skip ?_
          repeat first | with_reducible refine block_go ?_ | with_reducible refine then_go ?_
          clear f40
          repeat with_reducible refine wp_seq ?_
          refine wp_region_lit ?_
          refine wpList_next rfl hsz30h hde30h 11 rfl (by decide) fun K hK => ?_
          go_simp
          refine hK _ _ fun a31 hsz31 hde31 f11 hk => ?_
          clear hK K
          replace f0 := (hk 0 (by decide)).trans f0
          replace f3 := (hk 3 (by decide)).trans f3
          clear hk hsz30h hde30h
          refine wpList_next rfl hsz31 hde31 12 rfl (by decide) fun K hK => ?_
          go_simp
          refine hK _ _ fun a32 hsz32 hde32 f12 hk => ?_
          clear hK K
          replace f0 := (hk 0 (by decide)).trans f0
          replace f3 := (hk 3 (by decide)).trans f3
          clear hk hsz31 hde31 f11
          replace f12 : a32.tmps[12]?.getD undef = .int .i64 (((i + 1 : Nat) : Int)) := f12.trans (by first | rfl | (congr 1; done) | (congr 1; omega) | (congr 1; rw [IntKind.wrap_i64] <;> omega))
          refine wpList_next rfl hsz32 hde32 3 rfl (by decide) fun K hK => ?_
          go_simp
          refine hK _ _ fun a33 hsz33 hde33 f3 hk => ?_
          clear hK K
          replace f0 := (hk 0 (by decide)).trans f0
          replace f3 : a33.tmps[3]?.getD undef = .int .i64 ((i + 1 : Nat) : Int) := f3
          clear hk hsz32 hde32 f12
          refine wpList_nil ?_
          refine then_go ?_
          exact ⟨n - (i + 1), by rw [Hn2.out]; omega, i + 1, hsz33, hde33, f0, f3, Lib.hid (by omega), Lib.hid (chAt_step Hno.out (by rw [Hat2.out, if_neg (by simp [H0.out])])), Lib.hid (below_call Hb1.out Hbx30.out), rfl⟩
  refine wp_region_lit ?_
  refine wpList_next rfl hsz19 hde19 7 rfl (by decide) fun K hK => ?_
  go_simp
  refine hK _ _ fun a20 hsz20 hde20 f7 hk => ?_
  clear hK K
  replace f0 := (hk 0 (by decide)).trans f0
  replace f3 := (hk 3 (by decide)).trans f3
  clear hk hsz19 hde19
  refine wpList_next rfl hsz20 hde20 8 rfl (by decide) fun K hK => ?_
  go_simp
  refine hK _ _ fun a21 hsz21 hde21 f8 hk => ?_
  clear hK K
  replace f0 := (hk 0 (by decide)).trans f0
  replace f3 := (hk 3 (by decide)).trans f3
  replace f7 := (hk 7 (by decide)).trans f7
  clear hk hsz20 hde20
  refine wpList_next rfl hsz21 hde21 9 rfl (by decide) fun K hK => ?_
  go_simp
  refine hK _ _ fun a22 hsz22 hde22 f9 hk => ?_
  clear hK K
  replace f0 := (hk 0 (by decide)).trans f0
  replace f3 := (hk 3 (by decide)).trans f3
  replace f7 := (hk 7 (by decide)).trans f7
  clear hk hsz21 hde21 f8
  refine wpList_next rfl hsz22 hde22 10 rfl (by decide) fun K hK => ?_
  go_simp
  refine hK _ _ fun a23 hsz23 hde23 f10 hk => ?_
  clear hK K
  replace f0 := (hk 0 (by decide)).trans f0
  replace f3 := (hk 3 (by decide)).trans f3
  clear hk hsz22 hde22 f7 f9
  replace f10 : a23.tmps[10]?.getD undef = .bool false := f10.trans (by first | rfl | (congr 1; first | exact decide_eq_true (by omega) | exact decide_eq_false (by omega)) | (simp; omega))
  refine wpList_nil ?_
  refine then_go ?_
  repeat with_reducible refine wp_seq ?_
  refine wp_cond_false (eval_at f10) ?_
  refine wp_exit ?_
  repeat with_reducible refine then_exit ?_
  refine block_exit ?_
  repeat first | with_reducible refine block_go ?_ | with_reducible refine then_go ?_
  clear f10 f0 f3
  repeat with_reducible refine wp_seq ?_
  refine wp_region_lit ?_
  refine wpList_next rfl hsz23 hde23 2 rfl (by decide) fun K hK => ?_
  go_simp
  refine hK _ _ fun a24 hsz24 hde24 f2 hk => ?_
  clear hK K
  replace f2 : a24.tmps[2]?.getD undef = .int .i64 0 := f2
  clear hk hsz23 hde23
  refine wpList_nil ?_
  refine then_go ?_
  refine wp_ret ?_
  repeat first | with_reducible refine then_ret ?_ | with_reducible refine block_ret ?_
  refine ret_tmp Tryz.results10 hde24 f2 ?_
  exact ⟨by rw [chCheck_none H8.out (fun k hk => Hno.out k (by have := Hi.out; have := Hn.out; omega))], Hbw.out⟩
end Go.Proofs.YtgebodibamgipaaGreatDoor
