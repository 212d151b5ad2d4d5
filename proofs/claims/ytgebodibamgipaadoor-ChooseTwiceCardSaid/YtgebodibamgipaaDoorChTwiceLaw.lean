/-
  The walk of ChooseTwice.
-/
import Derived.Test.YtgebodibamgipaaDoorChAlikeLaw
import Derived.Test.YtgebodibamgipaaDoorCh2
namespace Go.Proofs.YtgebodibamgipaaDoor
open Go.RowKit
set_option maxRecDepth 100000

/-- Turned round and told twice, as far as k. -/
def turnT (O : List Txt) (k : Nat) : List Txt := (List.range k).flatMap fun t => [O.getD (O.length - 1 - t) [], O.getD t []]
theorem turnT_succ (O : List Txt) (k : Nat) : turnT O (k + 1) = turnT O k ++ [O.getD (O.length - 1 - k) [], O.getD k []] := by
  unfold turnT
  rw [List.range_succ, List.flatMap_append]
  simp
theorem turnT_len (O : List Txt) (k : Nat) : (turnT O k).length = 2 * k := by
  induction k with
  | zero => rfl
  | succ k ih => rw [turnT_succ, List.length_append, ih]; simp; omega
theorem turnT_mem (O : List Txt) (x : Txt) : x ∈ turnT O O.length ↔ x ∈ O := by
  unfold turnT
  rw [List.mem_flatMap]
  constructor
  · rintro ⟨t, ht, hx⟩
    rw [List.mem_range] at ht
    have g : ∀ j, j < O.length → O.getD j [] ∈ O := fun j hj => by simp [hj]
    simp only [List.mem_cons, List.not_mem_nil, or_false] at hx
    rcases hx with rfl | rfl
    · exact g _ (by omega)
    · exact g _ ht
  · intro hx
    obtain ⟨t, ht, rfl⟩ := List.getElem_of_mem hx
    exact ⟨t, List.mem_range.2 ht, by simp [ht]⟩
theorem turnT_clean {L O : List Txt} (hp : ∀ s, s ∈ L → pathB s = true) (h : Tops L O) (hn : O.length ≤ 8) : cleanV (turnT O O.length) = (O, 0) := by
  have h1 := h.self hp (U := turnT O O.length) (turnT_mem O)
  unfold cleanV
  rw [h1, if_pos (List.all_eq_true.2 fun s hs => hp s (h.sub s ((turnT_mem O s).1 hs))), if_neg (by omega)]
def TwInv (w4 : World) (vo : Value) (O : List Txt) (m : Nat) (k9 : Nat) (a : Act) (x : World) : Prop :=
  ∃ (i : Nat) (u : Value), Hid (a.tmps.size = 60) ∧ Hid (a.defers = []) ∧ a.tmps[3]?.getD undef = vo ∧ a.tmps[5]?.getD undef = u ∧ a.tmps[28]?.getD undef = .int .i64 ((m : Nat) : Int) ∧ a.tmps[29]?.getD undef = .int .i64 ((i : Nat) : Int) ∧ Hid (i ≤ m) ∧ Hid (OwnT x w4.heap.size u (turnT O i)) ∧ Hid (Below w4.heap.size w4 x) ∧ k9 = m - i

set_option maxHeartbeats 4000000 in
theorem choosetwice_walk (v : Value) (L : List Txt) (w : World) (hv : IsL kStr w (fun _ => True) v L) (he : Env w) :
    Calls Tryd.prog 5 #[v] w fun e w' => e = .returned (.bool true) ∧ Below w.heap.size w w' := by
  obtain ⟨A, c, ds, rfl, hc1, hc2, hds, hmany⟩ := hv
  obtain ⟨rfl, _⟩ := kStr_cells hmany
  have He := Lib.hid he
  have Hsh := Lib.hid fun z (hz : Below w.heap.size w z) => short14_any (fun _ => True) A c L z (hds.grow hz)
  obtain ⟨b1, hb1⟩ : ∃ b, b = shortC L := ⟨_, rfl⟩
  rw [← hb1] at Hsh
  have HB1 := Lib.hid hb1
  have Hfew := Lib.hid (show b1 = true → L.length ≤ 20 from fun h => short_few (L := L) (by rw [← hb1]; exact h))
  have Hcl := Lib.hid fun z (hz : Below w.heap.size w z) (h : b1 = true) => clean_any (fun _ => True) A c L z (he.grow hz) (hds.grow hz) (by have := Hfew.out h; omega)
  have Hlea := Lib.hid fun s z (hz : Below w.heap.size w z) (h : b1 = true) => leads_any (fun _ => True) A c L s z (he.grow hz) (hds.grow hz) (by have := Hfew.out h; omega)
  have Hlv := Lib.hid fun z (hz : Below w.heap.size w z) => lives14_any z (he.grow hz)
  obtain ⟨n, hn⟩ : ∃ n, n = L.length := ⟨_, rfl⟩
  have Hn := Lib.hid hn
  rw [← hn] at Hsh Hcl Hlea ⊢
  clear hmany hc1 hc2 hds he hb1 hn Hlea
  go_enter Tryd.func5, Tryd.ntmps5
  refine enter_abs (N := 60) rfl rfl fun a0 hsz0 hde0 hk => ?_
  have f0 : a0.tmps[0]?.getD undef = .slice A n c := hk 0
  clear hk
  repeat with_reducible refine wp_seq ?_
  refine wp_region_lit ?_
  refine wpList_next rfl hsz0 hde0 2 rfl (by decide) fun K hK => ?_
  go_simp
  refine hK _ _ fun a1 hsz1 hde1 f2 hk => ?_
  clear hK K
  replace f0 := (hk 0 (by decide)).trans f0
  clear hk hsz0 hde0
  refine wpList_nil ?_
  clear f2
  refine then_go ?_
  repeat with_reducible refine wp_seq ?_
  have Hw0 := Lib.hid (Below.refl w.heap.size w)
  refine wp_region_lit ?_
  refine wpList_next rfl hsz1 hde1 9 rfl (by decide) fun K hK => ?_
  go_simp
  refine (Hlv.out _ Hw0.out).mono ?_
  rintro e1 w1 ⟨rfl, hb9⟩
  go_simp
  refine hK _ _ fun a2 hsz2 hde2 f9 hk => ?_
  clear hK K
  replace f0 := (hk 0 (by decide)).trans f0
  replace f9 : a2.tmps[9]?.getD undef = .bool true := f9
  clear hk hsz1 hde1
  have Hw1 := Lib.hid (below_call Hw0.out hb9)
  clear hb9
  refine wpList_next rfl hsz2 hde2 10 rfl (by decide) fun K hK => ?_
  go_simp
  refine hK _ _ fun a3 hsz3 hde3 f10 hk => ?_
  clear hK K
  replace f0 := (hk 0 (by decide)).trans f0
  replace f10 : a3.tmps[10]?.getD undef = .bool false := f10
  clear hk hsz2 hde2 f9
  refine wpList_next rfl hsz3 hde3 11 rfl (by decide) fun K hK => ?_
  go_simp
  refine hK _ _ fun a4 hsz4 hde4 f11 hk => ?_
  clear hK K
  replace f0 := (hk 0 (by decide)).trans f0
  replace f11 : a4.tmps[11]?.getD undef = .bool false := f11
  clear hk hsz3 hde3 f10
  refine wpList_nextg (wanted_of (j := 2) (t := 11) (b := false) rfl rfl f11) hsz4 hde4 12 rfl (by decide) fun K hK => ?_
  go_simp
  refine hK _ _ fun a5 hsz5 hde5 f12 hk => ?_
  clear hK K
  replace f0 := (hk 0 (by decide)).trans f0
  replace f11 := (hk 11 (by decide)).trans f11
  replace f12 : a5.tmps[12]?.getD undef = .slice A n c := f12
  clear hk hsz4 hde4
  refine wpList_nextg (wanted_of (j := 2) (t := 11) (b := false) rfl rfl f11) hsz5 hde5 13 rfl (by decide) fun K hK => ?_
  go_simp
  refine (Hsh.out _ Hw1.out).mono ?_
  rintro e2 w2 ⟨rfl, rfl⟩
  go_simp
  refine hK _ _ fun a6 hsz6 hde6 f13 hk => ?_
  clear hK K
  replace f0 := (hk 0 (by decide)).trans f0
  replace f11 := (hk 11 (by decide)).trans f11
  replace f13 : a6.tmps[13]?.getD undef = .bool b1 := f13
  clear hk hsz5 hde5 f12
  refine wpList_nextg (wanted_of (j := 2) (t := 11) (b := false) rfl rfl f11) hsz6 hde6 14 rfl (by decide) fun K hK => ?_
  go_simp
  refine hK _ _ fun a7 hsz7 hde7 f14 hk => ?_
  clear hK K
  replace f0 := (hk 0 (by decide)).trans f0
  replace f11 := (hk 11 (by decide)).trans f11
  replace f14 : a7.tmps[14]?.getD undef = .bool (!b1) := f14
  clear hk hsz6 hde6 f13
  refine wpList_next rfl hsz7 hde7 15 rfl (by decide) fun K hK => ?_
  go_simp
  refine hK _ _ fun a8 hsz8 hde8 f15 hk => ?_
  clear hK K
  replace f0 := (hk 0 (by decide)).trans f0
  replace f15 : a8.tmps[15]?.getD undef = .bool (!b1) := f15
  clear hk hsz7 hde7 f11 f14
  refine wpList_nil ?_
  refine then_go ?_
  repeat with_reducible refine wp_seq ?_
  cases b1 with
  | false =>
    replace f15 : a8.tmps[15]?.getD undef = .bool true := f15
    refine wp_cond_true (eval_at f15) ?_
    clear f15
    repeat with_reducible refine wp_seq ?_
    refine wp_region_lit ?_
    refine wpList_next rfl hsz8 hde8 16 rfl (by decide) fun K hK => ?_
    go_simp
    refine (Hlv.out _ Hw1.out).mono ?_
    rintro e8 w8 ⟨rfl, hb9⟩
    go_simp
    refine hK _ _ fun a9 hsz9 hde9 f16 hk => ?_
    clear hK K
    replace f0 := (hk 0 (by decide)).trans f0
    replace f16 : a9.tmps[16]?.getD undef = .bool true := f16
    clear hk hsz8 hde8
    have Hwx := Lib.hid (below_call Hw1.out hb9)
    clear hb9
    refine wpList_next rfl hsz9 hde9 2 rfl (by decide) fun K hK => ?_
    go_simp
    refine hK _ _ fun a10 hsz10 hde10 f2 hk => ?_
    clear hK K
    replace f0 := (hk 0 (by decide)).trans f0
    replace f2 : a10.tmps[2]?.getD undef = .bool true := f2
    clear hk hsz9 hde9 f16
    refine wpList_nil ?_
    refine then_go ?_
    refine wp_ret ?_
    repeat first | with_reducible refine then_ret ?_ | with_reducible refine block_ret ?_
    refine ret_tmp Tryd.results5 hde10 f2 ?_
    exact ⟨rfl, Hwx.out⟩
  | true =>
    replace f15 : a8.tmps[15]?.getD undef = .bool false := f15
    refine wp_cond_false (eval_at f15) ?_
    refine wp_skip ?_
    refine then_go ?_
    clear f15
    repeat with_reducible refine wp_seq ?_
    obtain ⟨E, hE⟩ : ∃ E, E = (cleanV L).2 := ⟨_, rfl⟩
    obtain ⟨O, hO⟩ : ∃ O, O = (cleanV L).1 := ⟨_, rfl⟩
    have Hca := Lib.hid (Hcl.out _ Hw1.out rfl)
    rw [← hE, ← hO] at Hca
    have HE := Lib.hid hE
    have HO := Lib.hid hO
    clear hE hO Hcl
    refine wp_region_lit ?_
    refine wpList_next rfl hsz8 hde8 18 rfl (by decide) fun K hK => ?_
    go_simp
    refine hK _ _ fun a9 hsz9 hde9 f18 hk => ?_
    clear hK K
    replace f0 := (hk 0 (by decide)).trans f0
    replace f18 : a9.tmps[18]?.getD undef = .slice A n c := f18
    clear hk hsz8 hde8
    refine wpList_next rfl hsz9 hde9 19 rfl (by decide) fun K hK => ?_
    go_simp
    refine Hca.out.mono ?_
    rintro e3 w3 ⟨⟨vo, rfl, hto⟩, hb9⟩
    have Hw4 := Lib.hid (below_call Hw1.out hb9)
    have Hto := Lib.hid hto
    clear hto hb9
    go_simp
    refine hK _ _ fun a10 hsz10 hde10 f19 hk => ?_
    clear hK K
    replace f0 := (hk 0 (by decide)).trans f0
    replace f19 : a10.tmps[19]?.getD undef = .tuple #[vo, .int .i64 E] := f19
    clear hk hsz9 hde9 f18
    refine wpList_next rfl hsz10 hde10 17 rfl (by decide) fun K hK => ?_
    go_simp
    refine hK _ _ fun a11 hsz11 hde11 f17 hk => ?_
    clear hK K
    replace f0 := (hk 0 (by decide)).trans f0
    replace f17 : a11.tmps[17]?.getD undef = .tuple #[vo, .int .i64 E] := f17
    clear hk hsz10 hde10 f19
    refine wpList_next rfl hsz11 hde11 20 rfl (by decide) fun K hK => ?_
    go_simp
    refine hK _ _ fun a12 hsz12 hde12 f20 hk => ?_
    clear hK K
    replace f0 := (hk 0 (by decide)).trans f0
    replace f17 := (hk 17 (by decide)).trans f17
    replace f20 : a12.tmps[20]?.getD undef = vo := f20
    clear hk hsz11 hde11
    refine wpList_next rfl hsz12 hde12 21 rfl (by decide) fun K hK => ?_
    go_simp
    refine hK _ _ fun a13 hsz13 hde13 f21 hk => ?_
    clear hK K
    replace f0 := (hk 0 (by decide)).trans f0
    replace f20 := (hk 20 (by decide)).trans f20
    replace f21 : a13.tmps[21]?.getD undef = .int .i64 E := f21
    clear hk hsz12 hde12 f17
    refine wpList_next rfl hsz13 hde13 3 rfl (by decide) fun K hK => ?_
    go_simp
    refine hK _ _ fun a14 hsz14 hde14 f3 hk => ?_
    clear hK K
    replace f0 := (hk 0 (by decide)).trans f0
    replace f21 := (hk 21 (by decide)).trans f21
    replace f3 : a14.tmps[3]?.getD undef = vo := f3
    clear hk hsz13 hde13 f20
    refine wpList_next rfl hsz14 hde14 4 rfl (by decide) fun K hK => ?_
    go_simp
    refine hK _ _ fun a15 hsz15 hde15 f4 hk => ?_
    clear hK K
    replace f0 := (hk 0 (by decide)).trans f0
    replace f3 := (hk 3 (by decide)).trans f3
    replace f4 : a15.tmps[4]?.getD undef = .int .i64 E := f4
    clear hk hsz14 hde14 f21
    refine wpList_nil ?_
    refine then_go ?_
    repeat with_reducible refine wp_seq ?_
    clear f0
    obtain ⟨Ao, co, hvo, hco1, hco2, hro⟩ := Hto.out
    obtain ⟨m, hm⟩ : ∃ m, m = O.length := ⟨_, rfl⟩
    rw [← hm] at hvo hco1
    have Hm := Lib.hid hm
    have Hvo := Lib.hid hvo
    have Hro := Lib.hid hro
    clear hm hro hvo
    by_cases hE0 : E = 0
    · have HE0 := Lib.hid hE0
      clear hE0
      refine wp_region_lit ?_
      refine wpList_next rfl hsz15 hde15 22 rfl (by decide) fun K hK => ?_
      go_simp
      refine hK _ _ fun a16 hsz16 hde16 f22 hk => ?_
      clear hK K
      replace f3 := (hk 3 (by decide)).trans f3
      replace f4 := (hk 4 (by decide)).trans f4
      replace f22 : a16.tmps[22]?.getD undef = .int .i64 E := f22
      clear hk hsz15 hde15
      refine wpList_next rfl hsz16 hde16 23 rfl (by decide) fun K hK => ?_
      go_simp
      refine hK _ _ fun a17 hsz17 hde17 f23 hk => ?_
      clear hK K
      replace f3 := (hk 3 (by decide)).trans f3
      replace f4 := (hk 4 (by decide)).trans f4
      clear hk hsz16 hde16 f22
      replace f23 : a17.tmps[23]?.getD undef = .bool false := f23.trans (by have h7 := HE0.out; first | (rw [h7]; rfl) | (simp [h7]; done))
      refine wpList_nil ?_
      refine then_go ?_
      repeat with_reducible refine wp_seq ?_
      refine wp_cond_false (eval_at f23) ?_
      refine wp_skip ?_
      refine then_go ?_
      clear f23 f4
      repeat with_reducible refine wp_seq ?_
      obtain ⟨hpa, hle, hO1⟩ := cleanV_ok (HE.out.symm.trans HE0.out)
      have hO2 : O = cleanT L := by rw [HO.out]; exact hO1
      have Htops := Lib.hid (show Tops L O by rw [hO2]; exact cleanT_tops hpa)
      have Hpa := Lib.hid hpa
      have hm8 : m ≤ 8 := by rw [Hm.out, hO2]; exact hle
      clear hpa hle hO1 hO2
      refine wp_region_lit ?_
      refine wpList_next rfl hsz17 hde17 5 rfl (by decide) fun K hK => ?_
      go_simp
      refine hK _ _ fun a18 hsz18 hde18 f5 hk => ?_
      clear hK K
      replace f3 := (hk 3 (by decide)).trans f3
      replace f5 : a18.tmps[5]?.getD undef = .slice none 0 0 := f5
      clear hk hsz17 hde17
      refine wpList_nil ?_
      refine then_go ?_
      repeat with_reducible refine wp_seq ?_
      rw [Hvo.out] at f3
      refine wp_region_lit ?_
      refine wpList_next rfl hsz18 hde18 27 rfl (by decide) fun K hK => ?_
      go_simp
      refine hK _ _ fun a19 hsz19 hde19 f27 hk => ?_
      clear hK K
      replace f3 := (hk 3 (by decide)).trans f3
      replace f5 := (hk 5 (by decide)).trans f5
      replace f27 : a19.tmps[27]?.getD undef = .slice Ao m co := f27
      clear hk hsz18 hde18
      refine wpList_next rfl hsz19 hde19 28 rfl (by decide) fun K hK => ?_
      go_simp
      refine hK _ _ fun a20 hsz20 hde20 f28 hk => ?_
      clear hK K
      replace f3 := (hk 3 (by decide)).trans f3
      replace f5 := (hk 5 (by decide)).trans f5
      replace f28 : a20.tmps[28]?.getD undef = .int .i64 ((m : Nat) : Int) := f28
      clear hk hsz19 hde19 f27
      refine wpList_next rfl hsz20 hde20 29 rfl (by decide) fun K hK => ?_
      go_simp
      refine hK _ _ fun a21 hsz21 hde21 f29 hk => ?_
      clear hK K
      replace f3 := (hk 3 (by decide)).trans f3
      replace f5 := (hk 5 (by decide)).trans f5
      replace f28 := (hk 28 (by decide)).trans f28
      replace f29 : a21.tmps[29]?.getD undef = .int .i64 ((0 : Nat) : Int) := f29
      clear hk hsz20 hde20
      refine wpList_nil ?_
      refine then_go ?_
      repeat with_reducible refine wp_seq ?_
      refine wp_block ?_
      refine wp_loop_ghost (TwInv w3 (.slice Ao m co) O m) (m - 0) ?_ ?_
      · exact ⟨0, _, hsz21, hde21, f3, f5, f28, f29, Lib.hid (Nat.zero_le _), Lib.hid (OwnK.nil _ _ _ _), Lib.hid (Below.refl _ _), rfl⟩
      clear hsz21 hde21 f3 f5 f28 f29
      intro n2 a59 wr hI
      obtain ⟨i, u, hsz59, hde59, f3, f5, f28, f29, Hi, Hown, Hbw, hn2⟩ := hI
      have Hn2 := Lib.hid hn2
      clear hn2
      repeat with_reducible refine wp_seq ?_
      by_cases hlt : i < m
      · skip
        refine wp_region_lit ?_
        refine wpList_next rfl hsz59 hde59 30 rfl (by decide) fun K hK => ?_
        go_simp
        refine hK _ _ fun a60 hsz60 hde60 f30 hk => ?_
        clear hK K
        replace f3 := (hk 3 (by decide)).trans f3
        replace f5 := (hk 5 (by decide)).trans f5
        replace f28 := (hk 28 (by decide)).trans f28
        replace f29 := (hk 29 (by decide)).trans f29
        clear hk hsz59 hde59
        replace f30 : a60.tmps[30]?.getD undef = .bool true := f30.trans (by first | rfl | (congr 1; first | exact decide_eq_true (by omega) | exact decide_eq_false (by omega)) | (simp; omega))
        refine wpList_nil ?_
        refine then_go ?_
        repeat with_reducible refine wp_seq ?_
        refine wp_cond_true (eval_at f30) ?_
        refine wp_skip ?_
        refine then_go ?_
        clear f30
        repeat with_reducible refine wp_seq ?_
        refine wp_block ?_
        repeat with_reducible refine wp_seq ?_
        refine wp_region_lit ?_
        refine wpList_next rfl hsz60 hde60 31 rfl (by decide) fun K hK => ?_
        go_simp
        refine hK _ _ fun a61 hsz61 hde61 f31 hk => ?_
        clear hK K
        replace f3 := (hk 3 (by decide)).trans f3
        replace f5 := (hk 5 (by decide)).trans f5
        replace f28 := (hk 28 (by decide)).trans f28
        replace f29 := (hk 29 (by decide)).trans f29
        replace f31 : a61.tmps[31]?.getD undef = .int .i64 ((i : Nat) : Int) := f31
        clear hk hsz60 hde60
        refine wpList_next rfl hsz61 hde61 6 rfl (by decide) fun K hK => ?_
        go_simp
        refine hK _ _ fun a62 hsz62 hde62 f6 hk => ?_
        clear hK K
        replace f3 := (hk 3 (by decide)).trans f3
        replace f5 := (hk 5 (by decide)).trans f5
        replace f28 := (hk 28 (by decide)).trans f28
        replace f29 := (hk 29 (by decide)).trans f29
        replace f6 : a62.tmps[6]?.getD undef = .int .i64 ((i : Nat) : Int) := f6
        clear hk hsz61 hde61 f31
        refine wpList_nil ?_
        refine then_go ?_
        repeat with_reducible refine wp_seq ?_
        obtain ⟨b, off, hA, hc⟩ := cells_at (Below.refl _ w3) Hro.out (by intro e; have h1 := Hm.out; rw [e] at h1; simp at h1; omega)
        obtain ⟨jj, hjj⟩ : ∃ jj, jj = m - 1 - i := ⟨_, rfl⟩
        obtain ⟨jm, hjm⟩ : ∃ jm, jm = m - 1 := ⟨_, rfl⟩
        have hjm2 : (m : Int) - 1 = (jm : Int) := by omega
        have hjj2 : (jm : Int) - (i : Int) = (jj : Int) := by omega
        have hjl : jj < O.length := by rw [← Hm.out]; omega
        have hil : i < O.length := by rw [← Hm.out]; omega
        have hcx := fun z (hz : Below w3.heap.size w3 z) => (hz.cell (p := ⟨b, off + i, none⟩) (World.block_lt_of_cell? _ _ (hc i hil))).trans (hc i hil)
        have hcy := fun z (hz : Below w3.heap.size w3 z) => (hz.cell (p := ⟨b, off + jj, none⟩) (World.block_lt_of_cell? _ _ (hc jj hjl))).trans (hc jj hjl)
        have hts : turnT O (i + 1) = turnT O i ++ [O[jj], O[i]] := by
          rw [turnT_succ]
          have e1 : O.length - 1 - i = jj := by rw [← Hm.out]; omega
          rw [e1]
          simp [hjl, hil]
        obtain ⟨x, hx⟩ : ∃ x, x = O[i] := ⟨_, rfl⟩
        obtain ⟨y, hy⟩ : ∃ y, y = O[jj] := ⟨_, rfl⟩
        rw [← hx] at hcx hts
        rw [← hy] at hcy hts
        have Hcx := Lib.hid hcx
        have Hcy := Lib.hid hcy
        have Hts := Lib.hid hts
        obtain ⟨U, hU⟩ : ∃ U, U = turnT O i := ⟨_, rfl⟩
        rw [← hU] at Hown Hts
        have hUl : U.length ≤ 16 := by rw [hU, turnT_len]; omega
        have HU := Lib.hid hU
        subst hA
        have hjj0 : (0 : Int) ≤ (jj : Int) := by omega
        have hjjm : (jj : Int) < (m : Int) := by omega
        have hi0 : (0 : Int) ≤ (i : Int) := by omega
        have him : (i : Int) < (m : Int) := by omega
        have Hjm := Lib.hid hjm2
        have Hjj := Lib.hid hjj2
        clear hc hx hy hcx hcy hts hU hjj hjm hjm2 hjj2 hjl hil
        have hbs := Hbw.out.size
        have Hz0 := Lib.hid (show Below w3.heap.size w3 wr.drew from ⟨Hbw.out.os, Hbw.out.tape, Hbw.out.output, Hbw.out.size, Hbw.out.block⟩)
        have Hz1 := Lib.hid (show Below w3.heap.size w3 (wr.drew.alloc (.cells #[.string ⟨y.toArray⟩, .string ⟨x.toArray⟩] 9)) from Hz0.out.alloc hbs _)
        obtain ⟨v2, W2, hrun, hown2, hg2, hat2⟩ := run_appK (P := Tryd.prog) (wr.drew.alloc (.cells #[.string ⟨y.toArray⟩, .string ⟨x.toArray⟩] 9)) (t := 22) (ty := 22) elemS1 (OwnK.alloc (OwnK.drew Hown.out) _) (ok := fun _ => True) (A := some ⟨wr.heap.size, 0, none⟩) (m := 2) (c := 2) (news := [.string ⟨y.toArray⟩, .string ⟨x.toArray⟩]) rfl ((Blk.new wr.drew 9 #[.string ⟨y.toArray⟩, .string ⟨x.toArray⟩]).rd _ trivial) (by intro u hu; simp at hu; rcases hu with rfl | rfl <;> rfl) (by omega) (by omega) Hz1.out.size
        have Hz2 := Lib.hid (show Below w3.heap.size w3 W2 from Hz1.out.trans (OwnK.below_of (OwnK.alloc (OwnK.drew Hown.out) _) hg2 Hz1.out.size (Nat.le_refl _)))
        have Hrun := Lib.hid hrun
        have Hown2 := Lib.hid (show OwnT W2 w3.heap.size v2 (turnT O (i + 1)) by rw [Hts.out]; unfold OwnT; rw [List.map_append, List.length_append]; exact hown2)
        clear hrun hown2 hg2 hat2
        refine wp_region_fix2 (fun t => match t with | 32 => u | 33 => .slice (some ⟨b, off, none⟩) m co | 34 => .slice (some ⟨b, off, none⟩) m co | 35 => .int .i64 ((m : Nat) : Int) | 36 => .int .i64 (jm : Int) | 37 => .int .i64 ((i : Nat) : Int) | 38 => .int .i64 (jj : Int) | 39 => .pointer (some ⟨b, off + jj, none⟩) | 40 => .string ⟨y.toArray⟩ | 41 => .slice (some ⟨b, off, none⟩) m co | 42 => .int .i64 ((i : Nat) : Int) | 43 => .pointer (some ⟨b, off + i, none⟩) | 44 => .string ⟨x.toArray⟩ | 45 => .slice (some ⟨wr.heap.size, 0, none⟩) 2 2 | 46 => v2 | 5 => v2 | _ => undef) (Ch2 13 14 wr.drew (wr.drew.alloc (.cells #[.string ⟨y.toArray⟩, .string ⟨x.toArray⟩] 9)) W2) 60 (by kernel_rfl) (by kernel_rfl) (by kernel_rfl) hsz62.out Ch2.start ?_ ?_
        · intro i0 o0 hi0 dn aw xw hJ hd hpre hcl hsame hV K hK
          have hlt0 : i0 < 16 := (Array.getElem?_eq_some_iff.1 hi0).1
          rcases (show i0 = 0 ∨ i0 = 1 ∨ i0 = 2 ∨ i0 = 3 ∨ i0 = 4 ∨ i0 = 5 ∨ i0 = 6 ∨ i0 = 7 ∨ i0 = 8 ∨ i0 = 9 ∨ i0 = 10 ∨ i0 = 11 ∨ i0 = 12 ∨ i0 = 13 ∨ i0 = 14 ∨ i0 = 15 by omega) with rfl | rfl | rfl | rfl | rfl | rfl | rfl | rfl | rfl | rfl | rfl | rfl | rfl | rfl | rfl | rfl
          all_goals (have ho0 := Option.some.inj hi0; subst ho0; clear hi0 hlt0)
          · have q5 : aw.tmps[5]?.getD undef = u := (hsame 5 (fun j hj => by have hj2 := slot_only (w := 15) (by decide +kernel) j hj; subst hj2; exact Bool.eq_false_iff.2 (fun h => by have h2 := hcl 15 _ rfl h ⟨0, .phase⟩ (by simp) rfl; rw [hd] at h2; cases h2))).trans f5
            have hk := Lib.hid (show ∀ v x', v = u → (Ch2 13 14 wr.drew (wr.drew.alloc (.cells #[.string ⟨y.toArray⟩, .string ⟨x.toArray⟩] 9)) W2) (also dn 0) x' → K (aw.put (some 32) v) x' from fun v x' h1 h2 => hK v x' (fun s hs => by cases hs; exact h1) h2)
            have HJ2 := Lib.hid hJ
            clear hsame hpre hcl hK hV hJ hd
            go_simp
            exact hk.out _ _ rfl (HJ2.out.more (by decide) (by decide))
          · have q3 : aw.tmps[3]?.getD undef = .slice (some ⟨b, off, none⟩) m co := (hsame 3 (fun j hj => absurd hj (slot_free (by decide +kernel) j))).trans f3
            have hk := Lib.hid (show ∀ v x', v = .slice (some ⟨b, off, none⟩) m co → (Ch2 13 14 wr.drew (wr.drew.alloc (.cells #[.string ⟨y.toArray⟩, .string ⟨x.toArray⟩] 9)) W2) (also dn 1) x' → K (aw.put (some 33) v) x' from fun v x' h1 h2 => hK v x' (fun s hs => by cases hs; exact h1) h2)
            have HJ2 := Lib.hid hJ
            clear hsame hpre hcl hK hV hJ hd
            go_simp
            exact hk.out _ _ rfl (HJ2.out.more (by decide) (by decide))
          · have q3 : aw.tmps[3]?.getD undef = .slice (some ⟨b, off, none⟩) m co := (hsame 3 (fun j hj => absurd hj (slot_free (by decide +kernel) j))).trans f3
            have hk := Lib.hid (show ∀ v x', v = .slice (some ⟨b, off, none⟩) m co → (Ch2 13 14 wr.drew (wr.drew.alloc (.cells #[.string ⟨y.toArray⟩, .string ⟨x.toArray⟩] 9)) W2) (also dn 2) x' → K (aw.put (some 34) v) x' from fun v x' h1 h2 => hK v x' (fun s hs => by cases hs; exact h1) h2)
            have HJ2 := Lib.hid hJ
            clear hsame hpre hcl hK hV hJ hd
            go_simp
            exact hk.out _ _ rfl (HJ2.out.more (by decide) (by decide))
          · have q34 : aw.tmps[34]?.getD undef = .slice (some ⟨b, off, none⟩) m co := hV 2 34 (hpre ⟨2, .data⟩ (by simp) rfl) rfl
            have hk := Lib.hid (show ∀ v x', v = .int .i64 ((m : Nat) : Int) → (Ch2 13 14 wr.drew (wr.drew.alloc (.cells #[.string ⟨y.toArray⟩, .string ⟨x.toArray⟩] 9)) W2) (also dn 3) x' → K (aw.put (some 35) v) x' from fun v x' h1 h2 => hK v x' (fun s hs => by cases hs; exact h1) h2)
            have HJ2 := Lib.hid hJ
            clear hsame hpre hcl hK hV hJ hd
            go_simp
            exact hk.out _ _ rfl (HJ2.out.more (by decide) (by decide))
          · have q35 : aw.tmps[35]?.getD undef = .int .i64 ((m : Nat) : Int) := hV 3 35 (hpre ⟨3, .data⟩ (by simp) rfl) rfl
            have hk := Lib.hid (show ∀ v x', v = .int .i64 (jm : Int) → (Ch2 13 14 wr.drew (wr.drew.alloc (.cells #[.string ⟨y.toArray⟩, .string ⟨x.toArray⟩] 9)) W2) (also dn 4) x' → K (aw.put (some 36) v) x' from fun v x' h1 h2 => hK v x' (fun s hs => by cases hs; exact h1) h2)
            have HJ2 := Lib.hid hJ
            clear hsame hpre hcl hK hV hJ hd
            have h7 := Hjm.out
            go_simp
            exact hk.out _ _ (by first | rfl | (rw [h7]; done) | (congr 1; done) | (congr 1; omega) | (congr 1; rw [IntKind.wrap_i64] <;> omega)) (HJ2.out.more (by decide) (by decide))
          · have q6 : aw.tmps[6]?.getD undef = .int .i64 ((i : Nat) : Int) := (hsame 6 (fun j hj => absurd hj (slot_free (by decide +kernel) j))).trans f6
            have hk := Lib.hid (show ∀ v x', v = .int .i64 ((i : Nat) : Int) → (Ch2 13 14 wr.drew (wr.drew.alloc (.cells #[.string ⟨y.toArray⟩, .string ⟨x.toArray⟩] 9)) W2) (also dn 5) x' → K (aw.put (some 37) v) x' from fun v x' h1 h2 => hK v x' (fun s hs => by cases hs; exact h1) h2)
            have HJ2 := Lib.hid hJ
            clear hsame hpre hcl hK hV hJ hd
            go_simp
            exact hk.out _ _ rfl (HJ2.out.more (by decide) (by decide))
          · have q36 : aw.tmps[36]?.getD undef = .int .i64 (jm : Int) := hV 4 36 (hpre ⟨4, .data⟩ (by simp) rfl) rfl
            have q37 : aw.tmps[37]?.getD undef = .int .i64 ((i : Nat) : Int) := hV 5 37 (hpre ⟨5, .data⟩ (by simp) rfl) rfl
            have hk := Lib.hid (show ∀ v x', v = .int .i64 (jj : Int) → (Ch2 13 14 wr.drew (wr.drew.alloc (.cells #[.string ⟨y.toArray⟩, .string ⟨x.toArray⟩] 9)) W2) (also dn 6) x' → K (aw.put (some 38) v) x' from fun v x' h1 h2 => hK v x' (fun s hs => by cases hs; exact h1) h2)
            have HJ2 := Lib.hid hJ
            clear hsame hpre hcl hK hV hJ hd
            have h7 := Hjj.out
            go_simp
            exact hk.out _ _ (by first | rfl | (rw [h7]; done) | (congr 1; done) | (congr 1; omega) | (congr 1; rw [IntKind.wrap_i64] <;> omega)) (HJ2.out.more (by decide) (by decide))
          · have q33 : aw.tmps[33]?.getD undef = .slice (some ⟨b, off, none⟩) m co := hV 1 33 (hpre ⟨1, .data⟩ (by simp) rfl) rfl
            have q38 : aw.tmps[38]?.getD undef = .int .i64 (jj : Int) := hV 6 38 (hpre ⟨6, .data⟩ (by simp) rfl) rfl
            have hk := Lib.hid (show ∀ v x', v = .pointer (some ⟨b, off + jj, none⟩) → (Ch2 13 14 wr.drew (wr.drew.alloc (.cells #[.string ⟨y.toArray⟩, .string ⟨x.toArray⟩] 9)) W2) (also dn 7) x' → K (aw.put (some 39) v) x' from fun v x' h1 h2 => hK v x' (fun s hs => by cases hs; exact h1) h2)
            have HJ2 := Lib.hid hJ
            clear hsame hpre hcl hK hV hJ hd
            go_simp
            exact hk.out _ _ rfl (HJ2.out.more (by decide) (by decide))
          · have q39 : aw.tmps[39]?.getD undef = .pointer (some ⟨b, off + jj, none⟩) := hV 7 39 (hpre ⟨7, .data⟩ (by simp) rfl) rfl
            have hk := Lib.hid (show ∀ v x', v = .string ⟨y.toArray⟩ → (Ch2 13 14 wr.drew (wr.drew.alloc (.cells #[.string ⟨y.toArray⟩, .string ⟨x.toArray⟩] 9)) W2) (also dn 8) x' → K (aw.put (some 40) v) x' from fun v x' h1 h2 => hK v x' (fun s hs => by cases hs; exact h1) h2)
            have HJ2 := Lib.hid hJ
            clear hsame hpre hcl hK hV hJ hd
            have c8 := Hcy.out _ (HJ2.out.all (p := fun z => Below w3.heap.size w3 z) Hz0.out Hz1.out Hz2.out)
            go_simp
            exact hk.out _ _ rfl (HJ2.out.more (by decide) (by decide))
          · have q3 : aw.tmps[3]?.getD undef = .slice (some ⟨b, off, none⟩) m co := (hsame 3 (fun j hj => absurd hj (slot_free (by decide +kernel) j))).trans f3
            have hk := Lib.hid (show ∀ v x', v = .slice (some ⟨b, off, none⟩) m co → (Ch2 13 14 wr.drew (wr.drew.alloc (.cells #[.string ⟨y.toArray⟩, .string ⟨x.toArray⟩] 9)) W2) (also dn 9) x' → K (aw.put (some 41) v) x' from fun v x' h1 h2 => hK v x' (fun s hs => by cases hs; exact h1) h2)
            have HJ2 := Lib.hid hJ
            clear hsame hpre hcl hK hV hJ hd
            go_simp
            exact hk.out _ _ rfl (HJ2.out.more (by decide) (by decide))
          · have q6 : aw.tmps[6]?.getD undef = .int .i64 ((i : Nat) : Int) := (hsame 6 (fun j hj => absurd hj (slot_free (by decide +kernel) j))).trans f6
            have hk := Lib.hid (show ∀ v x', v = .int .i64 ((i : Nat) : Int) → (Ch2 13 14 wr.drew (wr.drew.alloc (.cells #[.string ⟨y.toArray⟩, .string ⟨x.toArray⟩] 9)) W2) (also dn 10) x' → K (aw.put (some 42) v) x' from fun v x' h1 h2 => hK v x' (fun s hs => by cases hs; exact h1) h2)
            have HJ2 := Lib.hid hJ
            clear hsame hpre hcl hK hV hJ hd
            go_simp
            exact hk.out _ _ rfl (HJ2.out.more (by decide) (by decide))
          · have q41 : aw.tmps[41]?.getD undef = .slice (some ⟨b, off, none⟩) m co := hV 9 41 (hpre ⟨9, .data⟩ (by simp) rfl) rfl
            have q42 : aw.tmps[42]?.getD undef = .int .i64 ((i : Nat) : Int) := hV 10 42 (hpre ⟨10, .data⟩ (by simp) rfl) rfl
            have hk := Lib.hid (show ∀ v x', v = .pointer (some ⟨b, off + i, none⟩) → (Ch2 13 14 wr.drew (wr.drew.alloc (.cells #[.string ⟨y.toArray⟩, .string ⟨x.toArray⟩] 9)) W2) (also dn 11) x' → K (aw.put (some 43) v) x' from fun v x' h1 h2 => hK v x' (fun s hs => by cases hs; exact h1) h2)
            have HJ2 := Lib.hid hJ
            clear hsame hpre hcl hK hV hJ hd
            go_simp
            exact hk.out _ _ rfl (HJ2.out.more (by decide) (by decide))
          · have q43 : aw.tmps[43]?.getD undef = .pointer (some ⟨b, off + i, none⟩) := hV 11 43 (hpre ⟨11, .data⟩ (by simp) rfl) rfl
            have hk := Lib.hid (show ∀ v x', v = .string ⟨x.toArray⟩ → (Ch2 13 14 wr.drew (wr.drew.alloc (.cells #[.string ⟨y.toArray⟩, .string ⟨x.toArray⟩] 9)) W2) (also dn 12) x' → K (aw.put (some 44) v) x' from fun v x' h1 h2 => hK v x' (fun s hs => by cases hs; exact h1) h2)
            have HJ2 := Lib.hid hJ
            clear hsame hpre hcl hK hV hJ hd
            have c8 := Hcx.out _ (HJ2.out.all (p := fun z => Below w3.heap.size w3 z) Hz0.out Hz1.out Hz2.out)
            go_simp
            exact hk.out _ _ rfl (HJ2.out.more (by decide) (by decide))
          · have q40 : aw.tmps[40]?.getD undef = .string ⟨y.toArray⟩ := hV 8 40 (hpre ⟨8, .data⟩ (by simp) rfl) rfl
            have q44 : aw.tmps[44]?.getD undef = .string ⟨x.toArray⟩ := hV 12 44 (hpre ⟨12, .data⟩ (by simp) rfl) rfl
            have hk := Lib.hid (show ∀ v x', v = .slice (some ⟨wr.heap.size, 0, none⟩) 2 2 → (Ch2 13 14 wr.drew (wr.drew.alloc (.cells #[.string ⟨y.toArray⟩, .string ⟨x.toArray⟩] 9)) W2) (also dn 13) x' → K (aw.put (some 45) v) x' from fun v x' h1 h2 => hK v x' (fun s hs => by cases hs; exact h1) h2)
            obtain ⟨hxe, hJ3⟩ := hJ.first hd (by decide)
            subst hxe
            have HJ3 := Lib.hid hJ3
            clear hsame hpre hcl hK hV hJ hJ3 hd
            go_simp
            exact hk.out _ _ rfl HJ3.out
          · have q32 : aw.tmps[32]?.getD undef = u := hV 0 32 (hpre ⟨0, .data⟩ (by simp) rfl) rfl
            have q45 : aw.tmps[45]?.getD undef = .slice (some ⟨wr.heap.size, 0, none⟩) 2 2 := hV 13 45 (hpre ⟨13, .data⟩ (by simp) rfl) rfl
            have hk := Lib.hid (show ∀ v x', v = v2 → (Ch2 13 14 wr.drew (wr.drew.alloc (.cells #[.string ⟨y.toArray⟩, .string ⟨x.toArray⟩] 9)) W2) (also dn 14) x' → K (aw.put (some 46) v) x' from fun v x' h1 h2 => hK v x' (fun s hs => by cases hs; exact h1) h2)
            obtain ⟨hxe, hJ3⟩ := hJ.second (hpre ⟨13, .data⟩ (by simp) rfl) hd (by decide)
            subst hxe
            refine wp_append (.tmp 32) (.tmp 45) 22 rfl (by rw [eval_at q32, eval_at q45]; exact Hrun.out) ?_
            exact hk.out _ _ rfl hJ3
          · have q46 : aw.tmps[46]?.getD undef = v2 := hV 14 46 (hpre ⟨14, .data⟩ (by simp) rfl) rfl
            have hk := Lib.hid (show ∀ v x', v = v2 → (Ch2 13 14 wr.drew (wr.drew.alloc (.cells #[.string ⟨y.toArray⟩, .string ⟨x.toArray⟩] 9)) W2) (also dn 15) x' → K (aw.put (some 5) v) x' from fun v x' h1 h2 => hK v x' (fun s hs => by cases hs; exact h1) h2)
            have HJ2 := Lib.hid hJ
            clear hsame hpre hcl hK hV hJ hd
            go_simp
            exact hk.out _ _ rfl (HJ2.out.more (by decide) (by decide))
        intro dn a63 x63 hall hJ hsame hV hsz63 hde63
        have hx := hJ.done (hall 14 (by decide))
        subst hx
        replace f3 := (hsame 3 (slot_free (by decide +kernel))).trans f3
        clear f5
        replace f28 := (hsame 28 (slot_free (by decide +kernel))).trans f28
        replace f29 := (hsame 29 (slot_free (by decide +kernel))).trans f29
        replace f6 := (hsame 6 (slot_free (by decide +kernel))).trans f6
        have f5 : a63.tmps[5]?.getD undef = v2 := hV 15 5 (by decide) rfl
        have hsz63h := Lib.hid hsz63
        have hde63h := Lib.hid (hde63.trans hde62.out)
        clear hsame hV hJ hall hsz63 hde63 hsz62 hde62
        clear f6
        repeat first | with_reducible refine block_go ?_ | with_reducible refine then_go ?_
        repeat with_reducible refine wp_seq ?_
        refine wp_region_lit ?_
        refine wpList_next rfl hsz63h hde63h 47 rfl (by decide) fun K hK => ?_
        go_simp
        refine hK _ _ fun a64 hsz64 hde64 f47 hk => ?_
        clear hK K
        replace f3 := (hk 3 (by decide)).trans f3
        replace f28 := (hk 28 (by decide)).trans f28
        replace f29 := (hk 29 (by decide)).trans f29
        replace f5 := (hk 5 (by decide)).trans f5
        clear hk hsz63h hde63h
        replace f47 : a64.tmps[47]?.getD undef = .int .i64 (((i + 1 : Nat) : Int)) := f47.trans (by first | rfl | (congr 1; done) | (congr 1; omega) | (congr 1; rw [IntKind.wrap_i64] <;> omega))
        refine wpList_next rfl hsz64 hde64 29 rfl (by decide) fun K hK => ?_
        go_simp
        refine hK _ _ fun a65 hsz65 hde65 f29 hk => ?_
        clear hK K
        replace f3 := (hk 3 (by decide)).trans f3
        replace f28 := (hk 28 (by decide)).trans f28
        replace f5 := (hk 5 (by decide)).trans f5
        replace f29 : a65.tmps[29]?.getD undef = .int .i64 ((i + 1 : Nat) : Int) := f29
        clear hk hsz64 hde64 f47
        refine wpList_nil ?_
        refine then_go ?_
        exact ⟨m - (i + 1), by rw [Hn2.out]; omega, i + 1, v2, hsz65, hde65, f3, f5, f28, f29, Lib.hid (by omega), Hown2, Hz2, rfl⟩
      refine wp_region_lit ?_
      refine wpList_next rfl hsz59 hde59 30 rfl (by decide) fun K hK => ?_
      go_simp
      refine hK _ _ fun a60 hsz60 hde60 f30 hk => ?_
      clear hK K
      replace f3 := (hk 3 (by decide)).trans f3
      replace f5 := (hk 5 (by decide)).trans f5
      replace f28 := (hk 28 (by decide)).trans f28
      replace f29 := (hk 29 (by decide)).trans f29
      clear hk hsz59 hde59
      replace f30 : a60.tmps[30]?.getD undef = .bool false := f30.trans (by first | rfl | (congr 1; first | exact decide_eq_true (by omega) | exact decide_eq_false (by omega)) | (simp; omega))
      refine wpList_nil ?_
      refine then_go ?_
      repeat with_reducible refine wp_seq ?_
      refine wp_cond_false (eval_at f30) ?_
      refine wp_exit ?_
      repeat with_reducible refine then_exit ?_
      refine block_exit ?_
      repeat first | with_reducible refine block_go ?_ | with_reducible refine then_go ?_
      clear f30 f28 f29
      repeat with_reducible refine wp_seq ?_
      have hfin := Hown.out
      have him : i = O.length := by have := Hi.out; rw [← Hm.out]; omega
      rw [him] at hfin
      obtain ⟨Au, cu, hu, hcu1, hcu2, hru⟩ := OwnT.form hfin
      have hc2 := clean_any _ Au cu (turnT O O.length) wr (He.out.grow (below_call Hw4.out Hbw.out)) hru (by rw [turnT_len]; have h1 := Hm.out; omega)
      rw [turnT_clean Hpa.out Htops.out (by rw [← Hm.out]; exact hm8)] at hc2
      obtain ⟨q, hq⟩ : ∃ q, q = (turnT O O.length).length := ⟨_, rfl⟩
      rw [← hq] at hc2 hu
      subst hu
      have Hc2 := Lib.hid hc2
      clear hfin hc2 hru him hcu1 hcu2 hq
      refine wp_region_lit ?_
      refine wpList_next rfl hsz60 hde60 49 rfl (by decide) fun K hK => ?_
      go_simp
      refine hK _ _ fun a61 hsz61 hde61 f49 hk => ?_
      clear hK K
      replace f3 := (hk 3 (by decide)).trans f3
      replace f5 := (hk 5 (by decide)).trans f5
      replace f49 : a61.tmps[49]?.getD undef = .slice Au q cu := f49
      clear hk hsz60 hde60
      refine wpList_next rfl hsz61 hde61 50 rfl (by decide) fun K hK => ?_
      go_simp
      refine Hc2.out.mono ?_
      rintro e5 w5 ⟨⟨vz, rfl, htz⟩, hb9⟩
      have Hw5 := Lib.hid (below_call Hbw.out hb9)
      obtain ⟨Az, cz, hvz, _, _, hrz⟩ := htz
      rw [← Hm.out] at hvz
      have Hvz := Lib.hid hvz
      have Hrz := Lib.hid hrz
      clear hvz hrz hb9
      go_simp
      refine hK _ _ fun a62 hsz62 hde62 f50 hk => ?_
      clear hK K
      replace f3 := (hk 3 (by decide)).trans f3
      replace f5 := (hk 5 (by decide)).trans f5
      replace f50 : a62.tmps[50]?.getD undef = .tuple #[vz, .int .i64 0] := f50
      clear hk hsz61 hde61 f49
      refine wpList_next rfl hsz62 hde62 48 rfl (by decide) fun K hK => ?_
      go_simp
      refine hK _ _ fun a63 hsz63 hde63 f48 hk => ?_
      clear hK K
      replace f3 := (hk 3 (by decide)).trans f3
      replace f5 := (hk 5 (by decide)).trans f5
      replace f48 : a63.tmps[48]?.getD undef = .tuple #[vz, .int .i64 0] := f48
      clear hk hsz62 hde62 f50
      refine wpList_next rfl hsz63 hde63 51 rfl (by decide) fun K hK => ?_
      go_simp
      refine hK _ _ fun a64 hsz64 hde64 f51 hk => ?_
      clear hK K
      replace f3 := (hk 3 (by decide)).trans f3
      replace f5 := (hk 5 (by decide)).trans f5
      replace f48 := (hk 48 (by decide)).trans f48
      replace f51 : a64.tmps[51]?.getD undef = vz := f51
      clear hk hsz63 hde63
      refine wpList_next rfl hsz64 hde64 52 rfl (by decide) fun K hK => ?_
      go_simp
      refine hK _ _ fun a65 hsz65 hde65 f52 hk => ?_
      clear hK K
      replace f3 := (hk 3 (by decide)).trans f3
      replace f5 := (hk 5 (by decide)).trans f5
      replace f51 := (hk 51 (by decide)).trans f51
      replace f52 : a65.tmps[52]?.getD undef = .int .i64 0 := f52
      clear hk hsz64 hde64 f48
      refine wpList_next rfl hsz65 hde65 7 rfl (by decide) fun K hK => ?_
      go_simp
      refine hK _ _ fun a66 hsz66 hde66 f7 hk => ?_
      clear hK K
      replace f3 := (hk 3 (by decide)).trans f3
      replace f5 := (hk 5 (by decide)).trans f5
      replace f52 := (hk 52 (by decide)).trans f52
      replace f7 : a66.tmps[7]?.getD undef = vz := f7
      clear hk hsz65 hde65 f51
      refine wpList_next rfl hsz66 hde66 8 rfl (by decide) fun K hK => ?_
      go_simp
      refine hK _ _ fun a67 hsz67 hde67 f8 hk => ?_
      clear hK K
      replace f3 := (hk 3 (by decide)).trans f3
      replace f5 := (hk 5 (by decide)).trans f5
      replace f7 := (hk 7 (by decide)).trans f7
      replace f8 : a67.tmps[8]?.getD undef = .int .i64 0 := f8
      clear hk hsz66 hde66 f52
      refine wpList_nil ?_
      refine then_go ?_
      repeat with_reducible refine wp_seq ?_
      have hsm := same14_any _ _ Az Ao cz co O O w5 Hrz.out (Hro.out.grow Hw5.out) (by rw [← Hm.out]; omega)
      rw [← Hm.out] at hsm
      have hself : (O == O) = true := beq_self_eq_true _
      unfold SamePost14 at hsm
      rw [hself] at hsm
      have Hsm := Lib.hid hsm
      clear hsm hself
      rw [Hvz.out] at f7
      refine wp_region_lit ?_
      refine wpList_next rfl hsz67 hde67 53 rfl (by decide) fun K hK => ?_
      go_simp
      refine hK _ _ fun a68 hsz68 hde68 f53 hk => ?_
      clear hK K
      replace f3 := (hk 3 (by decide)).trans f3
      replace f5 := (hk 5 (by decide)).trans f5
      replace f7 := (hk 7 (by decide)).trans f7
      replace f8 := (hk 8 (by decide)).trans f8
      replace f53 : a68.tmps[53]?.getD undef = .int .i64 0 := f53
      clear hk hsz67 hde67
      refine wpList_next rfl hsz68 hde68 54 rfl (by decide) fun K hK => ?_
      go_simp
      refine hK _ _ fun a69 hsz69 hde69 f54 hk => ?_
      clear hK K
      replace f3 := (hk 3 (by decide)).trans f3
      replace f5 := (hk 5 (by decide)).trans f5
      replace f7 := (hk 7 (by decide)).trans f7
      replace f8 := (hk 8 (by decide)).trans f8
      replace f54 : a69.tmps[54]?.getD undef = .bool true := f54
      clear hk hsz68 hde68 f53
      refine wpList_next rfl hsz69 hde69 55 rfl (by decide) fun K hK => ?_
      go_simp
      refine hK _ _ fun a70 hsz70 hde70 f55 hk => ?_
      clear hK K
      replace f3 := (hk 3 (by decide)).trans f3
      replace f5 := (hk 5 (by decide)).trans f5
      replace f7 := (hk 7 (by decide)).trans f7
      replace f8 := (hk 8 (by decide)).trans f8
      replace f55 : a70.tmps[55]?.getD undef = .bool true := f55
      clear hk hsz69 hde69 f54
      refine wpList_nextg (wanted_of (j := 2) (t := 55) (b := true) rfl rfl f55) hsz70 hde70 56 rfl (by decide) fun K hK => ?_
      go_simp
      refine hK _ _ fun a71 hsz71 hde71 f56 hk => ?_
      clear hK K
      replace f3 := (hk 3 (by decide)).trans f3
      replace f5 := (hk 5 (by decide)).trans f5
      replace f7 := (hk 7 (by decide)).trans f7
      replace f8 := (hk 8 (by decide)).trans f8
      replace f55 := (hk 55 (by decide)).trans f55
      replace f56 : a71.tmps[56]?.getD undef = .slice Az m cz := f56
      clear hk hsz70 hde70
      refine wpList_nextg (wanted_of (j := 2) (t := 55) (b := true) rfl rfl f55) hsz71 hde71 57 rfl (by decide) fun K hK => ?_
      go_simp
      refine hK _ _ fun a72 hsz72 hde72 f57 hk => ?_
      clear hK K
      replace f3 := (hk 3 (by decide)).trans f3
      replace f5 := (hk 5 (by decide)).trans f5
      replace f7 := (hk 7 (by decide)).trans f7
      replace f8 := (hk 8 (by decide)).trans f8
      replace f55 := (hk 55 (by decide)).trans f55
      replace f56 := (hk 56 (by decide)).trans f56
      replace f57 : a72.tmps[57]?.getD undef = .slice Ao m co := f57
      clear hk hsz71 hde71
      refine wpList_nextg (wanted_of (j := 2) (t := 55) (b := true) rfl rfl f55) hsz72 hde72 58 rfl (by decide) fun K hK => ?_
      go_simp
      refine (Hsm.out).mono ?_
      rintro e6 w6 ⟨rfl, hb9⟩
      go_simp
      refine hK _ _ fun a73 hsz73 hde73 f58 hk => ?_
      clear hK K
      replace f3 := (hk 3 (by decide)).trans f3
      replace f5 := (hk 5 (by decide)).trans f5
      replace f7 := (hk 7 (by decide)).trans f7
      replace f8 := (hk 8 (by decide)).trans f8
      replace f55 := (hk 55 (by decide)).trans f55
      replace f58 : a73.tmps[58]?.getD undef = .bool true := f58
      clear hk hsz72 hde72 f56 f57
      have Hw6 := Lib.hid (below_call (below_call Hw4.out Hw5.out) hb9)
      clear hb9
      refine wpList_next rfl hsz73 hde73 59 rfl (by decide) fun K hK => ?_
      go_simp
      refine hK _ _ fun a74 hsz74 hde74 f59 hk => ?_
      clear hK K
      replace f3 := (hk 3 (by decide)).trans f3
      replace f5 := (hk 5 (by decide)).trans f5
      replace f7 := (hk 7 (by decide)).trans f7
      replace f8 := (hk 8 (by decide)).trans f8
      replace f59 : a74.tmps[59]?.getD undef = .bool true := f59
      clear hk hsz73 hde73 f55 f58
      refine wpList_next rfl hsz74 hde74 2 rfl (by decide) fun K hK => ?_
      go_simp
      refine hK _ _ fun a75 hsz75 hde75 f2 hk => ?_
      clear hK K
      replace f3 := (hk 3 (by decide)).trans f3
      replace f5 := (hk 5 (by decide)).trans f5
      replace f7 := (hk 7 (by decide)).trans f7
      replace f8 := (hk 8 (by decide)).trans f8
      replace f2 : a75.tmps[2]?.getD undef = .bool true := f2
      clear hk hsz74 hde74 f59
      refine wpList_nil ?_
      refine then_go ?_
      refine wp_ret ?_
      repeat first | with_reducible refine then_ret ?_ | with_reducible refine block_ret ?_
      refine ret_tmp Tryd.results5 hde75 f2 ?_
      exact ⟨rfl, Hw6.out⟩
    have Hne := Lib.hid hE0
    refine wp_region_lit ?_
    refine wpList_next rfl hsz15 hde15 22 rfl (by decide) fun K hK => ?_
    go_simp
    refine hK _ _ fun a16 hsz16 hde16 f22 hk => ?_
    clear hK K
    replace f3 := (hk 3 (by decide)).trans f3
    replace f4 := (hk 4 (by decide)).trans f4
    replace f22 : a16.tmps[22]?.getD undef = .int .i64 E := f22
    clear hk hsz15 hde15
    refine wpList_next rfl hsz16 hde16 23 rfl (by decide) fun K hK => ?_
    go_simp
    refine hK _ _ fun a17 hsz17 hde17 f23 hk => ?_
    clear hK K
    replace f3 := (hk 3 (by decide)).trans f3
    replace f4 := (hk 4 (by decide)).trans f4
    clear hk hsz16 hde16 f22
    replace f23 : a17.tmps[23]?.getD undef = .bool true := f23.trans (by first | rfl | (simp [hE0]; done) | (congr 1; simp [hE0]; done))
    refine wpList_nil ?_
    refine then_go ?_
    repeat with_reducible refine wp_seq ?_
    refine wp_cond_true (eval_at f23) ?_
    clear f23
    repeat with_reducible refine wp_seq ?_
    have hz := clean_len (L := L) (by rw [← HE.out]; exact hE0)
    rw [← HO.out, ← Hm.out] at hz
    have Hz := Lib.hid hz
    clear hz
    rw [Hvo.out] at f3
    refine wp_region_lit ?_
    refine wpList_next rfl hsz17 hde17 24 rfl (by decide) fun K hK => ?_
    go_simp
    refine hK _ _ fun a18 hsz18 hde18 f24 hk => ?_
    clear hK K
    replace f3 := (hk 3 (by decide)).trans f3
    replace f4 := (hk 4 (by decide)).trans f4
    replace f24 : a18.tmps[24]?.getD undef = .slice Ao m co := f24
    clear hk hsz17 hde17
    refine wpList_next rfl hsz18 hde18 25 rfl (by decide) fun K hK => ?_
    go_simp
    refine hK _ _ fun a19 hsz19 hde19 f25 hk => ?_
    clear hK K
    replace f3 := (hk 3 (by decide)).trans f3
    replace f4 := (hk 4 (by decide)).trans f4
    replace f25 : a19.tmps[25]?.getD undef = .int .i64 ((m : Nat) : Int) := f25
    clear hk hsz18 hde18 f24
    refine wpList_next rfl hsz19 hde19 26 rfl (by decide) fun K hK => ?_
    have hz := Hz.out
    go_simp
    refine hK _ _ fun a20 hsz20 hde20 f26 hk => ?_
    clear hK K
    replace f3 := (hk 3 (by decide)).trans f3
    replace f4 := (hk 4 (by decide)).trans f4
    replace f26 : a20.tmps[26]?.getD undef = .bool true := f26
    clear hk hsz19 hde19 f25
    clear hz
    refine wpList_next rfl hsz20 hde20 2 rfl (by decide) fun K hK => ?_
    go_simp
    refine hK _ _ fun a21 hsz21 hde21 f2 hk => ?_
    clear hK K
    replace f3 := (hk 3 (by decide)).trans f3
    replace f4 := (hk 4 (by decide)).trans f4
    replace f2 : a21.tmps[2]?.getD undef = .bool true := f2
    clear hk hsz20 hde20 f26
    refine wpList_nil ?_
    refine then_go ?_
    refine wp_ret ?_
    repeat first | with_reducible refine then_ret ?_ | with_reducible refine block_ret ?_
    refine ret_tmp Tryd.results5 hde21 f2 ?_
    exact ⟨rfl, Hw4.out⟩
end Go.Proofs.YtgebodibamgipaaDoor
