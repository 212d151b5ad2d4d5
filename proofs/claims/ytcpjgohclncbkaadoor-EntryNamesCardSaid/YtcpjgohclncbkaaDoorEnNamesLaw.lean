/-
  The walk of EntryNames.
-/
import Derived.Test.YtcpjgohclncbkaaDoorEnLives
import Derived.Test.YtcpjgohclncbkaaDoorEnIn
import Derived.Test.YtcpjgohclncbkaaDoorEnRefs
namespace Go.Proofs.YtcpjgohclncbkaaDoor
open Go.RowKit
set_option maxRecDepth 100000

theorem split_at {a b a' b' : List UInt8} (h1 : ∀ t ∈ a, t ≠ 126) (h2 : ∀ t ∈ a', t ≠ 126) (h : a ++ 126 :: b = a' ++ 126 :: b') : a = a' ∧ b = b' := by
  induction a generalizing a' with
  | nil =>
    cases a' with
    | nil => simp at h; exact ⟨rfl, h⟩
    | cons y a' => simp at h; exact absurd h.1.symm (h2 y (by simp))
  | cons x a ih =>
    cases a' with
    | nil => simp at h; exact absurd h.1 (h1 x (by simp))
    | cons y a' =>
      simp at h
      obtain ⟨e1, e2⟩ := ih (fun t ht => h1 t (by simp [ht])) (fun t ht => h2 t (by simp [ht])) h.2
      exact ⟨by rw [h.1, e1], e2⟩
/-- An entry whose name has no tag, and whose replica can be. -/
def PlainE (x : Ent) : Prop := (∀ t ∈ x.data, t ≠ 126) ∧ 0 ≤ x.rep ∧ x.rep ≤ 1000
theorem ltE_data {x y : Ent} (h : ltE x y) : Lib.compareBytes x.data y.data ≤ 0 := by
  rcases h with h | ⟨h, _⟩
  · have := nlt_iff.1 h; omega
  · rw [h, cmpB_self]; omega
theorem name_at {M : List Ent} {k : Nat} (hk : k < M.length) : (nameAt M k = M[k].data ∧ ∀ h : 0 < k, (M[k - 1]'(by omega)).data ≠ M[k].data) ∨ nameAt M k = tagI M[k].data M[k].rep M[k].seq := by
  unfold nameAt
  rw [List.getElem?_eq_getElem hk]
  dsimp only
  by_cases h : 0 < k ∧ (M[k - 1]?.map (·.data)) = some M[k].data
  · rw [if_pos h]; exact .inr rfl
  · rw [if_neg h]
    refine .inl ⟨rfl, fun h0 e => h ⟨h0, ?_⟩⟩
    rw [List.getElem?_eq_getElem (by omega), Option.map_some, e]
theorem names_apart {M : List Ent} (hs : M.Pairwise ltE) (hp : ∀ x ∈ M, PlainE x) {i j : Nat} (hi : i < M.length) (hj : j < i) : nameAt M j ≠ nameAt M i := by
  have hjl : j < M.length := by omega
  have hlt : ltE M[j] M[i] := List.pairwise_iff_getElem.1 hs j i hjl hi hj
  have px := hp M[j] (List.getElem_mem _)
  have py := hp M[i] (List.getElem_mem _)
  have tilde : ∀ (x : Ent) (d : List UInt8), (∀ t ∈ d, t ≠ 126) → d ≠ tagI x.data x.rep x.seq := fun x d hd e => by
    have h7 : (126 : UInt8) ∈ tagI x.data x.rep x.seq := by unfold tagI; simp
    rw [← e] at h7
    exact hd _ h7 rfl
  rcases name_at hjl with ⟨e1, _⟩ | e1
  · rcases name_at hi with ⟨e2, h2⟩ | e2
    · rw [e1, e2]
      intro e
      have h3 := h2 (by omega)
      have hm : M[j] = M[i - 1] ∨ ltE M[j] M[i - 1] := pair_le hs hjl (by omega) (by omega)
      have hn : ltE M[i - 1] M[i] := List.pairwise_iff_getElem.1 hs (i - 1) i (by omega) hi (by omega)
      rcases hm with hm | hm
      · exact h3 (by rw [← hm, e])
      · have a1 := ltE_data hm
        have a2 := ltE_data hn
        rw [e] at a1
        have a3 := cmpB_swap M[i].data M[i - 1].data
        exact h3 (cmpB_zero _ _ (by omega))
    · rw [e1, e2]
      exact tilde _ _ px.1
  · rcases name_at hi with ⟨e2, _⟩ | e2
    · rw [e1, e2]
      exact fun e => tilde _ _ py.1 e.symm
    · rw [e1, e2]
      intro e
      unfold tagI at e
      obtain ⟨h1, h2⟩ := split_at px.1 py.1 e
      obtain ⟨r1, hr1⟩ : ∃ n : Nat, M[j].rep = (n : Int) := ⟨M[j].rep.toNat, by have := px.2; omega⟩
      obtain ⟨r2, hr2⟩ : ∃ n : Nat, M[i].rep = (n : Int) := ⟨M[i].rep.toNat, by have := py.2; omega⟩
      rw [hr1, hr2, Lib.itoa_nonneg, Lib.itoa_nonneg] at h2
      have h3 := (tag_inj (name := []) (r := r1) (q := M[j].seq) (r' := r2) (q' := M[i].seq)).1 (by unfold tagT tagB; rw [h2])
      rcases hlt with h | ⟨_, h⟩
      · have := nlt_iff.1 h
        rw [h1, cmpB_self] at this
        omega
      · unfold prec at h
        rw [hr1, hr2, h3.1, h3.2, lessV_self] at h
        cases h
theorem shead_run {g n i : Nat} (hi : i ≤ n) (h0 : 0 < n) (W : World) : (Instr.sliceAt 40 (.slice (some ⟨g, 0, none⟩) n n) none (some (.int .i64 ((i : Nat) : Int))) none).run Tryd.prog W = .ok (.slice (some ⟨g, 0, none⟩) i n) W := by
  have h2 : ((i : Nat) : Int) ≤ (n : Int) := by omega
  rw [run_sliceAt_slice (h := Tryd.underlying40), run_slice_h (ht := Tryd.underlying40) (h0 := by omega) (h2 := h2)]
  have hs : (sizeOf (Tryd.prog.elem 40)).run Tryd.prog W = .ok 1 W := by kernel_rfl
  rw [hs]
  show Result.ok (sliced (some ⟨g, 0, none⟩) 0 ((i : Nat) : Int).toNat n 1) W = _
  unfold sliced
  rw [if_neg (by omega), Int.toNat_natCast]
  rfl
theorem byte_at (b : List UInt8) (k : Nat) (h : k < b.length) (w : World) : (Instr.index 9 (.string ⟨b.toArray⟩) (.int .i64 (k : Int))).run Tryd.prog w = .ok (.int .u8 (b[k].toNat : Int)) w := by
  have hr := run_index_string (P := Tryd.prog) (w := w) 9 ⟨b.toArray⟩ .i64 (k : Int) Tryd.underlying9
  rw [dif_pos ⟨by omega, by show (k : Int) < ((b.toArray.size : Nat) : Int); simp; omega⟩] at hr
  rw [hr]
  rfl
def Na1Inv (wb : World) (v pv : Value) (L : List Ent) (r : Int) (s n : Nat) (k9 : Nat) (a : Act) (x : World) : Prop :=
  ∃ i : Nat, Hid (a.tmps.size = 89) ∧ Hid (a.defers = []) ∧ a.tmps[0]?.getD undef = v ∧ a.tmps[3]?.getD undef = pv ∧ a.tmps[5]?.getD undef = .int .i64 (((dirE (L.take i) r s).length : Nat) : Int) ∧ a.tmps[21]?.getD undef = v ∧ a.tmps[22]?.getD undef = .int .i64 ((n : Nat) : Int) ∧ a.tmps[23]?.getD undef = .int .i64 ((i : Nat) : Int) ∧ Hid (i ≤ n) ∧ Hid (∀ k (h : k < L.length), k < i → PlainE L[k]) ∧ Hid (Below wb.heap.size wb x) ∧ k9 = n - i
def Na2Inv (wa : World) (v pv p7 : Value) (X : Ent) (d n m i : Nat) (k9 : Nat) (a : Act) (x : World) : Prop :=
  ∃ j : Nat, Hid (a.tmps.size = 89) ∧ Hid (a.defers = []) ∧ a.tmps[0]?.getD undef = v ∧ a.tmps[3]?.getD undef = pv ∧ a.tmps[5]?.getD undef = .int .i64 ((d : Nat) : Int) ∧ a.tmps[7]?.getD undef = p7 ∧ a.tmps[21]?.getD undef = v ∧ a.tmps[22]?.getD undef = .int .i64 ((n : Nat) : Int) ∧ a.tmps[23]?.getD undef = .int .i64 ((i : Nat) : Int) ∧ a.tmps[29]?.getD undef = .int .i64 ((m : Nat) : Int) ∧ a.tmps[30]?.getD undef = .int .i64 ((j : Nat) : Int) ∧ Hid (j ≤ m) ∧ Hid (∀ t (h : t < X.data.length), t < j → X.data[t] ≠ 126) ∧ x = wa ∧ k9 = m - j
def Na3Inv (wc : World) (S : Value) (d m : Nat) (k9 : Nat) (a : Act) (x : World) : Prop :=
  ∃ i : Nat, Hid (a.tmps.size = 89) ∧ Hid (a.defers = []) ∧ a.tmps[5]?.getD undef = .int .i64 ((d : Nat) : Int) ∧ a.tmps[9]?.getD undef = S ∧ a.tmps[65]?.getD undef = .int .i64 ((m : Nat) : Int) ∧ a.tmps[66]?.getD undef = .int .i64 ((i : Nat) : Int) ∧ Hid (i ≤ m) ∧ x = wc ∧ k9 = m - i
def Na4Inv (wc : World) (S S2 : Value) (d m i : Nat) (k9 : Nat) (a : Act) (x : World) : Prop :=
  ∃ j : Nat, Hid (a.tmps.size = 89) ∧ Hid (a.defers = []) ∧ a.tmps[5]?.getD undef = .int .i64 ((d : Nat) : Int) ∧ a.tmps[9]?.getD undef = S ∧ a.tmps[65]?.getD undef = .int .i64 ((m : Nat) : Int) ∧ a.tmps[66]?.getD undef = .int .i64 ((i : Nat) : Int) ∧ a.tmps[10]?.getD undef = .int .i64 ((i : Nat) : Int) ∧ a.tmps[71]?.getD undef = S2 ∧ a.tmps[72]?.getD undef = .int .i64 ((i : Nat) : Int) ∧ a.tmps[73]?.getD undef = .int .i64 ((j : Nat) : Int) ∧ Hid (j ≤ i) ∧ x = wc ∧ k9 = i - j

set_option maxHeartbeats 8000000 in
theorem entrynames_walk (v : Value) (L : List Ent) (r : Int) (s : Nat) (w : World) (hL : IsL kEnt w (fun _ => True) v L) (_ : I64 r) (_ : s < 4294967296) (hp : Pow w) :
    Calls Tryd.prog 7 #[v, .agg (idC r s)] w fun e w' => e = .returned (.bool true) ∧ Below w.heap.size w w' := by
  have Hl := Lib.hid fun (z : World) (hz : Pow z) => lives10_any z hz
  obtain ⟨IB, hIB⟩ : ∃ A, A = idC r s := ⟨_, rfl⟩
  obtain ⟨wb, hwb⟩ : ∃ wb, wb = w.alloc (.cells IB 25) := ⟨_, rfl⟩
  have hbel : Below w.heap.size w wb := by rw [hwb]; exact (Below.refl _ w).alloc (Nat.le_refl _) _
  have hbox : Blk wb w.heap.size 25 IB := by rw [hwb]; exact Blk.new w _ _
  have HrB := Lib.hid (show ∀ z, Below wb.heap.size wb z → z.rangeAt w.heap.size 0 IB.toList from fun z hz => (hbox.grow hz).range 0 IB.toList fun j u hu => by rw [Nat.zero_add, ← Array.getElem?_toList]; exact hu)
  have HfB := Lib.hid (show (Tryd.prog.info? 25).map (·.size) = some IB.toList.length by rw [hIB]; exact id_info)
  have HIB := Lib.hid hIB
  have Hbel := Lib.hid hbel
  have HW := Lib.hid hwb
  have HL := Lib.hid (hL.grow hbel)
  have Hp := Lib.hid (hp.grow hbel)
  obtain ⟨A, cc, rfl, hc1, hc2, hE⟩ := ent_at HL.out
  have Hel := Lib.hid hE
  obtain ⟨n, hn⟩ : ∃ n, n = L.length := ⟨_, rfl⟩
  rw [← hn] at hc1 HL ⊢
  have Hn := Lib.hid hn
  have hmx : maxLen ≤ 9223372036854775807 := by decide
  rw [← hIB]
  clear hL hp hbel hbox hwb hIB hE hn
  go_enter Tryd.func7, Tryd.ntmps7
  refine enter_abs (N := 89) rfl rfl fun a0 hsz0 hde0 hk => ?_
  have f0 : a0.tmps[0]?.getD undef = .slice A n cc := hk 0
  have f1 : a0.tmps[1]?.getD undef = .agg IB := hk 1
  clear hk
  repeat with_reducible refine wp_seq ?_
  refine wp_region_lit ?_
  refine wpList_next rfl hsz0 hde0 3 rfl (by decide) fun K hK => ?_
  go_simp
  refine hK _ _ fun a1 hsz1 hde1 f3 hk => ?_
  clear hK K
  replace f0 := (hk 0 (by decide)).trans f0
  replace f1 := (hk 1 (by decide)).trans f1
  replace f3 : a1.tmps[3]?.getD undef = .pointer (some ⟨w.heap.size, 0, none⟩) := f3
  clear hk hsz0 hde0
  refine wpList_next rfl hsz1 hde1 4 rfl (by decide) fun K hK => ?_
  go_simp
  refine hK _ _ fun a2 hsz2 hde2 f4 hk => ?_
  clear hK K
  replace f0 := (hk 0 (by decide)).trans f0
  replace f1 := (hk 1 (by decide)).trans f1
  replace f3 := (hk 3 (by decide)).trans f3
  replace f4 : a2.tmps[4]?.getD undef = .bool false := f4
  clear hk hsz1 hde1
  refine wpList_nil ?_
  clear f1 f4
  rw [← HW.out]
  refine then_go ?_
  repeat with_reducible refine wp_seq ?_
  refine wp_region_lit ?_
  refine wpList_next rfl hsz2 hde2 13 rfl (by decide) fun K hK => ?_
  go_simp
  refine (Hl.out _ Hp.out).mono ?_
  rintro e1 w1 ⟨rfl, hb1⟩
  go_simp
  refine hK _ _ fun a3 hsz3 hde3 f13 hk => ?_
  clear hK K
  replace f0 := (hk 0 (by decide)).trans f0
  replace f3 := (hk 3 (by decide)).trans f3
  replace f13 : a3.tmps[13]?.getD undef = .bool true := f13
  clear hk hsz2 hde2
  refine wpList_next rfl hsz3 hde3 14 rfl (by decide) fun K hK => ?_
  go_simp
  refine hK _ _ fun a4 hsz4 hde4 f14 hk => ?_
  clear hK K
  replace f0 := (hk 0 (by decide)).trans f0
  replace f3 := (hk 3 (by decide)).trans f3
  replace f14 : a4.tmps[14]?.getD undef = .bool false := f14
  clear hk hsz3 hde3 f13
  refine wpList_next rfl hsz4 hde4 15 rfl (by decide) fun K hK => ?_
  go_simp
  refine hK _ _ fun a5 hsz5 hde5 f15 hk => ?_
  clear hK K
  replace f0 := (hk 0 (by decide)).trans f0
  replace f3 := (hk 3 (by decide)).trans f3
  replace f15 : a5.tmps[15]?.getD undef = .bool false := f15
  clear hk hsz4 hde4 f14
  refine wpList_nextg (wanted_of (j := 2) (t := 15) (b := false) rfl rfl f15) hsz5 hde5 16 rfl (by decide) fun K hK => ?_
  go_simp
  refine hK _ _ fun a6 hsz6 hde6 f16 hk => ?_
  clear hK K
  replace f0 := (hk 0 (by decide)).trans f0
  replace f3 := (hk 3 (by decide)).trans f3
  replace f15 := (hk 15 (by decide)).trans f15
  replace f16 : a6.tmps[16]?.getD undef = .slice A n cc := f16
  clear hk hsz5 hde5
  refine wpList_nextg (wanted_of (j := 2) (t := 15) (b := false) rfl rfl f15) hsz6 hde6 17 rfl (by decide) fun K hK => ?_
  go_simp
  refine (fits10_any _ _ _ _ (HL.out.grow hb1)).mono ?_
  rintro e2 w2 ⟨⟨q1, rfl, hq1⟩, hb2⟩
  go_simp
  refine hK _ _ fun a7 hsz7 hde7 f17 hk => ?_
  clear hK K
  replace f0 := (hk 0 (by decide)).trans f0
  replace f3 := (hk 3 (by decide)).trans f3
  replace f15 := (hk 15 (by decide)).trans f15
  replace f17 : a7.tmps[17]?.getD undef = .bool q1 := f17
  clear hk hsz6 hde6 f16
  have Hb2 := Lib.hid (below_call hb1 hb2)
  have Hq1 := Lib.hid hq1
  clear hb1 hb2 hq1
  cases q1 with
  | false =>
    refine wpList_nextg (wanted_of (j := 2) (t := 15) (b := false) rfl rfl f15) hsz7 hde7 18 rfl (by decide) fun K hK => ?_
    go_simp
    refine hK _ _ fun a8 hsz8 hde8 f18 hk => ?_
    clear hK K
    replace f0 := (hk 0 (by decide)).trans f0
    replace f3 := (hk 3 (by decide)).trans f3
    replace f15 := (hk 15 (by decide)).trans f15
    replace f18 : a8.tmps[18]?.getD undef = .bool true := f18
    clear hk hsz7 hde7 f17
    refine wpList_next rfl hsz8 hde8 19 rfl (by decide) fun K hK => ?_
    go_simp
    refine hK _ _ fun a9 hsz9 hde9 f19 hk => ?_
    clear hK K
    replace f0 := (hk 0 (by decide)).trans f0
    replace f3 := (hk 3 (by decide)).trans f3
    replace f19 : a9.tmps[19]?.getD undef = .bool true := f19
    clear hk hsz8 hde8 f15 f18
    refine wpList_nil ?_
    refine then_go ?_
    repeat with_reducible refine wp_seq ?_
    refine wp_cond_true (eval_at f19) ?_
    clear f19
    repeat with_reducible refine wp_seq ?_
    refine wp_region_lit ?_
    refine wpList_next rfl hsz9 hde9 20 rfl (by decide) fun K hK => ?_
    go_simp
    refine (Hl.out _ (Hp.out.grow Hb2.out)).mono ?_
    rintro e9 w9 ⟨rfl, hb9⟩
    go_simp
    refine hK _ _ fun a10 hsz10 hde10 f20 hk => ?_
    clear hK K
    replace f0 := (hk 0 (by decide)).trans f0
    replace f3 := (hk 3 (by decide)).trans f3
    replace f20 : a10.tmps[20]?.getD undef = .bool true := f20
    clear hk hsz9 hde9
    refine wpList_next rfl hsz10 hde10 4 rfl (by decide) fun K hK => ?_
    go_simp
    refine hK _ _ fun a11 hsz11 hde11 f4 hk => ?_
    clear hK K
    replace f0 := (hk 0 (by decide)).trans f0
    replace f3 := (hk 3 (by decide)).trans f3
    replace f4 : a11.tmps[4]?.getD undef = .bool true := f4
    clear hk hsz10 hde10 f20
    refine wpList_nil ?_
    refine then_go ?_
    refine wp_ret ?_
    refine (ret_tmp (R := fun e2 w2 => e2 = .returned (.bool true) ∧ Below w.heap.size w w2) Tryd.results7 hde11 f4 ?_)
    exact ⟨rfl, below_call (below_call Hbel.out Hb2.out) hb9⟩
  | true =>
    refine wpList_nextg (wanted_of (j := 2) (t := 15) (b := false) rfl rfl f15) hsz7 hde7 18 rfl (by decide) fun K hK => ?_
    go_simp
    refine hK _ _ fun a8 hsz8 hde8 f18 hk => ?_
    clear hK K
    replace f0 := (hk 0 (by decide)).trans f0
    replace f3 := (hk 3 (by decide)).trans f3
    replace f15 := (hk 15 (by decide)).trans f15
    replace f18 : a8.tmps[18]?.getD undef = .bool false := f18
    clear hk hsz7 hde7 f17
    refine wpList_next rfl hsz8 hde8 19 rfl (by decide) fun K hK => ?_
    go_simp
    refine hK _ _ fun a9 hsz9 hde9 f19 hk => ?_
    clear hK K
    replace f0 := (hk 0 (by decide)).trans f0
    replace f3 := (hk 3 (by decide)).trans f3
    replace f19 : a9.tmps[19]?.getD undef = .bool false := f19
    clear hk hsz8 hde8 f15 f18
    refine wpList_nil ?_
    refine then_go ?_
    repeat with_reducible refine wp_seq ?_
    refine wp_cond_false (eval_at f19) ?_
    refine wp_skip ?_
    refine then_go ?_
    clear f19
    repeat with_reducible refine wp_seq ?_
    obtain ⟨hs, hl, hd⟩ := Hq1.out rfl
    have Hs := Lib.hid hs
    have Hd := Lib.hid hd
    have hn40 : n ≤ 40 := by rw [Hn.out]; exact hl
    clear hs hl hd Hq1
    obtain ⟨wc, hwc⟩ : ∃ wc, wc = w2 := ⟨_, rfl⟩
    rw [← hwc] at Hb2 ⊢
    clear hwc
    refine wp_region_lit ?_
    refine wpList_next rfl hsz9 hde9 5 rfl (by decide) fun K hK => ?_
    go_simp
    refine hK _ _ fun a10 hsz10 hde10 f5 hk => ?_
    clear hK K
    replace f0 := (hk 0 (by decide)).trans f0
    replace f3 := (hk 3 (by decide)).trans f3
    replace f5 : a10.tmps[5]?.getD undef = .int .i64 ((0 : Nat) : Int) := f5
    clear hk hsz9 hde9
    refine wpList_nil ?_
    refine then_go ?_
    repeat with_reducible refine wp_seq ?_
    refine wp_region_lit ?_
    refine wpList_next rfl hsz10 hde10 21 rfl (by decide) fun K hK => ?_
    go_simp
    refine hK _ _ fun a11 hsz11 hde11 f21 hk => ?_
    clear hK K
    replace f0 := (hk 0 (by decide)).trans f0
    replace f3 := (hk 3 (by decide)).trans f3
    replace f5 := (hk 5 (by decide)).trans f5
    replace f21 : a11.tmps[21]?.getD undef = .slice A n cc := f21
    clear hk hsz10 hde10
    refine wpList_next rfl hsz11 hde11 22 rfl (by decide) fun K hK => ?_
    go_simp
    refine hK _ _ fun a12 hsz12 hde12 f22 hk => ?_
    clear hK K
    replace f0 := (hk 0 (by decide)).trans f0
    replace f3 := (hk 3 (by decide)).trans f3
    replace f5 := (hk 5 (by decide)).trans f5
    replace f21 := (hk 21 (by decide)).trans f21
    replace f22 : a12.tmps[22]?.getD undef = .int .i64 ((n : Nat) : Int) := f22
    clear hk hsz11 hde11
    refine wpList_next rfl hsz12 hde12 23 rfl (by decide) fun K hK => ?_
    go_simp
    refine hK _ _ fun a13 hsz13 hde13 f23 hk => ?_
    clear hK K
    replace f0 := (hk 0 (by decide)).trans f0
    replace f3 := (hk 3 (by decide)).trans f3
    replace f5 := (hk 5 (by decide)).trans f5
    replace f21 := (hk 21 (by decide)).trans f21
    replace f22 := (hk 22 (by decide)).trans f22
    replace f23 : a13.tmps[23]?.getD undef = .int .i64 ((0 : Nat) : Int) := f23
    clear hk hsz12 hde12
    refine wpList_nil ?_
    refine then_go ?_
    repeat with_reducible refine wp_seq ?_
    refine wp_block ?_
    refine wp_loop_ghost (Na1Inv wb (.slice A n cc) (.pointer (some ⟨w.heap.size, 0, none⟩)) L r s n) (n - 0) ?_ ?_
    · exact ⟨0, hsz13, hde13, f0, f3, f5, f21, f22, f23, Lib.hid (Nat.zero_le _), Lib.hid (fun k _ h => by omega), Hb2, rfl⟩
    clear hsz13 hde13 f0 f3 f5 f21 f22 f23
    intro n2 a19 wr hI
    obtain ⟨i, hsz19, hde19, f0, f3, f5, f21, f22, f23, Hi, Hpl, Hbw, hn2⟩ := hI
    have Hn2 := Lib.hid hn2
    clear hn2
    obtain ⟨d, hd⟩ : ∃ d, d = (dirE (L.take i) r s).length := ⟨_, rfl⟩
    rw [← hd] at f5
    have Hdd := Lib.hid hd
    have hdb : d ≤ 40 := by rw [hd]; exact Nat.le_trans (List.length_filter_le _ _) (by rw [List.length_take, ← Hn.out]; omega)
    clear hd
    repeat with_reducible refine wp_seq ?_
    by_cases hlt : i < n
    · skip
      refine wp_region_lit ?_
      refine wpList_next rfl hsz19 hde19 24 rfl (by decide) fun K hK => ?_
      go_simp
      refine hK _ _ fun a20 hsz20 hde20 f24 hk => ?_
      clear hK K
      replace f0 := (hk 0 (by decide)).trans f0
      replace f3 := (hk 3 (by decide)).trans f3
      replace f5 := (hk 5 (by decide)).trans f5
      replace f21 := (hk 21 (by decide)).trans f21
      replace f22 := (hk 22 (by decide)).trans f22
      replace f23 := (hk 23 (by decide)).trans f23
      clear hk hsz19 hde19
      replace f24 : a20.tmps[24]?.getD undef = .bool true := f24.trans (by first | rfl | (congr 1; first | exact decide_eq_true (by omega) | exact decide_eq_false (by omega)) | (simp; omega))
      refine wpList_nil ?_
      refine then_go ?_
      repeat with_reducible refine wp_seq ?_
      refine wp_cond_true (eval_at f24) ?_
      refine wp_skip ?_
      refine then_go ?_
      clear f24
      repeat with_reducible refine wp_seq ?_
      refine wp_block ?_
      repeat with_reducible refine wp_seq ?_
      have hil : i < L.length := by rw [← Hn.out]; exact hlt
      obtain ⟨b, off, rfl, _, _, hel⟩ := Hel.out (by intro e; subst e; simp at hil)
      obtain ⟨X, hX⟩ : ∃ X, X = L[i] := ⟨_, rfl⟩
      have HX := Lib.hid hX
      obtain ⟨CX, hCX⟩ : ∃ C, C = entC X := ⟨_, rfl⟩
      have HCX := Lib.hid hCX
      have HrX := Lib.hid (show wr.rangeAt b (off + i * 15) CX.toList by rw [hCX, hX]; exact range_ext (hel i hil).1 Hbw.out)
      have HinfX := Lib.hid (show (Tryd.prog.info? 29).map (·.size) = some CX.toList.length by rw [hCX]; exact ent_info)
      have HinfXs := Lib.hid (show (Tryd.prog.info? 29).map (·.size) = some CX.size by rw [hCX]; exact ent_info)
      have HoneX := Lib.hid (show CX.all (·.oneCell') = true by rw [hCX]; exact entC_one X)
      have hCXs : CX.size = 15 := by rw [hCX]; rfl
      have HXd := Lib.hid (show X.data.length ≤ 40 by rw [hX]; exact Hd.out _ (List.getElem_mem hil))
      have hnx := dir_next hil r s
      rw [← hX] at hnx
      have Hnx := Lib.hid hnx
      have hi0 : (0 : Int) ≤ (i : Int) := by omega
      have hin : (i : Int) < (n : Int) := by omega
      clear hel hX hCX hnx
      refine wp_region_lit ?_
      refine wpList_next rfl hsz20 hde20 25 rfl (by decide) fun K hK => ?_
      go_simp
      refine hK _ _ fun a21 hsz21 hde21 f25 hk => ?_
      clear hK K
      replace f0 := (hk 0 (by decide)).trans f0
      replace f3 := (hk 3 (by decide)).trans f3
      replace f5 := (hk 5 (by decide)).trans f5
      replace f21 := (hk 21 (by decide)).trans f21
      replace f22 := (hk 22 (by decide)).trans f22
      replace f23 := (hk 23 (by decide)).trans f23
      replace f25 : a21.tmps[25]?.getD undef = .pointer (some ⟨b, off + i * 15, none⟩) := f25
      clear hk hsz20 hde20
      refine wpList_next rfl hsz21 hde21 26 rfl (by decide) fun K hK => ?_
      refine wp_load_mid 29 (.tmp 25) rfl b (off + i * 15) (eval_at f25) CX.toList _ HrX.out Tryd.underlying29 rfl HinfX.out ?_
      refine hK _ _ fun a22 hsz22 hde22 f26 hk => ?_
      clear hK K
      replace f0 := (hk 0 (by decide)).trans f0
      replace f3 := (hk 3 (by decide)).trans f3
      replace f5 := (hk 5 (by decide)).trans f5
      replace f21 := (hk 21 (by decide)).trans f21
      replace f22 := (hk 22 (by decide)).trans f22
      replace f23 := (hk 23 (by decide)).trans f23
      replace f26 : a22.tmps[26]?.getD undef = .agg CX := f26
      clear hk hsz21 hde21 f25
      refine wpList_next rfl hsz22 hde22 7 rfl (by decide) fun K hK => ?_
      go_simp
      refine hK _ _ fun a23 hsz23 hde23 f7 hk => ?_
      clear hK K
      replace f0 := (hk 0 (by decide)).trans f0
      replace f3 := (hk 3 (by decide)).trans f3
      replace f5 := (hk 5 (by decide)).trans f5
      replace f21 := (hk 21 (by decide)).trans f21
      replace f22 := (hk 22 (by decide)).trans f22
      replace f23 := (hk 23 (by decide)).trans f23
      replace f26 := (hk 26 (by decide)).trans f26
      replace f7 : a23.tmps[7]?.getD undef = .pointer (some ⟨wr.heap.size, 0, none⟩) := f7
      clear hk hsz22 hde22
      refine wpList_next0 rfl rfl fun K hK => ?_
      refine wp_store_new 29 (.tmp 7) (.tmp 26) rfl zeroE CX (eval_at f7) (eval_at f26) HinfXs.out (by rw [hCXs]; rfl) HoneX.out ?_
      refine hK undef _ ?_
      clear hK K
      clear f26
      refine wpList_nil ?_
      obtain ⟨p, hpe⟩ : ∃ p, p = wr.heap.size := ⟨_, rfl⟩
      obtain ⟨wa, hwa⟩ : ∃ wa, wa = wr.alloc (.cells CX 29) := ⟨_, rfl⟩
      have HPb := Lib.hid (show Blk wa p 29 (entC X) by rw [hwa, hpe, HCX.out]; exact Blk.new _ _ _)
      have HPl := Lib.hid (show Below wb.heap.size wb wa by rw [hwa]; exact Hbw.out.alloc Hbw.out.size _)
      rw [← hwa]
      rw [← hpe] at f7
      clear hwa hpe
      have hdat : wa.cell? ⟨p, 4, none⟩ = some (str X.data) := by have h := HPb.out.ent.data; rw [Nat.zero_add] at h; exact h
      have Hdat := Lib.hid hdat
      obtain ⟨m, hm⟩ : ∃ m, m = X.data.length := ⟨_, rfl⟩
      have Hm := Lib.hid hm
      have hm40 : m ≤ 40 := by rw [hm]; exact HXd.out
      clear hm
      refine then_go ?_
      repeat with_reducible refine wp_seq ?_
      refine wp_region_lit ?_
      refine wpList_next rfl hsz23 hde23 27 rfl (by decide) fun K hK => ?_
      go_simp
      refine hK _ _ fun a24 hsz24 hde24 f27 hk => ?_
      clear hK K
      replace f0 := (hk 0 (by decide)).trans f0
      replace f3 := (hk 3 (by decide)).trans f3
      replace f5 := (hk 5 (by decide)).trans f5
      replace f21 := (hk 21 (by decide)).trans f21
      replace f22 := (hk 22 (by decide)).trans f22
      replace f23 := (hk 23 (by decide)).trans f23
      replace f7 := (hk 7 (by decide)).trans f7
      replace f27 : a24.tmps[27]?.getD undef = .pointer (some ⟨p, 4, none⟩) := f27
      clear hk hsz23 hde23
      refine wpList_next rfl hsz24 hde24 28 rfl (by decide) fun K hK => ?_
      go_simp
      refine hK _ _ fun a25 hsz25 hde25 f28 hk => ?_
      clear hK K
      replace f0 := (hk 0 (by decide)).trans f0
      replace f3 := (hk 3 (by decide)).trans f3
      replace f5 := (hk 5 (by decide)).trans f5
      replace f21 := (hk 21 (by decide)).trans f21
      replace f22 := (hk 22 (by decide)).trans f22
      replace f23 := (hk 23 (by decide)).trans f23
      replace f7 := (hk 7 (by decide)).trans f7
      replace f28 : a25.tmps[28]?.getD undef = str X.data := f28
      clear hk hsz24 hde24 f27
      refine wpList_next rfl hsz25 hde25 29 rfl (by decide) fun K hK => ?_
      go_simp
      refine hK _ _ fun a26 hsz26 hde26 f29 hk => ?_
      clear hK K
      replace f0 := (hk 0 (by decide)).trans f0
      replace f3 := (hk 3 (by decide)).trans f3
      replace f5 := (hk 5 (by decide)).trans f5
      replace f21 := (hk 21 (by decide)).trans f21
      replace f22 := (hk 22 (by decide)).trans f22
      replace f23 := (hk 23 (by decide)).trans f23
      replace f7 := (hk 7 (by decide)).trans f7
      clear hk hsz25 hde25 f28
      replace f29 : a26.tmps[29]?.getD undef = .int .i64 ((m : Nat) : Int) := f29.trans (by rw [Hm.out])
      refine wpList_next rfl hsz26 hde26 30 rfl (by decide) fun K hK => ?_
      go_simp
      refine hK _ _ fun a27 hsz27 hde27 f30 hk => ?_
      clear hK K
      replace f0 := (hk 0 (by decide)).trans f0
      replace f3 := (hk 3 (by decide)).trans f3
      replace f5 := (hk 5 (by decide)).trans f5
      replace f21 := (hk 21 (by decide)).trans f21
      replace f22 := (hk 22 (by decide)).trans f22
      replace f23 := (hk 23 (by decide)).trans f23
      replace f7 := (hk 7 (by decide)).trans f7
      replace f29 := (hk 29 (by decide)).trans f29
      replace f30 : a27.tmps[30]?.getD undef = .int .i64 ((0 : Nat) : Int) := f30
      clear hk hsz26 hde26
      refine wpList_nil ?_
      refine then_go ?_
      repeat with_reducible refine wp_seq ?_
      clear hdat
      refine wp_block ?_
      refine wp_loop_ghost (Na2Inv wa (.slice (some ⟨b, off, none⟩) n cc) (.pointer (some ⟨w.heap.size, 0, none⟩)) (.pointer (some ⟨p, 0, none⟩)) X d n m i) (m - 0) ?_ ?_
      · exact ⟨0, hsz27, hde27, f0, f3, f5, f7, f21, f22, f23, f29, f30, Lib.hid (Nat.zero_le _), Lib.hid (fun t _ h => by omega), rfl, rfl⟩
      clear hsz27 hde27 f0 f3 f5 f21 f22 f23 f7 f29 f30
      intro n3 a39 wx hI
      obtain ⟨j, hsz39, hde39, f0, f3, f5, f7, f21, f22, f23, f29, f30, Hj, Hno, hwx, hn3⟩ := hI
      subst hwx
      have Hn3 := Lib.hid hn3
      clear hn3
      repeat with_reducible refine wp_seq ?_
      by_cases hjt : j < m
      · skip
        refine wp_region_lit ?_
        refine wpList_next rfl hsz39 hde39 31 rfl (by decide) fun K hK => ?_
        go_simp
        refine hK _ _ fun a40 hsz40 hde40 f31 hk => ?_
        clear hK K
        replace f0 := (hk 0 (by decide)).trans f0
        replace f3 := (hk 3 (by decide)).trans f3
        replace f5 := (hk 5 (by decide)).trans f5
        replace f7 := (hk 7 (by decide)).trans f7
        replace f21 := (hk 21 (by decide)).trans f21
        replace f22 := (hk 22 (by decide)).trans f22
        replace f23 := (hk 23 (by decide)).trans f23
        replace f29 := (hk 29 (by decide)).trans f29
        replace f30 := (hk 30 (by decide)).trans f30
        clear hk hsz39 hde39
        replace f31 : a40.tmps[31]?.getD undef = .bool true := f31.trans (by first | rfl | (congr 1; first | exact decide_eq_true (by omega) | exact decide_eq_false (by omega)) | (simp; omega))
        refine wpList_nil ?_
        refine then_go ?_
        repeat with_reducible refine wp_seq ?_
        refine wp_cond_true (eval_at f31) ?_
        refine wp_skip ?_
        refine then_go ?_
        clear f31
        repeat with_reducible refine wp_seq ?_
        refine wp_block ?_
        repeat with_reducible refine wp_seq ?_
        refine wp_region_lit ?_
        refine wpList_next rfl hsz40 hde40 32 rfl (by decide) fun K hK => ?_
        go_simp
        refine hK _ _ fun a41 hsz41 hde41 f32 hk => ?_
        clear hK K
        replace f0 := (hk 0 (by decide)).trans f0
        replace f3 := (hk 3 (by decide)).trans f3
        replace f5 := (hk 5 (by decide)).trans f5
        replace f7 := (hk 7 (by decide)).trans f7
        replace f21 := (hk 21 (by decide)).trans f21
        replace f22 := (hk 22 (by decide)).trans f22
        replace f23 := (hk 23 (by decide)).trans f23
        replace f29 := (hk 29 (by decide)).trans f29
        replace f30 := (hk 30 (by decide)).trans f30
        replace f32 : a41.tmps[32]?.getD undef = .int .i64 ((j : Nat) : Int) := f32
        clear hk hsz40 hde40
        refine wpList_next rfl hsz41 hde41 8 rfl (by decide) fun K hK => ?_
        go_simp
        refine hK _ _ fun a42 hsz42 hde42 f8 hk => ?_
        clear hK K
        replace f0 := (hk 0 (by decide)).trans f0
        replace f3 := (hk 3 (by decide)).trans f3
        replace f5 := (hk 5 (by decide)).trans f5
        replace f7 := (hk 7 (by decide)).trans f7
        replace f21 := (hk 21 (by decide)).trans f21
        replace f22 := (hk 22 (by decide)).trans f22
        replace f23 := (hk 23 (by decide)).trans f23
        replace f29 := (hk 29 (by decide)).trans f29
        replace f30 := (hk 30 (by decide)).trans f30
        replace f8 : a42.tmps[8]?.getD undef = .int .i64 ((j : Nat) : Int) := f8
        clear hk hsz41 hde41 f32
        refine wpList_nil ?_
        refine then_go ?_
        repeat with_reducible refine wp_seq ?_
        have hjl : j < X.data.length := by rw [← Hm.out]; exact hjt
        have hix := fun z => byte_at X.data j hjl z
        obtain ⟨bx, hbx⟩ : ∃ z : Nat, z = X.data[j].toNat := ⟨_, rfl⟩
        rw [← hbx] at hix
        have Hix := Lib.hid hix
        have Hbx := Lib.hid hbx
        have hbb : bx < 256 := by rw [hbx]; exact UInt8.toNat_lt _
        clear hix hbx
        by_cases h126 : bx = 126
        · have H126 := Lib.hid h126
          clear h126
          refine wp_region_lit ?_
          refine wpList_next rfl hsz42 hde42 33 rfl (by decide) fun K hK => ?_
          go_simp
          refine hK _ _ fun a43 hsz43 hde43 f33 hk => ?_
          clear hK K
          replace f0 := (hk 0 (by decide)).trans f0
          replace f3 := (hk 3 (by decide)).trans f3
          replace f5 := (hk 5 (by decide)).trans f5
          replace f7 := (hk 7 (by decide)).trans f7
          replace f21 := (hk 21 (by decide)).trans f21
          replace f22 := (hk 22 (by decide)).trans f22
          replace f23 := (hk 23 (by decide)).trans f23
          replace f29 := (hk 29 (by decide)).trans f29
          replace f30 := (hk 30 (by decide)).trans f30
          replace f8 := (hk 8 (by decide)).trans f8
          replace f33 : a43.tmps[33]?.getD undef = .pointer (some ⟨p, 4, none⟩) := f33
          clear hk hsz42 hde42
          refine wpList_next rfl hsz43 hde43 34 rfl (by decide) fun K hK => ?_
          have hdat := Hdat.out
          go_simp
          refine hK _ _ fun a44 hsz44 hde44 f34 hk => ?_
          clear hK K
          replace f0 := (hk 0 (by decide)).trans f0
          replace f3 := (hk 3 (by decide)).trans f3
          replace f5 := (hk 5 (by decide)).trans f5
          replace f7 := (hk 7 (by decide)).trans f7
          replace f21 := (hk 21 (by decide)).trans f21
          replace f22 := (hk 22 (by decide)).trans f22
          replace f23 := (hk 23 (by decide)).trans f23
          replace f29 := (hk 29 (by decide)).trans f29
          replace f30 := (hk 30 (by decide)).trans f30
          replace f8 := (hk 8 (by decide)).trans f8
          replace f34 : a44.tmps[34]?.getD undef = str X.data := f34
          clear hk hsz43 hde43 f33
          clear hdat
          refine wpList_next rfl hsz44 hde44 35 rfl (by decide) fun K hK => ?_
          go_simp
          refine hK _ _ fun a45 hsz45 hde45 f35 hk => ?_
          clear hK K
          replace f0 := (hk 0 (by decide)).trans f0
          replace f3 := (hk 3 (by decide)).trans f3
          replace f5 := (hk 5 (by decide)).trans f5
          replace f7 := (hk 7 (by decide)).trans f7
          replace f21 := (hk 21 (by decide)).trans f21
          replace f22 := (hk 22 (by decide)).trans f22
          replace f23 := (hk 23 (by decide)).trans f23
          replace f29 := (hk 29 (by decide)).trans f29
          replace f30 := (hk 30 (by decide)).trans f30
          replace f8 := (hk 8 (by decide)).trans f8
          replace f34 := (hk 34 (by decide)).trans f34
          replace f35 : a45.tmps[35]?.getD undef = .int .i64 ((j : Nat) : Int) := f35
          clear hk hsz44 hde44
          refine wpList_next rfl hsz45 hde45 36 rfl (by decide) fun K hK => ?_
          have hix := Hix.out
          go_simp
          refine hK _ _ fun a46 hsz46 hde46 f36 hk => ?_
          clear hK K
          replace f0 := (hk 0 (by decide)).trans f0
          replace f3 := (hk 3 (by decide)).trans f3
          replace f5 := (hk 5 (by decide)).trans f5
          replace f7 := (hk 7 (by decide)).trans f7
          replace f21 := (hk 21 (by decide)).trans f21
          replace f22 := (hk 22 (by decide)).trans f22
          replace f23 := (hk 23 (by decide)).trans f23
          replace f29 := (hk 29 (by decide)).trans f29
          replace f30 := (hk 30 (by decide)).trans f30
          replace f8 := (hk 8 (by decide)).trans f8
          replace f36 : a46.tmps[36]?.getD undef = .int .u8 (bx : Int) := f36
          clear hk hsz45 hde45 f34 f35
          clear hix
          refine wpList_next rfl hsz46 hde46 37 rfl (by decide) fun K hK => ?_
          go_simp
          refine hK _ _ fun a47 hsz47 hde47 f37 hk => ?_
          clear hK K
          replace f0 := (hk 0 (by decide)).trans f0
          replace f3 := (hk 3 (by decide)).trans f3
          replace f5 := (hk 5 (by decide)).trans f5
          replace f7 := (hk 7 (by decide)).trans f7
          replace f21 := (hk 21 (by decide)).trans f21
          replace f22 := (hk 22 (by decide)).trans f22
          replace f23 := (hk 23 (by decide)).trans f23
          replace f29 := (hk 29 (by decide)).trans f29
          replace f30 := (hk 30 (by decide)).trans f30
          replace f8 := (hk 8 (by decide)).trans f8
          clear hk hsz46 hde46 f36
          replace f37 : a47.tmps[37]?.getD undef = .bool true := f37.trans (by have h7 := H126.out; first | (rw [h7]; rfl) | rfl | (congr 1; simp; omega) | (simp [h7]))
          refine wpList_nil ?_
          refine then_go ?_
          repeat with_reducible refine wp_seq ?_
          refine wp_cond_true (eval_at f37) ?_
          clear f37
          repeat with_reducible refine wp_seq ?_
          refine wp_region_lit ?_
          refine wpList_next rfl hsz47 hde47 4 rfl (by decide) fun K hK => ?_
          go_simp
          refine hK _ _ fun a48 hsz48 hde48 f4 hk => ?_
          clear hK K
          replace f0 := (hk 0 (by decide)).trans f0
          replace f3 := (hk 3 (by decide)).trans f3
          replace f5 := (hk 5 (by decide)).trans f5
          replace f7 := (hk 7 (by decide)).trans f7
          replace f21 := (hk 21 (by decide)).trans f21
          replace f22 := (hk 22 (by decide)).trans f22
          replace f23 := (hk 23 (by decide)).trans f23
          replace f29 := (hk 29 (by decide)).trans f29
          replace f30 := (hk 30 (by decide)).trans f30
          replace f8 := (hk 8 (by decide)).trans f8
          replace f4 : a48.tmps[4]?.getD undef = .bool true := f4
          clear hk hsz47 hde47
          refine wpList_nil ?_
          refine then_go ?_
          refine wp_ret ?_
          refine (ret_tmp (R := fun e2 w2 => e2 = .returned (.bool true) ∧ Below w.heap.size w w2) Tryd.results7 hde48 f4 ?_)
          exact ⟨rfl, below_call Hbel.out HPl.out⟩
        have H126 := Lib.hid h126
        clear h126
        refine wp_region_lit ?_
        refine wpList_next rfl hsz42 hde42 33 rfl (by decide) fun K hK => ?_
        go_simp
        refine hK _ _ fun a43 hsz43 hde43 f33 hk => ?_
        clear hK K
        replace f0 := (hk 0 (by decide)).trans f0
        replace f3 := (hk 3 (by decide)).trans f3
        replace f5 := (hk 5 (by decide)).trans f5
        replace f7 := (hk 7 (by decide)).trans f7
        replace f21 := (hk 21 (by decide)).trans f21
        replace f22 := (hk 22 (by decide)).trans f22
        replace f23 := (hk 23 (by decide)).trans f23
        replace f29 := (hk 29 (by decide)).trans f29
        replace f30 := (hk 30 (by decide)).trans f30
        replace f8 := (hk 8 (by decide)).trans f8
        replace f33 : a43.tmps[33]?.getD undef = .pointer (some ⟨p, 4, none⟩) := f33
        clear hk hsz42 hde42
        refine wpList_next rfl hsz43 hde43 34 rfl (by decide) fun K hK => ?_
        have hdat := Hdat.out
        go_simp
        refine hK _ _ fun a44 hsz44 hde44 f34 hk => ?_
        clear hK K
        replace f0 := (hk 0 (by decide)).trans f0
        replace f3 := (hk 3 (by decide)).trans f3
        replace f5 := (hk 5 (by decide)).trans f5
        replace f7 := (hk 7 (by decide)).trans f7
        replace f21 := (hk 21 (by decide)).trans f21
        replace f22 := (hk 22 (by decide)).trans f22
        replace f23 := (hk 23 (by decide)).trans f23
        replace f29 := (hk 29 (by decide)).trans f29
        replace f30 := (hk 30 (by decide)).trans f30
        replace f8 := (hk 8 (by decide)).trans f8
        replace f34 : a44.tmps[34]?.getD undef = str X.data := f34
        clear hk hsz43 hde43 f33
        clear hdat
        refine wpList_next rfl hsz44 hde44 35 rfl (by decide) fun K hK => ?_
        go_simp
        refine hK _ _ fun a45 hsz45 hde45 f35 hk => ?_
        clear hK K
        replace f0 := (hk 0 (by decide)).trans f0
        replace f3 := (hk 3 (by decide)).trans f3
        replace f5 := (hk 5 (by decide)).trans f5
        replace f7 := (hk 7 (by decide)).trans f7
        replace f21 := (hk 21 (by decide)).trans f21
        replace f22 := (hk 22 (by decide)).trans f22
        replace f23 := (hk 23 (by decide)).trans f23
        replace f29 := (hk 29 (by decide)).trans f29
        replace f30 := (hk 30 (by decide)).trans f30
        replace f8 := (hk 8 (by decide)).trans f8
        replace f34 := (hk 34 (by decide)).trans f34
        replace f35 : a45.tmps[35]?.getD undef = .int .i64 ((j : Nat) : Int) := f35
        clear hk hsz44 hde44
        refine wpList_next rfl hsz45 hde45 36 rfl (by decide) fun K hK => ?_
        have hix := Hix.out
        go_simp
        refine hK _ _ fun a46 hsz46 hde46 f36 hk => ?_
        clear hK K
        replace f0 := (hk 0 (by decide)).trans f0
        replace f3 := (hk 3 (by decide)).trans f3
        replace f5 := (hk 5 (by decide)).trans f5
        replace f7 := (hk 7 (by decide)).trans f7
        replace f21 := (hk 21 (by decide)).trans f21
        replace f22 := (hk 22 (by decide)).trans f22
        replace f23 := (hk 23 (by decide)).trans f23
        replace f29 := (hk 29 (by decide)).trans f29
        replace f30 := (hk 30 (by decide)).trans f30
        replace f8 := (hk 8 (by decide)).trans f8
        replace f36 : a46.tmps[36]?.getD undef = .int .u8 (bx : Int) := f36
        clear hk hsz45 hde45 f34 f35
        clear hix
        refine wpList_next rfl hsz46 hde46 37 rfl (by decide) fun K hK => ?_
        go_simp
        refine hK _ _ fun a47 hsz47 hde47 f37 hk => ?_
        clear hK K
        replace f0 := (hk 0 (by decide)).trans f0
        replace f3 := (hk 3 (by decide)).trans f3
        replace f5 := (hk 5 (by decide)).trans f5
        replace f7 := (hk 7 (by decide)).trans f7
        replace f21 := (hk 21 (by decide)).trans f21
        replace f22 := (hk 22 (by decide)).trans f22
        replace f23 := (hk 23 (by decide)).trans f23
        replace f29 := (hk 29 (by decide)).trans f29
        replace f30 := (hk 30 (by decide)).trans f30
        replace f8 := (hk 8 (by decide)).trans f8
        clear hk hsz46 hde46 f36
        replace f37 : a47.tmps[37]?.getD undef = .bool false := f37.trans (by have h7 := H126.out; first | (rw [h7]; rfl) | rfl | (congr 1; simp; omega) | (simp [h7]))
        refine wpList_nil ?_
        refine then_go ?_
        repeat with_reducible refine wp_seq ?_
        refine wp_cond_false (eval_at f37) ?_
        refine wp_skip ?_
        repeat first | with_reducible refine block_go ?_ | with_reducible refine then_go ?_
        clear f37 f8
        repeat with_reducible refine wp_seq ?_
        refine wp_region_lit ?_
        refine wpList_next rfl hsz47 hde47 38 rfl (by decide) fun K hK => ?_
        go_simp
        refine hK _ _ fun a48 hsz48 hde48 f38 hk => ?_
        clear hK K
        replace f0 := (hk 0 (by decide)).trans f0
        replace f3 := (hk 3 (by decide)).trans f3
        replace f5 := (hk 5 (by decide)).trans f5
        replace f7 := (hk 7 (by decide)).trans f7
        replace f21 := (hk 21 (by decide)).trans f21
        replace f22 := (hk 22 (by decide)).trans f22
        replace f23 := (hk 23 (by decide)).trans f23
        replace f29 := (hk 29 (by decide)).trans f29
        replace f30 := (hk 30 (by decide)).trans f30
        clear hk hsz47 hde47
        replace f38 : a48.tmps[38]?.getD undef = .int .i64 (((j + 1 : Nat) : Int)) := f38.trans (by first | rfl | (congr 1; done) | (congr 1; omega) | (congr 1; rw [IntKind.wrap_i64] <;> omega))
        refine wpList_next rfl hsz48 hde48 30 rfl (by decide) fun K hK => ?_
        go_simp
        refine hK _ _ fun a49 hsz49 hde49 f30 hk => ?_
        clear hK K
        replace f0 := (hk 0 (by decide)).trans f0
        replace f3 := (hk 3 (by decide)).trans f3
        replace f5 := (hk 5 (by decide)).trans f5
        replace f7 := (hk 7 (by decide)).trans f7
        replace f21 := (hk 21 (by decide)).trans f21
        replace f22 := (hk 22 (by decide)).trans f22
        replace f23 := (hk 23 (by decide)).trans f23
        replace f29 := (hk 29 (by decide)).trans f29
        replace f30 : a49.tmps[30]?.getD undef = .int .i64 ((j + 1 : Nat) : Int) := f30
        clear hk hsz48 hde48 f38
        refine wpList_nil ?_
        refine then_go ?_
        exact ⟨m - (j + 1), by rw [Hn3.out]; omega, j + 1, hsz49, hde49, f0, f3, f5, f7, f21, f22, f23, f29, f30, Lib.hid (by omega), Lib.hid (fun t7 h7 hlt7 => by
          by_cases e7 : t7 = j
          · subst e7; intro e8; have h8 := Hbx.out; rw [e8] at h8; exact H126.out h8
          · exact Hno.out t7 h7 (by omega)), rfl, rfl⟩
      refine wp_region_lit ?_
      refine wpList_next rfl hsz39 hde39 31 rfl (by decide) fun K hK => ?_
      go_simp
      refine hK _ _ fun a40 hsz40 hde40 f31 hk => ?_
      clear hK K
      replace f0 := (hk 0 (by decide)).trans f0
      replace f3 := (hk 3 (by decide)).trans f3
      replace f5 := (hk 5 (by decide)).trans f5
      replace f7 := (hk 7 (by decide)).trans f7
      replace f21 := (hk 21 (by decide)).trans f21
      replace f22 := (hk 22 (by decide)).trans f22
      replace f23 := (hk 23 (by decide)).trans f23
      replace f29 := (hk 29 (by decide)).trans f29
      replace f30 := (hk 30 (by decide)).trans f30
      clear hk hsz39 hde39
      replace f31 : a40.tmps[31]?.getD undef = .bool false := f31.trans (by first | rfl | (congr 1; first | exact decide_eq_true (by omega) | exact decide_eq_false (by omega)) | (simp; omega))
      refine wpList_nil ?_
      refine then_go ?_
      repeat with_reducible refine wp_seq ?_
      refine wp_cond_false (eval_at f31) ?_
      refine wp_exit ?_
      repeat with_reducible refine then_exit ?_
      refine block_exit ?_
      repeat first | with_reducible refine block_go ?_ | with_reducible refine then_go ?_
      clear f31 f29 f30
      repeat with_reducible refine wp_seq ?_
      have Htil := Lib.hid (show ∀ t ∈ X.data, t ≠ 126 from fun t ht => by
        obtain ⟨k7, hk7, rfl⟩ := List.getElem_of_mem ht
        exact Hno.out k7 hk7 (by have := Hm.out; omega))
      obtain ⟨DX, hDX⟩ : ∃ C, C = idC X.drep X.dseq := ⟨_, rfl⟩
      have HrD := Lib.hid (show wx.rangeAt p 2 DX.toList by have h := HPb.out.ent.dir; rw [Nat.zero_add] at h; rw [hDX]; exact h)
      have HrC := Lib.hid (show wx.rangeAt p 0 CX.toList by rw [HCX.out]; exact HPb.out.ent.all)
      have HrI := Lib.hid (show wx.cell? ⟨p, 0, none⟩ = some (.int .i64 X.rep) from HPb.out.ent.id 0 _ rfl)
      have HfD := Lib.hid (show (Tryd.prog.info? 25).map (·.size) = some DX.toList.length by rw [hDX]; exact id_info)
      have heq := fun z => ideq_run X.drep X.dseq r s z
      rw [← hDX, ← HIB.out] at heq
      have hal := fun z => erefhead_any X z
      rw [← HCX.out] at hal
      obtain ⟨e, he⟩ : ∃ e, e = sameI X.drep X.dseq r s := ⟨_, rfl⟩
      obtain ⟨h, hh⟩ : ∃ h, h = headE X := ⟨_, rfl⟩
      rw [← he] at heq
      rw [← hh] at hal
      have Heq := Lib.hid heq
      have Hal := Lib.hid hal
      have He := Lib.hid he
      have Hh := Lib.hid hh
      clear hDX heq hal he hh Hno Hj
      refine wp_cut0 (fun a9 x9 => Hid (a9.tmps.size = 89) ∧ Hid (a9.defers = []) ∧ a9.tmps[0]?.getD undef = .slice (some ⟨b, off, none⟩) n cc ∧ a9.tmps[3]?.getD undef = .pointer (some ⟨w.heap.size, 0, none⟩) ∧ a9.tmps[5]?.getD undef = .int .i64 ((d : Nat) : Int) ∧ a9.tmps[7]?.getD undef = .pointer (some ⟨p, 0, none⟩) ∧ a9.tmps[21]?.getD undef = .slice (some ⟨b, off, none⟩) n cc ∧ a9.tmps[22]?.getD undef = .int .i64 ((n : Nat) : Int) ∧ a9.tmps[23]?.getD undef = .int .i64 ((i : Nat) : Int) ∧ a9.tmps[46]?.getD undef = .bool (h && e) ∧ Hid (Below wb.heap.size wb x9) ∧ Hid (Below wx.heap.size wx x9)) ?_ ?_
      · cases e with
        | false =>
          refine wp_region_lit ?_
          refine wpList_next rfl hsz40 hde40 39 rfl (by decide) fun K hK => ?_
          go_simp
          refine hK _ _ fun a41 hsz41 hde41 f39 hk => ?_
          clear hK K
          replace f0 := (hk 0 (by decide)).trans f0
          replace f3 := (hk 3 (by decide)).trans f3
          replace f5 := (hk 5 (by decide)).trans f5
          replace f7 := (hk 7 (by decide)).trans f7
          replace f21 := (hk 21 (by decide)).trans f21
          replace f22 := (hk 22 (by decide)).trans f22
          replace f23 := (hk 23 (by decide)).trans f23
          replace f39 : a41.tmps[39]?.getD undef = .pointer (some ⟨p, 2, none⟩) := f39
          clear hk hsz40 hde40
          refine wpList_next rfl hsz41 hde41 40 rfl (by decide) fun K hK => ?_
          refine wp_load_mid 25 (.tmp 39) rfl p 2 (eval_at f39) DX.toList _ HrD.out Tryd.underlying25 rfl HfD.out ?_
          refine hK _ _ fun a42 hsz42 hde42 f40 hk => ?_
          clear hK K
          replace f0 := (hk 0 (by decide)).trans f0
          replace f3 := (hk 3 (by decide)).trans f3
          replace f5 := (hk 5 (by decide)).trans f5
          replace f7 := (hk 7 (by decide)).trans f7
          replace f21 := (hk 21 (by decide)).trans f21
          replace f22 := (hk 22 (by decide)).trans f22
          replace f23 := (hk 23 (by decide)).trans f23
          replace f40 : a42.tmps[40]?.getD undef = .agg DX := f40
          clear hk hsz41 hde41 f39
          refine wpList_next rfl hsz42 hde42 41 rfl (by decide) fun K hK => ?_
          refine wp_load_mid 25 (.tmp 3) rfl w.heap.size 0 (eval_at f3) IB.toList _ (HrB.out _ HPl.out) Tryd.underlying25 rfl HfB.out ?_
          refine hK _ _ fun a43 hsz43 hde43 f41 hk => ?_
          clear hK K
          replace f0 := (hk 0 (by decide)).trans f0
          replace f3 := (hk 3 (by decide)).trans f3
          replace f5 := (hk 5 (by decide)).trans f5
          replace f7 := (hk 7 (by decide)).trans f7
          replace f21 := (hk 21 (by decide)).trans f21
          replace f22 := (hk 22 (by decide)).trans f22
          replace f23 := (hk 23 (by decide)).trans f23
          replace f40 := (hk 40 (by decide)).trans f40
          replace f41 : a43.tmps[41]?.getD undef = .agg IB := f41
          clear hk hsz42 hde42
          refine wpList_next rfl hsz43 hde43 42 rfl (by decide) fun K hK => ?_
          have heq := Heq.out
          go_simp
          refine hK _ _ fun a44 hsz44 hde44 f42 hk => ?_
          clear hK K
          replace f0 := (hk 0 (by decide)).trans f0
          replace f3 := (hk 3 (by decide)).trans f3
          replace f5 := (hk 5 (by decide)).trans f5
          replace f7 := (hk 7 (by decide)).trans f7
          replace f21 := (hk 21 (by decide)).trans f21
          replace f22 := (hk 22 (by decide)).trans f22
          replace f23 := (hk 23 (by decide)).trans f23
          replace f42 : a44.tmps[42]?.getD undef = .bool false := f42
          clear hk hsz43 hde43 f40 f41
          clear heq
          refine wpList_next rfl hsz44 hde44 43 rfl (by decide) fun K hK => ?_
          go_simp
          refine hK _ _ fun a45 hsz45 hde45 f43 hk => ?_
          clear hK K
          replace f0 := (hk 0 (by decide)).trans f0
          replace f3 := (hk 3 (by decide)).trans f3
          replace f5 := (hk 5 (by decide)).trans f5
          replace f7 := (hk 7 (by decide)).trans f7
          replace f21 := (hk 21 (by decide)).trans f21
          replace f22 := (hk 22 (by decide)).trans f22
          replace f23 := (hk 23 (by decide)).trans f23
          replace f43 : a45.tmps[43]?.getD undef = .bool false := f43
          clear hk hsz44 hde44 f42
          refine wpList_leave (not_wanted (j := 4) (t := 43) (b := true) rfl rfl (.inr f43)) hsz45 hde45 44 rfl (by decide) fun a46 hsz46 hde46 f44 hk => ?_
          replace f0 := (hk 0 (by decide)).trans f0
          replace f3 := (hk 3 (by decide)).trans f3
          replace f5 := (hk 5 (by decide)).trans f5
          replace f7 := (hk 7 (by decide)).trans f7
          replace f21 := (hk 21 (by decide)).trans f21
          replace f22 := (hk 22 (by decide)).trans f22
          replace f23 := (hk 23 (by decide)).trans f23
          replace f43 := (hk 43 (by decide)).trans f43
          clear hk hsz45 hde45
          refine wpList_leave (not_wanted (j := 4) (t := 43) (b := true) rfl rfl (.inr f43)) hsz46 hde46 45 rfl (by decide) fun a47 hsz47 hde47 f45 hk => ?_
          replace f0 := (hk 0 (by decide)).trans f0
          replace f3 := (hk 3 (by decide)).trans f3
          replace f5 := (hk 5 (by decide)).trans f5
          replace f7 := (hk 7 (by decide)).trans f7
          replace f21 := (hk 21 (by decide)).trans f21
          replace f22 := (hk 22 (by decide)).trans f22
          replace f23 := (hk 23 (by decide)).trans f23
          replace f43 := (hk 43 (by decide)).trans f43
          clear hk hsz46 hde46 f44
          refine wpList_next rfl hsz47 hde47 46 rfl (by decide) fun K hK => ?_
          go_simp
          refine hK _ _ fun a48 hsz48 hde48 f46 hk => ?_
          clear hK K
          replace f0 := (hk 0 (by decide)).trans f0
          replace f3 := (hk 3 (by decide)).trans f3
          replace f5 := (hk 5 (by decide)).trans f5
          replace f7 := (hk 7 (by decide)).trans f7
          replace f21 := (hk 21 (by decide)).trans f21
          replace f22 := (hk 22 (by decide)).trans f22
          replace f23 := (hk 23 (by decide)).trans f23
          replace f46 : a48.tmps[46]?.getD undef = .bool false := f46
          clear hk hsz47 hde47 f43 f45
          refine wpList_nil ?_
          refine then_go ?_
          exact ⟨hsz48, hde48, f0, f3, f5, f7, f21, f22, f23, f46.trans (by rw [Bool.and_false]), HPl, Lib.hid (Below.refl _ _)⟩
        | true =>
          refine wp_region_lit ?_
          refine wpList_next rfl hsz40 hde40 39 rfl (by decide) fun K hK => ?_
          go_simp
          refine hK _ _ fun a41 hsz41 hde41 f39 hk => ?_
          clear hK K
          replace f0 := (hk 0 (by decide)).trans f0
          replace f3 := (hk 3 (by decide)).trans f3
          replace f5 := (hk 5 (by decide)).trans f5
          replace f7 := (hk 7 (by decide)).trans f7
          replace f21 := (hk 21 (by decide)).trans f21
          replace f22 := (hk 22 (by decide)).trans f22
          replace f23 := (hk 23 (by decide)).trans f23
          replace f39 : a41.tmps[39]?.getD undef = .pointer (some ⟨p, 2, none⟩) := f39
          clear hk hsz40 hde40
          refine wpList_next rfl hsz41 hde41 40 rfl (by decide) fun K hK => ?_
          refine wp_load_mid 25 (.tmp 39) rfl p 2 (eval_at f39) DX.toList _ HrD.out Tryd.underlying25 rfl HfD.out ?_
          refine hK _ _ fun a42 hsz42 hde42 f40 hk => ?_
          clear hK K
          replace f0 := (hk 0 (by decide)).trans f0
          replace f3 := (hk 3 (by decide)).trans f3
          replace f5 := (hk 5 (by decide)).trans f5
          replace f7 := (hk 7 (by decide)).trans f7
          replace f21 := (hk 21 (by decide)).trans f21
          replace f22 := (hk 22 (by decide)).trans f22
          replace f23 := (hk 23 (by decide)).trans f23
          replace f40 : a42.tmps[40]?.getD undef = .agg DX := f40
          clear hk hsz41 hde41 f39
          refine wpList_next rfl hsz42 hde42 41 rfl (by decide) fun K hK => ?_
          refine wp_load_mid 25 (.tmp 3) rfl w.heap.size 0 (eval_at f3) IB.toList _ (HrB.out _ HPl.out) Tryd.underlying25 rfl HfB.out ?_
          refine hK _ _ fun a43 hsz43 hde43 f41 hk => ?_
          clear hK K
          replace f0 := (hk 0 (by decide)).trans f0
          replace f3 := (hk 3 (by decide)).trans f3
          replace f5 := (hk 5 (by decide)).trans f5
          replace f7 := (hk 7 (by decide)).trans f7
          replace f21 := (hk 21 (by decide)).trans f21
          replace f22 := (hk 22 (by decide)).trans f22
          replace f23 := (hk 23 (by decide)).trans f23
          replace f40 := (hk 40 (by decide)).trans f40
          replace f41 : a43.tmps[41]?.getD undef = .agg IB := f41
          clear hk hsz42 hde42
          refine wpList_next rfl hsz43 hde43 42 rfl (by decide) fun K hK => ?_
          have heq := Heq.out
          go_simp
          refine hK _ _ fun a44 hsz44 hde44 f42 hk => ?_
          clear hK K
          replace f0 := (hk 0 (by decide)).trans f0
          replace f3 := (hk 3 (by decide)).trans f3
          replace f5 := (hk 5 (by decide)).trans f5
          replace f7 := (hk 7 (by decide)).trans f7
          replace f21 := (hk 21 (by decide)).trans f21
          replace f22 := (hk 22 (by decide)).trans f22
          replace f23 := (hk 23 (by decide)).trans f23
          replace f42 : a44.tmps[42]?.getD undef = .bool true := f42
          clear hk hsz43 hde43 f40 f41
          clear heq
          refine wpList_next rfl hsz44 hde44 43 rfl (by decide) fun K hK => ?_
          go_simp
          refine hK _ _ fun a45 hsz45 hde45 f43 hk => ?_
          clear hK K
          replace f0 := (hk 0 (by decide)).trans f0
          replace f3 := (hk 3 (by decide)).trans f3
          replace f5 := (hk 5 (by decide)).trans f5
          replace f7 := (hk 7 (by decide)).trans f7
          replace f21 := (hk 21 (by decide)).trans f21
          replace f22 := (hk 22 (by decide)).trans f22
          replace f23 := (hk 23 (by decide)).trans f23
          replace f43 : a45.tmps[43]?.getD undef = .bool true := f43
          clear hk hsz44 hde44 f42
          refine wpList_nextg (wanted_of (j := 4) (t := 43) (b := true) rfl rfl f43) hsz45 hde45 44 rfl (by decide) fun K hK => ?_
          refine wp_load_mid 29 (.tmp 7) rfl p 0 (eval_at f7) CX.toList _ HrC.out Tryd.underlying29 rfl HinfX.out ?_
          refine hK _ _ fun a46 hsz46 hde46 f44 hk => ?_
          clear hK K
          replace f0 := (hk 0 (by decide)).trans f0
          replace f3 := (hk 3 (by decide)).trans f3
          replace f5 := (hk 5 (by decide)).trans f5
          replace f7 := (hk 7 (by decide)).trans f7
          replace f21 := (hk 21 (by decide)).trans f21
          replace f22 := (hk 22 (by decide)).trans f22
          replace f23 := (hk 23 (by decide)).trans f23
          replace f43 := (hk 43 (by decide)).trans f43
          replace f44 : a46.tmps[44]?.getD undef = .agg CX := f44
          clear hk hsz45 hde45
          refine wpList_nextg (wanted_of (j := 4) (t := 43) (b := true) rfl rfl f43) hsz46 hde46 45 rfl (by decide) fun K hK => ?_
          go_simp
          refine (Hal.out _).mono ?_
          rintro e7 w7 ⟨rfl, hb7⟩
          go_simp
          refine hK _ _ fun a47 hsz47 hde47 f45 hk => ?_
          clear hK K
          replace f0 := (hk 0 (by decide)).trans f0
          replace f3 := (hk 3 (by decide)).trans f3
          replace f5 := (hk 5 (by decide)).trans f5
          replace f7 := (hk 7 (by decide)).trans f7
          replace f21 := (hk 21 (by decide)).trans f21
          replace f22 := (hk 22 (by decide)).trans f22
          replace f23 := (hk 23 (by decide)).trans f23
          replace f43 := (hk 43 (by decide)).trans f43
          replace f45 : a47.tmps[45]?.getD undef = .bool h := f45
          clear hk hsz46 hde46 f44
          refine wpList_next rfl hsz47 hde47 46 rfl (by decide) fun K hK => ?_
          go_simp
          refine hK _ _ fun a48 hsz48 hde48 f46 hk => ?_
          clear hK K
          replace f0 := (hk 0 (by decide)).trans f0
          replace f3 := (hk 3 (by decide)).trans f3
          replace f5 := (hk 5 (by decide)).trans f5
          replace f7 := (hk 7 (by decide)).trans f7
          replace f21 := (hk 21 (by decide)).trans f21
          replace f22 := (hk 22 (by decide)).trans f22
          replace f23 := (hk 23 (by decide)).trans f23
          replace f46 : a48.tmps[46]?.getD undef = .bool h := f46
          clear hk hsz47 hde47 f43 f45
          refine wpList_nil ?_
          refine then_go ?_
          exact ⟨hsz48, hde48, f0, f3, f5, f7, f21, f22, f23, f46.trans (by rw [Bool.and_true]), Lib.hid (below_call HPl.out hb7), Lib.hid hb7⟩
      clear hsz40 hde40 f0 f3 f5 f7 f21 f22 f23
      rintro a59 wy ⟨hsz59, hde59, f0, f3, f5, f7, f21, f22, f23, f46, Hby, Hbxy⟩
      obtain ⟨g1, hg1⟩ : ∃ g1, g1 = (h && e) := ⟨_, rfl⟩
      rw [← hg1] at f46
      have Hg1 := Lib.hid hg1
      clear hg1
      have hnxl : (dirE (L.take (i + 1)) r s).length = if g1 = true then d + 1 else d := by rw [Hnx.out, ← He.out, ← Hh.out, ← Hg1.out, Hdd.out]; cases g1 <;> simp
      have Hnxl := Lib.hid hnxl
      clear hnxl
      repeat with_reducible refine wp_seq ?_
      obtain ⟨d2, hd2⟩ : ∃ d2, d2 = (dirE (L.take (i + 1)) r s).length := ⟨_, rfl⟩
      have Hd2 := Lib.hid hd2
      rw [← hd2] at Hnxl
      clear hd2
      refine wp_cut0 (fun a9 x9 => Hid (a9.tmps.size = 89) ∧ Hid (a9.defers = []) ∧ a9.tmps[0]?.getD undef = .slice (some ⟨b, off, none⟩) n cc ∧ a9.tmps[3]?.getD undef = .pointer (some ⟨w.heap.size, 0, none⟩) ∧ a9.tmps[5]?.getD undef = .int .i64 ((d2 : Nat) : Int) ∧ a9.tmps[7]?.getD undef = .pointer (some ⟨p, 0, none⟩) ∧ a9.tmps[21]?.getD undef = .slice (some ⟨b, off, none⟩) n cc ∧ a9.tmps[22]?.getD undef = .int .i64 ((n : Nat) : Int) ∧ a9.tmps[23]?.getD undef = .int .i64 ((i : Nat) : Int) ∧ x9 = wy) ?_ ?_
      · cases g1 with
        | true =>
          refine wp_cond_true (eval_at f46) ?_
          clear f46
          refine wp_region_lit ?_
          refine wpList_next rfl hsz59 hde59 47 rfl (by decide) fun K hK => ?_
          go_simp
          refine hK _ _ fun a60 hsz60 hde60 f47 hk => ?_
          clear hK K
          replace f0 := (hk 0 (by decide)).trans f0
          replace f3 := (hk 3 (by decide)).trans f3
          replace f5 := (hk 5 (by decide)).trans f5
          replace f7 := (hk 7 (by decide)).trans f7
          replace f21 := (hk 21 (by decide)).trans f21
          replace f22 := (hk 22 (by decide)).trans f22
          replace f23 := (hk 23 (by decide)).trans f23
          replace f47 : a60.tmps[47]?.getD undef = .int .i64 ((d : Nat) : Int) := f47
          clear hk hsz59 hde59
          refine wpList_next rfl hsz60 hde60 48 rfl (by decide) fun K hK => ?_
          go_simp
          refine hK _ _ fun a61 hsz61 hde61 f48 hk => ?_
          clear hK K
          replace f0 := (hk 0 (by decide)).trans f0
          replace f3 := (hk 3 (by decide)).trans f3
          replace f5 := (hk 5 (by decide)).trans f5
          replace f7 := (hk 7 (by decide)).trans f7
          replace f21 := (hk 21 (by decide)).trans f21
          replace f22 := (hk 22 (by decide)).trans f22
          replace f23 := (hk 23 (by decide)).trans f23
          clear hk hsz60 hde60 f47
          replace f48 : a61.tmps[48]?.getD undef = .int .i64 (((d2 : Nat) : Int)) := f48.trans (by have h7 := Hnxl.out; rw [if_pos rfl] at h7; first | rfl | (congr 1; done) | (congr 1; omega) | (congr 1; rw [IntKind.wrap_i64] <;> omega))
          refine wpList_next rfl hsz61 hde61 5 rfl (by decide) fun K hK => ?_
          go_simp
          refine hK _ _ fun a62 hsz62 hde62 f5 hk => ?_
          clear hK K
          replace f0 := (hk 0 (by decide)).trans f0
          replace f3 := (hk 3 (by decide)).trans f3
          replace f7 := (hk 7 (by decide)).trans f7
          replace f21 := (hk 21 (by decide)).trans f21
          replace f22 := (hk 22 (by decide)).trans f22
          replace f23 := (hk 23 (by decide)).trans f23
          replace f5 : a62.tmps[5]?.getD undef = .int .i64 ((d2 : Nat) : Int) := f5
          clear hk hsz61 hde61 f48
          refine wpList_nil ?_
          refine then_go ?_
          exact ⟨hsz62, hde62, f0, f3, f5, f7, f21, f22, f23, rfl⟩
        | false =>
          refine wp_cond_false (eval_at f46) ?_
          refine wp_skip ?_
          refine then_go ?_
          have h7 := Hnxl.out
          rw [if_neg (by simp)] at h7
          exact ⟨hsz59, hde59, f0, f3, f5.trans (by rw [h7]), f7, f21, f22, f23, rfl⟩
      clear hsz59 hde59 f0 f3 f5 f7 f21 f22 f23 f46
      rintro a79 x79 ⟨hsz79, hde79, f0, f3, f5, f7, f21, f22, f23, rfl⟩
      repeat with_reducible refine wp_seq ?_
      have hrep : x79.cell? ⟨p, 0, none⟩ = some (.int .i64 X.rep) := (Hbxy.out.cell (World.block_lt_of_cell? wx _ HrI.out)).trans HrI.out
      have Hrep := Lib.hid hrep
      obtain ⟨rp, hrp⟩ : ∃ rp, rp = X.rep := ⟨_, rfl⟩
      rw [← hrp] at Hrep
      have Hrp := Lib.hid hrp
      clear hrep hrp
      by_cases hneg : rp < 0
      · have Hneg := Lib.hid hneg
        clear hneg
        refine wp_region_lit ?_
        refine wpList_next rfl hsz79 hde79 49 rfl (by decide) fun K hK => ?_
        go_simp
        refine hK _ _ fun a80 hsz80 hde80 f49 hk => ?_
        clear hK K
        replace f0 := (hk 0 (by decide)).trans f0
        replace f3 := (hk 3 (by decide)).trans f3
        replace f5 := (hk 5 (by decide)).trans f5
        replace f7 := (hk 7 (by decide)).trans f7
        replace f21 := (hk 21 (by decide)).trans f21
        replace f22 := (hk 22 (by decide)).trans f22
        replace f23 := (hk 23 (by decide)).trans f23
        replace f49 : a80.tmps[49]?.getD undef = .pointer (some ⟨p, 0, none⟩) := f49
        clear hk hsz79 hde79
        refine wpList_next rfl hsz80 hde80 50 rfl (by decide) fun K hK => ?_
        go_simp
        refine hK _ _ fun a81 hsz81 hde81 f50 hk => ?_
        clear hK K
        replace f0 := (hk 0 (by decide)).trans f0
        replace f3 := (hk 3 (by decide)).trans f3
        replace f5 := (hk 5 (by decide)).trans f5
        replace f7 := (hk 7 (by decide)).trans f7
        replace f21 := (hk 21 (by decide)).trans f21
        replace f22 := (hk 22 (by decide)).trans f22
        replace f23 := (hk 23 (by decide)).trans f23
        replace f50 : a81.tmps[50]?.getD undef = .pointer (some ⟨p, 0, none⟩) := f50
        clear hk hsz80 hde80 f49
        refine wpList_next rfl hsz81 hde81 51 rfl (by decide) fun K hK => ?_
        have hrep := Hrep.out
        go_simp
        refine hK _ _ fun a82 hsz82 hde82 f51 hk => ?_
        clear hK K
        replace f0 := (hk 0 (by decide)).trans f0
        replace f3 := (hk 3 (by decide)).trans f3
        replace f5 := (hk 5 (by decide)).trans f5
        replace f7 := (hk 7 (by decide)).trans f7
        replace f21 := (hk 21 (by decide)).trans f21
        replace f22 := (hk 22 (by decide)).trans f22
        replace f23 := (hk 23 (by decide)).trans f23
        replace f51 : a82.tmps[51]?.getD undef = .int .i64 rp := f51
        clear hk hsz81 hde81 f50
        clear hrep
        refine wpList_next rfl hsz82 hde82 52 rfl (by decide) fun K hK => ?_
        go_simp
        refine hK _ _ fun a83 hsz83 hde83 f52 hk => ?_
        clear hK K
        replace f0 := (hk 0 (by decide)).trans f0
        replace f3 := (hk 3 (by decide)).trans f3
        replace f5 := (hk 5 (by decide)).trans f5
        replace f7 := (hk 7 (by decide)).trans f7
        replace f21 := (hk 21 (by decide)).trans f21
        replace f22 := (hk 22 (by decide)).trans f22
        replace f23 := (hk 23 (by decide)).trans f23
        clear hk hsz82 hde82 f51
        replace f52 : a83.tmps[52]?.getD undef = .bool true := f52.trans (by have h7 := Hneg.out; first | (congr 1; exact decide_eq_true (by omega)) | (congr 1; exact decide_eq_false (by omega)) | (simp; omega))
        refine wpList_next rfl hsz83 hde83 53 rfl (by decide) fun K hK => ?_
        go_simp
        refine hK _ _ fun a84 hsz84 hde84 f53 hk => ?_
        clear hK K
        replace f0 := (hk 0 (by decide)).trans f0
        replace f3 := (hk 3 (by decide)).trans f3
        replace f5 := (hk 5 (by decide)).trans f5
        replace f7 := (hk 7 (by decide)).trans f7
        replace f21 := (hk 21 (by decide)).trans f21
        replace f22 := (hk 22 (by decide)).trans f22
        replace f23 := (hk 23 (by decide)).trans f23
        replace f53 : a84.tmps[53]?.getD undef = .bool true := f53
        clear hk hsz83 hde83 f52
        refine wpList_leave (not_wanted (j := 4) (t := 53) (b := false) rfl rfl (.inr f53)) hsz84 hde84 54 rfl (by decide) fun a85 hsz85 hde85 f54 hk => ?_
        replace f0 := (hk 0 (by decide)).trans f0
        replace f3 := (hk 3 (by decide)).trans f3
        replace f5 := (hk 5 (by decide)).trans f5
        replace f7 := (hk 7 (by decide)).trans f7
        replace f21 := (hk 21 (by decide)).trans f21
        replace f22 := (hk 22 (by decide)).trans f22
        replace f23 := (hk 23 (by decide)).trans f23
        replace f53 := (hk 53 (by decide)).trans f53
        clear hk hsz84 hde84
        refine wpList_leave (not_wanted (j := 4) (t := 53) (b := false) rfl rfl (.inr f53)) hsz85 hde85 55 rfl (by decide) fun a86 hsz86 hde86 f55 hk => ?_
        replace f0 := (hk 0 (by decide)).trans f0
        replace f3 := (hk 3 (by decide)).trans f3
        replace f5 := (hk 5 (by decide)).trans f5
        replace f7 := (hk 7 (by decide)).trans f7
        replace f21 := (hk 21 (by decide)).trans f21
        replace f22 := (hk 22 (by decide)).trans f22
        replace f23 := (hk 23 (by decide)).trans f23
        replace f53 := (hk 53 (by decide)).trans f53
        clear hk hsz85 hde85 f54
        refine wpList_leave (not_wanted (j := 4) (t := 53) (b := false) rfl rfl (.inr f53)) hsz86 hde86 56 rfl (by decide) fun a87 hsz87 hde87 f56 hk => ?_
        replace f0 := (hk 0 (by decide)).trans f0
        replace f3 := (hk 3 (by decide)).trans f3
        replace f5 := (hk 5 (by decide)).trans f5
        replace f7 := (hk 7 (by decide)).trans f7
        replace f21 := (hk 21 (by decide)).trans f21
        replace f22 := (hk 22 (by decide)).trans f22
        replace f23 := (hk 23 (by decide)).trans f23
        replace f53 := (hk 53 (by decide)).trans f53
        clear hk hsz86 hde86 f55
        refine wpList_leave (not_wanted (j := 4) (t := 53) (b := false) rfl rfl (.inr f53)) hsz87 hde87 57 rfl (by decide) fun a88 hsz88 hde88 f57 hk => ?_
        replace f0 := (hk 0 (by decide)).trans f0
        replace f3 := (hk 3 (by decide)).trans f3
        replace f5 := (hk 5 (by decide)).trans f5
        replace f7 := (hk 7 (by decide)).trans f7
        replace f21 := (hk 21 (by decide)).trans f21
        replace f22 := (hk 22 (by decide)).trans f22
        replace f23 := (hk 23 (by decide)).trans f23
        replace f53 := (hk 53 (by decide)).trans f53
        clear hk hsz87 hde87 f56
        refine wpList_next rfl hsz88 hde88 58 rfl (by decide) fun K hK => ?_
        go_simp
        refine hK _ _ fun a89 hsz89 hde89 f58 hk => ?_
        clear hK K
        replace f0 := (hk 0 (by decide)).trans f0
        replace f3 := (hk 3 (by decide)).trans f3
        replace f5 := (hk 5 (by decide)).trans f5
        replace f7 := (hk 7 (by decide)).trans f7
        replace f21 := (hk 21 (by decide)).trans f21
        replace f22 := (hk 22 (by decide)).trans f22
        replace f23 := (hk 23 (by decide)).trans f23
        replace f58 : a89.tmps[58]?.getD undef = .bool true := f58
        clear hk hsz88 hde88 f53 f57
        refine wpList_nil ?_
        refine then_go ?_
        repeat with_reducible refine wp_seq ?_
        refine wp_cond_true (eval_at f58) ?_
        clear f58
        repeat with_reducible refine wp_seq ?_
        refine wp_region_lit ?_
        refine wpList_next rfl hsz89 hde89 4 rfl (by decide) fun K hK => ?_
        go_simp
        refine hK _ _ fun a90 hsz90 hde90 f4 hk => ?_
        clear hK K
        replace f0 := (hk 0 (by decide)).trans f0
        replace f3 := (hk 3 (by decide)).trans f3
        replace f5 := (hk 5 (by decide)).trans f5
        replace f7 := (hk 7 (by decide)).trans f7
        replace f21 := (hk 21 (by decide)).trans f21
        replace f22 := (hk 22 (by decide)).trans f22
        replace f23 := (hk 23 (by decide)).trans f23
        replace f4 : a90.tmps[4]?.getD undef = .bool true := f4
        clear hk hsz89 hde89
        refine wpList_nil ?_
        refine then_go ?_
        refine wp_ret ?_
        refine (ret_tmp (R := fun e2 w2 => e2 = .returned (.bool true) ∧ Below w.heap.size w w2) Tryd.results7 hde90 f4 ?_)
        exact ⟨rfl, below_call Hbel.out Hby.out⟩
      have Hneg := Lib.hid hneg
      by_cases hbig : 1000 < rp
      · have Hbig := Lib.hid hbig
        clear hbig hneg
        refine wp_region_lit ?_
        refine wpList_next rfl hsz79 hde79 49 rfl (by decide) fun K hK => ?_
        go_simp
        refine hK _ _ fun a80 hsz80 hde80 f49 hk => ?_
        clear hK K
        replace f0 := (hk 0 (by decide)).trans f0
        replace f3 := (hk 3 (by decide)).trans f3
        replace f5 := (hk 5 (by decide)).trans f5
        replace f7 := (hk 7 (by decide)).trans f7
        replace f21 := (hk 21 (by decide)).trans f21
        replace f22 := (hk 22 (by decide)).trans f22
        replace f23 := (hk 23 (by decide)).trans f23
        replace f49 : a80.tmps[49]?.getD undef = .pointer (some ⟨p, 0, none⟩) := f49
        clear hk hsz79 hde79
        refine wpList_next rfl hsz80 hde80 50 rfl (by decide) fun K hK => ?_
        go_simp
        refine hK _ _ fun a81 hsz81 hde81 f50 hk => ?_
        clear hK K
        replace f0 := (hk 0 (by decide)).trans f0
        replace f3 := (hk 3 (by decide)).trans f3
        replace f5 := (hk 5 (by decide)).trans f5
        replace f7 := (hk 7 (by decide)).trans f7
        replace f21 := (hk 21 (by decide)).trans f21
        replace f22 := (hk 22 (by decide)).trans f22
        replace f23 := (hk 23 (by decide)).trans f23
        replace f50 : a81.tmps[50]?.getD undef = .pointer (some ⟨p, 0, none⟩) := f50
        clear hk hsz80 hde80 f49
        refine wpList_next rfl hsz81 hde81 51 rfl (by decide) fun K hK => ?_
        have hrep := Hrep.out
        go_simp
        refine hK _ _ fun a82 hsz82 hde82 f51 hk => ?_
        clear hK K
        replace f0 := (hk 0 (by decide)).trans f0
        replace f3 := (hk 3 (by decide)).trans f3
        replace f5 := (hk 5 (by decide)).trans f5
        replace f7 := (hk 7 (by decide)).trans f7
        replace f21 := (hk 21 (by decide)).trans f21
        replace f22 := (hk 22 (by decide)).trans f22
        replace f23 := (hk 23 (by decide)).trans f23
        replace f51 : a82.tmps[51]?.getD undef = .int .i64 rp := f51
        clear hk hsz81 hde81 f50
        clear hrep
        refine wpList_next rfl hsz82 hde82 52 rfl (by decide) fun K hK => ?_
        go_simp
        refine hK _ _ fun a83 hsz83 hde83 f52 hk => ?_
        clear hK K
        replace f0 := (hk 0 (by decide)).trans f0
        replace f3 := (hk 3 (by decide)).trans f3
        replace f5 := (hk 5 (by decide)).trans f5
        replace f7 := (hk 7 (by decide)).trans f7
        replace f21 := (hk 21 (by decide)).trans f21
        replace f22 := (hk 22 (by decide)).trans f22
        replace f23 := (hk 23 (by decide)).trans f23
        clear hk hsz82 hde82 f51
        replace f52 : a83.tmps[52]?.getD undef = .bool false := f52.trans (by have h7 := Hneg.out; first | (congr 1; exact decide_eq_true (by omega)) | (congr 1; exact decide_eq_false (by omega)) | (simp; omega))
        refine wpList_next rfl hsz83 hde83 53 rfl (by decide) fun K hK => ?_
        go_simp
        refine hK _ _ fun a84 hsz84 hde84 f53 hk => ?_
        clear hK K
        replace f0 := (hk 0 (by decide)).trans f0
        replace f3 := (hk 3 (by decide)).trans f3
        replace f5 := (hk 5 (by decide)).trans f5
        replace f7 := (hk 7 (by decide)).trans f7
        replace f21 := (hk 21 (by decide)).trans f21
        replace f22 := (hk 22 (by decide)).trans f22
        replace f23 := (hk 23 (by decide)).trans f23
        replace f53 : a84.tmps[53]?.getD undef = .bool false := f53
        clear hk hsz83 hde83 f52
        refine wpList_nextg (wanted_of (j := 4) (t := 53) (b := false) rfl rfl f53) hsz84 hde84 54 rfl (by decide) fun K hK => ?_
        go_simp
        refine hK _ _ fun a85 hsz85 hde85 f54 hk => ?_
        clear hK K
        replace f0 := (hk 0 (by decide)).trans f0
        replace f3 := (hk 3 (by decide)).trans f3
        replace f5 := (hk 5 (by decide)).trans f5
        replace f7 := (hk 7 (by decide)).trans f7
        replace f21 := (hk 21 (by decide)).trans f21
        replace f22 := (hk 22 (by decide)).trans f22
        replace f23 := (hk 23 (by decide)).trans f23
        replace f53 := (hk 53 (by decide)).trans f53
        replace f54 : a85.tmps[54]?.getD undef = .pointer (some ⟨p, 0, none⟩) := f54
        clear hk hsz84 hde84
        refine wpList_nextg (wanted_of (j := 4) (t := 53) (b := false) rfl rfl f53) hsz85 hde85 55 rfl (by decide) fun K hK => ?_
        go_simp
        refine hK _ _ fun a86 hsz86 hde86 f55 hk => ?_
        clear hK K
        replace f0 := (hk 0 (by decide)).trans f0
        replace f3 := (hk 3 (by decide)).trans f3
        replace f5 := (hk 5 (by decide)).trans f5
        replace f7 := (hk 7 (by decide)).trans f7
        replace f21 := (hk 21 (by decide)).trans f21
        replace f22 := (hk 22 (by decide)).trans f22
        replace f23 := (hk 23 (by decide)).trans f23
        replace f53 := (hk 53 (by decide)).trans f53
        replace f55 : a86.tmps[55]?.getD undef = .pointer (some ⟨p, 0, none⟩) := f55
        clear hk hsz85 hde85 f54
        refine wpList_nextg (wanted_of (j := 4) (t := 53) (b := false) rfl rfl f53) hsz86 hde86 56 rfl (by decide) fun K hK => ?_
        have hrep := Hrep.out
        go_simp
        refine hK _ _ fun a87 hsz87 hde87 f56 hk => ?_
        clear hK K
        replace f0 := (hk 0 (by decide)).trans f0
        replace f3 := (hk 3 (by decide)).trans f3
        replace f5 := (hk 5 (by decide)).trans f5
        replace f7 := (hk 7 (by decide)).trans f7
        replace f21 := (hk 21 (by decide)).trans f21
        replace f22 := (hk 22 (by decide)).trans f22
        replace f23 := (hk 23 (by decide)).trans f23
        replace f53 := (hk 53 (by decide)).trans f53
        replace f56 : a87.tmps[56]?.getD undef = .int .i64 rp := f56
        clear hk hsz86 hde86 f55
        clear hrep
        refine wpList_nextg (wanted_of (j := 4) (t := 53) (b := false) rfl rfl f53) hsz87 hde87 57 rfl (by decide) fun K hK => ?_
        go_simp
        refine hK _ _ fun a88 hsz88 hde88 f57 hk => ?_
        clear hK K
        replace f0 := (hk 0 (by decide)).trans f0
        replace f3 := (hk 3 (by decide)).trans f3
        replace f5 := (hk 5 (by decide)).trans f5
        replace f7 := (hk 7 (by decide)).trans f7
        replace f21 := (hk 21 (by decide)).trans f21
        replace f22 := (hk 22 (by decide)).trans f22
        replace f23 := (hk 23 (by decide)).trans f23
        replace f53 := (hk 53 (by decide)).trans f53
        clear hk hsz87 hde87 f56
        replace f57 : a88.tmps[57]?.getD undef = .bool true := f57.trans (by have h7 := Hbig.out; first | (congr 1; exact decide_eq_true (by omega)) | (congr 1; exact decide_eq_false (by omega)) | (simp; omega))
        refine wpList_next rfl hsz88 hde88 58 rfl (by decide) fun K hK => ?_
        go_simp
        refine hK _ _ fun a89 hsz89 hde89 f58 hk => ?_
        clear hK K
        replace f0 := (hk 0 (by decide)).trans f0
        replace f3 := (hk 3 (by decide)).trans f3
        replace f5 := (hk 5 (by decide)).trans f5
        replace f7 := (hk 7 (by decide)).trans f7
        replace f21 := (hk 21 (by decide)).trans f21
        replace f22 := (hk 22 (by decide)).trans f22
        replace f23 := (hk 23 (by decide)).trans f23
        replace f58 : a89.tmps[58]?.getD undef = .bool true := f58
        clear hk hsz88 hde88 f53 f57
        refine wpList_nil ?_
        refine then_go ?_
        repeat with_reducible refine wp_seq ?_
        refine wp_cond_true (eval_at f58) ?_
        clear f58
        repeat with_reducible refine wp_seq ?_
        refine wp_region_lit ?_
        refine wpList_next rfl hsz89 hde89 4 rfl (by decide) fun K hK => ?_
        go_simp
        refine hK _ _ fun a90 hsz90 hde90 f4 hk => ?_
        clear hK K
        replace f0 := (hk 0 (by decide)).trans f0
        replace f3 := (hk 3 (by decide)).trans f3
        replace f5 := (hk 5 (by decide)).trans f5
        replace f7 := (hk 7 (by decide)).trans f7
        replace f21 := (hk 21 (by decide)).trans f21
        replace f22 := (hk 22 (by decide)).trans f22
        replace f23 := (hk 23 (by decide)).trans f23
        replace f4 : a90.tmps[4]?.getD undef = .bool true := f4
        clear hk hsz89 hde89
        refine wpList_nil ?_
        refine then_go ?_
        refine wp_ret ?_
        refine (ret_tmp (R := fun e2 w2 => e2 = .returned (.bool true) ∧ Below w.heap.size w w2) Tryd.results7 hde90 f4 ?_)
        exact ⟨rfl, below_call Hbel.out Hby.out⟩
      have Hbig := Lib.hid hbig
      clear hbig hneg
      refine wp_region_lit ?_
      refine wpList_next rfl hsz79 hde79 49 rfl (by decide) fun K hK => ?_
      go_simp
      refine hK _ _ fun a80 hsz80 hde80 f49 hk => ?_
      clear hK K
      replace f0 := (hk 0 (by decide)).trans f0
      replace f3 := (hk 3 (by decide)).trans f3
      replace f5 := (hk 5 (by decide)).trans f5
      replace f7 := (hk 7 (by decide)).trans f7
      replace f21 := (hk 21 (by decide)).trans f21
      replace f22 := (hk 22 (by decide)).trans f22
      replace f23 := (hk 23 (by decide)).trans f23
      replace f49 : a80.tmps[49]?.getD undef = .pointer (some ⟨p, 0, none⟩) := f49
      clear hk hsz79 hde79
      refine wpList_next rfl hsz80 hde80 50 rfl (by decide) fun K hK => ?_
      go_simp
      refine hK _ _ fun a81 hsz81 hde81 f50 hk => ?_
      clear hK K
      replace f0 := (hk 0 (by decide)).trans f0
      replace f3 := (hk 3 (by decide)).trans f3
      replace f5 := (hk 5 (by decide)).trans f5
      replace f7 := (hk 7 (by decide)).trans f7
      replace f21 := (hk 21 (by decide)).trans f21
      replace f22 := (hk 22 (by decide)).trans f22
      replace f23 := (hk 23 (by decide)).trans f23
      replace f50 : a81.tmps[50]?.getD undef = .pointer (some ⟨p, 0, none⟩) := f50
      clear hk hsz80 hde80 f49
      refine wpList_next rfl hsz81 hde81 51 rfl (by decide) fun K hK => ?_
      have hrep := Hrep.out
      go_simp
      refine hK _ _ fun a82 hsz82 hde82 f51 hk => ?_
      clear hK K
      replace f0 := (hk 0 (by decide)).trans f0
      replace f3 := (hk 3 (by decide)).trans f3
      replace f5 := (hk 5 (by decide)).trans f5
      replace f7 := (hk 7 (by decide)).trans f7
      replace f21 := (hk 21 (by decide)).trans f21
      replace f22 := (hk 22 (by decide)).trans f22
      replace f23 := (hk 23 (by decide)).trans f23
      replace f51 : a82.tmps[51]?.getD undef = .int .i64 rp := f51
      clear hk hsz81 hde81 f50
      clear hrep
      refine wpList_next rfl hsz82 hde82 52 rfl (by decide) fun K hK => ?_
      go_simp
      refine hK _ _ fun a83 hsz83 hde83 f52 hk => ?_
      clear hK K
      replace f0 := (hk 0 (by decide)).trans f0
      replace f3 := (hk 3 (by decide)).trans f3
      replace f5 := (hk 5 (by decide)).trans f5
      replace f7 := (hk 7 (by decide)).trans f7
      replace f21 := (hk 21 (by decide)).trans f21
      replace f22 := (hk 22 (by decide)).trans f22
      replace f23 := (hk 23 (by decide)).trans f23
      clear hk hsz82 hde82 f51
      replace f52 : a83.tmps[52]?.getD undef = .bool false := f52.trans (by have h7 := Hneg.out; first | (congr 1; exact decide_eq_true (by omega)) | (congr 1; exact decide_eq_false (by omega)) | (simp; omega))
      refine wpList_next rfl hsz83 hde83 53 rfl (by decide) fun K hK => ?_
      go_simp
      refine hK _ _ fun a84 hsz84 hde84 f53 hk => ?_
      clear hK K
      replace f0 := (hk 0 (by decide)).trans f0
      replace f3 := (hk 3 (by decide)).trans f3
      replace f5 := (hk 5 (by decide)).trans f5
      replace f7 := (hk 7 (by decide)).trans f7
      replace f21 := (hk 21 (by decide)).trans f21
      replace f22 := (hk 22 (by decide)).trans f22
      replace f23 := (hk 23 (by decide)).trans f23
      replace f53 : a84.tmps[53]?.getD undef = .bool false := f53
      clear hk hsz83 hde83 f52
      refine wpList_nextg (wanted_of (j := 4) (t := 53) (b := false) rfl rfl f53) hsz84 hde84 54 rfl (by decide) fun K hK => ?_
      go_simp
      refine hK _ _ fun a85 hsz85 hde85 f54 hk => ?_
      clear hK K
      replace f0 := (hk 0 (by decide)).trans f0
      replace f3 := (hk 3 (by decide)).trans f3
      replace f5 := (hk 5 (by decide)).trans f5
      replace f7 := (hk 7 (by decide)).trans f7
      replace f21 := (hk 21 (by decide)).trans f21
      replace f22 := (hk 22 (by decide)).trans f22
      replace f23 := (hk 23 (by decide)).trans f23
      replace f53 := (hk 53 (by decide)).trans f53
      replace f54 : a85.tmps[54]?.getD undef = .pointer (some ⟨p, 0, none⟩) := f54
      clear hk hsz84 hde84
      refine wpList_nextg (wanted_of (j := 4) (t := 53) (b := false) rfl rfl f53) hsz85 hde85 55 rfl (by decide) fun K hK => ?_
      go_simp
      refine hK _ _ fun a86 hsz86 hde86 f55 hk => ?_
      clear hK K
      replace f0 := (hk 0 (by decide)).trans f0
      replace f3 := (hk 3 (by decide)).trans f3
      replace f5 := (hk 5 (by decide)).trans f5
      replace f7 := (hk 7 (by decide)).trans f7
      replace f21 := (hk 21 (by decide)).trans f21
      replace f22 := (hk 22 (by decide)).trans f22
      replace f23 := (hk 23 (by decide)).trans f23
      replace f53 := (hk 53 (by decide)).trans f53
      replace f55 : a86.tmps[55]?.getD undef = .pointer (some ⟨p, 0, none⟩) := f55
      clear hk hsz85 hde85 f54
      refine wpList_nextg (wanted_of (j := 4) (t := 53) (b := false) rfl rfl f53) hsz86 hde86 56 rfl (by decide) fun K hK => ?_
      have hrep := Hrep.out
      go_simp
      refine hK _ _ fun a87 hsz87 hde87 f56 hk => ?_
      clear hK K
      replace f0 := (hk 0 (by decide)).trans f0
      replace f3 := (hk 3 (by decide)).trans f3
      replace f5 := (hk 5 (by decide)).trans f5
      replace f7 := (hk 7 (by decide)).trans f7
      replace f21 := (hk 21 (by decide)).trans f21
      replace f22 := (hk 22 (by decide)).trans f22
      replace f23 := (hk 23 (by decide)).trans f23
      replace f53 := (hk 53 (by decide)).trans f53
      replace f56 : a87.tmps[56]?.getD undef = .int .i64 rp := f56
      clear hk hsz86 hde86 f55
      clear hrep
      refine wpList_nextg (wanted_of (j := 4) (t := 53) (b := false) rfl rfl f53) hsz87 hde87 57 rfl (by decide) fun K hK => ?_
      go_simp
      refine hK _ _ fun a88 hsz88 hde88 f57 hk => ?_
      clear hK K
      replace f0 := (hk 0 (by decide)).trans f0
      replace f3 := (hk 3 (by decide)).trans f3
      replace f5 := (hk 5 (by decide)).trans f5
      replace f7 := (hk 7 (by decide)).trans f7
      replace f21 := (hk 21 (by decide)).trans f21
      replace f22 := (hk 22 (by decide)).trans f22
      replace f23 := (hk 23 (by decide)).trans f23
      replace f53 := (hk 53 (by decide)).trans f53
      clear hk hsz87 hde87 f56
      replace f57 : a88.tmps[57]?.getD undef = .bool false := f57.trans (by have h7 := Hbig.out; first | (congr 1; exact decide_eq_true (by omega)) | (congr 1; exact decide_eq_false (by omega)) | (simp; omega))
      refine wpList_next rfl hsz88 hde88 58 rfl (by decide) fun K hK => ?_
      go_simp
      refine hK _ _ fun a89 hsz89 hde89 f58 hk => ?_
      clear hK K
      replace f0 := (hk 0 (by decide)).trans f0
      replace f3 := (hk 3 (by decide)).trans f3
      replace f5 := (hk 5 (by decide)).trans f5
      replace f7 := (hk 7 (by decide)).trans f7
      replace f21 := (hk 21 (by decide)).trans f21
      replace f22 := (hk 22 (by decide)).trans f22
      replace f23 := (hk 23 (by decide)).trans f23
      replace f58 : a89.tmps[58]?.getD undef = .bool false := f58
      clear hk hsz88 hde88 f53 f57
      refine wpList_nil ?_
      refine then_go ?_
      repeat with_reducible refine wp_seq ?_
      refine wp_cond_false (eval_at f58) ?_
      refine wp_skip ?_
      repeat first | with_reducible refine block_go ?_ | with_reducible refine then_go ?_
      clear f58 f7
      repeat with_reducible refine wp_seq ?_
      refine wp_region_lit ?_
      refine wpList_next rfl hsz89 hde89 59 rfl (by decide) fun K hK => ?_
      go_simp
      refine hK _ _ fun a90 hsz90 hde90 f59 hk => ?_
      clear hK K
      replace f0 := (hk 0 (by decide)).trans f0
      replace f3 := (hk 3 (by decide)).trans f3
      replace f5 := (hk 5 (by decide)).trans f5
      replace f21 := (hk 21 (by decide)).trans f21
      replace f22 := (hk 22 (by decide)).trans f22
      replace f23 := (hk 23 (by decide)).trans f23
      clear hk hsz89 hde89
      replace f59 : a90.tmps[59]?.getD undef = .int .i64 (((i + 1 : Nat) : Int)) := f59.trans (by first | rfl | (congr 1; done) | (congr 1; omega) | (congr 1; rw [IntKind.wrap_i64] <;> omega))
      refine wpList_next rfl hsz90 hde90 23 rfl (by decide) fun K hK => ?_
      go_simp
      refine hK _ _ fun a91 hsz91 hde91 f23 hk => ?_
      clear hK K
      replace f0 := (hk 0 (by decide)).trans f0
      replace f3 := (hk 3 (by decide)).trans f3
      replace f5 := (hk 5 (by decide)).trans f5
      replace f21 := (hk 21 (by decide)).trans f21
      replace f22 := (hk 22 (by decide)).trans f22
      replace f23 : a91.tmps[23]?.getD undef = .int .i64 ((i + 1 : Nat) : Int) := f23
      clear hk hsz90 hde90 f59
      refine wpList_nil ?_
      refine then_go ?_
      rw [Hd2.out] at f5
      exact ⟨n - (i + 1), by rw [Hn2.out]; omega, i + 1, hsz91, hde91, f0, f3, f5, f21, f22, f23, Lib.hid (by omega), Lib.hid (fun k7 h7 hlt7 => by
        by_cases e7 : k7 = i
        · subst e7; rw [← HX.out]; exact ⟨Htil.out, by have h8 := Hneg.out; have h9 := Hbig.out; rw [Hrp.out] at h8 h9; omega⟩
        · exact Hpl.out k7 h7 (by omega)), Hby, rfl⟩
    refine wp_region_lit ?_
    refine wpList_next rfl hsz19 hde19 24 rfl (by decide) fun K hK => ?_
    go_simp
    refine hK _ _ fun a20 hsz20 hde20 f24 hk => ?_
    clear hK K
    replace f0 := (hk 0 (by decide)).trans f0
    replace f3 := (hk 3 (by decide)).trans f3
    replace f5 := (hk 5 (by decide)).trans f5
    replace f21 := (hk 21 (by decide)).trans f21
    replace f22 := (hk 22 (by decide)).trans f22
    replace f23 := (hk 23 (by decide)).trans f23
    clear hk hsz19 hde19
    replace f24 : a20.tmps[24]?.getD undef = .bool false := f24.trans (by first | rfl | (congr 1; first | exact decide_eq_true (by omega) | exact decide_eq_false (by omega)) | (simp; omega))
    refine wpList_nil ?_
    refine then_go ?_
    repeat with_reducible refine wp_seq ?_
    refine wp_cond_false (eval_at f24) ?_
    refine wp_exit ?_
    repeat with_reducible refine then_exit ?_
    refine block_exit ?_
    repeat first | with_reducible refine block_go ?_ | with_reducible refine then_go ?_
    clear f24 f21 f22 f23
    repeat with_reducible refine wp_seq ?_
    obtain rfl : n = i := by have := Hi.out; omega
    have hdL : dirE (L.take n) r s = dirE L r s := by rw [List.take_of_length_le (by rw [← Hn.out]; exact Nat.le_refl _)]
    obtain ⟨wd, hwd⟩ : ∃ wd, wd = wr := ⟨_, rfl⟩
    rw [← hwd] at Hbw ⊢
    clear hwd
    have Hpa := Lib.hid (show ∀ x ∈ L, PlainE x from fun x hx => by obtain ⟨k7, hk7, rfl⟩ := List.getElem_of_mem hx; exact Hpl.out k7 hk7 (by rw [Hn.out]; exact hk7))
    have hin := in_any (fun _ => True) (.slice A n cc) L r s wd (HL.out.grow Hbw.out) (fun x hx => Nat.le_trans (Hd.out x hx) (by omega)) (by rw [← Hn.out]; omega) Hs.out
    rw [← HIB.out] at hin
    have Hin := Lib.hid hin
    rw [hdL] at Hdd
    clear hin hdL Hpl
    refine wp_region_lit ?_
    refine wpList_next rfl hsz20 hde20 60 rfl (by decide) fun K hK => ?_
    go_simp
    refine hK _ _ fun a21 hsz21 hde21 f60 hk => ?_
    clear hK K
    replace f0 := (hk 0 (by decide)).trans f0
    replace f3 := (hk 3 (by decide)).trans f3
    replace f5 := (hk 5 (by decide)).trans f5
    replace f60 : a21.tmps[60]?.getD undef = .slice A n cc := f60
    clear hk hsz20 hde20
    refine wpList_next rfl hsz21 hde21 61 rfl (by decide) fun K hK => ?_
    refine wp_load_mid 25 (.tmp 3) rfl w.heap.size 0 (eval_at f3) IB.toList _ (HrB.out _ Hbw.out) Tryd.underlying25 rfl HfB.out ?_
    refine hK _ _ fun a22 hsz22 hde22 f61 hk => ?_
    clear hK K
    replace f0 := (hk 0 (by decide)).trans f0
    replace f3 := (hk 3 (by decide)).trans f3
    replace f5 := (hk 5 (by decide)).trans f5
    replace f60 := (hk 60 (by decide)).trans f60
    replace f61 : a22.tmps[61]?.getD undef = .agg IB := f61
    clear hk hsz21 hde21
    refine wpList_next rfl hsz22 hde22 62 rfl (by decide) fun K hK => ?_
    go_simp
    refine (Hin.out).mono ?_
    rintro e3 w3 ⟨⟨u3, M, rfl, hown3, hpm3, hps3⟩, hb3⟩
    go_simp
    refine hK _ _ fun a23 hsz23 hde23 f62 hk => ?_
    clear hK K
    replace f0 := (hk 0 (by decide)).trans f0
    replace f3 := (hk 3 (by decide)).trans f3
    replace f5 := (hk 5 (by decide)).trans f5
    replace f62 : a23.tmps[62]?.getD undef = u3 := f62
    clear hk hsz22 hde22 f60 f61
    have Hown3 := Lib.hid hown3.isL
    have Hpm := Lib.hid hpm3
    have Hps := Lib.hid hps3
    have Hb3 := Lib.hid (below_call Hbw.out hb3)
    have Hmem := Lib.hid (show ∀ x ∈ M, x ∈ L from fun x hx => (List.mem_filter.1 (hpm3.mem_iff.1 hx)).1)
    have Hml := Lib.hid (show M.length = d by rw [hpm3.length_eq, Hdd.out])
    clear hown3 hpm3 hps3 hb3 Hin
    refine wpList_next rfl hsz23 hde23 63 rfl (by decide) fun K hK => ?_
    go_simp
    refine (shown_any _ u3 M w3 Hown3.out (by rw [Hml.out]; omega) (fun x hx => Nat.le_trans (Hd.out x (Hmem.out x hx)) (by omega)) (Hp.out.grow Hb3.out)).mono ?_
    rintro e4 w4 ⟨⟨g, rfl, hbk4, _⟩, hb4⟩
    go_simp
    refine hK _ _ fun a24 hsz24 hde24 f63 hk => ?_
    clear hK K
    replace f0 := (hk 0 (by decide)).trans f0
    replace f3 := (hk 3 (by decide)).trans f3
    replace f5 := (hk 5 (by decide)).trans f5
    replace f63 : a24.tmps[63]?.getD undef = .slice (some ⟨g, 0, none⟩) M.length M.length := f63
    clear hk hsz23 hde23 f62
    have Hbk := Lib.hid hbk4
    have Hb4 := Lib.hid (below_call Hb3.out hb4)
    clear hbk4 hb4
    refine wpList_next rfl hsz24 hde24 9 rfl (by decide) fun K hK => ?_
    go_simp
    refine hK _ _ fun a25 hsz25 hde25 f9 hk => ?_
    clear hK K
    replace f0 := (hk 0 (by decide)).trans f0
    replace f3 := (hk 3 (by decide)).trans f3
    replace f5 := (hk 5 (by decide)).trans f5
    replace f9 : a25.tmps[9]?.getD undef = .slice (some ⟨g, 0, none⟩) M.length M.length := f9
    clear hk hsz24 hde24 f63
    refine wpList_nil ?_
    clear f0 f3
    rw [Hml.out] at f9
    have Hcell := Lib.hid (show ∀ k, k < d → w4.cell? ⟨g, k, none⟩ = some (str (nameAt M k)) from fun k hk => by
      rw [Hbk.out.cell, List.getElem?_toArray, List.getElem?_map, shown_get M k (by rw [Hml.out]; exact hk)]
      rfl)
    have Hap := Lib.hid (show ∀ i j, i < d → j < i → nameAt M j ≠ nameAt M i from fun i j hi hj => names_apart Hps.out (fun x hx => Hpa.out x (Hmem.out x hx)) (by rw [Hml.out]; exact hi) hj)
    clear Hown3 Hbk
    refine then_go ?_
    repeat with_reducible refine wp_seq ?_
    refine wp_region_lit ?_
    refine wpList_next rfl hsz25 hde25 64 rfl (by decide) fun K hK => ?_
    go_simp
    refine hK _ _ fun a26 hsz26 hde26 f64 hk => ?_
    clear hK K
    replace f5 := (hk 5 (by decide)).trans f5
    replace f9 := (hk 9 (by decide)).trans f9
    replace f64 : a26.tmps[64]?.getD undef = .slice (some ⟨g, 0, none⟩) d d := f64
    clear hk hsz25 hde25
    refine wpList_next rfl hsz26 hde26 65 rfl (by decide) fun K hK => ?_
    go_simp
    refine hK _ _ fun a27 hsz27 hde27 f65 hk => ?_
    clear hK K
    replace f5 := (hk 5 (by decide)).trans f5
    replace f9 := (hk 9 (by decide)).trans f9
    replace f65 : a27.tmps[65]?.getD undef = .int .i64 ((d : Nat) : Int) := f65
    clear hk hsz26 hde26 f64
    refine wpList_next rfl hsz27 hde27 66 rfl (by decide) fun K hK => ?_
    go_simp
    refine hK _ _ fun a28 hsz28 hde28 f66 hk => ?_
    clear hK K
    replace f5 := (hk 5 (by decide)).trans f5
    replace f9 := (hk 9 (by decide)).trans f9
    replace f65 := (hk 65 (by decide)).trans f65
    replace f66 : a28.tmps[66]?.getD undef = .int .i64 ((0 : Nat) : Int) := f66
    clear hk hsz27 hde27
    refine wpList_nil ?_
    refine then_go ?_
    repeat with_reducible refine wp_seq ?_
    refine wp_block ?_
    refine wp_loop_ghost (Na3Inv w4 (.slice (some ⟨g, 0, none⟩) d d) d d) (d - 0) ?_ ?_
    · exact ⟨0, hsz28, hde28, f5, f9, f65, f66, Lib.hid (Nat.zero_le _), rfl, rfl⟩
    clear hsz28 hde28 f5 f9 f65 f66
    intro n4 a99 wq hI
    obtain ⟨i2, hsz99, hde99, f5, f9, f65, f66, Hi2, hwq, hn4⟩ := hI
    subst hwq
    have Hn4 := Lib.hid hn4
    clear hn4
    repeat with_reducible refine wp_seq ?_
    by_cases hlt2 : i2 < d
    · skip
      refine wp_region_lit ?_
      refine wpList_next rfl hsz99 hde99 67 rfl (by decide) fun K hK => ?_
      go_simp
      refine hK _ _ fun a100 hsz100 hde100 f67 hk => ?_
      clear hK K
      replace f5 := (hk 5 (by decide)).trans f5
      replace f9 := (hk 9 (by decide)).trans f9
      replace f65 := (hk 65 (by decide)).trans f65
      replace f66 := (hk 66 (by decide)).trans f66
      clear hk hsz99 hde99
      replace f67 : a100.tmps[67]?.getD undef = .bool true := f67.trans (by first | rfl | (congr 1; first | exact decide_eq_true (by omega) | exact decide_eq_false (by omega)) | (simp; omega))
      refine wpList_nil ?_
      refine then_go ?_
      repeat with_reducible refine wp_seq ?_
      refine wp_cond_true (eval_at f67) ?_
      refine wp_skip ?_
      refine then_go ?_
      clear f67
      repeat with_reducible refine wp_seq ?_
      refine wp_block ?_
      repeat with_reducible refine wp_seq ?_
      refine wp_region_lit ?_
      refine wpList_next rfl hsz100 hde100 68 rfl (by decide) fun K hK => ?_
      go_simp
      refine hK _ _ fun a101 hsz101 hde101 f68 hk => ?_
      clear hK K
      replace f5 := (hk 5 (by decide)).trans f5
      replace f9 := (hk 9 (by decide)).trans f9
      replace f65 := (hk 65 (by decide)).trans f65
      replace f66 := (hk 66 (by decide)).trans f66
      replace f68 : a101.tmps[68]?.getD undef = .int .i64 ((i2 : Nat) : Int) := f68
      clear hk hsz100 hde100
      refine wpList_next rfl hsz101 hde101 10 rfl (by decide) fun K hK => ?_
      go_simp
      refine hK _ _ fun a102 hsz102 hde102 f10 hk => ?_
      clear hK K
      replace f5 := (hk 5 (by decide)).trans f5
      replace f9 := (hk 9 (by decide)).trans f9
      replace f65 := (hk 65 (by decide)).trans f65
      replace f66 := (hk 66 (by decide)).trans f66
      replace f10 : a102.tmps[10]?.getD undef = .int .i64 ((i2 : Nat) : Int) := f10
      clear hk hsz101 hde101 f68
      refine wpList_nil ?_
      refine then_go ?_
      repeat with_reducible refine wp_seq ?_
      have Hsh := Lib.hid (shead_run (g := g) (Nat.le_of_lt hlt2) (show 0 < d by omega))
      refine wp_region_lit ?_
      refine wpList_next rfl hsz102 hde102 69 rfl (by decide) fun K hK => ?_
      go_simp
      refine hK _ _ fun a103 hsz103 hde103 f69 hk => ?_
      clear hK K
      replace f5 := (hk 5 (by decide)).trans f5
      replace f9 := (hk 9 (by decide)).trans f9
      replace f65 := (hk 65 (by decide)).trans f65
      replace f66 := (hk 66 (by decide)).trans f66
      replace f10 := (hk 10 (by decide)).trans f10
      replace f69 : a103.tmps[69]?.getD undef = .slice (some ⟨g, 0, none⟩) d d := f69
      clear hk hsz102 hde102
      refine wpList_next rfl hsz103 hde103 70 rfl (by decide) fun K hK => ?_
      go_simp
      refine hK _ _ fun a104 hsz104 hde104 f70 hk => ?_
      clear hK K
      replace f5 := (hk 5 (by decide)).trans f5
      replace f9 := (hk 9 (by decide)).trans f9
      replace f65 := (hk 65 (by decide)).trans f65
      replace f66 := (hk 66 (by decide)).trans f66
      replace f10 := (hk 10 (by decide)).trans f10
      replace f69 := (hk 69 (by decide)).trans f69
      replace f70 : a104.tmps[70]?.getD undef = .int .i64 ((i2 : Nat) : Int) := f70
      clear hk hsz103 hde103
      refine wpList_next rfl hsz104 hde104 71 rfl (by decide) fun K hK => ?_
      refine wp_upto (.tmp 69) (.tmp 70) rfl (eval_at f69) (eval_at f70) Hsh.out ?_
      refine hK _ _ fun a105 hsz105 hde105 f71 hk => ?_
      clear hK K
      replace f5 := (hk 5 (by decide)).trans f5
      replace f9 := (hk 9 (by decide)).trans f9
      replace f65 := (hk 65 (by decide)).trans f65
      replace f66 := (hk 66 (by decide)).trans f66
      replace f10 := (hk 10 (by decide)).trans f10
      replace f71 : a105.tmps[71]?.getD undef = .slice (some ⟨g, 0, none⟩) i2 d := f71
      clear hk hsz104 hde104 f69 f70
      refine wpList_next rfl hsz105 hde105 72 rfl (by decide) fun K hK => ?_
      go_simp
      refine hK _ _ fun a106 hsz106 hde106 f72 hk => ?_
      clear hK K
      replace f5 := (hk 5 (by decide)).trans f5
      replace f9 := (hk 9 (by decide)).trans f9
      replace f65 := (hk 65 (by decide)).trans f65
      replace f66 := (hk 66 (by decide)).trans f66
      replace f10 := (hk 10 (by decide)).trans f10
      replace f71 := (hk 71 (by decide)).trans f71
      replace f72 : a106.tmps[72]?.getD undef = .int .i64 ((i2 : Nat) : Int) := f72
      clear hk hsz105 hde105
      refine wpList_next rfl hsz106 hde106 73 rfl (by decide) fun K hK => ?_
      go_simp
      refine hK _ _ fun a107 hsz107 hde107 f73 hk => ?_
      clear hK K
      replace f5 := (hk 5 (by decide)).trans f5
      replace f9 := (hk 9 (by decide)).trans f9
      replace f65 := (hk 65 (by decide)).trans f65
      replace f66 := (hk 66 (by decide)).trans f66
      replace f10 := (hk 10 (by decide)).trans f10
      replace f71 := (hk 71 (by decide)).trans f71
      replace f72 := (hk 72 (by decide)).trans f72
      replace f73 : a107.tmps[73]?.getD undef = .int .i64 ((0 : Nat) : Int) := f73
      clear hk hsz106 hde106
      refine wpList_nil ?_
      refine then_go ?_
      repeat with_reducible refine wp_seq ?_
      refine wp_block ?_
      refine wp_loop_ghost (Na4Inv wq (.slice (some ⟨g, 0, none⟩) d d) (.slice (some ⟨g, 0, none⟩) i2 d) d d i2) (i2 - 0) ?_ ?_
      · exact ⟨0, hsz107, hde107, f5, f9, f65, f66, f10, f71, f72, f73, Lib.hid (Nat.zero_le _), rfl, rfl⟩
      clear hsz107 hde107 f5 f9 f65 f66 f10 f71 f72 f73
      intro n5 a119 wp hI
      obtain ⟨j2, hsz119, hde119, f5, f9, f65, f66, f10, f71, f72, f73, Hj2, hwp, hn5⟩ := hI
      subst hwp
      have Hn5 := Lib.hid hn5
      clear hn5
      repeat with_reducible refine wp_seq ?_
      by_cases hjt2 : j2 < i2
      · skip
        refine wp_region_lit ?_
        refine wpList_next rfl hsz119 hde119 74 rfl (by decide) fun K hK => ?_
        go_simp
        refine hK _ _ fun a120 hsz120 hde120 f74 hk => ?_
        clear hK K
        replace f5 := (hk 5 (by decide)).trans f5
        replace f9 := (hk 9 (by decide)).trans f9
        replace f65 := (hk 65 (by decide)).trans f65
        replace f66 := (hk 66 (by decide)).trans f66
        replace f10 := (hk 10 (by decide)).trans f10
        replace f71 := (hk 71 (by decide)).trans f71
        replace f72 := (hk 72 (by decide)).trans f72
        replace f73 := (hk 73 (by decide)).trans f73
        clear hk hsz119 hde119
        replace f74 : a120.tmps[74]?.getD undef = .bool true := f74.trans (by first | rfl | (congr 1; first | exact decide_eq_true (by omega) | exact decide_eq_false (by omega)) | (simp; omega))
        refine wpList_nil ?_
        refine then_go ?_
        repeat with_reducible refine wp_seq ?_
        refine wp_cond_true (eval_at f74) ?_
        refine wp_skip ?_
        refine then_go ?_
        clear f74
        repeat with_reducible refine wp_seq ?_
        refine wp_block ?_
        repeat with_reducible refine wp_seq ?_
        have hcj := Hcell.out j2 (by omega)
        have hci := Hcell.out i2 hlt2
        have hap := Hap.out i2 j2 hlt2 hjt2
        obtain ⟨NJ, hNJ⟩ : ∃ N, N = nameAt M j2 := ⟨_, rfl⟩
        obtain ⟨NI, hNI⟩ : ∃ N, N = nameAt M i2 := ⟨_, rfl⟩
        rw [← hNJ] at hcj hap
        rw [← hNI] at hci hap
        have Hcj := Lib.hid hcj
        have Hci := Lib.hid hci
        have Hbe := Lib.hid (show (NJ == NI) = false from beq_eq_false_iff_ne.2 hap)
        have hj0 : (0 : Int) ≤ (j2 : Int) := by omega
        have hj1 : (j2 : Int) < (i2 : Int) := by omega
        have hi20 : (0 : Int) ≤ (i2 : Int) := by omega
        have hi21 : (i2 : Int) < (d : Int) := by omega
        clear hcj hci hap hNJ hNI
        refine wp_region_lit ?_
        refine wpList_next rfl hsz120 hde120 75 rfl (by decide) fun K hK => ?_
        go_simp
        refine hK _ _ fun a121 hsz121 hde121 f75 hk => ?_
        clear hK K
        replace f5 := (hk 5 (by decide)).trans f5
        replace f9 := (hk 9 (by decide)).trans f9
        replace f65 := (hk 65 (by decide)).trans f65
        replace f66 := (hk 66 (by decide)).trans f66
        replace f10 := (hk 10 (by decide)).trans f10
        replace f71 := (hk 71 (by decide)).trans f71
        replace f72 := (hk 72 (by decide)).trans f72
        replace f73 := (hk 73 (by decide)).trans f73
        replace f75 : a121.tmps[75]?.getD undef = .pointer (some ⟨g, j2, none⟩) := f75
        clear hk hsz120 hde120
        refine wpList_next rfl hsz121 hde121 76 rfl (by decide) fun K hK => ?_
        have hcj := Hcj.out
        go_simp
        refine hK _ _ fun a122 hsz122 hde122 f76 hk => ?_
        clear hK K
        replace f5 := (hk 5 (by decide)).trans f5
        replace f9 := (hk 9 (by decide)).trans f9
        replace f65 := (hk 65 (by decide)).trans f65
        replace f66 := (hk 66 (by decide)).trans f66
        replace f10 := (hk 10 (by decide)).trans f10
        replace f71 := (hk 71 (by decide)).trans f71
        replace f72 := (hk 72 (by decide)).trans f72
        replace f73 := (hk 73 (by decide)).trans f73
        replace f76 : a122.tmps[76]?.getD undef = str NJ := f76
        clear hk hsz121 hde121 f75
        clear hcj
        refine wpList_next rfl hsz122 hde122 12 rfl (by decide) fun K hK => ?_
        go_simp
        refine hK _ _ fun a123 hsz123 hde123 f12 hk => ?_
        clear hK K
        replace f5 := (hk 5 (by decide)).trans f5
        replace f9 := (hk 9 (by decide)).trans f9
        replace f65 := (hk 65 (by decide)).trans f65
        replace f66 := (hk 66 (by decide)).trans f66
        replace f10 := (hk 10 (by decide)).trans f10
        replace f71 := (hk 71 (by decide)).trans f71
        replace f72 := (hk 72 (by decide)).trans f72
        replace f73 := (hk 73 (by decide)).trans f73
        replace f12 : a123.tmps[12]?.getD undef = str NJ := f12
        clear hk hsz122 hde122 f76
        refine wpList_nil ?_
        refine then_go ?_
        repeat with_reducible refine wp_seq ?_
        refine wp_region_lit ?_
        refine wpList_next rfl hsz123 hde123 77 rfl (by decide) fun K hK => ?_
        go_simp
        refine hK _ _ fun a124 hsz124 hde124 f77 hk => ?_
        clear hK K
        replace f5 := (hk 5 (by decide)).trans f5
        replace f9 := (hk 9 (by decide)).trans f9
        replace f65 := (hk 65 (by decide)).trans f65
        replace f66 := (hk 66 (by decide)).trans f66
        replace f10 := (hk 10 (by decide)).trans f10
        replace f71 := (hk 71 (by decide)).trans f71
        replace f72 := (hk 72 (by decide)).trans f72
        replace f73 := (hk 73 (by decide)).trans f73
        replace f12 := (hk 12 (by decide)).trans f12
        replace f77 : a124.tmps[77]?.getD undef = str NJ := f77
        clear hk hsz123 hde123
        refine wpList_next rfl hsz124 hde124 78 rfl (by decide) fun K hK => ?_
        go_simp
        refine hK _ _ fun a125 hsz125 hde125 f78 hk => ?_
        clear hK K
        replace f5 := (hk 5 (by decide)).trans f5
        replace f9 := (hk 9 (by decide)).trans f9
        replace f65 := (hk 65 (by decide)).trans f65
        replace f66 := (hk 66 (by decide)).trans f66
        replace f10 := (hk 10 (by decide)).trans f10
        replace f71 := (hk 71 (by decide)).trans f71
        replace f72 := (hk 72 (by decide)).trans f72
        replace f73 := (hk 73 (by decide)).trans f73
        replace f12 := (hk 12 (by decide)).trans f12
        replace f77 := (hk 77 (by decide)).trans f77
        replace f78 : a125.tmps[78]?.getD undef = .slice (some ⟨g, 0, none⟩) d d := f78
        clear hk hsz124 hde124
        refine wpList_next rfl hsz125 hde125 79 rfl (by decide) fun K hK => ?_
        go_simp
        refine hK _ _ fun a126 hsz126 hde126 f79 hk => ?_
        clear hK K
        replace f5 := (hk 5 (by decide)).trans f5
        replace f9 := (hk 9 (by decide)).trans f9
        replace f65 := (hk 65 (by decide)).trans f65
        replace f66 := (hk 66 (by decide)).trans f66
        replace f10 := (hk 10 (by decide)).trans f10
        replace f71 := (hk 71 (by decide)).trans f71
        replace f72 := (hk 72 (by decide)).trans f72
        replace f73 := (hk 73 (by decide)).trans f73
        replace f12 := (hk 12 (by decide)).trans f12
        replace f77 := (hk 77 (by decide)).trans f77
        replace f78 := (hk 78 (by decide)).trans f78
        replace f79 : a126.tmps[79]?.getD undef = .int .i64 ((i2 : Nat) : Int) := f79
        clear hk hsz125 hde125
        refine wpList_next rfl hsz126 hde126 80 rfl (by decide) fun K hK => ?_
        go_simp
        refine hK _ _ fun a127 hsz127 hde127 f80 hk => ?_
        clear hK K
        replace f5 := (hk 5 (by decide)).trans f5
        replace f9 := (hk 9 (by decide)).trans f9
        replace f65 := (hk 65 (by decide)).trans f65
        replace f66 := (hk 66 (by decide)).trans f66
        replace f10 := (hk 10 (by decide)).trans f10
        replace f71 := (hk 71 (by decide)).trans f71
        replace f72 := (hk 72 (by decide)).trans f72
        replace f73 := (hk 73 (by decide)).trans f73
        replace f12 := (hk 12 (by decide)).trans f12
        replace f77 := (hk 77 (by decide)).trans f77
        replace f80 : a127.tmps[80]?.getD undef = .pointer (some ⟨g, i2, none⟩) := f80
        clear hk hsz126 hde126 f78 f79
        refine wpList_next rfl hsz127 hde127 81 rfl (by decide) fun K hK => ?_
        have hci := Hci.out
        go_simp
        refine hK _ _ fun a128 hsz128 hde128 f81 hk => ?_
        clear hK K
        replace f5 := (hk 5 (by decide)).trans f5
        replace f9 := (hk 9 (by decide)).trans f9
        replace f65 := (hk 65 (by decide)).trans f65
        replace f66 := (hk 66 (by decide)).trans f66
        replace f10 := (hk 10 (by decide)).trans f10
        replace f71 := (hk 71 (by decide)).trans f71
        replace f72 := (hk 72 (by decide)).trans f72
        replace f73 := (hk 73 (by decide)).trans f73
        replace f12 := (hk 12 (by decide)).trans f12
        replace f77 := (hk 77 (by decide)).trans f77
        replace f81 : a128.tmps[81]?.getD undef = str NI := f81
        clear hk hsz127 hde127 f80
        clear hci
        refine wpList_next rfl hsz128 hde128 82 rfl (by decide) fun K hK => ?_
        go_simp
        refine hK _ _ fun a129 hsz129 hde129 f82 hk => ?_
        clear hK K
        replace f5 := (hk 5 (by decide)).trans f5
        replace f9 := (hk 9 (by decide)).trans f9
        replace f65 := (hk 65 (by decide)).trans f65
        replace f66 := (hk 66 (by decide)).trans f66
        replace f10 := (hk 10 (by decide)).trans f10
        replace f71 := (hk 71 (by decide)).trans f71
        replace f72 := (hk 72 (by decide)).trans f72
        replace f73 := (hk 73 (by decide)).trans f73
        replace f12 := (hk 12 (by decide)).trans f12
        clear hk hsz128 hde128 f77 f81
        replace f82 : a129.tmps[82]?.getD undef = .bool false := f82.trans (by have h7 := Hbe.out; first | (rw [h7]; done) | (congr 1; exact h7) | (simp [h7]; done) | (congr 1; simpa using h7))
        refine wpList_nil ?_
        refine then_go ?_
        repeat with_reducible refine wp_seq ?_
        refine wp_cond_false (eval_at f82) ?_
        refine wp_skip ?_
        repeat first | with_reducible refine block_go ?_ | with_reducible refine then_go ?_
        clear f82 f12
        repeat with_reducible refine wp_seq ?_
        refine wp_region_lit ?_
        refine wpList_next rfl hsz129 hde129 83 rfl (by decide) fun K hK => ?_
        go_simp
        refine hK _ _ fun a130 hsz130 hde130 f83 hk => ?_
        clear hK K
        replace f5 := (hk 5 (by decide)).trans f5
        replace f9 := (hk 9 (by decide)).trans f9
        replace f65 := (hk 65 (by decide)).trans f65
        replace f66 := (hk 66 (by decide)).trans f66
        replace f10 := (hk 10 (by decide)).trans f10
        replace f71 := (hk 71 (by decide)).trans f71
        replace f72 := (hk 72 (by decide)).trans f72
        replace f73 := (hk 73 (by decide)).trans f73
        clear hk hsz129 hde129
        replace f83 : a130.tmps[83]?.getD undef = .int .i64 (((j2 + 1 : Nat) : Int)) := f83.trans (by first | rfl | (congr 1; done) | (congr 1; omega) | (congr 1; rw [IntKind.wrap_i64] <;> omega))
        refine wpList_next rfl hsz130 hde130 73 rfl (by decide) fun K hK => ?_
        go_simp
        refine hK _ _ fun a131 hsz131 hde131 f73 hk => ?_
        clear hK K
        replace f5 := (hk 5 (by decide)).trans f5
        replace f9 := (hk 9 (by decide)).trans f9
        replace f65 := (hk 65 (by decide)).trans f65
        replace f66 := (hk 66 (by decide)).trans f66
        replace f10 := (hk 10 (by decide)).trans f10
        replace f71 := (hk 71 (by decide)).trans f71
        replace f72 := (hk 72 (by decide)).trans f72
        replace f73 : a131.tmps[73]?.getD undef = .int .i64 ((j2 + 1 : Nat) : Int) := f73
        clear hk hsz130 hde130 f83
        refine wpList_nil ?_
        refine then_go ?_
        exact ⟨i2 - (j2 + 1), by rw [Hn5.out]; omega, j2 + 1, hsz131, hde131, f5, f9, f65, f66, f10, f71, f72, f73, Lib.hid (by omega), rfl, rfl⟩
      refine wp_region_lit ?_
      refine wpList_next rfl hsz119 hde119 74 rfl (by decide) fun K hK => ?_
      go_simp
      refine hK _ _ fun a120 hsz120 hde120 f74 hk => ?_
      clear hK K
      replace f5 := (hk 5 (by decide)).trans f5
      replace f9 := (hk 9 (by decide)).trans f9
      replace f65 := (hk 65 (by decide)).trans f65
      replace f66 := (hk 66 (by decide)).trans f66
      replace f10 := (hk 10 (by decide)).trans f10
      replace f71 := (hk 71 (by decide)).trans f71
      replace f72 := (hk 72 (by decide)).trans f72
      replace f73 := (hk 73 (by decide)).trans f73
      clear hk hsz119 hde119
      replace f74 : a120.tmps[74]?.getD undef = .bool false := f74.trans (by first | rfl | (congr 1; first | exact decide_eq_true (by omega) | exact decide_eq_false (by omega)) | (simp; omega))
      refine wpList_nil ?_
      refine then_go ?_
      repeat with_reducible refine wp_seq ?_
      refine wp_cond_false (eval_at f74) ?_
      refine wp_exit ?_
      repeat with_reducible refine then_exit ?_
      refine block_exit ?_
      repeat first | with_reducible refine block_go ?_ | with_reducible refine then_go ?_
      clear f74 f10 f71 f72 f73
      repeat with_reducible refine wp_seq ?_
      refine wp_region_lit ?_
      refine wpList_next rfl hsz120 hde120 84 rfl (by decide) fun K hK => ?_
      go_simp
      refine hK _ _ fun a121 hsz121 hde121 f84 hk => ?_
      clear hK K
      replace f5 := (hk 5 (by decide)).trans f5
      replace f9 := (hk 9 (by decide)).trans f9
      replace f65 := (hk 65 (by decide)).trans f65
      replace f66 := (hk 66 (by decide)).trans f66
      clear hk hsz120 hde120
      replace f84 : a121.tmps[84]?.getD undef = .int .i64 (((i2 + 1 : Nat) : Int)) := f84.trans (by first | rfl | (congr 1; done) | (congr 1; omega) | (congr 1; rw [IntKind.wrap_i64] <;> omega))
      refine wpList_next rfl hsz121 hde121 66 rfl (by decide) fun K hK => ?_
      go_simp
      refine hK _ _ fun a122 hsz122 hde122 f66 hk => ?_
      clear hK K
      replace f5 := (hk 5 (by decide)).trans f5
      replace f9 := (hk 9 (by decide)).trans f9
      replace f65 := (hk 65 (by decide)).trans f65
      replace f66 : a122.tmps[66]?.getD undef = .int .i64 ((i2 + 1 : Nat) : Int) := f66
      clear hk hsz121 hde121 f84
      refine wpList_nil ?_
      refine then_go ?_
      exact ⟨d - (i2 + 1), by rw [Hn4.out]; omega, i2 + 1, hsz122, hde122, f5, f9, f65, f66, Lib.hid (by omega), rfl, rfl⟩
    refine wp_region_lit ?_
    refine wpList_next rfl hsz99 hde99 67 rfl (by decide) fun K hK => ?_
    go_simp
    refine hK _ _ fun a100 hsz100 hde100 f67 hk => ?_
    clear hK K
    replace f5 := (hk 5 (by decide)).trans f5
    replace f9 := (hk 9 (by decide)).trans f9
    replace f65 := (hk 65 (by decide)).trans f65
    replace f66 := (hk 66 (by decide)).trans f66
    clear hk hsz99 hde99
    replace f67 : a100.tmps[67]?.getD undef = .bool false := f67.trans (by first | rfl | (congr 1; first | exact decide_eq_true (by omega) | exact decide_eq_false (by omega)) | (simp; omega))
    refine wpList_nil ?_
    refine then_go ?_
    repeat with_reducible refine wp_seq ?_
    refine wp_cond_false (eval_at f67) ?_
    refine wp_exit ?_
    repeat with_reducible refine then_exit ?_
    refine block_exit ?_
    repeat first | with_reducible refine block_go ?_ | with_reducible refine then_go ?_
    clear f67 f65 f66
    repeat with_reducible refine wp_seq ?_
    refine wp_region_lit ?_
    refine wpList_next rfl hsz100 hde100 85 rfl (by decide) fun K hK => ?_
    go_simp
    refine hK _ _ fun a101 hsz101 hde101 f85 hk => ?_
    clear hK K
    replace f5 := (hk 5 (by decide)).trans f5
    replace f9 := (hk 9 (by decide)).trans f9
    replace f85 : a101.tmps[85]?.getD undef = .slice (some ⟨g, 0, none⟩) d d := f85
    clear hk hsz100 hde100
    refine wpList_next rfl hsz101 hde101 86 rfl (by decide) fun K hK => ?_
    go_simp
    refine hK _ _ fun a102 hsz102 hde102 f86 hk => ?_
    clear hK K
    replace f5 := (hk 5 (by decide)).trans f5
    replace f9 := (hk 9 (by decide)).trans f9
    replace f86 : a102.tmps[86]?.getD undef = .int .i64 ((d : Nat) : Int) := f86
    clear hk hsz101 hde101 f85
    refine wpList_next rfl hsz102 hde102 87 rfl (by decide) fun K hK => ?_
    go_simp
    refine hK _ _ fun a103 hsz103 hde103 f87 hk => ?_
    clear hK K
    replace f5 := (hk 5 (by decide)).trans f5
    replace f9 := (hk 9 (by decide)).trans f9
    replace f86 := (hk 86 (by decide)).trans f86
    replace f87 : a103.tmps[87]?.getD undef = .int .i64 ((d : Nat) : Int) := f87
    clear hk hsz102 hde102
    refine wpList_next rfl hsz103 hde103 88 rfl (by decide) fun K hK => ?_
    go_simp
    refine hK _ _ fun a104 hsz104 hde104 f88 hk => ?_
    clear hK K
    replace f5 := (hk 5 (by decide)).trans f5
    replace f9 := (hk 9 (by decide)).trans f9
    clear hk hsz103 hde103 f86 f87
    replace f88 : a104.tmps[88]?.getD undef = .bool true := f88.trans (by first | rfl | simp)
    refine wpList_next rfl hsz104 hde104 4 rfl (by decide) fun K hK => ?_
    go_simp
    refine hK _ _ fun a105 hsz105 hde105 f4 hk => ?_
    clear hK K
    replace f5 := (hk 5 (by decide)).trans f5
    replace f9 := (hk 9 (by decide)).trans f9
    replace f4 : a105.tmps[4]?.getD undef = .bool true := f4
    clear hk hsz104 hde104 f88
    refine wpList_nil ?_
    refine then_go ?_
    refine wp_ret ?_
    refine (ret_tmp (R := fun e2 w2 => e2 = .returned (.bool true) ∧ Below w.heap.size w w2) Tryd.results7 hde105 f4 ?_)
    exact ⟨rfl, below_call Hbel.out Hb4.out⟩
end Go.Proofs.YtcpjgohclncbkaaDoor
