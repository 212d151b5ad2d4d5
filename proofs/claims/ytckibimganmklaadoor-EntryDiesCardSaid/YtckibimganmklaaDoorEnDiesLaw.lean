/-
  The walk of EntryDies.
-/
import Derived.Test.YtckibimganmklaaDoorEnLives
import Derived.Test.YtckibimganmklaaDoorEnHeads
import Derived.Test.YtckibimganmklaaDoorEnRefs
import Derived.Laws.Bits64
namespace Go.Proofs.YtckibimganmklaaDoor
open Go.RowKit
set_option maxRecDepth 100000

theorem at_mod (x : Int) (n : Nat) (h0 : 0 < n) (h1 : n ≤ 1000) : ∃ t : Nat, t < n ∧ IntKind.i64.wrap ((IntKind.u64.wrap x).tmod (n : Int)) = (t : Int) := by
  rw [IntKind.wrap_u64]
  have h2 : 0 ≤ x % 18446744073709551616 := by omega
  generalize x % 18446744073709551616 = y at h2
  rw [Int.tmod_eq_emod_of_nonneg h2]
  have h3 := Int.emod_nonneg y (show (n : Int) ≠ 0 by omega)
  have h4 := Int.emod_lt_of_pos y (show (0 : Int) < (n : Int) by omega)
  generalize y % (n : Int) = z at h3 h4
  refine ⟨z.toNat, by omega, ?_⟩
  rw [IntKind.wrap_i64] <;> omega
theorem kill_data {L : List Ent} {r : Int} {s : Nat} {r' : Int} {s' : Nat} (h : ∀ x ∈ L, x.data.length ≤ 1000) : ∀ x ∈ killE L r s r' s', x.data.length ≤ 1000 := by
  intro x hx
  unfold killE at hx
  obtain ⟨y, hy, rfl⟩ := List.mem_map.1 hx
  split
  · exact h y hy
  · exact h y hy
def diG (v p : Value) (i : Nat) (IL IB : Array Value) (M : List Ent) (s : Nat) (u : Value) (x : World) : Prop := match s with | 48 => u = v | 49 => u = v | 50 => u = .int .i64 (i : Int) | 51 => u = p | 52 => u = p | 53 => u = .agg IL | 54 => u = .agg IB | 55 => IsL kEnt x (fun _ => True) u M | 8 => IsL kEnt x (fun _ => True) u M | _ => True

set_option maxHeartbeats 16000000 in
theorem entrydies_walk (v : Value) (L : List Ent) (at_ : Int) (r : Int) (s : Nat) (w : World) (hL : IsL kEnt w (fun _ => True) v L) (_ : I64 r) (hs32 : s < 4294967296) (hp : Pow w) :
    Calls Tryd.prog 9 #[v, .int .i64 at_, .agg (idC r s)] w fun e w' => e = .returned (.bool true) ∧ Below w.heap.size w w' := by
  have Hl := Lib.hid fun (z : World) (hz : Pow z) => lives10_any z hz
  obtain ⟨IB, hIB⟩ : ∃ A, A = idC r s := ⟨_, rfl⟩
  obtain ⟨wb, hwb⟩ : ∃ wb, wb = w.alloc (.cells IB 25) := ⟨_, rfl⟩
  have hbox : Blk wb w.heap.size 25 IB := by rw [hwb]; exact Blk.new w _ _
  have hbel : Below w.heap.size w wb := by rw [hwb]; exact (Below.refl _ w).alloc (Nat.le_refl _) _
  have HB := Lib.hid (show ∀ z, Below wb.heap.size wb z → z.cell? ⟨w.heap.size, 0, none⟩ = some (.int .i64 r) ∧ z.cell? ⟨w.heap.size, 1, none⟩ = some (.int .u32 (s : Int)) ∧ z.rangeAt w.heap.size 0 IB.toList from fun z hz => by
    have h1 := (hbox.grow hz).range 0 IB.toList fun j u hu => by rw [Nat.zero_add, ← Array.getElem?_toList]; exact hu
    have h2 := h1
    rw [hIB] at h2
    exact ⟨h2 0 _ rfl, h2 1 _ rfl, h1⟩)
  have HinfB := Lib.hid (show (Tryd.prog.info? 25).map (·.size) = some IB.toList.length by rw [hIB]; exact id_info)
  have HIB := Lib.hid hIB
  have HL := Lib.hid (hL.grow hbel)
  have Hp := Lib.hid (hp.grow hbel)
  have Hbel := Lib.hid hbel
  have HW := Lib.hid hwb
  have Hs32 := Lib.hid hs32
  have Hok0 := Lib.hid hL.entOk
  obtain ⟨A, cc, rfl, hc1, hc2, hE⟩ := ent_at HL.out
  have Hel := Lib.hid hE
  obtain ⟨n, hn⟩ : ∃ n, n = L.length := ⟨_, rfl⟩
  rw [← hn] at hc1 HL ⊢
  have Hn := Lib.hid hn
  have hm : maxLen ≤ 9223372036854775807 := by decide
  rw [← hIB]
  clear hL hp hbox hbel hwb hIB hE hn hs32
  go_enter Tryd.func9, Tryd.ntmps9
  refine enter_abs (N := 125) rfl rfl fun a0 hsz0 hde0 hk => ?_
  have f0 : a0.tmps[0]?.getD undef = .slice A n cc := hk 0
  have f1 : a0.tmps[1]?.getD undef = .int .i64 at_ := hk 1
  have f2 : a0.tmps[2]?.getD undef = .agg IB := hk 2
  clear hk
  repeat with_reducible refine wp_seq ?_
  refine wp_region_lit ?_
  refine wpList_next rfl hsz0 hde0 5 rfl (by decide) fun K hK => ?_
  go_simp
  refine hK _ _ fun a1 hsz1 hde1 f5 hk => ?_
  clear hK K
  replace f0 := (hk 0 (by decide)).trans f0
  replace f1 := (hk 1 (by decide)).trans f1
  replace f2 := (hk 2 (by decide)).trans f2
  replace f5 : a1.tmps[5]?.getD undef = .pointer (some ⟨w.heap.size, 0, none⟩) := f5
  clear hk hsz0 hde0
  refine wpList_next rfl hsz1 hde1 6 rfl (by decide) fun K hK => ?_
  go_simp
  refine hK _ _ fun a2 hsz2 hde2 f6 hk => ?_
  clear hK K
  replace f0 := (hk 0 (by decide)).trans f0
  replace f1 := (hk 1 (by decide)).trans f1
  replace f2 := (hk 2 (by decide)).trans f2
  replace f5 := (hk 5 (by decide)).trans f5
  replace f6 : a2.tmps[6]?.getD undef = .bool false := f6
  clear hk hsz1 hde1
  refine wpList_nil ?_
  clear f2
  rw [← HW.out]
  refine then_go ?_
  repeat with_reducible refine wp_seq ?_
  refine wp_region_lit ?_
  refine wpList_next rfl hsz2 hde2 13 rfl (by decide) fun K hK => ?_
  go_simp
  refine (Hl.out _ Hp.out).mono ?_
  rintro e1 w1 ⟨rfl, hb1⟩
  go_simp
  refine hK _ _ fun a3 hsz3 hde3 f13 hk => ?_
  clear hK K
  replace f0 := (hk 0 (by decide)).trans f0
  replace f1 := (hk 1 (by decide)).trans f1
  replace f5 := (hk 5 (by decide)).trans f5
  replace f6 := (hk 6 (by decide)).trans f6
  replace f13 : a3.tmps[13]?.getD undef = .bool true := f13
  clear hk hsz2 hde2
  refine wpList_next rfl hsz3 hde3 14 rfl (by decide) fun K hK => ?_
  go_simp
  refine hK _ _ fun a4 hsz4 hde4 f14 hk => ?_
  clear hK K
  replace f0 := (hk 0 (by decide)).trans f0
  replace f1 := (hk 1 (by decide)).trans f1
  replace f5 := (hk 5 (by decide)).trans f5
  replace f6 := (hk 6 (by decide)).trans f6
  replace f14 : a4.tmps[14]?.getD undef = .bool false := f14
  clear hk hsz3 hde3 f13
  refine wpList_next rfl hsz4 hde4 15 rfl (by decide) fun K hK => ?_
  go_simp
  refine hK _ _ fun a5 hsz5 hde5 f15 hk => ?_
  clear hK K
  replace f0 := (hk 0 (by decide)).trans f0
  replace f1 := (hk 1 (by decide)).trans f1
  replace f5 := (hk 5 (by decide)).trans f5
  replace f6 := (hk 6 (by decide)).trans f6
  replace f15 : a5.tmps[15]?.getD undef = .bool false := f15
  clear hk hsz4 hde4 f14
  refine wpList_nextg (wanted_of (j := 2) (t := 15) (b := false) rfl rfl f15) hsz5 hde5 16 rfl (by decide) fun K hK => ?_
  go_simp
  refine hK _ _ fun a6 hsz6 hde6 f16 hk => ?_
  clear hK K
  replace f0 := (hk 0 (by decide)).trans f0
  replace f1 := (hk 1 (by decide)).trans f1
  replace f5 := (hk 5 (by decide)).trans f5
  replace f6 := (hk 6 (by decide)).trans f6
  replace f15 := (hk 15 (by decide)).trans f15
  replace f16 : a6.tmps[16]?.getD undef = .slice A n cc := f16
  clear hk hsz5 hde5
  refine wpList_nextg (wanted_of (j := 2) (t := 15) (b := false) rfl rfl f15) hsz6 hde6 17 rfl (by decide) fun K hK => ?_
  go_simp
  refine (fits10_any _ _ _ _ (HL.out.grow hb1)).mono ?_
  rintro e2 w2 ⟨⟨q, rfl, hq⟩, hb2⟩
  go_simp
  refine hK _ _ fun a7 hsz7 hde7 f17 hk => ?_
  clear hK K
  replace f0 := (hk 0 (by decide)).trans f0
  replace f1 := (hk 1 (by decide)).trans f1
  replace f5 := (hk 5 (by decide)).trans f5
  replace f6 := (hk 6 (by decide)).trans f6
  replace f15 := (hk 15 (by decide)).trans f15
  replace f17 : a7.tmps[17]?.getD undef = .bool q := f17
  clear hk hsz6 hde6 f16
  refine wpList_nextg (wanted_of (j := 2) (t := 15) (b := false) rfl rfl f15) hsz7 hde7 18 rfl (by decide) fun K hK => ?_
  go_simp
  refine hK _ _ fun a8 hsz8 hde8 f18 hk => ?_
  clear hK K
  replace f0 := (hk 0 (by decide)).trans f0
  replace f1 := (hk 1 (by decide)).trans f1
  replace f5 := (hk 5 (by decide)).trans f5
  replace f6 := (hk 6 (by decide)).trans f6
  replace f15 := (hk 15 (by decide)).trans f15
  clear hk hsz7 hde7 f17
  have Hb2 := Lib.hid (below_call hb1 hb2)
  have Hq := Lib.hid hq
  clear hb1 hb2 hq
  cases q with
  | false =>
    refine wpList_next rfl hsz8 hde8 19 rfl (by decide) fun K hK => ?_
    go_simp
    refine hK _ _ fun a9 hsz9 hde9 f19 hk => ?_
    clear hK K
    replace f0 := (hk 0 (by decide)).trans f0
    replace f1 := (hk 1 (by decide)).trans f1
    replace f5 := (hk 5 (by decide)).trans f5
    replace f6 := (hk 6 (by decide)).trans f6
    replace f19 : a9.tmps[19]?.getD undef = .bool true := f19
    clear hk hsz8 hde8 f15 f18
    refine wpList_next rfl hsz9 hde9 20 rfl (by decide) fun K hK => ?_
    go_simp
    refine hK _ _ fun a10 hsz10 hde10 f20 hk => ?_
    clear hK K
    replace f0 := (hk 0 (by decide)).trans f0
    replace f1 := (hk 1 (by decide)).trans f1
    replace f5 := (hk 5 (by decide)).trans f5
    replace f6 := (hk 6 (by decide)).trans f6
    replace f20 : a10.tmps[20]?.getD undef = .bool true := f20
    clear hk hsz9 hde9 f19
    refine wpList_leave (not_wanted (j := 7) (t := 20) (b := false) rfl rfl (.inr f20)) hsz10 hde10 21 rfl (by decide) fun a11 hsz11 hde11 f21 hk => ?_
    replace f0 := (hk 0 (by decide)).trans f0
    replace f1 := (hk 1 (by decide)).trans f1
    replace f5 := (hk 5 (by decide)).trans f5
    replace f6 := (hk 6 (by decide)).trans f6
    replace f20 := (hk 20 (by decide)).trans f20
    clear hk hsz10 hde10
    refine wpList_leave (not_wanted (j := 7) (t := 20) (b := false) rfl rfl (.inr f20)) hsz11 hde11 22 rfl (by decide) fun a12 hsz12 hde12 f22 hk => ?_
    replace f0 := (hk 0 (by decide)).trans f0
    replace f1 := (hk 1 (by decide)).trans f1
    replace f5 := (hk 5 (by decide)).trans f5
    replace f6 := (hk 6 (by decide)).trans f6
    replace f20 := (hk 20 (by decide)).trans f20
    clear hk hsz11 hde11 f21
    refine wpList_leave (not_wanted (j := 7) (t := 20) (b := false) rfl rfl (.inr f20)) hsz12 hde12 23 rfl (by decide) fun a13 hsz13 hde13 f23 hk => ?_
    replace f0 := (hk 0 (by decide)).trans f0
    replace f1 := (hk 1 (by decide)).trans f1
    replace f5 := (hk 5 (by decide)).trans f5
    replace f6 := (hk 6 (by decide)).trans f6
    replace f20 := (hk 20 (by decide)).trans f20
    clear hk hsz12 hde12 f22
    refine wpList_next rfl hsz13 hde13 24 rfl (by decide) fun K hK => ?_
    go_simp
    refine hK _ _ fun a14 hsz14 hde14 f24 hk => ?_
    clear hK K
    replace f0 := (hk 0 (by decide)).trans f0
    replace f1 := (hk 1 (by decide)).trans f1
    replace f5 := (hk 5 (by decide)).trans f5
    replace f6 := (hk 6 (by decide)).trans f6
    replace f24 : a14.tmps[24]?.getD undef = .bool true := f24
    clear hk hsz13 hde13 f20 f23
    refine wpList_next rfl hsz14 hde14 25 rfl (by decide) fun K hK => ?_
    go_simp
    refine hK _ _ fun a15 hsz15 hde15 f25 hk => ?_
    clear hK K
    replace f0 := (hk 0 (by decide)).trans f0
    replace f1 := (hk 1 (by decide)).trans f1
    replace f5 := (hk 5 (by decide)).trans f5
    replace f6 := (hk 6 (by decide)).trans f6
    replace f25 : a15.tmps[25]?.getD undef = .bool true := f25
    clear hk hsz14 hde14 f24
    refine wpList_leave (not_wanted (j := 12) (t := 25) (b := false) rfl rfl (.inr f25)) hsz15 hde15 26 rfl (by decide) fun a16 hsz16 hde16 f26 hk => ?_
    replace f0 := (hk 0 (by decide)).trans f0
    replace f1 := (hk 1 (by decide)).trans f1
    replace f5 := (hk 5 (by decide)).trans f5
    replace f6 := (hk 6 (by decide)).trans f6
    replace f25 := (hk 25 (by decide)).trans f25
    clear hk hsz15 hde15
    refine wpList_leave (not_wanted (j := 12) (t := 25) (b := false) rfl rfl (.inr f25)) hsz16 hde16 27 rfl (by decide) fun a17 hsz17 hde17 f27 hk => ?_
    replace f0 := (hk 0 (by decide)).trans f0
    replace f1 := (hk 1 (by decide)).trans f1
    replace f5 := (hk 5 (by decide)).trans f5
    replace f6 := (hk 6 (by decide)).trans f6
    replace f25 := (hk 25 (by decide)).trans f25
    clear hk hsz16 hde16 f26
    refine wpList_leave (not_wanted (j := 12) (t := 25) (b := false) rfl rfl (.inr f25)) hsz17 hde17 28 rfl (by decide) fun a18 hsz18 hde18 f28 hk => ?_
    replace f0 := (hk 0 (by decide)).trans f0
    replace f1 := (hk 1 (by decide)).trans f1
    replace f5 := (hk 5 (by decide)).trans f5
    replace f6 := (hk 6 (by decide)).trans f6
    replace f25 := (hk 25 (by decide)).trans f25
    clear hk hsz17 hde17 f27
    refine wpList_next rfl hsz18 hde18 29 rfl (by decide) fun K hK => ?_
    go_simp
    refine hK _ _ fun a19 hsz19 hde19 f29 hk => ?_
    clear hK K
    replace f0 := (hk 0 (by decide)).trans f0
    replace f1 := (hk 1 (by decide)).trans f1
    replace f5 := (hk 5 (by decide)).trans f5
    replace f6 := (hk 6 (by decide)).trans f6
    replace f29 : a19.tmps[29]?.getD undef = .bool true := f29
    clear hk hsz18 hde18 f25 f28
    refine wpList_next rfl hsz19 hde19 30 rfl (by decide) fun K hK => ?_
    go_simp
    refine hK _ _ fun a20 hsz20 hde20 f30 hk => ?_
    clear hK K
    replace f0 := (hk 0 (by decide)).trans f0
    replace f1 := (hk 1 (by decide)).trans f1
    replace f5 := (hk 5 (by decide)).trans f5
    replace f6 := (hk 6 (by decide)).trans f6
    replace f30 : a20.tmps[30]?.getD undef = .bool true := f30
    clear hk hsz19 hde19 f29
    refine wpList_leave (not_wanted (j := 17) (t := 30) (b := false) rfl rfl (.inr f30)) hsz20 hde20 31 rfl (by decide) fun a21 hsz21 hde21 f31 hk => ?_
    replace f0 := (hk 0 (by decide)).trans f0
    replace f1 := (hk 1 (by decide)).trans f1
    replace f5 := (hk 5 (by decide)).trans f5
    replace f6 := (hk 6 (by decide)).trans f6
    replace f30 := (hk 30 (by decide)).trans f30
    clear hk hsz20 hde20
    refine wpList_leave (not_wanted (j := 17) (t := 30) (b := false) rfl rfl (.inr f30)) hsz21 hde21 32 rfl (by decide) fun a22 hsz22 hde22 f32 hk => ?_
    replace f0 := (hk 0 (by decide)).trans f0
    replace f1 := (hk 1 (by decide)).trans f1
    replace f5 := (hk 5 (by decide)).trans f5
    replace f6 := (hk 6 (by decide)).trans f6
    replace f30 := (hk 30 (by decide)).trans f30
    clear hk hsz21 hde21 f31
    refine wpList_leave (not_wanted (j := 17) (t := 30) (b := false) rfl rfl (.inr f30)) hsz22 hde22 33 rfl (by decide) fun a23 hsz23 hde23 f33 hk => ?_
    replace f0 := (hk 0 (by decide)).trans f0
    replace f1 := (hk 1 (by decide)).trans f1
    replace f5 := (hk 5 (by decide)).trans f5
    replace f6 := (hk 6 (by decide)).trans f6
    replace f30 := (hk 30 (by decide)).trans f30
    clear hk hsz22 hde22 f32
    refine wpList_next rfl hsz23 hde23 34 rfl (by decide) fun K hK => ?_
    go_simp
    refine hK _ _ fun a24 hsz24 hde24 f34 hk => ?_
    clear hK K
    replace f0 := (hk 0 (by decide)).trans f0
    replace f1 := (hk 1 (by decide)).trans f1
    replace f5 := (hk 5 (by decide)).trans f5
    replace f6 := (hk 6 (by decide)).trans f6
    replace f34 : a24.tmps[34]?.getD undef = .bool true := f34
    clear hk hsz23 hde23 f30 f33
    refine wpList_next rfl hsz24 hde24 35 rfl (by decide) fun K hK => ?_
    go_simp
    refine hK _ _ fun a25 hsz25 hde25 f35 hk => ?_
    clear hK K
    replace f0 := (hk 0 (by decide)).trans f0
    replace f1 := (hk 1 (by decide)).trans f1
    replace f5 := (hk 5 (by decide)).trans f5
    replace f6 := (hk 6 (by decide)).trans f6
    replace f35 : a25.tmps[35]?.getD undef = .bool true := f35
    clear hk hsz24 hde24 f34
    refine wpList_leave (not_wanted (j := 22) (t := 35) (b := false) rfl rfl (.inr f35)) hsz25 hde25 36 rfl (by decide) fun a26 hsz26 hde26 f36 hk => ?_
    replace f0 := (hk 0 (by decide)).trans f0
    replace f1 := (hk 1 (by decide)).trans f1
    replace f5 := (hk 5 (by decide)).trans f5
    replace f6 := (hk 6 (by decide)).trans f6
    replace f35 := (hk 35 (by decide)).trans f35
    clear hk hsz25 hde25
    refine wpList_leave (not_wanted (j := 22) (t := 35) (b := false) rfl rfl (.inr f35)) hsz26 hde26 37 rfl (by decide) fun a27 hsz27 hde27 f37 hk => ?_
    replace f0 := (hk 0 (by decide)).trans f0
    replace f1 := (hk 1 (by decide)).trans f1
    replace f5 := (hk 5 (by decide)).trans f5
    replace f6 := (hk 6 (by decide)).trans f6
    replace f35 := (hk 35 (by decide)).trans f35
    clear hk hsz26 hde26 f36
    refine wpList_leave (not_wanted (j := 22) (t := 35) (b := false) rfl rfl (.inr f35)) hsz27 hde27 38 rfl (by decide) fun a28 hsz28 hde28 f38 hk => ?_
    replace f0 := (hk 0 (by decide)).trans f0
    replace f1 := (hk 1 (by decide)).trans f1
    replace f5 := (hk 5 (by decide)).trans f5
    replace f6 := (hk 6 (by decide)).trans f6
    replace f35 := (hk 35 (by decide)).trans f35
    clear hk hsz27 hde27 f37
    refine wpList_next rfl hsz28 hde28 39 rfl (by decide) fun K hK => ?_
    go_simp
    refine hK _ _ fun a29 hsz29 hde29 f39 hk => ?_
    clear hK K
    replace f0 := (hk 0 (by decide)).trans f0
    replace f1 := (hk 1 (by decide)).trans f1
    replace f5 := (hk 5 (by decide)).trans f5
    replace f6 := (hk 6 (by decide)).trans f6
    replace f39 : a29.tmps[39]?.getD undef = .bool true := f39
    clear hk hsz28 hde28 f35 f38
    refine wpList_nil ?_
    refine then_go ?_
    repeat with_reducible refine wp_seq ?_
    refine wp_cond_true (eval_at f39) ?_
    clear f39
    repeat with_reducible refine wp_seq ?_
    refine wp_region_lit ?_
    refine wpList_next rfl hsz29 hde29 40 rfl (by decide) fun K hK => ?_
    go_simp
    refine (Hl.out _ (Hp.out.grow Hb2.out)).mono ?_
    rintro e3 w3 ⟨rfl, hb3⟩
    go_simp
    refine hK _ _ fun a30 hsz30 hde30 f40 hk => ?_
    clear hK K
    replace f0 := (hk 0 (by decide)).trans f0
    replace f1 := (hk 1 (by decide)).trans f1
    replace f5 := (hk 5 (by decide)).trans f5
    replace f6 := (hk 6 (by decide)).trans f6
    replace f40 : a30.tmps[40]?.getD undef = .bool true := f40
    clear hk hsz29 hde29
    refine wpList_next rfl hsz30 hde30 6 rfl (by decide) fun K hK => ?_
    go_simp
    refine hK _ _ fun a31 hsz31 hde31 f6 hk => ?_
    clear hK K
    replace f0 := (hk 0 (by decide)).trans f0
    replace f1 := (hk 1 (by decide)).trans f1
    replace f5 := (hk 5 (by decide)).trans f5
    replace f6 : a31.tmps[6]?.getD undef = .bool true := f6
    clear hk hsz30 hde30 f40
    refine wpList_nil ?_
    refine then_go ?_
    refine wp_ret ?_
    refine (ret_tmp (R := fun e2 w2 => e2 = .returned (.bool true) ∧ Below w.heap.size w w2) Tryd.results9 hde31 f6 ?_)
    exact ⟨rfl, below_call (below_call Hbel.out Hb2.out) hb3⟩
  | true =>
    refine wpList_next rfl hsz8 hde8 19 rfl (by decide) fun K hK => ?_
    go_simp
    refine hK _ _ fun a9 hsz9 hde9 f19 hk => ?_
    clear hK K
    replace f0 := (hk 0 (by decide)).trans f0
    replace f1 := (hk 1 (by decide)).trans f1
    replace f5 := (hk 5 (by decide)).trans f5
    replace f6 := (hk 6 (by decide)).trans f6
    replace f19 : a9.tmps[19]?.getD undef = .bool false := f19
    clear hk hsz8 hde8 f15 f18
    refine wpList_next rfl hsz9 hde9 20 rfl (by decide) fun K hK => ?_
    go_simp
    refine hK _ _ fun a10 hsz10 hde10 f20 hk => ?_
    clear hK K
    replace f0 := (hk 0 (by decide)).trans f0
    replace f1 := (hk 1 (by decide)).trans f1
    replace f5 := (hk 5 (by decide)).trans f5
    replace f6 := (hk 6 (by decide)).trans f6
    replace f20 : a10.tmps[20]?.getD undef = .bool false := f20
    clear hk hsz9 hde9 f19
    by_cases h1 : n = 0
    · skip
      have H1 := Lib.hid h1
      clear h1
      refine wpList_nextg (wanted_of (j := 7) (t := 20) (b := false) rfl rfl f20) hsz10 hde10 21 rfl (by decide) fun K hK => ?_
      go_simp
      refine hK _ _ fun a11 hsz11 hde11 f21 hk => ?_
      clear hK K
      replace f0 := (hk 0 (by decide)).trans f0
      replace f1 := (hk 1 (by decide)).trans f1
      replace f5 := (hk 5 (by decide)).trans f5
      replace f6 := (hk 6 (by decide)).trans f6
      replace f20 := (hk 20 (by decide)).trans f20
      replace f21 : a11.tmps[21]?.getD undef = .slice A n cc := f21
      clear hk hsz10 hde10
      refine wpList_nextg (wanted_of (j := 7) (t := 20) (b := false) rfl rfl f20) hsz11 hde11 22 rfl (by decide) fun K hK => ?_
      go_simp
      refine hK _ _ fun a12 hsz12 hde12 f22 hk => ?_
      clear hK K
      replace f0 := (hk 0 (by decide)).trans f0
      replace f1 := (hk 1 (by decide)).trans f1
      replace f5 := (hk 5 (by decide)).trans f5
      replace f6 := (hk 6 (by decide)).trans f6
      replace f20 := (hk 20 (by decide)).trans f20
      replace f22 : a12.tmps[22]?.getD undef = .int .i64 (n : Int) := f22
      clear hk hsz11 hde11 f21
      refine wpList_nextg (wanted_of (j := 7) (t := 20) (b := false) rfl rfl f20) hsz12 hde12 23 rfl (by decide) fun K hK => ?_
      go_simp
      refine hK _ _ fun a13 hsz13 hde13 f23 hk => ?_
      clear hK K
      replace f0 := (hk 0 (by decide)).trans f0
      replace f1 := (hk 1 (by decide)).trans f1
      replace f5 := (hk 5 (by decide)).trans f5
      replace f6 := (hk 6 (by decide)).trans f6
      replace f20 := (hk 20 (by decide)).trans f20
      clear hk hsz12 hde12 f22
      replace f23 : a13.tmps[23]?.getD undef = .bool true := f23.trans (by have h1 := H1.out; first | rfl | (congr 1; first | exact decide_eq_true (by omega) | exact decide_eq_false (by omega) | (simp; omega)))
      refine wpList_next rfl hsz13 hde13 24 rfl (by decide) fun K hK => ?_
      go_simp
      refine hK _ _ fun a14 hsz14 hde14 f24 hk => ?_
      clear hK K
      replace f0 := (hk 0 (by decide)).trans f0
      replace f1 := (hk 1 (by decide)).trans f1
      replace f5 := (hk 5 (by decide)).trans f5
      replace f6 := (hk 6 (by decide)).trans f6
      replace f24 : a14.tmps[24]?.getD undef = .bool true := f24
      clear hk hsz13 hde13 f20 f23
      refine wpList_next rfl hsz14 hde14 25 rfl (by decide) fun K hK => ?_
      go_simp
      refine hK _ _ fun a15 hsz15 hde15 f25 hk => ?_
      clear hK K
      replace f0 := (hk 0 (by decide)).trans f0
      replace f1 := (hk 1 (by decide)).trans f1
      replace f5 := (hk 5 (by decide)).trans f5
      replace f6 := (hk 6 (by decide)).trans f6
      replace f25 : a15.tmps[25]?.getD undef = .bool true := f25
      clear hk hsz14 hde14 f24
      refine wpList_leave (not_wanted (j := 12) (t := 25) (b := false) rfl rfl (.inr f25)) hsz15 hde15 26 rfl (by decide) fun a16 hsz16 hde16 f26 hk => ?_
      replace f0 := (hk 0 (by decide)).trans f0
      replace f1 := (hk 1 (by decide)).trans f1
      replace f5 := (hk 5 (by decide)).trans f5
      replace f6 := (hk 6 (by decide)).trans f6
      replace f25 := (hk 25 (by decide)).trans f25
      clear hk hsz15 hde15
      refine wpList_leave (not_wanted (j := 12) (t := 25) (b := false) rfl rfl (.inr f25)) hsz16 hde16 27 rfl (by decide) fun a17 hsz17 hde17 f27 hk => ?_
      replace f0 := (hk 0 (by decide)).trans f0
      replace f1 := (hk 1 (by decide)).trans f1
      replace f5 := (hk 5 (by decide)).trans f5
      replace f6 := (hk 6 (by decide)).trans f6
      replace f25 := (hk 25 (by decide)).trans f25
      clear hk hsz16 hde16 f26
      refine wpList_leave (not_wanted (j := 12) (t := 25) (b := false) rfl rfl (.inr f25)) hsz17 hde17 28 rfl (by decide) fun a18 hsz18 hde18 f28 hk => ?_
      replace f0 := (hk 0 (by decide)).trans f0
      replace f1 := (hk 1 (by decide)).trans f1
      replace f5 := (hk 5 (by decide)).trans f5
      replace f6 := (hk 6 (by decide)).trans f6
      replace f25 := (hk 25 (by decide)).trans f25
      clear hk hsz17 hde17 f27
      refine wpList_next rfl hsz18 hde18 29 rfl (by decide) fun K hK => ?_
      go_simp
      refine hK _ _ fun a19 hsz19 hde19 f29 hk => ?_
      clear hK K
      replace f0 := (hk 0 (by decide)).trans f0
      replace f1 := (hk 1 (by decide)).trans f1
      replace f5 := (hk 5 (by decide)).trans f5
      replace f6 := (hk 6 (by decide)).trans f6
      replace f29 : a19.tmps[29]?.getD undef = .bool true := f29
      clear hk hsz18 hde18 f25 f28
      refine wpList_next rfl hsz19 hde19 30 rfl (by decide) fun K hK => ?_
      go_simp
      refine hK _ _ fun a20 hsz20 hde20 f30 hk => ?_
      clear hK K
      replace f0 := (hk 0 (by decide)).trans f0
      replace f1 := (hk 1 (by decide)).trans f1
      replace f5 := (hk 5 (by decide)).trans f5
      replace f6 := (hk 6 (by decide)).trans f6
      replace f30 : a20.tmps[30]?.getD undef = .bool true := f30
      clear hk hsz19 hde19 f29
      refine wpList_leave (not_wanted (j := 17) (t := 30) (b := false) rfl rfl (.inr f30)) hsz20 hde20 31 rfl (by decide) fun a21 hsz21 hde21 f31 hk => ?_
      replace f0 := (hk 0 (by decide)).trans f0
      replace f1 := (hk 1 (by decide)).trans f1
      replace f5 := (hk 5 (by decide)).trans f5
      replace f6 := (hk 6 (by decide)).trans f6
      replace f30 := (hk 30 (by decide)).trans f30
      clear hk hsz20 hde20
      refine wpList_leave (not_wanted (j := 17) (t := 30) (b := false) rfl rfl (.inr f30)) hsz21 hde21 32 rfl (by decide) fun a22 hsz22 hde22 f32 hk => ?_
      replace f0 := (hk 0 (by decide)).trans f0
      replace f1 := (hk 1 (by decide)).trans f1
      replace f5 := (hk 5 (by decide)).trans f5
      replace f6 := (hk 6 (by decide)).trans f6
      replace f30 := (hk 30 (by decide)).trans f30
      clear hk hsz21 hde21 f31
      refine wpList_leave (not_wanted (j := 17) (t := 30) (b := false) rfl rfl (.inr f30)) hsz22 hde22 33 rfl (by decide) fun a23 hsz23 hde23 f33 hk => ?_
      replace f0 := (hk 0 (by decide)).trans f0
      replace f1 := (hk 1 (by decide)).trans f1
      replace f5 := (hk 5 (by decide)).trans f5
      replace f6 := (hk 6 (by decide)).trans f6
      replace f30 := (hk 30 (by decide)).trans f30
      clear hk hsz22 hde22 f32
      refine wpList_next rfl hsz23 hde23 34 rfl (by decide) fun K hK => ?_
      go_simp
      refine hK _ _ fun a24 hsz24 hde24 f34 hk => ?_
      clear hK K
      replace f0 := (hk 0 (by decide)).trans f0
      replace f1 := (hk 1 (by decide)).trans f1
      replace f5 := (hk 5 (by decide)).trans f5
      replace f6 := (hk 6 (by decide)).trans f6
      replace f34 : a24.tmps[34]?.getD undef = .bool true := f34
      clear hk hsz23 hde23 f30 f33
      refine wpList_next rfl hsz24 hde24 35 rfl (by decide) fun K hK => ?_
      go_simp
      refine hK _ _ fun a25 hsz25 hde25 f35 hk => ?_
      clear hK K
      replace f0 := (hk 0 (by decide)).trans f0
      replace f1 := (hk 1 (by decide)).trans f1
      replace f5 := (hk 5 (by decide)).trans f5
      replace f6 := (hk 6 (by decide)).trans f6
      replace f35 : a25.tmps[35]?.getD undef = .bool true := f35
      clear hk hsz24 hde24 f34
      refine wpList_leave (not_wanted (j := 22) (t := 35) (b := false) rfl rfl (.inr f35)) hsz25 hde25 36 rfl (by decide) fun a26 hsz26 hde26 f36 hk => ?_
      replace f0 := (hk 0 (by decide)).trans f0
      replace f1 := (hk 1 (by decide)).trans f1
      replace f5 := (hk 5 (by decide)).trans f5
      replace f6 := (hk 6 (by decide)).trans f6
      replace f35 := (hk 35 (by decide)).trans f35
      clear hk hsz25 hde25
      refine wpList_leave (not_wanted (j := 22) (t := 35) (b := false) rfl rfl (.inr f35)) hsz26 hde26 37 rfl (by decide) fun a27 hsz27 hde27 f37 hk => ?_
      replace f0 := (hk 0 (by decide)).trans f0
      replace f1 := (hk 1 (by decide)).trans f1
      replace f5 := (hk 5 (by decide)).trans f5
      replace f6 := (hk 6 (by decide)).trans f6
      replace f35 := (hk 35 (by decide)).trans f35
      clear hk hsz26 hde26 f36
      refine wpList_leave (not_wanted (j := 22) (t := 35) (b := false) rfl rfl (.inr f35)) hsz27 hde27 38 rfl (by decide) fun a28 hsz28 hde28 f38 hk => ?_
      replace f0 := (hk 0 (by decide)).trans f0
      replace f1 := (hk 1 (by decide)).trans f1
      replace f5 := (hk 5 (by decide)).trans f5
      replace f6 := (hk 6 (by decide)).trans f6
      replace f35 := (hk 35 (by decide)).trans f35
      clear hk hsz27 hde27 f37
      refine wpList_next rfl hsz28 hde28 39 rfl (by decide) fun K hK => ?_
      go_simp
      refine hK _ _ fun a29 hsz29 hde29 f39 hk => ?_
      clear hK K
      replace f0 := (hk 0 (by decide)).trans f0
      replace f1 := (hk 1 (by decide)).trans f1
      replace f5 := (hk 5 (by decide)).trans f5
      replace f6 := (hk 6 (by decide)).trans f6
      replace f39 : a29.tmps[39]?.getD undef = .bool true := f39
      clear hk hsz28 hde28 f35 f38
      refine wpList_nil ?_
      refine then_go ?_
      repeat with_reducible refine wp_seq ?_
      refine wp_cond_true (eval_at f39) ?_
      clear f39
      repeat with_reducible refine wp_seq ?_
      refine wp_region_lit ?_
      refine wpList_next rfl hsz29 hde29 40 rfl (by decide) fun K hK => ?_
      go_simp
      refine (Hl.out _ (Hp.out.grow Hb2.out)).mono ?_
      rintro e3 w3 ⟨rfl, hb3⟩
      go_simp
      refine hK _ _ fun a30 hsz30 hde30 f40 hk => ?_
      clear hK K
      replace f0 := (hk 0 (by decide)).trans f0
      replace f1 := (hk 1 (by decide)).trans f1
      replace f5 := (hk 5 (by decide)).trans f5
      replace f6 := (hk 6 (by decide)).trans f6
      replace f40 : a30.tmps[40]?.getD undef = .bool true := f40
      clear hk hsz29 hde29
      refine wpList_next rfl hsz30 hde30 6 rfl (by decide) fun K hK => ?_
      go_simp
      refine hK _ _ fun a31 hsz31 hde31 f6 hk => ?_
      clear hK K
      replace f0 := (hk 0 (by decide)).trans f0
      replace f1 := (hk 1 (by decide)).trans f1
      replace f5 := (hk 5 (by decide)).trans f5
      replace f6 : a31.tmps[6]?.getD undef = .bool true := f6
      clear hk hsz30 hde30 f40
      refine wpList_nil ?_
      refine then_go ?_
      refine wp_ret ?_
      refine (ret_tmp (R := fun e2 w2 => e2 = .returned (.bool true) ∧ Below w.heap.size w w2) Tryd.results9 hde31 f6 ?_)
      exact ⟨rfl, below_call (below_call Hbel.out Hb2.out) hb3⟩
    by_cases h2 : r < 1
    · skip
      refine wpList_nextg (wanted_of (j := 7) (t := 20) (b := false) rfl rfl f20) hsz10 hde10 21 rfl (by decide) fun K hK => ?_
      go_simp
      refine hK _ _ fun a11 hsz11 hde11 f21 hk => ?_
      clear hK K
      replace f0 := (hk 0 (by decide)).trans f0
      replace f1 := (hk 1 (by decide)).trans f1
      replace f5 := (hk 5 (by decide)).trans f5
      replace f6 := (hk 6 (by decide)).trans f6
      replace f20 := (hk 20 (by decide)).trans f20
      replace f21 : a11.tmps[21]?.getD undef = .slice A n cc := f21
      clear hk hsz10 hde10
      refine wpList_nextg (wanted_of (j := 7) (t := 20) (b := false) rfl rfl f20) hsz11 hde11 22 rfl (by decide) fun K hK => ?_
      go_simp
      refine hK _ _ fun a12 hsz12 hde12 f22 hk => ?_
      clear hK K
      replace f0 := (hk 0 (by decide)).trans f0
      replace f1 := (hk 1 (by decide)).trans f1
      replace f5 := (hk 5 (by decide)).trans f5
      replace f6 := (hk 6 (by decide)).trans f6
      replace f20 := (hk 20 (by decide)).trans f20
      replace f22 : a12.tmps[22]?.getD undef = .int .i64 (n : Int) := f22
      clear hk hsz11 hde11 f21
      refine wpList_nextg (wanted_of (j := 7) (t := 20) (b := false) rfl rfl f20) hsz12 hde12 23 rfl (by decide) fun K hK => ?_
      go_simp
      refine hK _ _ fun a13 hsz13 hde13 f23 hk => ?_
      clear hK K
      replace f0 := (hk 0 (by decide)).trans f0
      replace f1 := (hk 1 (by decide)).trans f1
      replace f5 := (hk 5 (by decide)).trans f5
      replace f6 := (hk 6 (by decide)).trans f6
      replace f20 := (hk 20 (by decide)).trans f20
      clear hk hsz12 hde12 f22
      replace f23 : a13.tmps[23]?.getD undef = .bool false := f23.trans (by first | rfl | (congr 1; first | exact decide_eq_true (by omega) | exact decide_eq_false (by omega) | (simp; omega)))
      refine wpList_next rfl hsz13 hde13 24 rfl (by decide) fun K hK => ?_
      go_simp
      refine hK _ _ fun a14 hsz14 hde14 f24 hk => ?_
      clear hK K
      replace f0 := (hk 0 (by decide)).trans f0
      replace f1 := (hk 1 (by decide)).trans f1
      replace f5 := (hk 5 (by decide)).trans f5
      replace f6 := (hk 6 (by decide)).trans f6
      replace f24 : a14.tmps[24]?.getD undef = .bool false := f24
      clear hk hsz13 hde13 f20 f23
      refine wpList_next rfl hsz14 hde14 25 rfl (by decide) fun K hK => ?_
      go_simp
      refine hK _ _ fun a15 hsz15 hde15 f25 hk => ?_
      clear hK K
      replace f0 := (hk 0 (by decide)).trans f0
      replace f1 := (hk 1 (by decide)).trans f1
      replace f5 := (hk 5 (by decide)).trans f5
      replace f6 := (hk 6 (by decide)).trans f6
      replace f25 : a15.tmps[25]?.getD undef = .bool false := f25
      clear hk hsz14 hde14 f24
      refine wpList_nextg (wanted_of (j := 12) (t := 25) (b := false) rfl rfl f25) hsz15 hde15 26 rfl (by decide) fun K hK => ?_
      go_simp
      refine hK _ _ fun a16 hsz16 hde16 f26 hk => ?_
      clear hK K
      replace f0 := (hk 0 (by decide)).trans f0
      replace f1 := (hk 1 (by decide)).trans f1
      replace f5 := (hk 5 (by decide)).trans f5
      replace f6 := (hk 6 (by decide)).trans f6
      replace f25 := (hk 25 (by decide)).trans f25
      replace f26 : a16.tmps[26]?.getD undef = .pointer (some ⟨w.heap.size, 0, none⟩) := f26
      clear hk hsz15 hde15
      refine wpList_nextg (wanted_of (j := 12) (t := 25) (b := false) rfl rfl f25) hsz16 hde16 27 rfl (by decide) fun K hK => ?_
      have hcb := HB.out _ Hb2.out
      obtain ⟨hcb0, hcb1, _⟩ := hcb
      go_simp
      refine hK _ _ fun a17 hsz17 hde17 f27 hk => ?_
      clear hK K
      replace f0 := (hk 0 (by decide)).trans f0
      replace f1 := (hk 1 (by decide)).trans f1
      replace f5 := (hk 5 (by decide)).trans f5
      replace f6 := (hk 6 (by decide)).trans f6
      replace f25 := (hk 25 (by decide)).trans f25
      replace f27 : a17.tmps[27]?.getD undef = .int .i64 r := f27
      clear hk hsz16 hde16 f26
      clear hcb0 hcb1
      refine wpList_nextg (wanted_of (j := 12) (t := 25) (b := false) rfl rfl f25) hsz17 hde17 28 rfl (by decide) fun K hK => ?_
      go_simp
      refine hK _ _ fun a18 hsz18 hde18 f28 hk => ?_
      clear hK K
      replace f0 := (hk 0 (by decide)).trans f0
      replace f1 := (hk 1 (by decide)).trans f1
      replace f5 := (hk 5 (by decide)).trans f5
      replace f6 := (hk 6 (by decide)).trans f6
      replace f25 := (hk 25 (by decide)).trans f25
      clear hk hsz17 hde17 f27
      replace f28 : a18.tmps[28]?.getD undef = .bool true := f28.trans (by first | rfl | (congr 1; first | exact decide_eq_true (by omega) | exact decide_eq_false (by omega) | (simp; omega)))
      refine wpList_next rfl hsz18 hde18 29 rfl (by decide) fun K hK => ?_
      go_simp
      refine hK _ _ fun a19 hsz19 hde19 f29 hk => ?_
      clear hK K
      replace f0 := (hk 0 (by decide)).trans f0
      replace f1 := (hk 1 (by decide)).trans f1
      replace f5 := (hk 5 (by decide)).trans f5
      replace f6 := (hk 6 (by decide)).trans f6
      replace f29 : a19.tmps[29]?.getD undef = .bool true := f29
      clear hk hsz18 hde18 f25 f28
      refine wpList_next rfl hsz19 hde19 30 rfl (by decide) fun K hK => ?_
      go_simp
      refine hK _ _ fun a20 hsz20 hde20 f30 hk => ?_
      clear hK K
      replace f0 := (hk 0 (by decide)).trans f0
      replace f1 := (hk 1 (by decide)).trans f1
      replace f5 := (hk 5 (by decide)).trans f5
      replace f6 := (hk 6 (by decide)).trans f6
      replace f30 : a20.tmps[30]?.getD undef = .bool true := f30
      clear hk hsz19 hde19 f29
      refine wpList_leave (not_wanted (j := 17) (t := 30) (b := false) rfl rfl (.inr f30)) hsz20 hde20 31 rfl (by decide) fun a21 hsz21 hde21 f31 hk => ?_
      replace f0 := (hk 0 (by decide)).trans f0
      replace f1 := (hk 1 (by decide)).trans f1
      replace f5 := (hk 5 (by decide)).trans f5
      replace f6 := (hk 6 (by decide)).trans f6
      replace f30 := (hk 30 (by decide)).trans f30
      clear hk hsz20 hde20
      refine wpList_leave (not_wanted (j := 17) (t := 30) (b := false) rfl rfl (.inr f30)) hsz21 hde21 32 rfl (by decide) fun a22 hsz22 hde22 f32 hk => ?_
      replace f0 := (hk 0 (by decide)).trans f0
      replace f1 := (hk 1 (by decide)).trans f1
      replace f5 := (hk 5 (by decide)).trans f5
      replace f6 := (hk 6 (by decide)).trans f6
      replace f30 := (hk 30 (by decide)).trans f30
      clear hk hsz21 hde21 f31
      refine wpList_leave (not_wanted (j := 17) (t := 30) (b := false) rfl rfl (.inr f30)) hsz22 hde22 33 rfl (by decide) fun a23 hsz23 hde23 f33 hk => ?_
      replace f0 := (hk 0 (by decide)).trans f0
      replace f1 := (hk 1 (by decide)).trans f1
      replace f5 := (hk 5 (by decide)).trans f5
      replace f6 := (hk 6 (by decide)).trans f6
      replace f30 := (hk 30 (by decide)).trans f30
      clear hk hsz22 hde22 f32
      refine wpList_next rfl hsz23 hde23 34 rfl (by decide) fun K hK => ?_
      go_simp
      refine hK _ _ fun a24 hsz24 hde24 f34 hk => ?_
      clear hK K
      replace f0 := (hk 0 (by decide)).trans f0
      replace f1 := (hk 1 (by decide)).trans f1
      replace f5 := (hk 5 (by decide)).trans f5
      replace f6 := (hk 6 (by decide)).trans f6
      replace f34 : a24.tmps[34]?.getD undef = .bool true := f34
      clear hk hsz23 hde23 f30 f33
      refine wpList_next rfl hsz24 hde24 35 rfl (by decide) fun K hK => ?_
      go_simp
      refine hK _ _ fun a25 hsz25 hde25 f35 hk => ?_
      clear hK K
      replace f0 := (hk 0 (by decide)).trans f0
      replace f1 := (hk 1 (by decide)).trans f1
      replace f5 := (hk 5 (by decide)).trans f5
      replace f6 := (hk 6 (by decide)).trans f6
      replace f35 : a25.tmps[35]?.getD undef = .bool true := f35
      clear hk hsz24 hde24 f34
      refine wpList_leave (not_wanted (j := 22) (t := 35) (b := false) rfl rfl (.inr f35)) hsz25 hde25 36 rfl (by decide) fun a26 hsz26 hde26 f36 hk => ?_
      replace f0 := (hk 0 (by decide)).trans f0
      replace f1 := (hk 1 (by decide)).trans f1
      replace f5 := (hk 5 (by decide)).trans f5
      replace f6 := (hk 6 (by decide)).trans f6
      replace f35 := (hk 35 (by decide)).trans f35
      clear hk hsz25 hde25
      refine wpList_leave (not_wanted (j := 22) (t := 35) (b := false) rfl rfl (.inr f35)) hsz26 hde26 37 rfl (by decide) fun a27 hsz27 hde27 f37 hk => ?_
      replace f0 := (hk 0 (by decide)).trans f0
      replace f1 := (hk 1 (by decide)).trans f1
      replace f5 := (hk 5 (by decide)).trans f5
      replace f6 := (hk 6 (by decide)).trans f6
      replace f35 := (hk 35 (by decide)).trans f35
      clear hk hsz26 hde26 f36
      refine wpList_leave (not_wanted (j := 22) (t := 35) (b := false) rfl rfl (.inr f35)) hsz27 hde27 38 rfl (by decide) fun a28 hsz28 hde28 f38 hk => ?_
      replace f0 := (hk 0 (by decide)).trans f0
      replace f1 := (hk 1 (by decide)).trans f1
      replace f5 := (hk 5 (by decide)).trans f5
      replace f6 := (hk 6 (by decide)).trans f6
      replace f35 := (hk 35 (by decide)).trans f35
      clear hk hsz27 hde27 f37
      refine wpList_next rfl hsz28 hde28 39 rfl (by decide) fun K hK => ?_
      go_simp
      refine hK _ _ fun a29 hsz29 hde29 f39 hk => ?_
      clear hK K
      replace f0 := (hk 0 (by decide)).trans f0
      replace f1 := (hk 1 (by decide)).trans f1
      replace f5 := (hk 5 (by decide)).trans f5
      replace f6 := (hk 6 (by decide)).trans f6
      replace f39 : a29.tmps[39]?.getD undef = .bool true := f39
      clear hk hsz28 hde28 f35 f38
      refine wpList_nil ?_
      refine then_go ?_
      repeat with_reducible refine wp_seq ?_
      refine wp_cond_true (eval_at f39) ?_
      clear f39
      repeat with_reducible refine wp_seq ?_
      refine wp_region_lit ?_
      refine wpList_next rfl hsz29 hde29 40 rfl (by decide) fun K hK => ?_
      go_simp
      refine (Hl.out _ (Hp.out.grow Hb2.out)).mono ?_
      rintro e3 w3 ⟨rfl, hb3⟩
      go_simp
      refine hK _ _ fun a30 hsz30 hde30 f40 hk => ?_
      clear hK K
      replace f0 := (hk 0 (by decide)).trans f0
      replace f1 := (hk 1 (by decide)).trans f1
      replace f5 := (hk 5 (by decide)).trans f5
      replace f6 := (hk 6 (by decide)).trans f6
      replace f40 : a30.tmps[40]?.getD undef = .bool true := f40
      clear hk hsz29 hde29
      refine wpList_next rfl hsz30 hde30 6 rfl (by decide) fun K hK => ?_
      go_simp
      refine hK _ _ fun a31 hsz31 hde31 f6 hk => ?_
      clear hK K
      replace f0 := (hk 0 (by decide)).trans f0
      replace f1 := (hk 1 (by decide)).trans f1
      replace f5 := (hk 5 (by decide)).trans f5
      replace f6 : a31.tmps[6]?.getD undef = .bool true := f6
      clear hk hsz30 hde30 f40
      refine wpList_nil ?_
      refine then_go ?_
      refine wp_ret ?_
      refine (ret_tmp (R := fun e2 w2 => e2 = .returned (.bool true) ∧ Below w.heap.size w w2) Tryd.results9 hde31 f6 ?_)
      exact ⟨rfl, below_call (below_call Hbel.out Hb2.out) hb3⟩
    by_cases h3 : 8 < r
    · skip
      refine wpList_nextg (wanted_of (j := 7) (t := 20) (b := false) rfl rfl f20) hsz10 hde10 21 rfl (by decide) fun K hK => ?_
      go_simp
      refine hK _ _ fun a11 hsz11 hde11 f21 hk => ?_
      clear hK K
      replace f0 := (hk 0 (by decide)).trans f0
      replace f1 := (hk 1 (by decide)).trans f1
      replace f5 := (hk 5 (by decide)).trans f5
      replace f6 := (hk 6 (by decide)).trans f6
      replace f20 := (hk 20 (by decide)).trans f20
      replace f21 : a11.tmps[21]?.getD undef = .slice A n cc := f21
      clear hk hsz10 hde10
      refine wpList_nextg (wanted_of (j := 7) (t := 20) (b := false) rfl rfl f20) hsz11 hde11 22 rfl (by decide) fun K hK => ?_
      go_simp
      refine hK _ _ fun a12 hsz12 hde12 f22 hk => ?_
      clear hK K
      replace f0 := (hk 0 (by decide)).trans f0
      replace f1 := (hk 1 (by decide)).trans f1
      replace f5 := (hk 5 (by decide)).trans f5
      replace f6 := (hk 6 (by decide)).trans f6
      replace f20 := (hk 20 (by decide)).trans f20
      replace f22 : a12.tmps[22]?.getD undef = .int .i64 (n : Int) := f22
      clear hk hsz11 hde11 f21
      refine wpList_nextg (wanted_of (j := 7) (t := 20) (b := false) rfl rfl f20) hsz12 hde12 23 rfl (by decide) fun K hK => ?_
      go_simp
      refine hK _ _ fun a13 hsz13 hde13 f23 hk => ?_
      clear hK K
      replace f0 := (hk 0 (by decide)).trans f0
      replace f1 := (hk 1 (by decide)).trans f1
      replace f5 := (hk 5 (by decide)).trans f5
      replace f6 := (hk 6 (by decide)).trans f6
      replace f20 := (hk 20 (by decide)).trans f20
      clear hk hsz12 hde12 f22
      replace f23 : a13.tmps[23]?.getD undef = .bool false := f23.trans (by first | rfl | (congr 1; first | exact decide_eq_true (by omega) | exact decide_eq_false (by omega) | (simp; omega)))
      refine wpList_next rfl hsz13 hde13 24 rfl (by decide) fun K hK => ?_
      go_simp
      refine hK _ _ fun a14 hsz14 hde14 f24 hk => ?_
      clear hK K
      replace f0 := (hk 0 (by decide)).trans f0
      replace f1 := (hk 1 (by decide)).trans f1
      replace f5 := (hk 5 (by decide)).trans f5
      replace f6 := (hk 6 (by decide)).trans f6
      replace f24 : a14.tmps[24]?.getD undef = .bool false := f24
      clear hk hsz13 hde13 f20 f23
      refine wpList_next rfl hsz14 hde14 25 rfl (by decide) fun K hK => ?_
      go_simp
      refine hK _ _ fun a15 hsz15 hde15 f25 hk => ?_
      clear hK K
      replace f0 := (hk 0 (by decide)).trans f0
      replace f1 := (hk 1 (by decide)).trans f1
      replace f5 := (hk 5 (by decide)).trans f5
      replace f6 := (hk 6 (by decide)).trans f6
      replace f25 : a15.tmps[25]?.getD undef = .bool false := f25
      clear hk hsz14 hde14 f24
      refine wpList_nextg (wanted_of (j := 12) (t := 25) (b := false) rfl rfl f25) hsz15 hde15 26 rfl (by decide) fun K hK => ?_
      go_simp
      refine hK _ _ fun a16 hsz16 hde16 f26 hk => ?_
      clear hK K
      replace f0 := (hk 0 (by decide)).trans f0
      replace f1 := (hk 1 (by decide)).trans f1
      replace f5 := (hk 5 (by decide)).trans f5
      replace f6 := (hk 6 (by decide)).trans f6
      replace f25 := (hk 25 (by decide)).trans f25
      replace f26 : a16.tmps[26]?.getD undef = .pointer (some ⟨w.heap.size, 0, none⟩) := f26
      clear hk hsz15 hde15
      refine wpList_nextg (wanted_of (j := 12) (t := 25) (b := false) rfl rfl f25) hsz16 hde16 27 rfl (by decide) fun K hK => ?_
      have hcb := HB.out _ Hb2.out
      obtain ⟨hcb0, hcb1, _⟩ := hcb
      go_simp
      refine hK _ _ fun a17 hsz17 hde17 f27 hk => ?_
      clear hK K
      replace f0 := (hk 0 (by decide)).trans f0
      replace f1 := (hk 1 (by decide)).trans f1
      replace f5 := (hk 5 (by decide)).trans f5
      replace f6 := (hk 6 (by decide)).trans f6
      replace f25 := (hk 25 (by decide)).trans f25
      replace f27 : a17.tmps[27]?.getD undef = .int .i64 r := f27
      clear hk hsz16 hde16 f26
      clear hcb0 hcb1
      refine wpList_nextg (wanted_of (j := 12) (t := 25) (b := false) rfl rfl f25) hsz17 hde17 28 rfl (by decide) fun K hK => ?_
      go_simp
      refine hK _ _ fun a18 hsz18 hde18 f28 hk => ?_
      clear hK K
      replace f0 := (hk 0 (by decide)).trans f0
      replace f1 := (hk 1 (by decide)).trans f1
      replace f5 := (hk 5 (by decide)).trans f5
      replace f6 := (hk 6 (by decide)).trans f6
      replace f25 := (hk 25 (by decide)).trans f25
      clear hk hsz17 hde17 f27
      replace f28 : a18.tmps[28]?.getD undef = .bool false := f28.trans (by first | rfl | (congr 1; first | exact decide_eq_true (by omega) | exact decide_eq_false (by omega) | (simp; omega)))
      refine wpList_next rfl hsz18 hde18 29 rfl (by decide) fun K hK => ?_
      go_simp
      refine hK _ _ fun a19 hsz19 hde19 f29 hk => ?_
      clear hK K
      replace f0 := (hk 0 (by decide)).trans f0
      replace f1 := (hk 1 (by decide)).trans f1
      replace f5 := (hk 5 (by decide)).trans f5
      replace f6 := (hk 6 (by decide)).trans f6
      replace f29 : a19.tmps[29]?.getD undef = .bool false := f29
      clear hk hsz18 hde18 f25 f28
      refine wpList_next rfl hsz19 hde19 30 rfl (by decide) fun K hK => ?_
      go_simp
      refine hK _ _ fun a20 hsz20 hde20 f30 hk => ?_
      clear hK K
      replace f0 := (hk 0 (by decide)).trans f0
      replace f1 := (hk 1 (by decide)).trans f1
      replace f5 := (hk 5 (by decide)).trans f5
      replace f6 := (hk 6 (by decide)).trans f6
      replace f30 : a20.tmps[30]?.getD undef = .bool false := f30
      clear hk hsz19 hde19 f29
      refine wpList_nextg (wanted_of (j := 17) (t := 30) (b := false) rfl rfl f30) hsz20 hde20 31 rfl (by decide) fun K hK => ?_
      go_simp
      refine hK _ _ fun a21 hsz21 hde21 f31 hk => ?_
      clear hK K
      replace f0 := (hk 0 (by decide)).trans f0
      replace f1 := (hk 1 (by decide)).trans f1
      replace f5 := (hk 5 (by decide)).trans f5
      replace f6 := (hk 6 (by decide)).trans f6
      replace f30 := (hk 30 (by decide)).trans f30
      replace f31 : a21.tmps[31]?.getD undef = .pointer (some ⟨w.heap.size, 0, none⟩) := f31
      clear hk hsz20 hde20
      refine wpList_nextg (wanted_of (j := 17) (t := 30) (b := false) rfl rfl f30) hsz21 hde21 32 rfl (by decide) fun K hK => ?_
      have hcb := HB.out _ Hb2.out
      obtain ⟨hcb0, hcb1, _⟩ := hcb
      go_simp
      refine hK _ _ fun a22 hsz22 hde22 f32 hk => ?_
      clear hK K
      replace f0 := (hk 0 (by decide)).trans f0
      replace f1 := (hk 1 (by decide)).trans f1
      replace f5 := (hk 5 (by decide)).trans f5
      replace f6 := (hk 6 (by decide)).trans f6
      replace f30 := (hk 30 (by decide)).trans f30
      replace f32 : a22.tmps[32]?.getD undef = .int .i64 r := f32
      clear hk hsz21 hde21 f31
      clear hcb0 hcb1
      refine wpList_nextg (wanted_of (j := 17) (t := 30) (b := false) rfl rfl f30) hsz22 hde22 33 rfl (by decide) fun K hK => ?_
      go_simp
      refine hK _ _ fun a23 hsz23 hde23 f33 hk => ?_
      clear hK K
      replace f0 := (hk 0 (by decide)).trans f0
      replace f1 := (hk 1 (by decide)).trans f1
      replace f5 := (hk 5 (by decide)).trans f5
      replace f6 := (hk 6 (by decide)).trans f6
      replace f30 := (hk 30 (by decide)).trans f30
      clear hk hsz22 hde22 f32
      replace f33 : a23.tmps[33]?.getD undef = .bool true := f33.trans (by first | rfl | (congr 1; first | exact decide_eq_true (by omega) | exact decide_eq_false (by omega) | (simp; omega)))
      refine wpList_next rfl hsz23 hde23 34 rfl (by decide) fun K hK => ?_
      go_simp
      refine hK _ _ fun a24 hsz24 hde24 f34 hk => ?_
      clear hK K
      replace f0 := (hk 0 (by decide)).trans f0
      replace f1 := (hk 1 (by decide)).trans f1
      replace f5 := (hk 5 (by decide)).trans f5
      replace f6 := (hk 6 (by decide)).trans f6
      replace f34 : a24.tmps[34]?.getD undef = .bool true := f34
      clear hk hsz23 hde23 f30 f33
      refine wpList_next rfl hsz24 hde24 35 rfl (by decide) fun K hK => ?_
      go_simp
      refine hK _ _ fun a25 hsz25 hde25 f35 hk => ?_
      clear hK K
      replace f0 := (hk 0 (by decide)).trans f0
      replace f1 := (hk 1 (by decide)).trans f1
      replace f5 := (hk 5 (by decide)).trans f5
      replace f6 := (hk 6 (by decide)).trans f6
      replace f35 : a25.tmps[35]?.getD undef = .bool true := f35
      clear hk hsz24 hde24 f34
      refine wpList_leave (not_wanted (j := 22) (t := 35) (b := false) rfl rfl (.inr f35)) hsz25 hde25 36 rfl (by decide) fun a26 hsz26 hde26 f36 hk => ?_
      replace f0 := (hk 0 (by decide)).trans f0
      replace f1 := (hk 1 (by decide)).trans f1
      replace f5 := (hk 5 (by decide)).trans f5
      replace f6 := (hk 6 (by decide)).trans f6
      replace f35 := (hk 35 (by decide)).trans f35
      clear hk hsz25 hde25
      refine wpList_leave (not_wanted (j := 22) (t := 35) (b := false) rfl rfl (.inr f35)) hsz26 hde26 37 rfl (by decide) fun a27 hsz27 hde27 f37 hk => ?_
      replace f0 := (hk 0 (by decide)).trans f0
      replace f1 := (hk 1 (by decide)).trans f1
      replace f5 := (hk 5 (by decide)).trans f5
      replace f6 := (hk 6 (by decide)).trans f6
      replace f35 := (hk 35 (by decide)).trans f35
      clear hk hsz26 hde26 f36
      refine wpList_leave (not_wanted (j := 22) (t := 35) (b := false) rfl rfl (.inr f35)) hsz27 hde27 38 rfl (by decide) fun a28 hsz28 hde28 f38 hk => ?_
      replace f0 := (hk 0 (by decide)).trans f0
      replace f1 := (hk 1 (by decide)).trans f1
      replace f5 := (hk 5 (by decide)).trans f5
      replace f6 := (hk 6 (by decide)).trans f6
      replace f35 := (hk 35 (by decide)).trans f35
      clear hk hsz27 hde27 f37
      refine wpList_next rfl hsz28 hde28 39 rfl (by decide) fun K hK => ?_
      go_simp
      refine hK _ _ fun a29 hsz29 hde29 f39 hk => ?_
      clear hK K
      replace f0 := (hk 0 (by decide)).trans f0
      replace f1 := (hk 1 (by decide)).trans f1
      replace f5 := (hk 5 (by decide)).trans f5
      replace f6 := (hk 6 (by decide)).trans f6
      replace f39 : a29.tmps[39]?.getD undef = .bool true := f39
      clear hk hsz28 hde28 f35 f38
      refine wpList_nil ?_
      refine then_go ?_
      repeat with_reducible refine wp_seq ?_
      refine wp_cond_true (eval_at f39) ?_
      clear f39
      repeat with_reducible refine wp_seq ?_
      refine wp_region_lit ?_
      refine wpList_next rfl hsz29 hde29 40 rfl (by decide) fun K hK => ?_
      go_simp
      refine (Hl.out _ (Hp.out.grow Hb2.out)).mono ?_
      rintro e3 w3 ⟨rfl, hb3⟩
      go_simp
      refine hK _ _ fun a30 hsz30 hde30 f40 hk => ?_
      clear hK K
      replace f0 := (hk 0 (by decide)).trans f0
      replace f1 := (hk 1 (by decide)).trans f1
      replace f5 := (hk 5 (by decide)).trans f5
      replace f6 := (hk 6 (by decide)).trans f6
      replace f40 : a30.tmps[40]?.getD undef = .bool true := f40
      clear hk hsz29 hde29
      refine wpList_next rfl hsz30 hde30 6 rfl (by decide) fun K hK => ?_
      go_simp
      refine hK _ _ fun a31 hsz31 hde31 f6 hk => ?_
      clear hK K
      replace f0 := (hk 0 (by decide)).trans f0
      replace f1 := (hk 1 (by decide)).trans f1
      replace f5 := (hk 5 (by decide)).trans f5
      replace f6 : a31.tmps[6]?.getD undef = .bool true := f6
      clear hk hsz30 hde30 f40
      refine wpList_nil ?_
      refine then_go ?_
      refine wp_ret ?_
      refine (ret_tmp (R := fun e2 w2 => e2 = .returned (.bool true) ∧ Below w.heap.size w w2) Tryd.results9 hde31 f6 ?_)
      exact ⟨rfl, below_call (below_call Hbel.out Hb2.out) hb3⟩
    by_cases h4 : s < 1
    · skip
      refine wpList_nextg (wanted_of (j := 7) (t := 20) (b := false) rfl rfl f20) hsz10 hde10 21 rfl (by decide) fun K hK => ?_
      go_simp
      refine hK _ _ fun a11 hsz11 hde11 f21 hk => ?_
      clear hK K
      replace f0 := (hk 0 (by decide)).trans f0
      replace f1 := (hk 1 (by decide)).trans f1
      replace f5 := (hk 5 (by decide)).trans f5
      replace f6 := (hk 6 (by decide)).trans f6
      replace f20 := (hk 20 (by decide)).trans f20
      replace f21 : a11.tmps[21]?.getD undef = .slice A n cc := f21
      clear hk hsz10 hde10
      refine wpList_nextg (wanted_of (j := 7) (t := 20) (b := false) rfl rfl f20) hsz11 hde11 22 rfl (by decide) fun K hK => ?_
      go_simp
      refine hK _ _ fun a12 hsz12 hde12 f22 hk => ?_
      clear hK K
      replace f0 := (hk 0 (by decide)).trans f0
      replace f1 := (hk 1 (by decide)).trans f1
      replace f5 := (hk 5 (by decide)).trans f5
      replace f6 := (hk 6 (by decide)).trans f6
      replace f20 := (hk 20 (by decide)).trans f20
      replace f22 : a12.tmps[22]?.getD undef = .int .i64 (n : Int) := f22
      clear hk hsz11 hde11 f21
      refine wpList_nextg (wanted_of (j := 7) (t := 20) (b := false) rfl rfl f20) hsz12 hde12 23 rfl (by decide) fun K hK => ?_
      go_simp
      refine hK _ _ fun a13 hsz13 hde13 f23 hk => ?_
      clear hK K
      replace f0 := (hk 0 (by decide)).trans f0
      replace f1 := (hk 1 (by decide)).trans f1
      replace f5 := (hk 5 (by decide)).trans f5
      replace f6 := (hk 6 (by decide)).trans f6
      replace f20 := (hk 20 (by decide)).trans f20
      clear hk hsz12 hde12 f22
      replace f23 : a13.tmps[23]?.getD undef = .bool false := f23.trans (by first | rfl | (congr 1; first | exact decide_eq_true (by omega) | exact decide_eq_false (by omega) | (simp; omega)))
      refine wpList_next rfl hsz13 hde13 24 rfl (by decide) fun K hK => ?_
      go_simp
      refine hK _ _ fun a14 hsz14 hde14 f24 hk => ?_
      clear hK K
      replace f0 := (hk 0 (by decide)).trans f0
      replace f1 := (hk 1 (by decide)).trans f1
      replace f5 := (hk 5 (by decide)).trans f5
      replace f6 := (hk 6 (by decide)).trans f6
      replace f24 : a14.tmps[24]?.getD undef = .bool false := f24
      clear hk hsz13 hde13 f20 f23
      refine wpList_next rfl hsz14 hde14 25 rfl (by decide) fun K hK => ?_
      go_simp
      refine hK _ _ fun a15 hsz15 hde15 f25 hk => ?_
      clear hK K
      replace f0 := (hk 0 (by decide)).trans f0
      replace f1 := (hk 1 (by decide)).trans f1
      replace f5 := (hk 5 (by decide)).trans f5
      replace f6 := (hk 6 (by decide)).trans f6
      replace f25 : a15.tmps[25]?.getD undef = .bool false := f25
      clear hk hsz14 hde14 f24
      refine wpList_nextg (wanted_of (j := 12) (t := 25) (b := false) rfl rfl f25) hsz15 hde15 26 rfl (by decide) fun K hK => ?_
      go_simp
      refine hK _ _ fun a16 hsz16 hde16 f26 hk => ?_
      clear hK K
      replace f0 := (hk 0 (by decide)).trans f0
      replace f1 := (hk 1 (by decide)).trans f1
      replace f5 := (hk 5 (by decide)).trans f5
      replace f6 := (hk 6 (by decide)).trans f6
      replace f25 := (hk 25 (by decide)).trans f25
      replace f26 : a16.tmps[26]?.getD undef = .pointer (some ⟨w.heap.size, 0, none⟩) := f26
      clear hk hsz15 hde15
      refine wpList_nextg (wanted_of (j := 12) (t := 25) (b := false) rfl rfl f25) hsz16 hde16 27 rfl (by decide) fun K hK => ?_
      have hcb := HB.out _ Hb2.out
      obtain ⟨hcb0, hcb1, _⟩ := hcb
      go_simp
      refine hK _ _ fun a17 hsz17 hde17 f27 hk => ?_
      clear hK K
      replace f0 := (hk 0 (by decide)).trans f0
      replace f1 := (hk 1 (by decide)).trans f1
      replace f5 := (hk 5 (by decide)).trans f5
      replace f6 := (hk 6 (by decide)).trans f6
      replace f25 := (hk 25 (by decide)).trans f25
      replace f27 : a17.tmps[27]?.getD undef = .int .i64 r := f27
      clear hk hsz16 hde16 f26
      clear hcb0 hcb1
      refine wpList_nextg (wanted_of (j := 12) (t := 25) (b := false) rfl rfl f25) hsz17 hde17 28 rfl (by decide) fun K hK => ?_
      go_simp
      refine hK _ _ fun a18 hsz18 hde18 f28 hk => ?_
      clear hK K
      replace f0 := (hk 0 (by decide)).trans f0
      replace f1 := (hk 1 (by decide)).trans f1
      replace f5 := (hk 5 (by decide)).trans f5
      replace f6 := (hk 6 (by decide)).trans f6
      replace f25 := (hk 25 (by decide)).trans f25
      clear hk hsz17 hde17 f27
      replace f28 : a18.tmps[28]?.getD undef = .bool false := f28.trans (by first | rfl | (congr 1; first | exact decide_eq_true (by omega) | exact decide_eq_false (by omega) | (simp; omega)))
      refine wpList_next rfl hsz18 hde18 29 rfl (by decide) fun K hK => ?_
      go_simp
      refine hK _ _ fun a19 hsz19 hde19 f29 hk => ?_
      clear hK K
      replace f0 := (hk 0 (by decide)).trans f0
      replace f1 := (hk 1 (by decide)).trans f1
      replace f5 := (hk 5 (by decide)).trans f5
      replace f6 := (hk 6 (by decide)).trans f6
      replace f29 : a19.tmps[29]?.getD undef = .bool false := f29
      clear hk hsz18 hde18 f25 f28
      refine wpList_next rfl hsz19 hde19 30 rfl (by decide) fun K hK => ?_
      go_simp
      refine hK _ _ fun a20 hsz20 hde20 f30 hk => ?_
      clear hK K
      replace f0 := (hk 0 (by decide)).trans f0
      replace f1 := (hk 1 (by decide)).trans f1
      replace f5 := (hk 5 (by decide)).trans f5
      replace f6 := (hk 6 (by decide)).trans f6
      replace f30 : a20.tmps[30]?.getD undef = .bool false := f30
      clear hk hsz19 hde19 f29
      refine wpList_nextg (wanted_of (j := 17) (t := 30) (b := false) rfl rfl f30) hsz20 hde20 31 rfl (by decide) fun K hK => ?_
      go_simp
      refine hK _ _ fun a21 hsz21 hde21 f31 hk => ?_
      clear hK K
      replace f0 := (hk 0 (by decide)).trans f0
      replace f1 := (hk 1 (by decide)).trans f1
      replace f5 := (hk 5 (by decide)).trans f5
      replace f6 := (hk 6 (by decide)).trans f6
      replace f30 := (hk 30 (by decide)).trans f30
      replace f31 : a21.tmps[31]?.getD undef = .pointer (some ⟨w.heap.size, 0, none⟩) := f31
      clear hk hsz20 hde20
      refine wpList_nextg (wanted_of (j := 17) (t := 30) (b := false) rfl rfl f30) hsz21 hde21 32 rfl (by decide) fun K hK => ?_
      have hcb := HB.out _ Hb2.out
      obtain ⟨hcb0, hcb1, _⟩ := hcb
      go_simp
      refine hK _ _ fun a22 hsz22 hde22 f32 hk => ?_
      clear hK K
      replace f0 := (hk 0 (by decide)).trans f0
      replace f1 := (hk 1 (by decide)).trans f1
      replace f5 := (hk 5 (by decide)).trans f5
      replace f6 := (hk 6 (by decide)).trans f6
      replace f30 := (hk 30 (by decide)).trans f30
      replace f32 : a22.tmps[32]?.getD undef = .int .i64 r := f32
      clear hk hsz21 hde21 f31
      clear hcb0 hcb1
      refine wpList_nextg (wanted_of (j := 17) (t := 30) (b := false) rfl rfl f30) hsz22 hde22 33 rfl (by decide) fun K hK => ?_
      go_simp
      refine hK _ _ fun a23 hsz23 hde23 f33 hk => ?_
      clear hK K
      replace f0 := (hk 0 (by decide)).trans f0
      replace f1 := (hk 1 (by decide)).trans f1
      replace f5 := (hk 5 (by decide)).trans f5
      replace f6 := (hk 6 (by decide)).trans f6
      replace f30 := (hk 30 (by decide)).trans f30
      clear hk hsz22 hde22 f32
      replace f33 : a23.tmps[33]?.getD undef = .bool false := f33.trans (by first | rfl | (congr 1; first | exact decide_eq_true (by omega) | exact decide_eq_false (by omega) | (simp; omega)))
      refine wpList_next rfl hsz23 hde23 34 rfl (by decide) fun K hK => ?_
      go_simp
      refine hK _ _ fun a24 hsz24 hde24 f34 hk => ?_
      clear hK K
      replace f0 := (hk 0 (by decide)).trans f0
      replace f1 := (hk 1 (by decide)).trans f1
      replace f5 := (hk 5 (by decide)).trans f5
      replace f6 := (hk 6 (by decide)).trans f6
      replace f34 : a24.tmps[34]?.getD undef = .bool false := f34
      clear hk hsz23 hde23 f30 f33
      refine wpList_next rfl hsz24 hde24 35 rfl (by decide) fun K hK => ?_
      go_simp
      refine hK _ _ fun a25 hsz25 hde25 f35 hk => ?_
      clear hK K
      replace f0 := (hk 0 (by decide)).trans f0
      replace f1 := (hk 1 (by decide)).trans f1
      replace f5 := (hk 5 (by decide)).trans f5
      replace f6 := (hk 6 (by decide)).trans f6
      replace f35 : a25.tmps[35]?.getD undef = .bool false := f35
      clear hk hsz24 hde24 f34
      refine wpList_nextg (wanted_of (j := 22) (t := 35) (b := false) rfl rfl f35) hsz25 hde25 36 rfl (by decide) fun K hK => ?_
      go_simp
      refine hK _ _ fun a26 hsz26 hde26 f36 hk => ?_
      clear hK K
      replace f0 := (hk 0 (by decide)).trans f0
      replace f1 := (hk 1 (by decide)).trans f1
      replace f5 := (hk 5 (by decide)).trans f5
      replace f6 := (hk 6 (by decide)).trans f6
      replace f35 := (hk 35 (by decide)).trans f35
      replace f36 : a26.tmps[36]?.getD undef = .pointer (some ⟨w.heap.size, 1, none⟩) := f36
      clear hk hsz25 hde25
      refine wpList_nextg (wanted_of (j := 22) (t := 35) (b := false) rfl rfl f35) hsz26 hde26 37 rfl (by decide) fun K hK => ?_
      have hcb := HB.out _ Hb2.out
      obtain ⟨hcb0, hcb1, _⟩ := hcb
      go_simp
      refine hK _ _ fun a27 hsz27 hde27 f37 hk => ?_
      clear hK K
      replace f0 := (hk 0 (by decide)).trans f0
      replace f1 := (hk 1 (by decide)).trans f1
      replace f5 := (hk 5 (by decide)).trans f5
      replace f6 := (hk 6 (by decide)).trans f6
      replace f35 := (hk 35 (by decide)).trans f35
      replace f37 : a27.tmps[37]?.getD undef = .int .u32 (s : Int) := f37
      clear hk hsz26 hde26 f36
      clear hcb0 hcb1
      refine wpList_nextg (wanted_of (j := 22) (t := 35) (b := false) rfl rfl f35) hsz27 hde27 38 rfl (by decide) fun K hK => ?_
      go_simp
      refine hK _ _ fun a28 hsz28 hde28 f38 hk => ?_
      clear hK K
      replace f0 := (hk 0 (by decide)).trans f0
      replace f1 := (hk 1 (by decide)).trans f1
      replace f5 := (hk 5 (by decide)).trans f5
      replace f6 := (hk 6 (by decide)).trans f6
      replace f35 := (hk 35 (by decide)).trans f35
      clear hk hsz27 hde27 f37
      replace f38 : a28.tmps[38]?.getD undef = .bool true := f38.trans (by first | rfl | (congr 1; first | exact decide_eq_true (by omega) | exact decide_eq_false (by omega) | (simp; omega)))
      refine wpList_next rfl hsz28 hde28 39 rfl (by decide) fun K hK => ?_
      go_simp
      refine hK _ _ fun a29 hsz29 hde29 f39 hk => ?_
      clear hK K
      replace f0 := (hk 0 (by decide)).trans f0
      replace f1 := (hk 1 (by decide)).trans f1
      replace f5 := (hk 5 (by decide)).trans f5
      replace f6 := (hk 6 (by decide)).trans f6
      replace f39 : a29.tmps[39]?.getD undef = .bool true := f39
      clear hk hsz28 hde28 f35 f38
      refine wpList_nil ?_
      refine then_go ?_
      repeat with_reducible refine wp_seq ?_
      refine wp_cond_true (eval_at f39) ?_
      clear f39
      repeat with_reducible refine wp_seq ?_
      refine wp_region_lit ?_
      refine wpList_next rfl hsz29 hde29 40 rfl (by decide) fun K hK => ?_
      go_simp
      refine (Hl.out _ (Hp.out.grow Hb2.out)).mono ?_
      rintro e3 w3 ⟨rfl, hb3⟩
      go_simp
      refine hK _ _ fun a30 hsz30 hde30 f40 hk => ?_
      clear hK K
      replace f0 := (hk 0 (by decide)).trans f0
      replace f1 := (hk 1 (by decide)).trans f1
      replace f5 := (hk 5 (by decide)).trans f5
      replace f6 := (hk 6 (by decide)).trans f6
      replace f40 : a30.tmps[40]?.getD undef = .bool true := f40
      clear hk hsz29 hde29
      refine wpList_next rfl hsz30 hde30 6 rfl (by decide) fun K hK => ?_
      go_simp
      refine hK _ _ fun a31 hsz31 hde31 f6 hk => ?_
      clear hK K
      replace f0 := (hk 0 (by decide)).trans f0
      replace f1 := (hk 1 (by decide)).trans f1
      replace f5 := (hk 5 (by decide)).trans f5
      replace f6 : a31.tmps[6]?.getD undef = .bool true := f6
      clear hk hsz30 hde30 f40
      refine wpList_nil ?_
      refine then_go ?_
      refine wp_ret ?_
      refine (ret_tmp (R := fun e2 w2 => e2 = .returned (.bool true) ∧ Below w.heap.size w w2) Tryd.results9 hde31 f6 ?_)
      exact ⟨rfl, below_call (below_call Hbel.out Hb2.out) hb3⟩
    refine wpList_nextg (wanted_of (j := 7) (t := 20) (b := false) rfl rfl f20) hsz10 hde10 21 rfl (by decide) fun K hK => ?_
    go_simp
    refine hK _ _ fun a11 hsz11 hde11 f21 hk => ?_
    clear hK K
    replace f0 := (hk 0 (by decide)).trans f0
    replace f1 := (hk 1 (by decide)).trans f1
    replace f5 := (hk 5 (by decide)).trans f5
    replace f6 := (hk 6 (by decide)).trans f6
    replace f20 := (hk 20 (by decide)).trans f20
    replace f21 : a11.tmps[21]?.getD undef = .slice A n cc := f21
    clear hk hsz10 hde10
    refine wpList_nextg (wanted_of (j := 7) (t := 20) (b := false) rfl rfl f20) hsz11 hde11 22 rfl (by decide) fun K hK => ?_
    go_simp
    refine hK _ _ fun a12 hsz12 hde12 f22 hk => ?_
    clear hK K
    replace f0 := (hk 0 (by decide)).trans f0
    replace f1 := (hk 1 (by decide)).trans f1
    replace f5 := (hk 5 (by decide)).trans f5
    replace f6 := (hk 6 (by decide)).trans f6
    replace f20 := (hk 20 (by decide)).trans f20
    replace f22 : a12.tmps[22]?.getD undef = .int .i64 (n : Int) := f22
    clear hk hsz11 hde11 f21
    refine wpList_nextg (wanted_of (j := 7) (t := 20) (b := false) rfl rfl f20) hsz12 hde12 23 rfl (by decide) fun K hK => ?_
    go_simp
    refine hK _ _ fun a13 hsz13 hde13 f23 hk => ?_
    clear hK K
    replace f0 := (hk 0 (by decide)).trans f0
    replace f1 := (hk 1 (by decide)).trans f1
    replace f5 := (hk 5 (by decide)).trans f5
    replace f6 := (hk 6 (by decide)).trans f6
    replace f20 := (hk 20 (by decide)).trans f20
    clear hk hsz12 hde12 f22
    replace f23 : a13.tmps[23]?.getD undef = .bool false := f23.trans (by first | rfl | (congr 1; first | exact decide_eq_true (by omega) | exact decide_eq_false (by omega) | (simp; omega)))
    refine wpList_next rfl hsz13 hde13 24 rfl (by decide) fun K hK => ?_
    go_simp
    refine hK _ _ fun a14 hsz14 hde14 f24 hk => ?_
    clear hK K
    replace f0 := (hk 0 (by decide)).trans f0
    replace f1 := (hk 1 (by decide)).trans f1
    replace f5 := (hk 5 (by decide)).trans f5
    replace f6 := (hk 6 (by decide)).trans f6
    replace f24 : a14.tmps[24]?.getD undef = .bool false := f24
    clear hk hsz13 hde13 f20 f23
    refine wpList_next rfl hsz14 hde14 25 rfl (by decide) fun K hK => ?_
    go_simp
    refine hK _ _ fun a15 hsz15 hde15 f25 hk => ?_
    clear hK K
    replace f0 := (hk 0 (by decide)).trans f0
    replace f1 := (hk 1 (by decide)).trans f1
    replace f5 := (hk 5 (by decide)).trans f5
    replace f6 := (hk 6 (by decide)).trans f6
    replace f25 : a15.tmps[25]?.getD undef = .bool false := f25
    clear hk hsz14 hde14 f24
    refine wpList_nextg (wanted_of (j := 12) (t := 25) (b := false) rfl rfl f25) hsz15 hde15 26 rfl (by decide) fun K hK => ?_
    go_simp
    refine hK _ _ fun a16 hsz16 hde16 f26 hk => ?_
    clear hK K
    replace f0 := (hk 0 (by decide)).trans f0
    replace f1 := (hk 1 (by decide)).trans f1
    replace f5 := (hk 5 (by decide)).trans f5
    replace f6 := (hk 6 (by decide)).trans f6
    replace f25 := (hk 25 (by decide)).trans f25
    replace f26 : a16.tmps[26]?.getD undef = .pointer (some ⟨w.heap.size, 0, none⟩) := f26
    clear hk hsz15 hde15
    refine wpList_nextg (wanted_of (j := 12) (t := 25) (b := false) rfl rfl f25) hsz16 hde16 27 rfl (by decide) fun K hK => ?_
    have hcb := HB.out _ Hb2.out
    obtain ⟨hcb0, hcb1, _⟩ := hcb
    go_simp
    refine hK _ _ fun a17 hsz17 hde17 f27 hk => ?_
    clear hK K
    replace f0 := (hk 0 (by decide)).trans f0
    replace f1 := (hk 1 (by decide)).trans f1
    replace f5 := (hk 5 (by decide)).trans f5
    replace f6 := (hk 6 (by decide)).trans f6
    replace f25 := (hk 25 (by decide)).trans f25
    replace f27 : a17.tmps[27]?.getD undef = .int .i64 r := f27
    clear hk hsz16 hde16 f26
    clear hcb0 hcb1
    refine wpList_nextg (wanted_of (j := 12) (t := 25) (b := false) rfl rfl f25) hsz17 hde17 28 rfl (by decide) fun K hK => ?_
    go_simp
    refine hK _ _ fun a18 hsz18 hde18 f28 hk => ?_
    clear hK K
    replace f0 := (hk 0 (by decide)).trans f0
    replace f1 := (hk 1 (by decide)).trans f1
    replace f5 := (hk 5 (by decide)).trans f5
    replace f6 := (hk 6 (by decide)).trans f6
    replace f25 := (hk 25 (by decide)).trans f25
    clear hk hsz17 hde17 f27
    replace f28 : a18.tmps[28]?.getD undef = .bool false := f28.trans (by first | rfl | (congr 1; first | exact decide_eq_true (by omega) | exact decide_eq_false (by omega) | (simp; omega)))
    refine wpList_next rfl hsz18 hde18 29 rfl (by decide) fun K hK => ?_
    go_simp
    refine hK _ _ fun a19 hsz19 hde19 f29 hk => ?_
    clear hK K
    replace f0 := (hk 0 (by decide)).trans f0
    replace f1 := (hk 1 (by decide)).trans f1
    replace f5 := (hk 5 (by decide)).trans f5
    replace f6 := (hk 6 (by decide)).trans f6
    replace f29 : a19.tmps[29]?.getD undef = .bool false := f29
    clear hk hsz18 hde18 f25 f28
    refine wpList_next rfl hsz19 hde19 30 rfl (by decide) fun K hK => ?_
    go_simp
    refine hK _ _ fun a20 hsz20 hde20 f30 hk => ?_
    clear hK K
    replace f0 := (hk 0 (by decide)).trans f0
    replace f1 := (hk 1 (by decide)).trans f1
    replace f5 := (hk 5 (by decide)).trans f5
    replace f6 := (hk 6 (by decide)).trans f6
    replace f30 : a20.tmps[30]?.getD undef = .bool false := f30
    clear hk hsz19 hde19 f29
    refine wpList_nextg (wanted_of (j := 17) (t := 30) (b := false) rfl rfl f30) hsz20 hde20 31 rfl (by decide) fun K hK => ?_
    go_simp
    refine hK _ _ fun a21 hsz21 hde21 f31 hk => ?_
    clear hK K
    replace f0 := (hk 0 (by decide)).trans f0
    replace f1 := (hk 1 (by decide)).trans f1
    replace f5 := (hk 5 (by decide)).trans f5
    replace f6 := (hk 6 (by decide)).trans f6
    replace f30 := (hk 30 (by decide)).trans f30
    replace f31 : a21.tmps[31]?.getD undef = .pointer (some ⟨w.heap.size, 0, none⟩) := f31
    clear hk hsz20 hde20
    refine wpList_nextg (wanted_of (j := 17) (t := 30) (b := false) rfl rfl f30) hsz21 hde21 32 rfl (by decide) fun K hK => ?_
    have hcb := HB.out _ Hb2.out
    obtain ⟨hcb0, hcb1, _⟩ := hcb
    go_simp
    refine hK _ _ fun a22 hsz22 hde22 f32 hk => ?_
    clear hK K
    replace f0 := (hk 0 (by decide)).trans f0
    replace f1 := (hk 1 (by decide)).trans f1
    replace f5 := (hk 5 (by decide)).trans f5
    replace f6 := (hk 6 (by decide)).trans f6
    replace f30 := (hk 30 (by decide)).trans f30
    replace f32 : a22.tmps[32]?.getD undef = .int .i64 r := f32
    clear hk hsz21 hde21 f31
    clear hcb0 hcb1
    refine wpList_nextg (wanted_of (j := 17) (t := 30) (b := false) rfl rfl f30) hsz22 hde22 33 rfl (by decide) fun K hK => ?_
    go_simp
    refine hK _ _ fun a23 hsz23 hde23 f33 hk => ?_
    clear hK K
    replace f0 := (hk 0 (by decide)).trans f0
    replace f1 := (hk 1 (by decide)).trans f1
    replace f5 := (hk 5 (by decide)).trans f5
    replace f6 := (hk 6 (by decide)).trans f6
    replace f30 := (hk 30 (by decide)).trans f30
    clear hk hsz22 hde22 f32
    replace f33 : a23.tmps[33]?.getD undef = .bool false := f33.trans (by first | rfl | (congr 1; first | exact decide_eq_true (by omega) | exact decide_eq_false (by omega) | (simp; omega)))
    refine wpList_next rfl hsz23 hde23 34 rfl (by decide) fun K hK => ?_
    go_simp
    refine hK _ _ fun a24 hsz24 hde24 f34 hk => ?_
    clear hK K
    replace f0 := (hk 0 (by decide)).trans f0
    replace f1 := (hk 1 (by decide)).trans f1
    replace f5 := (hk 5 (by decide)).trans f5
    replace f6 := (hk 6 (by decide)).trans f6
    replace f34 : a24.tmps[34]?.getD undef = .bool false := f34
    clear hk hsz23 hde23 f30 f33
    refine wpList_next rfl hsz24 hde24 35 rfl (by decide) fun K hK => ?_
    go_simp
    refine hK _ _ fun a25 hsz25 hde25 f35 hk => ?_
    clear hK K
    replace f0 := (hk 0 (by decide)).trans f0
    replace f1 := (hk 1 (by decide)).trans f1
    replace f5 := (hk 5 (by decide)).trans f5
    replace f6 := (hk 6 (by decide)).trans f6
    replace f35 : a25.tmps[35]?.getD undef = .bool false := f35
    clear hk hsz24 hde24 f34
    refine wpList_nextg (wanted_of (j := 22) (t := 35) (b := false) rfl rfl f35) hsz25 hde25 36 rfl (by decide) fun K hK => ?_
    go_simp
    refine hK _ _ fun a26 hsz26 hde26 f36 hk => ?_
    clear hK K
    replace f0 := (hk 0 (by decide)).trans f0
    replace f1 := (hk 1 (by decide)).trans f1
    replace f5 := (hk 5 (by decide)).trans f5
    replace f6 := (hk 6 (by decide)).trans f6
    replace f35 := (hk 35 (by decide)).trans f35
    replace f36 : a26.tmps[36]?.getD undef = .pointer (some ⟨w.heap.size, 1, none⟩) := f36
    clear hk hsz25 hde25
    refine wpList_nextg (wanted_of (j := 22) (t := 35) (b := false) rfl rfl f35) hsz26 hde26 37 rfl (by decide) fun K hK => ?_
    have hcb := HB.out _ Hb2.out
    obtain ⟨hcb0, hcb1, _⟩ := hcb
    go_simp
    refine hK _ _ fun a27 hsz27 hde27 f37 hk => ?_
    clear hK K
    replace f0 := (hk 0 (by decide)).trans f0
    replace f1 := (hk 1 (by decide)).trans f1
    replace f5 := (hk 5 (by decide)).trans f5
    replace f6 := (hk 6 (by decide)).trans f6
    replace f35 := (hk 35 (by decide)).trans f35
    replace f37 : a27.tmps[37]?.getD undef = .int .u32 (s : Int) := f37
    clear hk hsz26 hde26 f36
    clear hcb0 hcb1
    refine wpList_nextg (wanted_of (j := 22) (t := 35) (b := false) rfl rfl f35) hsz27 hde27 38 rfl (by decide) fun K hK => ?_
    go_simp
    refine hK _ _ fun a28 hsz28 hde28 f38 hk => ?_
    clear hK K
    replace f0 := (hk 0 (by decide)).trans f0
    replace f1 := (hk 1 (by decide)).trans f1
    replace f5 := (hk 5 (by decide)).trans f5
    replace f6 := (hk 6 (by decide)).trans f6
    replace f35 := (hk 35 (by decide)).trans f35
    clear hk hsz27 hde27 f37
    replace f38 : a28.tmps[38]?.getD undef = .bool false := f38.trans (by first | rfl | (congr 1; first | exact decide_eq_true (by omega) | exact decide_eq_false (by omega) | (simp; omega)))
    refine wpList_next rfl hsz28 hde28 39 rfl (by decide) fun K hK => ?_
    go_simp
    refine hK _ _ fun a29 hsz29 hde29 f39 hk => ?_
    clear hK K
    replace f0 := (hk 0 (by decide)).trans f0
    replace f1 := (hk 1 (by decide)).trans f1
    replace f5 := (hk 5 (by decide)).trans f5
    replace f6 := (hk 6 (by decide)).trans f6
    replace f39 : a29.tmps[39]?.getD undef = .bool false := f39
    clear hk hsz28 hde28 f35 f38
    refine wpList_nil ?_
    refine then_go ?_
    repeat with_reducible refine wp_seq ?_
    refine wp_cond_false (eval_at f39) ?_
    refine wp_skip ?_
    refine then_go ?_
    clear f39
    repeat with_reducible refine wp_seq ?_
    obtain ⟨hs, hl, hd⟩ := Hq.out rfl
    have hd2 : ∀ x ∈ L, x.data.length ≤ 1000 := fun x hx => Nat.le_trans (hd x hx) (by omega)
    have hn40 : n ≤ 40 := by rw [Hn.out]; exact hl
    have hn0 : 0 < n := by omega
    have Hs := Lib.hid hs
    have Hd2 := Lib.hid hd2
    have hrs : 1 ≤ r ∧ r ≤ 8 ∧ 1 ≤ s := ⟨by omega, by omega, by omega⟩
    have Hrs := Lib.hid hrs
    clear hs hl hd hd2 hrs h2 h3 h4 Hq
    have hnz : ((n : Int) = 0) = False := by rw [eq_iff_iff]; exact ⟨fun h => by omega, fun h => h.elim⟩
    have hwn : IntKind.u64.wrap (n : Int) = (n : Int) := by rw [IntKind.wrap_u64]; omega
    refine wp_region_lit ?_
    refine wpList_next rfl hsz29 hde29 41 rfl (by decide) fun K hK => ?_
    go_simp
    refine hK _ _ fun a30 hsz30 hde30 f41 hk => ?_
    clear hK K
    replace f0 := (hk 0 (by decide)).trans f0
    replace f1 := (hk 1 (by decide)).trans f1
    replace f5 := (hk 5 (by decide)).trans f5
    replace f6 := (hk 6 (by decide)).trans f6
    replace f41 : a30.tmps[41]?.getD undef = .int .i64 at_ := f41
    clear hk hsz29 hde29
    refine wpList_next rfl hsz30 hde30 42 rfl (by decide) fun K hK => ?_
    go_simp
    refine hK _ _ fun a31 hsz31 hde31 f42 hk => ?_
    clear hK K
    replace f0 := (hk 0 (by decide)).trans f0
    replace f1 := (hk 1 (by decide)).trans f1
    replace f5 := (hk 5 (by decide)).trans f5
    replace f6 := (hk 6 (by decide)).trans f6
    clear hk hsz30 hde30 f41
    refine wpList_next rfl hsz31 hde31 43 rfl (by decide) fun K hK => ?_
    go_simp
    refine hK _ _ fun a32 hsz32 hde32 f43 hk => ?_
    clear hK K
    replace f0 := (hk 0 (by decide)).trans f0
    replace f1 := (hk 1 (by decide)).trans f1
    replace f5 := (hk 5 (by decide)).trans f5
    replace f6 := (hk 6 (by decide)).trans f6
    replace f42 := (hk 42 (by decide)).trans f42
    replace f43 : a32.tmps[43]?.getD undef = .slice A n cc := f43
    clear hk hsz31 hde31
    refine wpList_next rfl hsz32 hde32 44 rfl (by decide) fun K hK => ?_
    go_simp
    refine hK _ _ fun a33 hsz33 hde33 f44 hk => ?_
    clear hK K
    replace f0 := (hk 0 (by decide)).trans f0
    replace f1 := (hk 1 (by decide)).trans f1
    replace f5 := (hk 5 (by decide)).trans f5
    replace f6 := (hk 6 (by decide)).trans f6
    replace f42 := (hk 42 (by decide)).trans f42
    replace f44 : a33.tmps[44]?.getD undef = .int .i64 (n : Int) := f44
    clear hk hsz32 hde32 f43
    refine wpList_next rfl hsz33 hde33 45 rfl (by decide) fun K hK => ?_
    go_simp
    refine hK _ _ fun a34 hsz34 hde34 f45 hk => ?_
    clear hK K
    replace f0 := (hk 0 (by decide)).trans f0
    replace f1 := (hk 1 (by decide)).trans f1
    replace f5 := (hk 5 (by decide)).trans f5
    replace f6 := (hk 6 (by decide)).trans f6
    replace f42 := (hk 42 (by decide)).trans f42
    clear hk hsz33 hde33 f44
    replace f45 : a34.tmps[45]?.getD undef = .int .u64 (n : Int) := f45.trans (by first | rfl | (congr 1))
    refine wpList_next rfl hsz34 hde34 46 rfl (by decide) fun K hK => ?_
    go_simp
    refine hK _ _ fun a35 hsz35 hde35 f46 hk => ?_
    clear hK K
    replace f0 := (hk 0 (by decide)).trans f0
    replace f1 := (hk 1 (by decide)).trans f1
    replace f5 := (hk 5 (by decide)).trans f5
    replace f6 := (hk 6 (by decide)).trans f6
    clear hk hsz34 hde34 f42 f45
    refine wpList_next rfl hsz35 hde35 47 rfl (by decide) fun K hK => ?_
    go_simp
    refine hK _ _ fun a36 hsz36 hde36 f47 hk => ?_
    clear hK K
    replace f0 := (hk 0 (by decide)).trans f0
    replace f1 := (hk 1 (by decide)).trans f1
    replace f5 := (hk 5 (by decide)).trans f5
    replace f6 := (hk 6 (by decide)).trans f6
    clear hk hsz35 hde35 f46
    refine wpList_next rfl hsz36 hde36 7 rfl (by decide) fun K hK => ?_
    go_simp
    refine hK _ _ fun a37 hsz37 hde37 f7 hk => ?_
    clear hK K
    replace f0 := (hk 0 (by decide)).trans f0
    replace f1 := (hk 1 (by decide)).trans f1
    replace f5 := (hk 5 (by decide)).trans f5
    replace f6 := (hk 6 (by decide)).trans f6
    clear hk hsz36 hde36 f47
    refine wpList_nil ?_
    obtain ⟨i, hin, hie⟩ := at_mod at_ n hn0 (by omega)
    rw [hie] at f7
    clear hie hnz hwn
    refine then_go ?_
    repeat with_reducible refine wp_seq ?_
    have hil : i < L.length := by rw [← Hn.out]; exact hin
    obtain ⟨b, off, rfl, _, _, hel⟩ := Hel.out (by intro e; subst e; simp at hil)
    have Hrow := Lib.hid (show ∀ j (hj : j < L.length) z, Below wb.heap.size wb z → z.rangeAt b (off + j * 15) (entC L[j]).toList from fun j hj z hz => range_ext (hel j hj).1 hz)
    obtain ⟨X, hX⟩ : ∃ X, X = L[i] := ⟨_, rfl⟩
    have HX := Lib.hid hX
    obtain ⟨IL, hIL⟩ : ∃ I, I = idC X.rep X.seq := ⟨_, rfl⟩
    have HinfI := Lib.hid (show (Tryd.prog.info? 25).map (·.size) = some IL.toList.length by rw [hIL]; exact id_info)
    have HRI := Lib.hid (show ∀ z, Below wb.heap.size wb z → z.rangeAt b (off + i * 15) IL.toList from fun z hz => by rw [hIL, hX]; exact (entCells (Hrow.out i hil z hz)).id)
    obtain ⟨M, hM⟩ : ∃ M, M = killE L X.rep X.seq r s := ⟨_, rfl⟩
    have HM := Lib.hid hM
    have hset : M = L.set i (diedE L[i] r s) := by rw [hM, hX]; exact kill_set Hs.out r s hil ⟨rfl, rfl⟩
    have hMl : M.length = n := by rw [hM, kill_length, Hn.out]
    have HMl := Lib.hid hMl
    have HMi := Lib.hid (show ∀ h : i < M.length, M[i] = diedE X r s from fun h => by subst hset; rw [List.getElem_set_self, hX])
    have HMk := Lib.hid (show ∀ k (h : k < M.length) (h2 : k < L.length), k ≠ i → M[k] = L[k] from fun k h h2 hne => by subst hset; rw [List.getElem_set_ne (fun e => hne e.symm)])
    have hkl := fun z (hz : Below wb.heap.size wb z) => kill_any (fun _ => True) (.slice (some ⟨b, off, none⟩) n cc) L X.rep X.seq r s z (HL.out.grow hz) (by rw [← Hn.out]; omega) Hd2.out Hs.out Hs32.out
    rw [← hM, ← HIB.out, ← hIL] at hkl
    have Hkl := Lib.hid hkl
    have HMs := Lib.hid (show SortedE M by rw [hM]; exact sorted_kill Hs.out _ _ _ _)
    have HMd := Lib.hid (show ∀ x ∈ M, x.data.length ≤ 1000 by rw [hM]; exact kill_data Hd2.out)
    have HIL := Lib.hid hIL
    clear hel hX hIL hM hset hkl hMl
    refine wp_region_goodg (diG (.slice (some ⟨b, off, none⟩) n cc) (.pointer (some ⟨b, off + i * 15, none⟩)) i IL IB M) 125 (by kernel_rfl) (by kernel_rfl) (by kernel_rfl) (by kernel_rfl) hsz37.out ?_ ?_ ?_
    · intro t v7 x x' h hb hb'
      unfold diG at *
      split at h <;> first | exact h | exact h.grow hb' | (obtain ⟨b9, o9, e9, h9⟩ := h; exact ⟨b9, o9, e9, range_ext h9 hb'⟩)
    · intro i o hi a x hbx hsame hpre K hK
      have hlt : i < 9 := (Array.getElem?_eq_some_iff.1 hi).1
      rcases (show i = 0 ∨ i = 1 ∨ i = 2 ∨ i = 3 ∨ i = 4 ∨ i = 5 ∨ i = 6 ∨ i = 7 ∨ i = 8 by omega) with rfl | rfl | rfl | rfl | rfl | rfl | rfl | rfl | rfl
      all_goals (have ho := Option.some.inj hi; subst ho; clear hi hlt)
      · have q0 : a.tmps[0]?.getD undef = .slice (some ⟨b, off, none⟩) n cc := (hsame 0 (by decide +kernel)).trans f0
        refine step_plain rfl ?_
        have hk := Lib.hid (show ∀ v7 x', diG (.slice (some ⟨b, off, none⟩) n cc) (.pointer (some ⟨b, off + i * 15, none⟩)) i IL IB M 48 v7 x' → Below x.heap.size x x' → K (a.put (some 48) v7) x' from hK)
        have Hbx := Lib.hid hbx
        clear hsame hpre hK hbx
        go_simp
        exact hk.out _ _ rfl (Below.refl _ _)
      · have q0 : a.tmps[0]?.getD undef = .slice (some ⟨b, off, none⟩) n cc := (hsame 0 (by decide +kernel)).trans f0
        refine step_plain rfl ?_
        have hk := Lib.hid (show ∀ v7 x', diG (.slice (some ⟨b, off, none⟩) n cc) (.pointer (some ⟨b, off + i * 15, none⟩)) i IL IB M 49 v7 x' → Below x.heap.size x x' → K (a.put (some 49) v7) x' from hK)
        have Hbx := Lib.hid hbx
        clear hsame hpre hK hbx
        go_simp
        exact hk.out _ _ rfl (Below.refl _ _)
      · have q7 : a.tmps[7]?.getD undef = .int .i64 (i : Int) := (hsame 7 (by decide +kernel)).trans f7
        refine step_plain rfl ?_
        have hk := Lib.hid (show ∀ v7 x', diG (.slice (some ⟨b, off, none⟩) n cc) (.pointer (some ⟨b, off + i * 15, none⟩)) i IL IB M 50 v7 x' → Below x.heap.size x x' → K (a.put (some 50) v7) x' from hK)
        have Hbx := Lib.hid hbx
        clear hsame hpre hK hbx
        go_simp
        exact hk.out _ _ rfl (Below.refl _ _)
      · have q49 : a.tmps[49]?.getD undef = .slice (some ⟨b, off, none⟩) n cc := hpre ⟨1, .data⟩ (by simp) rfl (by decide)
        have q50 : a.tmps[50]?.getD undef = .int .i64 (i : Int) := hpre ⟨2, .data⟩ (by simp) rfl (by decide)
        refine step_plain rfl ?_
        have hk := Lib.hid (show ∀ v7 x', diG (.slice (some ⟨b, off, none⟩) n cc) (.pointer (some ⟨b, off + i * 15, none⟩)) i IL IB M 51 v7 x' → Below x.heap.size x x' → K (a.put (some 51) v7) x' from hK)
        have Hbx := Lib.hid hbx
        clear hsame hpre hK hbx
        go_simp
        exact hk.out _ _ rfl (Below.refl _ _)
      · have q51 : a.tmps[51]?.getD undef = .pointer (some ⟨b, off + i * 15, none⟩) := hpre ⟨3, .data⟩ (by simp) rfl (by decide)
        refine step_plain rfl ?_
        have hk := Lib.hid (show ∀ v7 x', diG (.slice (some ⟨b, off, none⟩) n cc) (.pointer (some ⟨b, off + i * 15, none⟩)) i IL IB M 52 v7 x' → Below x.heap.size x x' → K (a.put (some 52) v7) x' from hK)
        have Hbx := Lib.hid hbx
        clear hsame hpre hK hbx
        go_simp
        exact hk.out _ _ rfl (Below.refl _ _)
      · have q52 : a.tmps[52]?.getD undef = .pointer (some ⟨b, off + i * 15, none⟩) := hpre ⟨4, .data⟩ (by simp) rfl (by decide)
        refine step_plain rfl ?_
        have hk := Lib.hid (show ∀ v7 x', diG (.slice (some ⟨b, off, none⟩) n cc) (.pointer (some ⟨b, off + i * 15, none⟩)) i IL IB M 53 v7 x' → Below x.heap.size x x' → K (a.put (some 53) v7) x' from hK)
        have Hbx := Lib.hid hbx
        clear hsame hpre hK hbx
        refine wp_load_mid 25 (.tmp 52) rfl b (off + i * 15) (eval_at q52) IL.toList _ (HRI.out _ (below_call Hb2.out Hbx.out)) Tryd.underlying25 rfl HinfI.out ?_
        exact hk.out _ _ rfl (Below.refl _ _)
      · have q5 : a.tmps[5]?.getD undef = .pointer (some ⟨w.heap.size, 0, none⟩) := (hsame 5 (by decide +kernel)).trans f5
        refine step_plain rfl ?_
        have hk := Lib.hid (show ∀ v7 x', diG (.slice (some ⟨b, off, none⟩) n cc) (.pointer (some ⟨b, off + i * 15, none⟩)) i IL IB M 54 v7 x' → Below x.heap.size x x' → K (a.put (some 54) v7) x' from hK)
        have Hbx := Lib.hid hbx
        clear hsame hpre hK hbx
        refine wp_load_mid 25 (.tmp 5) rfl w.heap.size 0 (eval_at q5) IB.toList _ (HB.out _ (below_call Hb2.out Hbx.out)).2.2 Tryd.underlying25 rfl HinfB.out ?_
        exact hk.out _ _ rfl (Below.refl _ _)
      · have q48 : a.tmps[48]?.getD undef = .slice (some ⟨b, off, none⟩) n cc := hpre ⟨0, .data⟩ (by simp) rfl (by decide)
        have q53 : a.tmps[53]?.getD undef = .agg IL := hpre ⟨5, .data⟩ (by simp) rfl (by decide)
        have q54 : a.tmps[54]?.getD undef = .agg IB := hpre ⟨6, .data⟩ (by simp) rfl (by decide)
        refine step_plain rfl ?_
        have hk := Lib.hid (show ∀ v7 x', diG (.slice (some ⟨b, off, none⟩) n cc) (.pointer (some ⟨b, off + i * 15, none⟩)) i IL IB M 55 v7 x' → Below x.heap.size x x' → K (a.put (some 55) v7) x' from hK)
        have Hbx := Lib.hid hbx
        clear hsame hpre hK hbx
        go_simp
        refine (Hkl.out _ (below_call Hb2.out Hbx.out)).mono ?_
        rintro e7 w7 ⟨⟨u7, rfl, hown7⟩, hb7⟩
        go_simp
        exact hk.out _ _ (hown7.isL.weaken fun _ _ => trivial) hb7
      · have q55 : diG (.slice (some ⟨b, off, none⟩) n cc) (.pointer (some ⟨b, off + i * 15, none⟩)) i IL IB M 55 (a.tmps[55]?.getD undef) x := hpre ⟨7, .data⟩ (by simp) rfl (by decide)
        refine step_plain rfl ?_
        have hk := Lib.hid (show ∀ v7 x', diG (.slice (some ⟨b, off, none⟩) n cc) (.pointer (some ⟨b, off + i * 15, none⟩)) i IL IB M 8 v7 x' → Below x.heap.size x x' → K (a.put (some 8) v7) x' from hK)
        have Hbx := Lib.hid hbx
        clear hsame hpre hK hbx
        have q55b : IsL kEnt x (fun _ => True) (a.tmps[55]?.getD undef) M := q55
        clear q55
        go_simp
        exact hk.out _ _ q55b (Below.refl _ _)
    intro a38 x38 hbx hsame hG hsz38 hde38
    replace f0 := (hsame 0 (by decide +kernel)).trans f0
    replace f1 := (hsame 1 (by decide +kernel)).trans f1
    replace f5 := (hsame 5 (by decide +kernel)).trans f5
    replace f6 := (hsame 6 (by decide +kernel)).trans f6
    replace f7 := (hsame 7 (by decide +kernel)).trans f7
    obtain ⟨u8, f8, hu8⟩ : ∃ u, a38.tmps[8]?.getD undef = u ∧ IsL kEnt x38 (fun _ => True) u M := ⟨_, rfl, hG 8 (by decide)⟩
    have HM4 := Lib.hid hu8
    have Hb4 := Lib.hid (below_call Hb2.out hbx)
    clear hu8
    obtain ⟨wk, hwk⟩ : ∃ wk, wk = x38 := ⟨_, rfl⟩
    rw [← hwk] at HM4 Hb4 ⊢
    clear hwk
    have Hbx38 := Lib.hid hbx
    have hsz38h := Lib.hid hsz38
    have hde38h := Lib.hid (hde38.trans hde37.out)
    clear hsame hG hbx hsz38 hde38 hsz37 hde37
    refine then_go ?_
    repeat with_reducible refine wp_seq ?_
    clear f1
    obtain ⟨A8, c8, hu8, hc81, hc82, hE8⟩ := ent_at HM4.out
    subst hu8
    have hil8 : i < M.length := by rw [HMl.out]; exact hin
    obtain ⟨b8, off8, rfl, _, _, hel8⟩ := hE8 (by intro e; subst e; simp at hil8)
    have HrM := Lib.hid (show ∀ j (hj : j < M.length) z, Below wk.heap.size wk z → z.rangeAt b8 (off8 + j * 15) (entC M[j]).toList from fun j hj z hz => range_ext (hel8 j hj).1 hz)
    rw [HMl.out] at hc81 f8
    have hMi := HMi.out hil8
    obtain ⟨CM, hCM⟩ : ∃ C, C = entC M[i] := ⟨_, rfl⟩
    have HinfM := Lib.hid (show (Tryd.prog.info? 29).map (·.size) = some CM.toList.length by rw [hCM]; exact ent_info)
    have hal := fun z => ehead_any M[i] z
    have hrs := Hrs.out
    rw [show headE M[i] = false by rw [hMi]; exact died_head (repV_iff.2 ⟨hrs.1, hrs.2.1⟩) hrs.2.2, ← hCM] at hal
    have Hal := Lib.hid hal
    have HrMi := Lib.hid (show ∀ z, Below wk.heap.size wk z → z.rangeAt b8 (off8 + i * 15) CM.toList from fun z hz => by rw [hCM]; exact HrM.out i hil8 z hz)
    clear hE8 hel8 hMi hCM hal hrs hil8
    refine wp_region_lit ?_
    refine wpList_next rfl hsz38h hde38h 56 rfl (by decide) fun K hK => ?_
    go_simp
    refine hK _ _ fun a39 hsz39 hde39 f56 hk => ?_
    clear hK K
    replace f0 := (hk 0 (by decide)).trans f0
    replace f5 := (hk 5 (by decide)).trans f5
    replace f6 := (hk 6 (by decide)).trans f6
    replace f7 := (hk 7 (by decide)).trans f7
    replace f8 := (hk 8 (by decide)).trans f8
    replace f56 : a39.tmps[56]?.getD undef = .slice (some ⟨b8, off8, none⟩) n c8 := f56
    clear hk hsz38h hde38h
    refine wpList_next rfl hsz39 hde39 57 rfl (by decide) fun K hK => ?_
    go_simp
    refine hK _ _ fun a40 hsz40 hde40 f57 hk => ?_
    clear hK K
    replace f0 := (hk 0 (by decide)).trans f0
    replace f5 := (hk 5 (by decide)).trans f5
    replace f6 := (hk 6 (by decide)).trans f6
    replace f7 := (hk 7 (by decide)).trans f7
    replace f8 := (hk 8 (by decide)).trans f8
    replace f57 : a40.tmps[57]?.getD undef = .int .i64 (n : Int) := f57
    clear hk hsz39 hde39 f56
    refine wpList_next rfl hsz40 hde40 58 rfl (by decide) fun K hK => ?_
    go_simp
    refine hK _ _ fun a41 hsz41 hde41 f58 hk => ?_
    clear hK K
    replace f0 := (hk 0 (by decide)).trans f0
    replace f5 := (hk 5 (by decide)).trans f5
    replace f6 := (hk 6 (by decide)).trans f6
    replace f7 := (hk 7 (by decide)).trans f7
    replace f8 := (hk 8 (by decide)).trans f8
    replace f57 := (hk 57 (by decide)).trans f57
    replace f58 : a41.tmps[58]?.getD undef = .slice (some ⟨b, off, none⟩) n cc := f58
    clear hk hsz40 hde40
    refine wpList_next rfl hsz41 hde41 59 rfl (by decide) fun K hK => ?_
    go_simp
    refine hK _ _ fun a42 hsz42 hde42 f59 hk => ?_
    clear hK K
    replace f0 := (hk 0 (by decide)).trans f0
    replace f5 := (hk 5 (by decide)).trans f5
    replace f6 := (hk 6 (by decide)).trans f6
    replace f7 := (hk 7 (by decide)).trans f7
    replace f8 := (hk 8 (by decide)).trans f8
    replace f57 := (hk 57 (by decide)).trans f57
    replace f59 : a42.tmps[59]?.getD undef = .int .i64 (n : Int) := f59
    clear hk hsz41 hde41 f58
    refine wpList_next rfl hsz42 hde42 60 rfl (by decide) fun K hK => ?_
    go_simp
    refine hK _ _ fun a43 hsz43 hde43 f60 hk => ?_
    clear hK K
    replace f0 := (hk 0 (by decide)).trans f0
    replace f5 := (hk 5 (by decide)).trans f5
    replace f6 := (hk 6 (by decide)).trans f6
    replace f7 := (hk 7 (by decide)).trans f7
    replace f8 := (hk 8 (by decide)).trans f8
    clear hk hsz42 hde42 f57 f59
    replace f60 : a43.tmps[60]?.getD undef = .bool false := f60.trans (by first | rfl | simp)
    refine wpList_next rfl hsz43 hde43 61 rfl (by decide) fun K hK => ?_
    go_simp
    refine hK _ _ fun a44 hsz44 hde44 f61 hk => ?_
    clear hK K
    replace f0 := (hk 0 (by decide)).trans f0
    replace f5 := (hk 5 (by decide)).trans f5
    replace f6 := (hk 6 (by decide)).trans f6
    replace f7 := (hk 7 (by decide)).trans f7
    replace f8 := (hk 8 (by decide)).trans f8
    clear hk hsz43 hde43 f60
    replace f61 : a44.tmps[61]?.getD undef = .bool false := f61
    refine wpList_nextg (wanted_of (j := 5) (t := 61) (b := false) rfl rfl f61) hsz44 hde44 62 rfl (by decide) fun K hK => ?_
    go_simp
    refine hK _ _ fun a45 hsz45 hde45 f62 hk => ?_
    clear hK K
    replace f0 := (hk 0 (by decide)).trans f0
    replace f5 := (hk 5 (by decide)).trans f5
    replace f6 := (hk 6 (by decide)).trans f6
    replace f7 := (hk 7 (by decide)).trans f7
    replace f8 := (hk 8 (by decide)).trans f8
    replace f61 := (hk 61 (by decide)).trans f61
    replace f62 : a45.tmps[62]?.getD undef = .slice (some ⟨b8, off8, none⟩) n c8 := f62
    clear hk hsz44 hde44
    refine wpList_nextg (wanted_of (j := 5) (t := 61) (b := false) rfl rfl f61) hsz45 hde45 63 rfl (by decide) fun K hK => ?_
    go_simp
    refine hK _ _ fun a46 hsz46 hde46 f63 hk => ?_
    clear hK K
    replace f0 := (hk 0 (by decide)).trans f0
    replace f5 := (hk 5 (by decide)).trans f5
    replace f6 := (hk 6 (by decide)).trans f6
    replace f7 := (hk 7 (by decide)).trans f7
    replace f8 := (hk 8 (by decide)).trans f8
    replace f61 := (hk 61 (by decide)).trans f61
    replace f62 := (hk 62 (by decide)).trans f62
    replace f63 : a46.tmps[63]?.getD undef = .int .i64 (i : Int) := f63
    clear hk hsz45 hde45
    refine wpList_nextg (wanted_of (j := 5) (t := 61) (b := false) rfl rfl f61) hsz46 hde46 64 rfl (by decide) fun K hK => ?_
    go_simp
    refine hK _ _ fun a47 hsz47 hde47 f64 hk => ?_
    clear hK K
    replace f0 := (hk 0 (by decide)).trans f0
    replace f5 := (hk 5 (by decide)).trans f5
    replace f6 := (hk 6 (by decide)).trans f6
    replace f7 := (hk 7 (by decide)).trans f7
    replace f8 := (hk 8 (by decide)).trans f8
    replace f61 := (hk 61 (by decide)).trans f61
    replace f64 : a47.tmps[64]?.getD undef = .pointer (some ⟨b8, off8 + i * 15, none⟩) := f64
    clear hk hsz46 hde46 f62 f63
    refine wpList_nextg (wanted_of (j := 5) (t := 61) (b := false) rfl rfl f61) hsz47 hde47 65 rfl (by decide) fun K hK => ?_
    refine wp_load_mid 29 (.tmp 64) rfl b8 (off8 + i * 15) (eval_at f64) CM.toList _ (HrMi.out _ (Below.refl _ _)) Tryd.underlying29 rfl HinfM.out ?_
    refine hK _ _ fun a48 hsz48 hde48 f65 hk => ?_
    clear hK K
    replace f0 := (hk 0 (by decide)).trans f0
    replace f5 := (hk 5 (by decide)).trans f5
    replace f6 := (hk 6 (by decide)).trans f6
    replace f7 := (hk 7 (by decide)).trans f7
    replace f8 := (hk 8 (by decide)).trans f8
    replace f61 := (hk 61 (by decide)).trans f61
    replace f65 : a48.tmps[65]?.getD undef = .agg CM := f65
    clear hk hsz47 hde47 f64
    refine wpList_nextg (wanted_of (j := 5) (t := 61) (b := false) rfl rfl f61) hsz48 hde48 66 rfl (by decide) fun K hK => ?_
    go_simp
    refine (Hal.out _).mono ?_
    rintro e66 w66 ⟨rfl, hb66⟩
    go_simp
    refine hK _ _ fun a49 hsz49 hde49 f66 hk => ?_
    clear hK K
    replace f0 := (hk 0 (by decide)).trans f0
    replace f5 := (hk 5 (by decide)).trans f5
    replace f6 := (hk 6 (by decide)).trans f6
    replace f7 := (hk 7 (by decide)).trans f7
    replace f8 := (hk 8 (by decide)).trans f8
    replace f61 := (hk 61 (by decide)).trans f61
    replace f66 : a49.tmps[66]?.getD undef = .bool false := f66
    clear hk hsz48 hde48 f65
    refine wpList_next rfl hsz49 hde49 67 rfl (by decide) fun K hK => ?_
    go_simp
    refine hK _ _ fun a50 hsz50 hde50 f67 hk => ?_
    clear hK K
    replace f0 := (hk 0 (by decide)).trans f0
    replace f5 := (hk 5 (by decide)).trans f5
    replace f6 := (hk 6 (by decide)).trans f6
    replace f7 := (hk 7 (by decide)).trans f7
    replace f8 := (hk 8 (by decide)).trans f8
    replace f67 : a50.tmps[67]?.getD undef = .bool false := f67
    clear hk hsz49 hde49 f61 f66
    refine wpList_nil ?_
    refine then_go ?_
    repeat with_reducible refine wp_seq ?_
    refine wp_cond_false (eval_at f67) ?_
    refine wp_skip ?_
    refine then_go ?_
    clear f67
    repeat with_reducible refine wp_seq ?_
    have Hk6 := Lib.hid hb66
    have Hb6 := Lib.hid (below_call Hb4.out hb66)
    clear hb66 HrMi Hal HinfM
    refine wp_region_lit ?_
    refine wpList_next rfl hsz50 hde50 9 rfl (by decide) fun K hK => ?_
    go_simp
    refine hK _ _ fun a51 hsz51 hde51 f9 hk => ?_
    clear hK K
    replace f0 := (hk 0 (by decide)).trans f0
    replace f5 := (hk 5 (by decide)).trans f5
    replace f6 := (hk 6 (by decide)).trans f6
    replace f7 := (hk 7 (by decide)).trans f7
    replace f8 := (hk 8 (by decide)).trans f8
    replace f9 : a51.tmps[9]?.getD undef = .pointer (some ⟨w66.heap.size, 0, none⟩) := f9
    clear hk hsz50 hde50
    refine wpList_nil ?_
    obtain ⟨m, hmr⟩ : ∃ m : Nat, r = ((m + 1 : Nat) : Int) := ⟨(r - 1).toNat, by have := Hrs.out; omega⟩
    have hm8 : m < 8 := by have := Hrs.out; omega
    have hm8i : (m : Int) < 8 := by omega
    have Hmr := Lib.hid hmr
    obtain ⟨wz, hwz⟩ : ∃ wz, wz = w66.alloc (.cells #[.int .u32 0, .int .u32 0, .int .u32 0, .int .u32 0, .int .u32 0, .int .u32 0, .int .u32 0, .int .u32 0] 27) := ⟨_, rfl⟩
    have hbz : Blk wz w66.heap.size 27 (av zeroV) := by rw [hwz]; exact Blk.new _ _ _
    have Hbz := Lib.hid hbz
    have Hb7 := Lib.hid (show Below w66.heap.size w66 wz by rw [hwz]; exact (Below.refl _ _).alloc (Nat.le_refl _) _)
    have hzc : wz.cell? ⟨w66.heap.size, m, none⟩ = some (.int .u32 0) := by rw [hbz.cell, av_get zeroV hm8]; rfl
    have hzf : wz.frozen? ⟨w66.heap.size, m, none⟩ = false := hbz.frozen m
    have hcb0 : wz.cell? ⟨w.heap.size, 0, none⟩ = some (.int .i64 r) := (HB.out _ (below_call Hb6.out Hb7.out)).1
    have hcb1 : wz.cell? ⟨w.heap.size, 1, none⟩ = some (.int .u32 (s : Int)) := (HB.out _ (below_call Hb6.out Hb7.out)).2.1
    rw [← hwz]
    clear hwz hbz hmr
    refine then_go ?_
    repeat with_reducible refine wp_seq ?_
    refine wp_region_lit ?_
    refine wpList_next rfl hsz51 hde51 68 rfl (by decide) fun K hK => ?_
    go_simp
    refine hK _ _ fun a52 hsz52 hde52 f68 hk => ?_
    clear hK K
    replace f0 := (hk 0 (by decide)).trans f0
    replace f5 := (hk 5 (by decide)).trans f5
    replace f6 := (hk 6 (by decide)).trans f6
    replace f7 := (hk 7 (by decide)).trans f7
    replace f8 := (hk 8 (by decide)).trans f8
    replace f9 := (hk 9 (by decide)).trans f9
    replace f68 : a52.tmps[68]?.getD undef = .pointer (some ⟨w.heap.size, 0, none⟩) := f68
    clear hk hsz51 hde51
    refine wpList_next rfl hsz52 hde52 69 rfl (by decide) fun K hK => ?_
    go_simp
    refine hK _ _ fun a53 hsz53 hde53 f69 hk => ?_
    clear hK K
    replace f0 := (hk 0 (by decide)).trans f0
    replace f5 := (hk 5 (by decide)).trans f5
    replace f6 := (hk 6 (by decide)).trans f6
    replace f7 := (hk 7 (by decide)).trans f7
    replace f8 := (hk 8 (by decide)).trans f8
    replace f9 := (hk 9 (by decide)).trans f9
    replace f69 : a53.tmps[69]?.getD undef = .int .i64 r := f69
    clear hk hsz52 hde52 f68
    refine wpList_next rfl hsz53 hde53 70 rfl (by decide) fun K hK => ?_
    go_simp
    refine hK _ _ fun a54 hsz54 hde54 f70 hk => ?_
    clear hK K
    replace f0 := (hk 0 (by decide)).trans f0
    replace f5 := (hk 5 (by decide)).trans f5
    replace f6 := (hk 6 (by decide)).trans f6
    replace f7 := (hk 7 (by decide)).trans f7
    replace f8 := (hk 8 (by decide)).trans f8
    replace f9 := (hk 9 (by decide)).trans f9
    clear hk hsz53 hde53 f69
    replace f70 : a54.tmps[70]?.getD undef = .int .i64 (m : Int) := f70.trans (by rw [Hmr.out]; first | (congr 1; rw [IntKind.wrap_i64] <;> omega) | (congr 1; omega))
    refine wpList_next rfl hsz54 hde54 71 rfl (by decide) fun K hK => ?_
    go_simp
    refine hK _ _ fun a55 hsz55 hde55 f71 hk => ?_
    clear hK K
    replace f0 := (hk 0 (by decide)).trans f0
    replace f5 := (hk 5 (by decide)).trans f5
    replace f6 := (hk 6 (by decide)).trans f6
    replace f7 := (hk 7 (by decide)).trans f7
    replace f8 := (hk 8 (by decide)).trans f8
    replace f9 := (hk 9 (by decide)).trans f9
    replace f70 := (hk 70 (by decide)).trans f70
    replace f71 : a55.tmps[71]?.getD undef = .pointer (some ⟨w.heap.size, 1, none⟩) := f71
    clear hk hsz54 hde54
    refine wpList_next rfl hsz55 hde55 72 rfl (by decide) fun K hK => ?_
    go_simp
    refine hK _ _ fun a56 hsz56 hde56 f72 hk => ?_
    clear hK K
    replace f0 := (hk 0 (by decide)).trans f0
    replace f5 := (hk 5 (by decide)).trans f5
    replace f6 := (hk 6 (by decide)).trans f6
    replace f7 := (hk 7 (by decide)).trans f7
    replace f8 := (hk 8 (by decide)).trans f8
    replace f9 := (hk 9 (by decide)).trans f9
    replace f70 := (hk 70 (by decide)).trans f70
    replace f72 : a56.tmps[72]?.getD undef = .int .u32 (s : Int) := f72
    clear hk hsz55 hde55 f71
    refine wpList_next rfl hsz56 hde56 73 rfl (by decide) fun K hK => ?_
    go_simp
    refine hK _ _ fun a57 hsz57 hde57 f73 hk => ?_
    clear hK K
    replace f0 := (hk 0 (by decide)).trans f0
    replace f5 := (hk 5 (by decide)).trans f5
    replace f6 := (hk 6 (by decide)).trans f6
    replace f7 := (hk 7 (by decide)).trans f7
    replace f8 := (hk 8 (by decide)).trans f8
    replace f9 := (hk 9 (by decide)).trans f9
    replace f72 := (hk 72 (by decide)).trans f72
    replace f73 : a57.tmps[73]?.getD undef = .pointer (some ⟨w66.heap.size, m, none⟩) := f73
    clear hk hsz56 hde56 f70
    refine wpList_next0 rfl rfl fun K hK => ?_
    go_simp
    refine hK undef _ ?_
    clear hK K
    clear f72 f73
    refine wpList_nil ?_
    obtain ⟨BV, hBV⟩ : ∃ V, V = updV zeroV m s := ⟨_, rfl⟩
    have HBV := Lib.hid hBV
    have hbv := Hbz.out.set_ m (.int .u32 (s : Int))
    rw [av_set _ _ _ hm8, ← hBV] at hbv
    have Hb8 := Lib.hid (show Below w66.heap.size w66 (wz.setCell ⟨w66.heap.size, m, none⟩ (.int .u32 (s : Int))) from Hb7.out.setCell (Nat.le_refl _) _)
    obtain ⟨wy, hwy⟩ : ∃ wy, wy = wz.setCell ⟨w66.heap.size, m, none⟩ (.int .u32 (s : Int)) := ⟨_, rfl⟩
    rw [← hwy] at hbv Hb8 ⊢
    have Hbv := Lib.hid hbv
    clear hwy hbv hBV hzc hzf hcb0 hcb1 Hbz Hb7
    have Hky := Lib.hid (below_call Hk6.out Hb8.out)
    have Hby := Lib.hid (below_call Hb6.out Hb8.out)
    refine then_go ?_
    repeat with_reducible refine wp_seq ?_
    refine wp_region_lit ?_
    refine wpList_next rfl hsz57 hde57 74 rfl (by decide) fun K hK => ?_
    go_simp
    refine hK _ _ fun a58 hsz58 hde58 f74 hk => ?_
    clear hK K
    replace f0 := (hk 0 (by decide)).trans f0
    replace f5 := (hk 5 (by decide)).trans f5
    replace f6 := (hk 6 (by decide)).trans f6
    replace f7 := (hk 7 (by decide)).trans f7
    replace f8 := (hk 8 (by decide)).trans f8
    replace f9 := (hk 9 (by decide)).trans f9
    replace f74 : a58.tmps[74]?.getD undef = .slice (some ⟨b8, off8, none⟩) n c8 := f74
    clear hk hsz57 hde57
    refine wpList_next rfl hsz58 hde58 75 rfl (by decide) fun K hK => ?_
    go_simp
    refine hK _ _ fun a59 hsz59 hde59 f75 hk => ?_
    clear hK K
    replace f0 := (hk 0 (by decide)).trans f0
    replace f5 := (hk 5 (by decide)).trans f5
    replace f6 := (hk 6 (by decide)).trans f6
    replace f7 := (hk 7 (by decide)).trans f7
    replace f8 := (hk 8 (by decide)).trans f8
    replace f9 := (hk 9 (by decide)).trans f9
    replace f75 : a59.tmps[75]?.getD undef = .int .i64 (n : Int) := f75
    clear hk hsz58 hde58 f74
    refine wpList_next rfl hsz59 hde59 76 rfl (by decide) fun K hK => ?_
    go_simp
    refine hK _ _ fun a60 hsz60 hde60 f76 hk => ?_
    clear hK K
    replace f0 := (hk 0 (by decide)).trans f0
    replace f5 := (hk 5 (by decide)).trans f5
    replace f6 := (hk 6 (by decide)).trans f6
    replace f7 := (hk 7 (by decide)).trans f7
    replace f8 := (hk 8 (by decide)).trans f8
    replace f9 := (hk 9 (by decide)).trans f9
    replace f75 := (hk 75 (by decide)).trans f75
    replace f76 : a60.tmps[76]?.getD undef = .int .i64 ((0 : Nat) : Int) := f76
    clear hk hsz59 hde59
    refine wpList_nil ?_
    refine then_go ?_
    repeat with_reducible refine wp_seq ?_
    refine wp_block ?_
    refine wp_loop (fun a wr => ∃ k : Nat, k ≤ n ∧ Hid (a.tmps.size = 125) ∧ Hid (a.defers = []) ∧ a.tmps[76]?.getD undef = .int .i64 ((k : Nat) : Int) ∧ a.tmps[0]?.getD undef = .slice (some ⟨b, off, none⟩) n cc ∧ a.tmps[5]?.getD undef = .pointer (some ⟨w.heap.size, 0, none⟩) ∧ a.tmps[6]?.getD undef = .bool false ∧ a.tmps[7]?.getD undef = .int .i64 (i : Int) ∧ a.tmps[8]?.getD undef = .slice (some ⟨b8, off8, none⟩) n c8 ∧ a.tmps[9]?.getD undef = .pointer (some ⟨w66.heap.size, 0, none⟩) ∧ a.tmps[75]?.getD undef = .int .i64 (n : Int) ∧ Hid (Below wy.heap.size wy wr)) (fun a _ => n - (intOf (a.tmps[76]?.getD undef)).toNat) ?_ ?_
    · exact ⟨0, by omega, hsz60, hde60, f76, f0, f5, f6, f7, f8, f9, f75, Lib.hid (Below.refl _ _)⟩
    clear hsz60 hde60 f0 f5 f6 f7 f8 f9 f75 f76
    intro a61 wr hI
    obtain ⟨k, hk, hsz61, hde61, f76, f0, f5, f6, f7, f8, f9, f75, Hbw⟩ := hI
    have F76o := Lib.hid f76
    repeat with_reducible refine wp_seq ?_
    by_cases hlt : k < n
    · have hlt1 : decide ((k : Int) < (n : Int)) = true := decide_eq_true (by omega)
      refine wp_region_lit ?_
      refine wpList_next rfl hsz61 hde61 77 rfl (by decide) fun K hK => ?_
      go_simp
      refine hK _ _ fun a62 hsz62 hde62 f77 hk => ?_
      clear hK K
      replace f76 := (hk 76 (by decide)).trans f76
      replace f0 := (hk 0 (by decide)).trans f0
      replace f5 := (hk 5 (by decide)).trans f5
      replace f6 := (hk 6 (by decide)).trans f6
      replace f7 := (hk 7 (by decide)).trans f7
      replace f8 := (hk 8 (by decide)).trans f8
      replace f9 := (hk 9 (by decide)).trans f9
      replace f75 := (hk 75 (by decide)).trans f75
      clear hk hsz61 hde61
      replace f77 : a62.tmps[77]?.getD undef = .bool true := f77.trans (by first | rfl | simp [hlt])
      refine wpList_nil ?_
      refine then_go ?_
      repeat with_reducible refine wp_seq ?_
      refine wp_cond_true (eval_at f77) ?_
      refine wp_skip ?_
      refine then_go ?_
      clear f77
      repeat with_reducible refine wp_seq ?_
      refine wp_block ?_
      repeat with_reducible refine wp_seq ?_
      refine wp_region_lit ?_
      refine wpList_next rfl hsz62 hde62 78 rfl (by decide) fun K hK => ?_
      go_simp
      refine hK _ _ fun a63 hsz63 hde63 f78 hk => ?_
      clear hK K
      replace f76 := (hk 76 (by decide)).trans f76
      replace f0 := (hk 0 (by decide)).trans f0
      replace f5 := (hk 5 (by decide)).trans f5
      replace f6 := (hk 6 (by decide)).trans f6
      replace f7 := (hk 7 (by decide)).trans f7
      replace f8 := (hk 8 (by decide)).trans f8
      replace f9 := (hk 9 (by decide)).trans f9
      replace f75 := (hk 75 (by decide)).trans f75
      replace f78 : a63.tmps[78]?.getD undef = .int .i64 (k : Int) := f78
      clear hk hsz62 hde62
      refine wpList_next rfl hsz63 hde63 10 rfl (by decide) fun K hK => ?_
      go_simp
      refine hK _ _ fun a64 hsz64 hde64 f10 hk => ?_
      clear hK K
      replace f76 := (hk 76 (by decide)).trans f76
      replace f0 := (hk 0 (by decide)).trans f0
      replace f5 := (hk 5 (by decide)).trans f5
      replace f6 := (hk 6 (by decide)).trans f6
      replace f7 := (hk 7 (by decide)).trans f7
      replace f8 := (hk 8 (by decide)).trans f8
      replace f9 := (hk 9 (by decide)).trans f9
      replace f75 := (hk 75 (by decide)).trans f75
      replace f10 : a64.tmps[10]?.getD undef = .int .i64 (k : Int) := f10
      clear hk hsz63 hde63 f78
      refine wpList_nil ?_
      refine then_go ?_
      repeat with_reducible refine wp_seq ?_
      by_cases hki : k = i
      · have Hki := Lib.hid hki
        have hne : decide ((k : Int) ≠ (i : Int)) = false := decide_eq_false (by omega)
        clear hki
        refine wp_region_goodg (tblG [(79, .int .i64 (k : Int)), (80, .int .i64 (i : Int)), (81, .bool false), (82, .bool false), (83, undef), (84, undef), (85, undef), (86, undef), (87, undef), (88, undef), (89, undef), (90, undef), (91, undef), (92, .bool false)]) 125 (by kernel_rfl) (by kernel_rfl) (by kernel_rfl) (by kernel_rfl) hsz64.out ?_ ?_ ?_
        · intro t v7 x x' h _ _
          exact h
        · intro i7 o hi7 a x hbx hsame hpre K hK
          have hlt7 : i7 < 14 := (Array.getElem?_eq_some_iff.1 hi7).1
          rcases (show i7 = 0 ∨ i7 = 1 ∨ i7 = 2 ∨ i7 = 3 ∨ i7 = 4 ∨ i7 = 5 ∨ i7 = 6 ∨ i7 = 7 ∨ i7 = 8 ∨ i7 = 9 ∨ i7 = 10 ∨ i7 = 11 ∨ i7 = 12 ∨ i7 = 13 by omega) with rfl | rfl | rfl | rfl | rfl | rfl | rfl | rfl | rfl | rfl | rfl | rfl | rfl | rfl
          all_goals (have ho := Option.some.inj hi7; subst ho; clear hi7 hlt7)
          · have q10 : a.tmps[10]?.getD undef = .int .i64 (k : Int) := (hsame 10 (by decide +kernel)).trans f10
            refine step_plain rfl ?_
            have hk := Lib.hid (show ∀ v7 x', v7 = .int .i64 (k : Int) → Below x.heap.size x x' → K (a.put (some 79) v7) x' from hK)
            have Hbx := Lib.hid hbx
            clear hsame hpre hK hbx
            go_simp
            exact hk.out _ _ rfl (Below.refl _ _)
          · have q7 : a.tmps[7]?.getD undef = .int .i64 (i : Int) := (hsame 7 (by decide +kernel)).trans f7
            refine step_plain rfl ?_
            have hk := Lib.hid (show ∀ v7 x', v7 = .int .i64 (i : Int) → Below x.heap.size x x' → K (a.put (some 80) v7) x' from hK)
            have Hbx := Lib.hid hbx
            clear hsame hpre hK hbx
            go_simp
            exact hk.out _ _ rfl (Below.refl _ _)
          · have q79 : a.tmps[79]?.getD undef = .int .i64 (k : Int) := hpre ⟨0, .data⟩ (by simp) rfl (by decide)
            have q80 : a.tmps[80]?.getD undef = .int .i64 (i : Int) := hpre ⟨1, .data⟩ (by simp) rfl (by decide)
            refine step_plain rfl ?_
            have hk := Lib.hid (show ∀ v7 x', v7 = .bool false → Below x.heap.size x x' → K (a.put (some 81) v7) x' from hK)
            have Hbx := Lib.hid hbx
            clear hsame hpre hK hbx
            go_simp
            exact hk.out _ _ (by have hki := Hki.out; first | rfl | (simp [hki]) | (congr 1; simp [hki])) (Below.refl _ _)
          · have q81 : a.tmps[81]?.getD undef = .bool false := hpre ⟨2, .data⟩ (by simp) rfl (by decide)
            refine step_plain rfl ?_
            have hk := Lib.hid (show ∀ v7 x', v7 = .bool false → Below x.heap.size x x' → K (a.put (some 82) v7) x' from hK)
            have Hbx := Lib.hid hbx
            clear hsame hpre hK hbx
            go_simp
            exact hk.out _ _ rfl (Below.refl _ _)
          · have w82 : a.tmps[82]?.getD undef = .bool false := hpre ⟨3, .guard⟩ (by simp) rfl (by decide)
            refine step_left (not_wanted (j := 3) (t := 82) (b := true) rfl rfl (.inr w82)) ?_
            have hk := Lib.hid (show ∀ v7 x', v7 = undef → Below x.heap.size x x' → K (a.put (some 83) v7) x' from hK)
            have Hbx := Lib.hid hbx
            clear hsame hpre hK hbx w82
            exact hk.out _ _ rfl (Below.refl _ _)
          · have w82 : a.tmps[82]?.getD undef = .bool false := hpre ⟨3, .guard⟩ (by simp) rfl (by decide)
            refine step_left (not_wanted (j := 3) (t := 82) (b := true) rfl rfl (.inr w82)) ?_
            have hk := Lib.hid (show ∀ v7 x', v7 = undef → Below x.heap.size x x' → K (a.put (some 84) v7) x' from hK)
            have Hbx := Lib.hid hbx
            clear hsame hpre hK hbx w82
            exact hk.out _ _ rfl (Below.refl _ _)
          · have w82 : a.tmps[82]?.getD undef = .bool false := hpre ⟨3, .guard⟩ (by simp) rfl (by decide)
            refine step_left (not_wanted (j := 3) (t := 82) (b := true) rfl rfl (.inr w82)) ?_
            have hk := Lib.hid (show ∀ v7 x', v7 = undef → Below x.heap.size x x' → K (a.put (some 85) v7) x' from hK)
            have Hbx := Lib.hid hbx
            clear hsame hpre hK hbx w82
            exact hk.out _ _ rfl (Below.refl _ _)
          · have w82 : a.tmps[82]?.getD undef = .bool false := hpre ⟨3, .guard⟩ (by simp) rfl (by decide)
            refine step_left (not_wanted (j := 3) (t := 82) (b := true) rfl rfl (.inr w82)) ?_
            have hk := Lib.hid (show ∀ v7 x', v7 = undef → Below x.heap.size x x' → K (a.put (some 86) v7) x' from hK)
            have Hbx := Lib.hid hbx
            clear hsame hpre hK hbx w82
            exact hk.out _ _ rfl (Below.refl _ _)
          · have w82 : a.tmps[82]?.getD undef = .bool false := hpre ⟨3, .guard⟩ (by simp) rfl (by decide)
            refine step_left (not_wanted (j := 3) (t := 82) (b := true) rfl rfl (.inr w82)) ?_
            have hk := Lib.hid (show ∀ v7 x', v7 = undef → Below x.heap.size x x' → K (a.put (some 87) v7) x' from hK)
            have Hbx := Lib.hid hbx
            clear hsame hpre hK hbx w82
            exact hk.out _ _ rfl (Below.refl _ _)
          · have w82 : a.tmps[82]?.getD undef = .bool false := hpre ⟨3, .guard⟩ (by simp) rfl (by decide)
            refine step_left (not_wanted (j := 3) (t := 82) (b := true) rfl rfl (.inr w82)) ?_
            have hk := Lib.hid (show ∀ v7 x', v7 = undef → Below x.heap.size x x' → K (a.put (some 88) v7) x' from hK)
            have Hbx := Lib.hid hbx
            clear hsame hpre hK hbx w82
            exact hk.out _ _ rfl (Below.refl _ _)
          · have w82 : a.tmps[82]?.getD undef = .bool false := hpre ⟨3, .guard⟩ (by simp) rfl (by decide)
            refine step_left (not_wanted (j := 3) (t := 82) (b := true) rfl rfl (.inr w82)) ?_
            have hk := Lib.hid (show ∀ v7 x', v7 = undef → Below x.heap.size x x' → K (a.put (some 89) v7) x' from hK)
            have Hbx := Lib.hid hbx
            clear hsame hpre hK hbx w82
            exact hk.out _ _ rfl (Below.refl _ _)
          · have w82 : a.tmps[82]?.getD undef = .bool false := hpre ⟨3, .guard⟩ (by simp) rfl (by decide)
            refine step_left (not_wanted (j := 3) (t := 82) (b := true) rfl rfl (.inr w82)) ?_
            have hk := Lib.hid (show ∀ v7 x', v7 = undef → Below x.heap.size x x' → K (a.put (some 90) v7) x' from hK)
            have Hbx := Lib.hid hbx
            clear hsame hpre hK hbx w82
            exact hk.out _ _ rfl (Below.refl _ _)
          · have w82 : a.tmps[82]?.getD undef = .bool false := hpre ⟨3, .guard⟩ (by simp) rfl (by decide)
            refine step_left (not_wanted (j := 3) (t := 82) (b := true) rfl rfl (.inr w82)) ?_
            have hk := Lib.hid (show ∀ v7 x', v7 = undef → Below x.heap.size x x' → K (a.put (some 91) v7) x' from hK)
            have Hbx := Lib.hid hbx
            clear hsame hpre hK hbx w82
            exact hk.out _ _ rfl (Below.refl _ _)
          · have q82 : a.tmps[82]?.getD undef = .bool false := hpre ⟨3, .data⟩ (by simp) rfl (by decide)
            have q91 : a.tmps[91]?.getD undef = undef := hpre ⟨12, .data⟩ (by simp) rfl (by decide)
            refine step_plain rfl ?_
            have hk := Lib.hid (show ∀ v7 x', v7 = .bool false → Below x.heap.size x x' → K (a.put (some 92) v7) x' from hK)
            have Hbx := Lib.hid hbx
            clear hsame hpre hK hbx
            go_simp
            exact hk.out _ _ rfl (Below.refl _ _)
        intro a65 x65 hbx hsame hG hsz65 hde65
        replace f76 := (hsame 76 (by decide +kernel)).trans f76
        replace f0 := (hsame 0 (by decide +kernel)).trans f0
        replace f5 := (hsame 5 (by decide +kernel)).trans f5
        replace f6 := (hsame 6 (by decide +kernel)).trans f6
        replace f7 := (hsame 7 (by decide +kernel)).trans f7
        replace f8 := (hsame 8 (by decide +kernel)).trans f8
        replace f9 := (hsame 9 (by decide +kernel)).trans f9
        replace f75 := (hsame 75 (by decide +kernel)).trans f75
        replace f10 := (hsame 10 (by decide +kernel)).trans f10
        have f92 : a65.tmps[92]?.getD undef = .bool false := hG 13 (by decide)
        have Hbx65 := Lib.hid hbx
        have hsz65h := Lib.hid hsz65
        have hde65h := Lib.hid (hde65.trans hde64.out)
        clear hsame hG hbx hsz65 hde65 hsz64 hde64
        clear hne
        refine then_go ?_
        repeat with_reducible refine wp_seq ?_
        refine wp_cond_false (eval_at f92) ?_
        refine wp_skip ?_
        refine block_go ?_
        refine then_go ?_
        clear f92 f10
        refine wp_region_lit ?_
        refine wpList_next rfl hsz65h hde65h 93 rfl (by decide) fun K hK => ?_
        go_simp
        refine hK _ _ fun a66 hsz66 hde66 f93 hk => ?_
        clear hK K
        replace f76 := (hk 76 (by decide)).trans f76
        replace f0 := (hk 0 (by decide)).trans f0
        replace f5 := (hk 5 (by decide)).trans f5
        replace f6 := (hk 6 (by decide)).trans f6
        replace f7 := (hk 7 (by decide)).trans f7
        replace f8 := (hk 8 (by decide)).trans f8
        replace f9 := (hk 9 (by decide)).trans f9
        replace f75 := (hk 75 (by decide)).trans f75
        clear hk hsz65h hde65h
        replace f93 : a66.tmps[93]?.getD undef = .int .i64 ((k + 1 : Nat) : Int) := f93.trans (by first | (congr 1; done) | (congr 1; rw [IntKind.wrap_i64] <;> omega))
        refine wpList_next rfl hsz66 hde66 76 rfl (by decide) fun K hK => ?_
        go_simp
        refine hK _ _ fun a67 hsz67 hde67 f76 hk => ?_
        clear hK K
        replace f0 := (hk 0 (by decide)).trans f0
        replace f5 := (hk 5 (by decide)).trans f5
        replace f6 := (hk 6 (by decide)).trans f6
        replace f7 := (hk 7 (by decide)).trans f7
        replace f8 := (hk 8 (by decide)).trans f8
        replace f9 := (hk 9 (by decide)).trans f9
        replace f75 := (hk 75 (by decide)).trans f75
        replace f76 : a67.tmps[76]?.getD undef = .int .i64 ((k + 1 : Nat) : Int) := f76
        clear hk hsz66 hde66 f93
        refine wpList_nil ?_
        refine then_go ?_
        exact ⟨⟨k + 1, by omega, hsz67, hde67, f76, f0, f5, f6, f7, f8, f9, f75, (Lib.hid (below_call Hbw.out Hbx65.out))⟩, by rw [f76, F76o.out]; show n - ((k + 1 : Nat) : Int).toNat < n - ((k : Nat) : Int).toNat; omega⟩
      · have Hki := Lib.hid hki
        clear hki
        have hkL : k < L.length := by rw [← Hn.out]; exact hlt
        have hkM : k < M.length := by rw [HMl.out]; exact hlt
        have hMk := HMk.out k hkM hkL Hki.out
        have hrM := fun z hz => HrM.out k hkM z hz
        rw [hMk] at hrM
        have hneq := fun z => ent_neq_self L[k] z
        obtain ⟨C, hC⟩ : ∃ C, C = entC L[k] := ⟨_, rfl⟩
        have HinfC := Lib.hid (show (Tryd.prog.info? 29).map (·.size) = some C.toList.length by rw [hC]; exact ent_info)
        have hrL := fun z hz => Hrow.out k hkL z hz
        rw [← hC] at hrM hrL hneq
        have HrMk := Lib.hid hrM
        have HrLk := Lib.hid hrL
        have Hneq := Lib.hid hneq
        clear hkL hkM hMk hrM hrL hneq hC
        refine wp_region_goodg (tblG [(79, .int .i64 (k : Int)), (80, .int .i64 (i : Int)), (81, .bool true), (82, .bool true), (83, .slice (some ⟨b8, off8, none⟩) n c8), (84, .int .i64 (k : Int)), (85, .pointer (some ⟨b8, off8 + k * 15, none⟩)), (86, .agg C), (87, .slice (some ⟨b, off, none⟩) n cc), (88, .int .i64 (k : Int)), (89, .pointer (some ⟨b, off + k * 15, none⟩)), (90, .agg C), (91, .bool false), (92, .bool false)]) 125 (by kernel_rfl) (by kernel_rfl) (by kernel_rfl) (by kernel_rfl) hsz64.out ?_ ?_ ?_
        · intro t v7 x x' h _ _
          exact h
        · intro i7 o hi7 a x hbx hsame hpre K hK
          have hlt7 : i7 < 14 := (Array.getElem?_eq_some_iff.1 hi7).1
          rcases (show i7 = 0 ∨ i7 = 1 ∨ i7 = 2 ∨ i7 = 3 ∨ i7 = 4 ∨ i7 = 5 ∨ i7 = 6 ∨ i7 = 7 ∨ i7 = 8 ∨ i7 = 9 ∨ i7 = 10 ∨ i7 = 11 ∨ i7 = 12 ∨ i7 = 13 by omega) with rfl | rfl | rfl | rfl | rfl | rfl | rfl | rfl | rfl | rfl | rfl | rfl | rfl | rfl
          all_goals (have ho := Option.some.inj hi7; subst ho; clear hi7 hlt7)
          · have q10 : a.tmps[10]?.getD undef = .int .i64 (k : Int) := (hsame 10 (by decide +kernel)).trans f10
            refine step_plain rfl ?_
            have hk := Lib.hid (show ∀ v7 x', v7 = .int .i64 (k : Int) → Below x.heap.size x x' → K (a.put (some 79) v7) x' from hK)
            have Hbx := Lib.hid hbx
            clear hsame hpre hK hbx
            go_simp
            exact hk.out _ _ rfl (Below.refl _ _)
          · have q7 : a.tmps[7]?.getD undef = .int .i64 (i : Int) := (hsame 7 (by decide +kernel)).trans f7
            refine step_plain rfl ?_
            have hk := Lib.hid (show ∀ v7 x', v7 = .int .i64 (i : Int) → Below x.heap.size x x' → K (a.put (some 80) v7) x' from hK)
            have Hbx := Lib.hid hbx
            clear hsame hpre hK hbx
            go_simp
            exact hk.out _ _ rfl (Below.refl _ _)
          · have q79 : a.tmps[79]?.getD undef = .int .i64 (k : Int) := hpre ⟨0, .data⟩ (by simp) rfl (by decide)
            have q80 : a.tmps[80]?.getD undef = .int .i64 (i : Int) := hpre ⟨1, .data⟩ (by simp) rfl (by decide)
            refine step_plain rfl ?_
            have hk := Lib.hid (show ∀ v7 x', v7 = .bool true → Below x.heap.size x x' → K (a.put (some 81) v7) x' from hK)
            have Hbx := Lib.hid hbx
            clear hsame hpre hK hbx
            go_simp
            exact hk.out _ _ (by have hki := Hki.out; first | rfl | (simp; omega)) (Below.refl _ _)
          · have q81 : a.tmps[81]?.getD undef = .bool true := hpre ⟨2, .data⟩ (by simp) rfl (by decide)
            refine step_plain rfl ?_
            have hk := Lib.hid (show ∀ v7 x', v7 = .bool true → Below x.heap.size x x' → K (a.put (some 82) v7) x' from hK)
            have Hbx := Lib.hid hbx
            clear hsame hpre hK hbx
            go_simp
            exact hk.out _ _ rfl (Below.refl _ _)
          · have q8 : a.tmps[8]?.getD undef = .slice (some ⟨b8, off8, none⟩) n c8 := (hsame 8 (by decide +kernel)).trans f8
            have w82 : a.tmps[82]?.getD undef = .bool true := hpre ⟨3, .guard⟩ (by simp) rfl (by decide)
            refine step_wanted (wanted_of (j := 3) (t := 82) (b := true) rfl rfl w82) ?_
            have hk := Lib.hid (show ∀ v7 x', v7 = .slice (some ⟨b8, off8, none⟩) n c8 → Below x.heap.size x x' → K (a.put (some 83) v7) x' from hK)
            have Hbx := Lib.hid hbx
            clear hsame hpre hK hbx w82
            go_simp
            exact hk.out _ _ rfl (Below.refl _ _)
          · have q10 : a.tmps[10]?.getD undef = .int .i64 (k : Int) := (hsame 10 (by decide +kernel)).trans f10
            have w82 : a.tmps[82]?.getD undef = .bool true := hpre ⟨3, .guard⟩ (by simp) rfl (by decide)
            refine step_wanted (wanted_of (j := 3) (t := 82) (b := true) rfl rfl w82) ?_
            have hk := Lib.hid (show ∀ v7 x', v7 = .int .i64 (k : Int) → Below x.heap.size x x' → K (a.put (some 84) v7) x' from hK)
            have Hbx := Lib.hid hbx
            clear hsame hpre hK hbx w82
            go_simp
            exact hk.out _ _ rfl (Below.refl _ _)
          · have q83 : a.tmps[83]?.getD undef = .slice (some ⟨b8, off8, none⟩) n c8 := hpre ⟨4, .data⟩ (by simp) rfl (by decide)
            have q84 : a.tmps[84]?.getD undef = .int .i64 (k : Int) := hpre ⟨5, .data⟩ (by simp) rfl (by decide)
            have w82 : a.tmps[82]?.getD undef = .bool true := hpre ⟨3, .guard⟩ (by simp) rfl (by decide)
            refine step_wanted (wanted_of (j := 3) (t := 82) (b := true) rfl rfl w82) ?_
            have hk := Lib.hid (show ∀ v7 x', v7 = .pointer (some ⟨b8, off8 + k * 15, none⟩) → Below x.heap.size x x' → K (a.put (some 85) v7) x' from hK)
            have Hbx := Lib.hid hbx
            clear hsame hpre hK hbx w82
            go_simp
            exact hk.out _ _ rfl (Below.refl _ _)
          · have q85 : a.tmps[85]?.getD undef = .pointer (some ⟨b8, off8 + k * 15, none⟩) := hpre ⟨6, .data⟩ (by simp) rfl (by decide)
            have w82 : a.tmps[82]?.getD undef = .bool true := hpre ⟨3, .guard⟩ (by simp) rfl (by decide)
            refine step_wanted (wanted_of (j := 3) (t := 82) (b := true) rfl rfl w82) ?_
            have hk := Lib.hid (show ∀ v7 x', v7 = .agg C → Below x.heap.size x x' → K (a.put (some 86) v7) x' from hK)
            have Hbx := Lib.hid hbx
            clear hsame hpre hK hbx w82
            refine wp_load_mid 29 (.tmp 85) rfl b8 (off8 + k * 15) (eval_at q85) C.toList _ (HrMk.out _ (below_call Hky.out (below_call Hbw.out Hbx.out))) Tryd.underlying29 rfl HinfC.out ?_
            exact hk.out _ _ rfl (Below.refl _ _)
          · have q0 : a.tmps[0]?.getD undef = .slice (some ⟨b, off, none⟩) n cc := (hsame 0 (by decide +kernel)).trans f0
            have w82 : a.tmps[82]?.getD undef = .bool true := hpre ⟨3, .guard⟩ (by simp) rfl (by decide)
            refine step_wanted (wanted_of (j := 3) (t := 82) (b := true) rfl rfl w82) ?_
            have hk := Lib.hid (show ∀ v7 x', v7 = .slice (some ⟨b, off, none⟩) n cc → Below x.heap.size x x' → K (a.put (some 87) v7) x' from hK)
            have Hbx := Lib.hid hbx
            clear hsame hpre hK hbx w82
            go_simp
            exact hk.out _ _ rfl (Below.refl _ _)
          · have q10 : a.tmps[10]?.getD undef = .int .i64 (k : Int) := (hsame 10 (by decide +kernel)).trans f10
            have w82 : a.tmps[82]?.getD undef = .bool true := hpre ⟨3, .guard⟩ (by simp) rfl (by decide)
            refine step_wanted (wanted_of (j := 3) (t := 82) (b := true) rfl rfl w82) ?_
            have hk := Lib.hid (show ∀ v7 x', v7 = .int .i64 (k : Int) → Below x.heap.size x x' → K (a.put (some 88) v7) x' from hK)
            have Hbx := Lib.hid hbx
            clear hsame hpre hK hbx w82
            go_simp
            exact hk.out _ _ rfl (Below.refl _ _)
          · have q87 : a.tmps[87]?.getD undef = .slice (some ⟨b, off, none⟩) n cc := hpre ⟨8, .data⟩ (by simp) rfl (by decide)
            have q88 : a.tmps[88]?.getD undef = .int .i64 (k : Int) := hpre ⟨9, .data⟩ (by simp) rfl (by decide)
            have w82 : a.tmps[82]?.getD undef = .bool true := hpre ⟨3, .guard⟩ (by simp) rfl (by decide)
            refine step_wanted (wanted_of (j := 3) (t := 82) (b := true) rfl rfl w82) ?_
            have hk := Lib.hid (show ∀ v7 x', v7 = .pointer (some ⟨b, off + k * 15, none⟩) → Below x.heap.size x x' → K (a.put (some 89) v7) x' from hK)
            have Hbx := Lib.hid hbx
            clear hsame hpre hK hbx w82
            go_simp
            exact hk.out _ _ rfl (Below.refl _ _)
          · have q89 : a.tmps[89]?.getD undef = .pointer (some ⟨b, off + k * 15, none⟩) := hpre ⟨10, .data⟩ (by simp) rfl (by decide)
            have w82 : a.tmps[82]?.getD undef = .bool true := hpre ⟨3, .guard⟩ (by simp) rfl (by decide)
            refine step_wanted (wanted_of (j := 3) (t := 82) (b := true) rfl rfl w82) ?_
            have hk := Lib.hid (show ∀ v7 x', v7 = .agg C → Below x.heap.size x x' → K (a.put (some 90) v7) x' from hK)
            have Hbx := Lib.hid hbx
            clear hsame hpre hK hbx w82
            refine wp_load_mid 29 (.tmp 89) rfl b (off + k * 15) (eval_at q89) C.toList _ (HrLk.out _ (below_call Hby.out (below_call Hbw.out Hbx.out))) Tryd.underlying29 rfl HinfC.out ?_
            exact hk.out _ _ rfl (Below.refl _ _)
          · have q86 : a.tmps[86]?.getD undef = .agg C := hpre ⟨7, .data⟩ (by simp) rfl (by decide)
            have q90 : a.tmps[90]?.getD undef = .agg C := hpre ⟨11, .data⟩ (by simp) rfl (by decide)
            have w82 : a.tmps[82]?.getD undef = .bool true := hpre ⟨3, .guard⟩ (by simp) rfl (by decide)
            refine step_wanted (wanted_of (j := 3) (t := 82) (b := true) rfl rfl w82) ?_
            have hk := Lib.hid (show ∀ v7 x', v7 = .bool false → Below x.heap.size x x' → K (a.put (some 91) v7) x' from hK)
            have Hbx := Lib.hid hbx
            clear hsame hpre hK hbx w82
            have hneq := Hneq.out
            go_simp
            exact hk.out _ _ rfl (Below.refl _ _)
          · have q82 : a.tmps[82]?.getD undef = .bool true := hpre ⟨3, .data⟩ (by simp) rfl (by decide)
            have q91 : a.tmps[91]?.getD undef = .bool false := hpre ⟨12, .data⟩ (by simp) rfl (by decide)
            refine step_plain rfl ?_
            have hk := Lib.hid (show ∀ v7 x', v7 = .bool false → Below x.heap.size x x' → K (a.put (some 92) v7) x' from hK)
            have Hbx := Lib.hid hbx
            clear hsame hpre hK hbx
            go_simp
            exact hk.out _ _ rfl (Below.refl _ _)
        intro a65 x65 hbx hsame hG hsz65 hde65
        replace f76 := (hsame 76 (by decide +kernel)).trans f76
        replace f0 := (hsame 0 (by decide +kernel)).trans f0
        replace f5 := (hsame 5 (by decide +kernel)).trans f5
        replace f6 := (hsame 6 (by decide +kernel)).trans f6
        replace f7 := (hsame 7 (by decide +kernel)).trans f7
        replace f8 := (hsame 8 (by decide +kernel)).trans f8
        replace f9 := (hsame 9 (by decide +kernel)).trans f9
        replace f75 := (hsame 75 (by decide +kernel)).trans f75
        replace f10 := (hsame 10 (by decide +kernel)).trans f10
        have f92 : a65.tmps[92]?.getD undef = .bool false := hG 13 (by decide)
        have Hbx65 := Lib.hid hbx
        have hsz65h := Lib.hid hsz65
        have hde65h := Lib.hid (hde65.trans hde64.out)
        clear hsame hG hbx hsz65 hde65 hsz64 hde64
        refine then_go ?_
        repeat with_reducible refine wp_seq ?_
        refine wp_cond_false (eval_at f92) ?_
        refine wp_skip ?_
        refine block_go ?_
        refine then_go ?_
        clear f92 f10
        refine wp_region_lit ?_
        refine wpList_next rfl hsz65h hde65h 93 rfl (by decide) fun K hK => ?_
        go_simp
        refine hK _ _ fun a66 hsz66 hde66 f93 hk => ?_
        clear hK K
        replace f76 := (hk 76 (by decide)).trans f76
        replace f0 := (hk 0 (by decide)).trans f0
        replace f5 := (hk 5 (by decide)).trans f5
        replace f6 := (hk 6 (by decide)).trans f6
        replace f7 := (hk 7 (by decide)).trans f7
        replace f8 := (hk 8 (by decide)).trans f8
        replace f9 := (hk 9 (by decide)).trans f9
        replace f75 := (hk 75 (by decide)).trans f75
        clear hk hsz65h hde65h
        replace f93 : a66.tmps[93]?.getD undef = .int .i64 ((k + 1 : Nat) : Int) := f93.trans (by first | (congr 1; done) | (congr 1; rw [IntKind.wrap_i64] <;> omega))
        refine wpList_next rfl hsz66 hde66 76 rfl (by decide) fun K hK => ?_
        go_simp
        refine hK _ _ fun a67 hsz67 hde67 f76 hk => ?_
        clear hK K
        replace f0 := (hk 0 (by decide)).trans f0
        replace f5 := (hk 5 (by decide)).trans f5
        replace f6 := (hk 6 (by decide)).trans f6
        replace f7 := (hk 7 (by decide)).trans f7
        replace f8 := (hk 8 (by decide)).trans f8
        replace f9 := (hk 9 (by decide)).trans f9
        replace f75 := (hk 75 (by decide)).trans f75
        replace f76 : a67.tmps[76]?.getD undef = .int .i64 ((k + 1 : Nat) : Int) := f76
        clear hk hsz66 hde66 f93
        refine wpList_nil ?_
        refine then_go ?_
        exact ⟨⟨k + 1, by omega, hsz67, hde67, f76, f0, f5, f6, f7, f8, f9, f75, (Lib.hid (below_call Hbw.out Hbx65.out))⟩, by rw [f76, F76o.out]; show n - ((k + 1 : Nat) : Int).toNat < n - ((k : Nat) : Int).toNat; omega⟩
    · have hkn : k = n := by omega
      have hlt1 : decide ((k : Int) < (n : Int)) = false := decide_eq_false (by omega)
      clear hkn
      refine wp_region_lit ?_
      refine wpList_next rfl hsz61 hde61 77 rfl (by decide) fun K hK => ?_
      go_simp
      refine hK _ _ fun a62 hsz62 hde62 f77 hk => ?_
      clear hK K
      replace f76 := (hk 76 (by decide)).trans f76
      replace f0 := (hk 0 (by decide)).trans f0
      replace f5 := (hk 5 (by decide)).trans f5
      replace f6 := (hk 6 (by decide)).trans f6
      replace f7 := (hk 7 (by decide)).trans f7
      replace f8 := (hk 8 (by decide)).trans f8
      replace f9 := (hk 9 (by decide)).trans f9
      replace f75 := (hk 75 (by decide)).trans f75
      clear hk hsz61 hde61
      replace f77 : a62.tmps[77]?.getD undef = .bool false := f77.trans (by first | rfl | simp [hlt])
      refine wpList_nil ?_
      refine then_go ?_
      repeat with_reducible refine wp_seq ?_
      refine wp_cond_false (eval_at f77) ?_
      refine wp_exit ?_
      repeat with_reducible refine then_exit ?_
      refine block_exit ?_
      refine then_go ?_
      clear f77 f75 f76
      obtain ⟨wx, hwx⟩ : ∃ x, x = wr := ⟨wr, rfl⟩
      rw [← hwx] at Hbw ⊢
      clear hwx hlt1 hlt hk k F76o
      repeat with_reducible refine wp_seq ?_
      obtain ⟨BA, hBA⟩ : ∃ A, A = av BV := ⟨_, rfl⟩
      rw [← hBA] at Hbv
      have HinfBA := Lib.hid (show (Tryd.prog.info? 27).map (·.size) = some BA.toList.length by rw [hBA]; exact vec_info)
      have HRBA := Lib.hid (show ∀ z, Below wy.heap.size wy z → z.rangeAt w66.heap.size 0 BA.toList from fun z hz => (Hbv.out.grow hz).range 0 BA.toList fun j u hu => by rw [Nat.zero_add, ← Array.getElem?_toList]; exact hu)
      have HM5 := Lib.hid (HM4.out.grow (below_call Hky.out Hbw.out))
      have hsw := esweep_any _ _ M BV wx HM5.out HMd.out (by rw [HMl.out]; omega)
      unfold vv at hsw
      rw [← hBA] at hsw
      obtain ⟨S, hS⟩ : ∃ S, S = M.filter (fun x => !goneV x.by_ BV) := ⟨_, rfl⟩
      rw [← hS] at hsw
      have HS := Lib.hid (show ∀ x ∈ S, x ∈ M ∧ goneV x.by_ BV = false from fun x hx => by rw [hS] at hx; have := List.mem_filter.1 hx; exact ⟨this.1, by simpa using this.2⟩)
      have hSl : S.length ≤ 40 := by rw [hS]; exact Nat.le_trans (List.length_filter_le _ _) (by rw [HMl.out]; exact hn40)
      have Hsw := Lib.hid hsw
      clear hsw hS hBA
      refine wp_region_lit ?_
      refine wpList_next rfl hsz62 hde62 94 rfl (by decide) fun K hK => ?_
      go_simp
      refine hK _ _ fun a63 hsz63 hde63 f94 hk => ?_
      clear hK K
      replace f0 := (hk 0 (by decide)).trans f0
      replace f5 := (hk 5 (by decide)).trans f5
      replace f6 := (hk 6 (by decide)).trans f6
      replace f7 := (hk 7 (by decide)).trans f7
      replace f8 := (hk 8 (by decide)).trans f8
      replace f9 := (hk 9 (by decide)).trans f9
      replace f94 : a63.tmps[94]?.getD undef = .slice (some ⟨b8, off8, none⟩) n c8 := f94
      clear hk hsz62 hde62
      refine wpList_next rfl hsz63 hde63 95 rfl (by decide) fun K hK => ?_
      refine wp_load_mid 27 (.tmp 9) rfl w66.heap.size 0 (eval_at f9) BA.toList _ (HRBA.out _ Hbw.out) Tryd.underlying27 rfl HinfBA.out ?_
      refine hK _ _ fun a64 hsz64 hde64 f95 hk => ?_
      clear hK K
      replace f0 := (hk 0 (by decide)).trans f0
      replace f5 := (hk 5 (by decide)).trans f5
      replace f6 := (hk 6 (by decide)).trans f6
      replace f7 := (hk 7 (by decide)).trans f7
      replace f8 := (hk 8 (by decide)).trans f8
      replace f9 := (hk 9 (by decide)).trans f9
      replace f94 := (hk 94 (by decide)).trans f94
      replace f95 : a64.tmps[95]?.getD undef = .agg BA := f95
      clear hk hsz63 hde63
      refine wpList_next rfl hsz64 hde64 96 rfl (by decide) fun K hK => ?_
      go_simp
      have hsw2 := Hsw.out
      rw [HMl.out] at hsw2
      refine hsw2.mono ?_
      rintro e9 w9 ⟨⟨u9, rfl, hown9⟩, hb9⟩
      clear hsw2
      obtain ⟨A9, c9, hu9, hc91, hc92, hE9⟩ := ent_at hown9.isL
      subst hu9
      go_simp
      refine hK _ _ fun a65 hsz65 hde65 f96 hk => ?_
      clear hK K
      replace f0 := (hk 0 (by decide)).trans f0
      replace f5 := (hk 5 (by decide)).trans f5
      replace f6 := (hk 6 (by decide)).trans f6
      replace f7 := (hk 7 (by decide)).trans f7
      replace f8 := (hk 8 (by decide)).trans f8
      replace f9 := (hk 9 (by decide)).trans f9
      replace f96 : a65.tmps[96]?.getD undef = .slice A9 S.length c9 := f96
      clear hk hsz64 hde64 f94 f95
      refine wpList_next rfl hsz65 hde65 97 rfl (by decide) fun K hK => ?_
      go_simp
      refine hK _ _ fun a66 hsz66 hde66 f97 hk => ?_
      clear hK K
      replace f0 := (hk 0 (by decide)).trans f0
      replace f5 := (hk 5 (by decide)).trans f5
      replace f6 := (hk 6 (by decide)).trans f6
      replace f7 := (hk 7 (by decide)).trans f7
      replace f8 := (hk 8 (by decide)).trans f8
      replace f9 := (hk 9 (by decide)).trans f9
      replace f96 := (hk 96 (by decide)).trans f96
      replace f97 : a66.tmps[97]?.getD undef = .int .i64 (S.length : Int) := f97
      clear hk hsz65 hde65
      refine wpList_next rfl hsz66 hde66 98 rfl (by decide) fun K hK => ?_
      go_simp
      refine hK _ _ fun a67 hsz67 hde67 f98 hk => ?_
      clear hK K
      replace f0 := (hk 0 (by decide)).trans f0
      replace f5 := (hk 5 (by decide)).trans f5
      replace f6 := (hk 6 (by decide)).trans f6
      replace f7 := (hk 7 (by decide)).trans f7
      replace f8 := (hk 8 (by decide)).trans f8
      replace f9 := (hk 9 (by decide)).trans f9
      replace f96 := (hk 96 (by decide)).trans f96
      replace f97 := (hk 97 (by decide)).trans f97
      replace f98 : a67.tmps[98]?.getD undef = .int .i64 ((0 : Nat) : Int) := f98
      clear hk hsz66 hde66
      refine wpList_nil ?_
      have Hel9 := Lib.hid hE9
      have Hb9 := Lib.hid (below_call (below_call Hby.out Hbw.out) hb9)
      have Hel9 := Lib.hid hE9
      have Hb9 := Lib.hid (below_call (below_call Hby.out Hbw.out) hb9)
      clear hE9 hown9 hb9
      obtain ⟨p9, hp9⟩ : ∃ p, p = S.length := ⟨_, rfl⟩
      rw [← hp9] at f96 f97 hc91 hSl
      have Hp9 := Lib.hid hp9
      clear hp9
      refine then_go ?_
      repeat with_reducible refine wp_seq ?_
      refine wp_block ?_
      refine wp_loop (fun a wj => ∃ j : Nat, j ≤ p9 ∧ Hid (a.tmps.size = 125) ∧ Hid (a.defers = []) ∧ a.tmps[98]?.getD undef = .int .i64 ((j : Nat) : Int) ∧ a.tmps[0]?.getD undef = .slice (some ⟨b, off, none⟩) n cc ∧ a.tmps[5]?.getD undef = .pointer (some ⟨w.heap.size, 0, none⟩) ∧ a.tmps[6]?.getD undef = .bool false ∧ a.tmps[7]?.getD undef = .int .i64 (i : Int) ∧ a.tmps[8]?.getD undef = .slice (some ⟨b8, off8, none⟩) n c8 ∧ a.tmps[9]?.getD undef = .pointer (some ⟨w66.heap.size, 0, none⟩) ∧ a.tmps[96]?.getD undef = .slice A9 p9 c9 ∧ a.tmps[97]?.getD undef = .int .i64 (p9 : Int) ∧ Hid (Below w9.heap.size w9 wj)) (fun a _ => p9 - (intOf (a.tmps[98]?.getD undef)).toNat) ?_ ?_
      · exact ⟨0, by omega, hsz67, hde67, f98, f0, f5, f6, f7, f8, f9, f96, f97, Lib.hid (Below.refl _ _)⟩
      clear hsz67 hde67 f0 f5 f6 f7 f8 f9 f96 f97 f98
      intro a68 wj hI
      obtain ⟨j, hj, hsz68, hde68, f98, f0, f5, f6, f7, f8, f9, f96, f97, Hbj⟩ := hI
      have F98o := Lib.hid f98
      repeat with_reducible refine wp_seq ?_
      by_cases hlt : j < p9
      · have hltj : decide ((j : Int) < (p9 : Int)) = true := decide_eq_true (by omega)
        have hjl : j < S.length := by rw [← Hp9.out]; exact hlt
        obtain ⟨b9, off9, rfl, _, hxc⟩ := ent_here Hel9.out hjl Hbj.out
        have hSj := HS.out S[j] (List.getElem_mem hjl)
        obtain ⟨x5, hx5⟩ : ∃ x, x = S[j] := ⟨_, rfl⟩
        rw [← hx5] at hxc hSj
        have hra := hxc.all
        obtain ⟨C, hC⟩ : ∃ C, C = entC x5 := ⟨_, rfl⟩
        have hCs : C.size = 15 := by rw [hC]; rfl
        have HinfL := Lib.hid (show (Tryd.prog.info? 29).map (·.size) = some C.toList.length by rw [hC]; exact ent_info)
        have Hinf := Lib.hid (show (Tryd.prog.info? 29).map (·.size) = some C.size by rw [hC]; exact ent_info)
        have Hone := Lib.hid (show C.all (·.oneCell') = true by rw [hC]; exact entC_one x5)
        have hbk : Blk (wj.alloc (.cells C 29)) wj.heap.size 29 (entC x5) := by rw [← hC]; exact Blk.new _ _ _
        obtain ⟨IX, hIX⟩ : ∃ I, I = idC x5.rep x5.seq := ⟨_, rfl⟩
        have HinfX := Lib.hid (show (Tryd.prog.info? 25).map (·.size) = some IX.toList.length by rw [hIX]; exact id_info)
        have HRX := Lib.hid (show ∀ z, Below (wj.alloc (.cells C 29)).heap.size (wj.alloc (.cells C 29)) z → z.rangeAt wj.heap.size 0 IX.toList from fun z hz => by rw [hIX]; exact (hbk.grow hz).ent.id)
        have Hbj1 := Lib.hid (Hbj.out.alloc Hbj.out.size (.cells C 29))
        rw [← hC] at hra
        have R := Lib.hid hra
        have heq := fun z => ideq_run x5.rep x5.seq X.rep X.seq z
        obtain ⟨eb, heb⟩ : ∃ q, q = sameI x5.rep x5.seq X.rep X.seq := ⟨_, rfl⟩
        rw [← heb, ← hIX, ← HIL.out] at heq
        have Heb := Lib.hid heb
        have HSj := Lib.hid hSj
        have Heq := Lib.hid heq
        have HXby := Lib.hid (show ∀ z, Below wb.heap.size wb z → z.cell? ⟨b, off + i * 15 + 7 + m, none⟩ = some (.int .u32 (X.by_ m : Int)) from fun z hz => by
          have h1 := (entCells (Hrow.out i hil z hz)).by_
          rw [← HX.out] at h1
          exact h1 m _ (by rw [Array.getElem?_toList]; exact av_get X.by_ hm8))
        clear hxc hSj hx5 hra hC hbk hIX heb heq Hel9
        refine wp_region_lit ?_
        refine wpList_next rfl hsz68 hde68 99 rfl (by decide) fun K hK => ?_
        go_simp
        refine hK _ _ fun a69 hsz69 hde69 f99 hk => ?_
        clear hK K
        replace f98 := (hk 98 (by decide)).trans f98
        replace f0 := (hk 0 (by decide)).trans f0
        replace f5 := (hk 5 (by decide)).trans f5
        replace f6 := (hk 6 (by decide)).trans f6
        replace f7 := (hk 7 (by decide)).trans f7
        replace f8 := (hk 8 (by decide)).trans f8
        replace f9 := (hk 9 (by decide)).trans f9
        replace f96 := (hk 96 (by decide)).trans f96
        replace f97 := (hk 97 (by decide)).trans f97
        clear hk hsz68 hde68
        replace f99 : a69.tmps[99]?.getD undef = .bool true := f99.trans (by first | rfl | simp [hlt])
        refine wpList_nil ?_
        refine then_go ?_
        repeat with_reducible refine wp_seq ?_
        refine wp_cond_true (eval_at f99) ?_
        refine wp_skip ?_
        refine then_go ?_
        clear f99
        repeat with_reducible refine wp_seq ?_
        refine wp_block ?_
        repeat with_reducible refine wp_seq ?_
        refine wp_region_lit ?_
        refine wpList_next rfl hsz69 hde69 100 rfl (by decide) fun K hK => ?_
        go_simp
        refine hK _ _ fun a70 hsz70 hde70 f100 hk => ?_
        clear hK K
        replace f98 := (hk 98 (by decide)).trans f98
        replace f0 := (hk 0 (by decide)).trans f0
        replace f5 := (hk 5 (by decide)).trans f5
        replace f6 := (hk 6 (by decide)).trans f6
        replace f7 := (hk 7 (by decide)).trans f7
        replace f8 := (hk 8 (by decide)).trans f8
        replace f9 := (hk 9 (by decide)).trans f9
        replace f96 := (hk 96 (by decide)).trans f96
        replace f97 := (hk 97 (by decide)).trans f97
        replace f100 : a70.tmps[100]?.getD undef = .pointer (some ⟨b9, off9 + j * 15, none⟩) := f100
        clear hk hsz69 hde69
        refine wpList_next rfl hsz70 hde70 101 rfl (by decide) fun K hK => ?_
        refine wp_load_mid 29 (.tmp 100) rfl b9 (off9 + j * 15) (eval_at f100) C.toList _ R.out Tryd.underlying29 rfl HinfL.out ?_
        refine hK _ _ fun a71 hsz71 hde71 f101 hk => ?_
        clear hK K
        replace f98 := (hk 98 (by decide)).trans f98
        replace f0 := (hk 0 (by decide)).trans f0
        replace f5 := (hk 5 (by decide)).trans f5
        replace f6 := (hk 6 (by decide)).trans f6
        replace f7 := (hk 7 (by decide)).trans f7
        replace f8 := (hk 8 (by decide)).trans f8
        replace f9 := (hk 9 (by decide)).trans f9
        replace f96 := (hk 96 (by decide)).trans f96
        replace f97 := (hk 97 (by decide)).trans f97
        replace f101 : a71.tmps[101]?.getD undef = .agg C := f101
        clear hk hsz70 hde70 f100
        refine wpList_next rfl hsz71 hde71 12 rfl (by decide) fun K hK => ?_
        go_simp
        refine hK _ _ fun a72 hsz72 hde72 f12 hk => ?_
        clear hK K
        replace f98 := (hk 98 (by decide)).trans f98
        replace f0 := (hk 0 (by decide)).trans f0
        replace f5 := (hk 5 (by decide)).trans f5
        replace f6 := (hk 6 (by decide)).trans f6
        replace f7 := (hk 7 (by decide)).trans f7
        replace f8 := (hk 8 (by decide)).trans f8
        replace f9 := (hk 9 (by decide)).trans f9
        replace f96 := (hk 96 (by decide)).trans f96
        replace f97 := (hk 97 (by decide)).trans f97
        replace f101 := (hk 101 (by decide)).trans f101
        replace f12 : a72.tmps[12]?.getD undef = .pointer (some ⟨wj.heap.size, 0, none⟩) := f12
        clear hk hsz71 hde71
        refine wpList_next0 rfl rfl fun K hK => ?_
        refine wp_store_new 29 (.tmp 12) (.tmp 101) rfl zeroE C (eval_at f12) (eval_at f101) Hinf.out (by rw [hCs]; rfl) Hone.out ?_
        refine hK undef _ ?_
        clear hK K
        clear f101
        refine wpList_nil ?_
        obtain ⟨wa, hwa⟩ : ∃ wa, wa = wj.alloc (.cells C 29) := ⟨_, rfl⟩
        rw [← hwa] at Hbj1 HRX ⊢
        clear hwa
        refine then_go ?_
        repeat with_reducible refine wp_seq ?_
        cases eb with
        | false =>
          clear Heb HSj
          refine wp_region_goodg (tblG [(102, .pointer (some ⟨wj.heap.size, 0, none⟩)), (103, .agg IX), (104, .slice (some ⟨b, off, none⟩) n cc), (105, .int .i64 (i : Int)), (106, .pointer (some ⟨b, off + i * 15, none⟩)), (107, .pointer (some ⟨b, off + i * 15, none⟩)), (108, .agg IL), (109, .bool false), (110, .bool false), (111, undef), (112, undef), (113, undef), (114, undef), (115, undef), (116, undef), (117, undef), (118, undef), (119, undef), (120, undef), (121, undef), (122, undef), (123, .bool false)]) 125 (by kernel_rfl) (by kernel_rfl) (by kernel_rfl) (by kernel_rfl) hsz72.out ?_ ?_ ?_
          · intro t v7 x x' h _ _
            exact h
          · intro i7 o hi7 a x hbx hsame hpre K hK
            have hlt7 : i7 < 22 := (Array.getElem?_eq_some_iff.1 hi7).1
            rcases (show i7 = 0 ∨ i7 = 1 ∨ i7 = 2 ∨ i7 = 3 ∨ i7 = 4 ∨ i7 = 5 ∨ i7 = 6 ∨ i7 = 7 ∨ i7 = 8 ∨ i7 = 9 ∨ i7 = 10 ∨ i7 = 11 ∨ i7 = 12 ∨ i7 = 13 ∨ i7 = 14 ∨ i7 = 15 ∨ i7 = 16 ∨ i7 = 17 ∨ i7 = 18 ∨ i7 = 19 ∨ i7 = 20 ∨ i7 = 21 by omega) with rfl | rfl | rfl | rfl | rfl | rfl | rfl | rfl | rfl | rfl | rfl | rfl | rfl | rfl | rfl | rfl | rfl | rfl | rfl | rfl | rfl | rfl
            all_goals (have ho := Option.some.inj hi7; subst ho; clear hi7 hlt7)
            · have q12 : a.tmps[12]?.getD undef = .pointer (some ⟨wj.heap.size, 0, none⟩) := (hsame 12 (by decide +kernel)).trans f12
              refine step_plain rfl ?_
              have hk := Lib.hid (show ∀ v7 x', v7 = .pointer (some ⟨wj.heap.size, 0, none⟩) → Below x.heap.size x x' → K (a.put (some 102) v7) x' from hK)
              have Hbx := Lib.hid hbx
              clear hsame hpre hK hbx
              go_simp
              exact hk.out _ _ rfl (Below.refl _ _)
            · have q102 : a.tmps[102]?.getD undef = .pointer (some ⟨wj.heap.size, 0, none⟩) := hpre ⟨0, .data⟩ (by simp) rfl (by decide)
              refine step_plain rfl ?_
              have hk := Lib.hid (show ∀ v7 x', v7 = .agg IX → Below x.heap.size x x' → K (a.put (some 103) v7) x' from hK)
              have Hbx := Lib.hid hbx
              clear hsame hpre hK hbx
              refine wp_load_mid 25 (.tmp 102) rfl wj.heap.size 0 (eval_at q102) IX.toList _ (HRX.out _ Hbx.out) Tryd.underlying25 rfl HinfX.out ?_
              exact hk.out _ _ rfl (Below.refl _ _)
            · have q0 : a.tmps[0]?.getD undef = .slice (some ⟨b, off, none⟩) n cc := (hsame 0 (by decide +kernel)).trans f0
              refine step_plain rfl ?_
              have hk := Lib.hid (show ∀ v7 x', v7 = .slice (some ⟨b, off, none⟩) n cc → Below x.heap.size x x' → K (a.put (some 104) v7) x' from hK)
              have Hbx := Lib.hid hbx
              clear hsame hpre hK hbx
              go_simp
              exact hk.out _ _ rfl (Below.refl _ _)
            · have q7 : a.tmps[7]?.getD undef = .int .i64 (i : Int) := (hsame 7 (by decide +kernel)).trans f7
              refine step_plain rfl ?_
              have hk := Lib.hid (show ∀ v7 x', v7 = .int .i64 (i : Int) → Below x.heap.size x x' → K (a.put (some 105) v7) x' from hK)
              have Hbx := Lib.hid hbx
              clear hsame hpre hK hbx
              go_simp
              exact hk.out _ _ rfl (Below.refl _ _)
            · have q104 : a.tmps[104]?.getD undef = .slice (some ⟨b, off, none⟩) n cc := hpre ⟨2, .data⟩ (by simp) rfl (by decide)
              have q105 : a.tmps[105]?.getD undef = .int .i64 (i : Int) := hpre ⟨3, .data⟩ (by simp) rfl (by decide)
              refine step_plain rfl ?_
              have hk := Lib.hid (show ∀ v7 x', v7 = .pointer (some ⟨b, off + i * 15, none⟩) → Below x.heap.size x x' → K (a.put (some 106) v7) x' from hK)
              have Hbx := Lib.hid hbx
              clear hsame hpre hK hbx
              go_simp
              exact hk.out _ _ rfl (Below.refl _ _)
            · have q106 : a.tmps[106]?.getD undef = .pointer (some ⟨b, off + i * 15, none⟩) := hpre ⟨4, .data⟩ (by simp) rfl (by decide)
              refine step_plain rfl ?_
              have hk := Lib.hid (show ∀ v7 x', v7 = .pointer (some ⟨b, off + i * 15, none⟩) → Below x.heap.size x x' → K (a.put (some 107) v7) x' from hK)
              have Hbx := Lib.hid hbx
              clear hsame hpre hK hbx
              go_simp
              exact hk.out _ _ rfl (Below.refl _ _)
            · have q107 : a.tmps[107]?.getD undef = .pointer (some ⟨b, off + i * 15, none⟩) := hpre ⟨5, .data⟩ (by simp) rfl (by decide)
              refine step_plain rfl ?_
              have hk := Lib.hid (show ∀ v7 x', v7 = .agg IL → Below x.heap.size x x' → K (a.put (some 108) v7) x' from hK)
              have Hbx := Lib.hid hbx
              clear hsame hpre hK hbx
              refine wp_load_mid 25 (.tmp 107) rfl b (off + i * 15) (eval_at q107) IL.toList _ (HRI.out _ (below_call Hb9.out (below_call Hbj1.out Hbx.out))) Tryd.underlying25 rfl HinfI.out ?_
              exact hk.out _ _ rfl (Below.refl _ _)
            · have q103 : a.tmps[103]?.getD undef = .agg IX := hpre ⟨1, .data⟩ (by simp) rfl (by decide)
              have q108 : a.tmps[108]?.getD undef = .agg IL := hpre ⟨6, .data⟩ (by simp) rfl (by decide)
              refine step_plain rfl ?_
              have hk := Lib.hid (show ∀ v7 x', v7 = .bool false → Below x.heap.size x x' → K (a.put (some 109) v7) x' from hK)
              have Hbx := Lib.hid hbx
              clear hsame hpre hK hbx
              have heq := Heq.out
              go_simp
              exact hk.out _ _ rfl (Below.refl _ _)
            · have q109 : a.tmps[109]?.getD undef = .bool false := hpre ⟨7, .data⟩ (by simp) rfl (by decide)
              refine step_plain rfl ?_
              have hk := Lib.hid (show ∀ v7 x', v7 = .bool false → Below x.heap.size x x' → K (a.put (some 110) v7) x' from hK)
              have Hbx := Lib.hid hbx
              clear hsame hpre hK hbx
              go_simp
              exact hk.out _ _ rfl (Below.refl _ _)
            · have w110 : a.tmps[110]?.getD undef = .bool false := hpre ⟨8, .guard⟩ (by simp) rfl (by decide)
              refine step_left (not_wanted (j := 8) (t := 110) (b := true) rfl rfl (.inr w110)) ?_
              have hk := Lib.hid (show ∀ v7 x', v7 = undef → Below x.heap.size x x' → K (a.put (some 111) v7) x' from hK)
              have Hbx := Lib.hid hbx
              clear hsame hpre hK hbx w110
              exact hk.out _ _ rfl (Below.refl _ _)
            · have w110 : a.tmps[110]?.getD undef = .bool false := hpre ⟨8, .guard⟩ (by simp) rfl (by decide)
              refine step_left (not_wanted (j := 8) (t := 110) (b := true) rfl rfl (.inr w110)) ?_
              have hk := Lib.hid (show ∀ v7 x', v7 = undef → Below x.heap.size x x' → K (a.put (some 112) v7) x' from hK)
              have Hbx := Lib.hid hbx
              clear hsame hpre hK hbx w110
              exact hk.out _ _ rfl (Below.refl _ _)
            · have w110 : a.tmps[110]?.getD undef = .bool false := hpre ⟨8, .guard⟩ (by simp) rfl (by decide)
              refine step_left (not_wanted (j := 8) (t := 110) (b := true) rfl rfl (.inr w110)) ?_
              have hk := Lib.hid (show ∀ v7 x', v7 = undef → Below x.heap.size x x' → K (a.put (some 113) v7) x' from hK)
              have Hbx := Lib.hid hbx
              clear hsame hpre hK hbx w110
              exact hk.out _ _ rfl (Below.refl _ _)
            · have w110 : a.tmps[110]?.getD undef = .bool false := hpre ⟨8, .guard⟩ (by simp) rfl (by decide)
              refine step_left (not_wanted (j := 8) (t := 110) (b := true) rfl rfl (.inr w110)) ?_
              have hk := Lib.hid (show ∀ v7 x', v7 = undef → Below x.heap.size x x' → K (a.put (some 114) v7) x' from hK)
              have Hbx := Lib.hid hbx
              clear hsame hpre hK hbx w110
              exact hk.out _ _ rfl (Below.refl _ _)
            · have w110 : a.tmps[110]?.getD undef = .bool false := hpre ⟨8, .guard⟩ (by simp) rfl (by decide)
              refine step_left (not_wanted (j := 8) (t := 110) (b := true) rfl rfl (.inr w110)) ?_
              have hk := Lib.hid (show ∀ v7 x', v7 = undef → Below x.heap.size x x' → K (a.put (some 115) v7) x' from hK)
              have Hbx := Lib.hid hbx
              clear hsame hpre hK hbx w110
              exact hk.out _ _ rfl (Below.refl _ _)
            · have w110 : a.tmps[110]?.getD undef = .bool false := hpre ⟨8, .guard⟩ (by simp) rfl (by decide)
              refine step_left (not_wanted (j := 8) (t := 110) (b := true) rfl rfl (.inr w110)) ?_
              have hk := Lib.hid (show ∀ v7 x', v7 = undef → Below x.heap.size x x' → K (a.put (some 116) v7) x' from hK)
              have Hbx := Lib.hid hbx
              clear hsame hpre hK hbx w110
              exact hk.out _ _ rfl (Below.refl _ _)
            · have w110 : a.tmps[110]?.getD undef = .bool false := hpre ⟨8, .guard⟩ (by simp) rfl (by decide)
              refine step_left (not_wanted (j := 8) (t := 110) (b := true) rfl rfl (.inr w110)) ?_
              have hk := Lib.hid (show ∀ v7 x', v7 = undef → Below x.heap.size x x' → K (a.put (some 117) v7) x' from hK)
              have Hbx := Lib.hid hbx
              clear hsame hpre hK hbx w110
              exact hk.out _ _ rfl (Below.refl _ _)
            · have w110 : a.tmps[110]?.getD undef = .bool false := hpre ⟨8, .guard⟩ (by simp) rfl (by decide)
              refine step_left (not_wanted (j := 8) (t := 110) (b := true) rfl rfl (.inr w110)) ?_
              have hk := Lib.hid (show ∀ v7 x', v7 = undef → Below x.heap.size x x' → K (a.put (some 118) v7) x' from hK)
              have Hbx := Lib.hid hbx
              clear hsame hpre hK hbx w110
              exact hk.out _ _ rfl (Below.refl _ _)
            · have w110 : a.tmps[110]?.getD undef = .bool false := hpre ⟨8, .guard⟩ (by simp) rfl (by decide)
              refine step_left (not_wanted (j := 8) (t := 110) (b := true) rfl rfl (.inr w110)) ?_
              have hk := Lib.hid (show ∀ v7 x', v7 = undef → Below x.heap.size x x' → K (a.put (some 119) v7) x' from hK)
              have Hbx := Lib.hid hbx
              clear hsame hpre hK hbx w110
              exact hk.out _ _ rfl (Below.refl _ _)
            · have w110 : a.tmps[110]?.getD undef = .bool false := hpre ⟨8, .guard⟩ (by simp) rfl (by decide)
              refine step_left (not_wanted (j := 8) (t := 110) (b := true) rfl rfl (.inr w110)) ?_
              have hk := Lib.hid (show ∀ v7 x', v7 = undef → Below x.heap.size x x' → K (a.put (some 120) v7) x' from hK)
              have Hbx := Lib.hid hbx
              clear hsame hpre hK hbx w110
              exact hk.out _ _ rfl (Below.refl _ _)
            · have w110 : a.tmps[110]?.getD undef = .bool false := hpre ⟨8, .guard⟩ (by simp) rfl (by decide)
              refine step_left (not_wanted (j := 8) (t := 110) (b := true) rfl rfl (.inr w110)) ?_
              have hk := Lib.hid (show ∀ v7 x', v7 = undef → Below x.heap.size x x' → K (a.put (some 121) v7) x' from hK)
              have Hbx := Lib.hid hbx
              clear hsame hpre hK hbx w110
              exact hk.out _ _ rfl (Below.refl _ _)
            · have w110 : a.tmps[110]?.getD undef = .bool false := hpre ⟨8, .guard⟩ (by simp) rfl (by decide)
              refine step_left (not_wanted (j := 8) (t := 110) (b := true) rfl rfl (.inr w110)) ?_
              have hk := Lib.hid (show ∀ v7 x', v7 = undef → Below x.heap.size x x' → K (a.put (some 122) v7) x' from hK)
              have Hbx := Lib.hid hbx
              clear hsame hpre hK hbx w110
              exact hk.out _ _ rfl (Below.refl _ _)
            · have q110 : a.tmps[110]?.getD undef = .bool false := hpre ⟨8, .data⟩ (by simp) rfl (by decide)
              have q122 : a.tmps[122]?.getD undef = undef := hpre ⟨20, .data⟩ (by simp) rfl (by decide)
              refine step_plain rfl ?_
              have hk := Lib.hid (show ∀ v7 x', v7 = .bool false → Below x.heap.size x x' → K (a.put (some 123) v7) x' from hK)
              have Hbx := Lib.hid hbx
              clear hsame hpre hK hbx
              go_simp
              exact hk.out _ _ rfl (Below.refl _ _)
          intro a73 x73 hbx hsame hG hsz73 hde73
          replace f98 := (hsame 98 (by decide +kernel)).trans f98
          replace f0 := (hsame 0 (by decide +kernel)).trans f0
          replace f5 := (hsame 5 (by decide +kernel)).trans f5
          replace f6 := (hsame 6 (by decide +kernel)).trans f6
          replace f7 := (hsame 7 (by decide +kernel)).trans f7
          replace f8 := (hsame 8 (by decide +kernel)).trans f8
          replace f9 := (hsame 9 (by decide +kernel)).trans f9
          replace f96 := (hsame 96 (by decide +kernel)).trans f96
          replace f97 := (hsame 97 (by decide +kernel)).trans f97
          replace f12 := (hsame 12 (by decide +kernel)).trans f12
          have f123 : a73.tmps[123]?.getD undef = .bool false := hG 21 (by decide)
          have Hbx73 := Lib.hid hbx
          have hsz73h := Lib.hid hsz73
          have hde73h := Lib.hid (hde73.trans hde72.out)
          clear hsame hG hbx hsz73 hde73 hsz72 hde72
          refine then_go ?_
          repeat with_reducible refine wp_seq ?_
          refine wp_cond_false (eval_at f123) ?_
          refine wp_skip ?_
          refine block_go ?_
          refine then_go ?_
          clear f123 f12
          refine wp_region_lit ?_
          refine wpList_next rfl hsz73h hde73h 124 rfl (by decide) fun K hK => ?_
          go_simp
          refine hK _ _ fun a74 hsz74 hde74 f124 hk => ?_
          clear hK K
          replace f98 := (hk 98 (by decide)).trans f98
          replace f0 := (hk 0 (by decide)).trans f0
          replace f5 := (hk 5 (by decide)).trans f5
          replace f6 := (hk 6 (by decide)).trans f6
          replace f7 := (hk 7 (by decide)).trans f7
          replace f8 := (hk 8 (by decide)).trans f8
          replace f9 := (hk 9 (by decide)).trans f9
          replace f96 := (hk 96 (by decide)).trans f96
          replace f97 := (hk 97 (by decide)).trans f97
          clear hk hsz73h hde73h
          replace f124 : a74.tmps[124]?.getD undef = .int .i64 ((j + 1 : Nat) : Int) := f124.trans (by first | (congr 1; done) | (congr 1; rw [IntKind.wrap_i64] <;> omega))
          refine wpList_next rfl hsz74 hde74 98 rfl (by decide) fun K hK => ?_
          go_simp
          refine hK _ _ fun a75 hsz75 hde75 f98 hk => ?_
          clear hK K
          replace f0 := (hk 0 (by decide)).trans f0
          replace f5 := (hk 5 (by decide)).trans f5
          replace f6 := (hk 6 (by decide)).trans f6
          replace f7 := (hk 7 (by decide)).trans f7
          replace f8 := (hk 8 (by decide)).trans f8
          replace f9 := (hk 9 (by decide)).trans f9
          replace f96 := (hk 96 (by decide)).trans f96
          replace f97 := (hk 97 (by decide)).trans f97
          replace f98 : a75.tmps[98]?.getD undef = .int .i64 ((j + 1 : Nat) : Int) := f98
          clear hk hsz74 hde74 f124
          refine wpList_nil ?_
          refine then_go ?_
          exact ⟨⟨j + 1, by omega, hsz75, hde75, f98, f0, f5, f6, f7, f8, f9, f96, f97, (Lib.hid (below_call Hbj1.out Hbx73.out))⟩, by rw [f98, F98o.out]; show p9 - ((j + 1 : Nat) : Int).toNat < p9 - ((j : Nat) : Int).toNat; omega⟩
        | true =>
          have Hgt := Lib.hid (show s < X.by_ m by
            obtain ⟨h1, h2⟩ := HSj.out
            obtain ⟨k9, hk9, hx9⟩ := List.getElem_of_mem h1
            have hid := sameI_eq.1 Heb.out.symm
            have hMi := HMi.out (by rw [HMl.out]; exact hin)
            have hk9i : k9 = i := by
              apply Classical.byContradiction
              intro hne
              have hil8 : i < M.length := by rw [HMl.out]; exact hin
              rcases Nat.lt_or_ge k9 i with hlt9 | hge9
              · have := HMs.out k9 i hk9 hil8 hlt9
                rw [hx9, hMi, hid.1, hid.2] at this
                have e9 : lessV X.rep X.seq X.rep X.seq = true := this
                rw [lessV_self] at e9
                cases e9
              · have := HMs.out i k9 hil8 hk9 (by omega)
                rw [hx9, hMi, hid.1, hid.2] at this
                have e9 : lessV X.rep X.seq X.rep X.seq = true := this
                rw [lessV_self] at e9
                cases e9
            subst hk9i
            rw [hMi] at hx9
            rw [← hx9] at h2
            have hrs := Hrs.out
            have hrm : (r - 1).toNat = m := by have := Hmr.out; omega
            apply Classical.byContradiction
            intro hle
            have := died_gone (x := X) (repV_iff.2 ⟨hrs.1, hrs.2.1⟩) hrs.2.2 (by rw [hrm]; omega) (B := BV) (by rw [HBV.out, hrm]; unfold updV; rw [if_pos rfl])
            rw [this] at h2
            cases h2)
          clear Heb HSj
          refine wp_region_goodg (tblG [(102, .pointer (some ⟨wj.heap.size, 0, none⟩)), (103, .agg IX), (104, .slice (some ⟨b, off, none⟩) n cc), (105, .int .i64 (i : Int)), (106, .pointer (some ⟨b, off + i * 15, none⟩)), (107, .pointer (some ⟨b, off + i * 15, none⟩)), (108, .agg IL), (109, .bool true), (110, .bool true), (111, .slice (some ⟨b, off, none⟩) n cc), (112, .int .i64 (i : Int)), (113, .pointer (some ⟨w.heap.size, 0, none⟩)), (114, .int .i64 r), (115, .int .i64 (m : Int)), (116, .pointer (some ⟨b, off + i * 15, none⟩)), (117, .pointer (some ⟨b, off + i * 15 + 7, none⟩)), (118, .pointer (some ⟨b, off + i * 15 + 7 + m, none⟩)), (119, .int .u32 (X.by_ m : Int)), (120, .pointer (some ⟨w.heap.size, 1, none⟩)), (121, .int .u32 (s : Int)), (122, .bool false), (123, .bool false)]) 125 (by kernel_rfl) (by kernel_rfl) (by kernel_rfl) (by kernel_rfl) hsz72.out ?_ ?_ ?_
          · intro t v7 x x' h _ _
            exact h
          · intro i7 o hi7 a x hbx hsame hpre K hK
            have hlt7 : i7 < 22 := (Array.getElem?_eq_some_iff.1 hi7).1
            rcases (show i7 = 0 ∨ i7 = 1 ∨ i7 = 2 ∨ i7 = 3 ∨ i7 = 4 ∨ i7 = 5 ∨ i7 = 6 ∨ i7 = 7 ∨ i7 = 8 ∨ i7 = 9 ∨ i7 = 10 ∨ i7 = 11 ∨ i7 = 12 ∨ i7 = 13 ∨ i7 = 14 ∨ i7 = 15 ∨ i7 = 16 ∨ i7 = 17 ∨ i7 = 18 ∨ i7 = 19 ∨ i7 = 20 ∨ i7 = 21 by omega) with rfl | rfl | rfl | rfl | rfl | rfl | rfl | rfl | rfl | rfl | rfl | rfl | rfl | rfl | rfl | rfl | rfl | rfl | rfl | rfl | rfl | rfl
            all_goals (have ho := Option.some.inj hi7; subst ho; clear hi7 hlt7)
            · have q12 : a.tmps[12]?.getD undef = .pointer (some ⟨wj.heap.size, 0, none⟩) := (hsame 12 (by decide +kernel)).trans f12
              refine step_plain rfl ?_
              have hk := Lib.hid (show ∀ v7 x', v7 = .pointer (some ⟨wj.heap.size, 0, none⟩) → Below x.heap.size x x' → K (a.put (some 102) v7) x' from hK)
              have Hbx := Lib.hid hbx
              clear hsame hpre hK hbx
              go_simp
              exact hk.out _ _ rfl (Below.refl _ _)
            · have q102 : a.tmps[102]?.getD undef = .pointer (some ⟨wj.heap.size, 0, none⟩) := hpre ⟨0, .data⟩ (by simp) rfl (by decide)
              refine step_plain rfl ?_
              have hk := Lib.hid (show ∀ v7 x', v7 = .agg IX → Below x.heap.size x x' → K (a.put (some 103) v7) x' from hK)
              have Hbx := Lib.hid hbx
              clear hsame hpre hK hbx
              refine wp_load_mid 25 (.tmp 102) rfl wj.heap.size 0 (eval_at q102) IX.toList _ (HRX.out _ Hbx.out) Tryd.underlying25 rfl HinfX.out ?_
              exact hk.out _ _ rfl (Below.refl _ _)
            · have q0 : a.tmps[0]?.getD undef = .slice (some ⟨b, off, none⟩) n cc := (hsame 0 (by decide +kernel)).trans f0
              refine step_plain rfl ?_
              have hk := Lib.hid (show ∀ v7 x', v7 = .slice (some ⟨b, off, none⟩) n cc → Below x.heap.size x x' → K (a.put (some 104) v7) x' from hK)
              have Hbx := Lib.hid hbx
              clear hsame hpre hK hbx
              go_simp
              exact hk.out _ _ rfl (Below.refl _ _)
            · have q7 : a.tmps[7]?.getD undef = .int .i64 (i : Int) := (hsame 7 (by decide +kernel)).trans f7
              refine step_plain rfl ?_
              have hk := Lib.hid (show ∀ v7 x', v7 = .int .i64 (i : Int) → Below x.heap.size x x' → K (a.put (some 105) v7) x' from hK)
              have Hbx := Lib.hid hbx
              clear hsame hpre hK hbx
              go_simp
              exact hk.out _ _ rfl (Below.refl _ _)
            · have q104 : a.tmps[104]?.getD undef = .slice (some ⟨b, off, none⟩) n cc := hpre ⟨2, .data⟩ (by simp) rfl (by decide)
              have q105 : a.tmps[105]?.getD undef = .int .i64 (i : Int) := hpre ⟨3, .data⟩ (by simp) rfl (by decide)
              refine step_plain rfl ?_
              have hk := Lib.hid (show ∀ v7 x', v7 = .pointer (some ⟨b, off + i * 15, none⟩) → Below x.heap.size x x' → K (a.put (some 106) v7) x' from hK)
              have Hbx := Lib.hid hbx
              clear hsame hpre hK hbx
              go_simp
              exact hk.out _ _ rfl (Below.refl _ _)
            · have q106 : a.tmps[106]?.getD undef = .pointer (some ⟨b, off + i * 15, none⟩) := hpre ⟨4, .data⟩ (by simp) rfl (by decide)
              refine step_plain rfl ?_
              have hk := Lib.hid (show ∀ v7 x', v7 = .pointer (some ⟨b, off + i * 15, none⟩) → Below x.heap.size x x' → K (a.put (some 107) v7) x' from hK)
              have Hbx := Lib.hid hbx
              clear hsame hpre hK hbx
              go_simp
              exact hk.out _ _ rfl (Below.refl _ _)
            · have q107 : a.tmps[107]?.getD undef = .pointer (some ⟨b, off + i * 15, none⟩) := hpre ⟨5, .data⟩ (by simp) rfl (by decide)
              refine step_plain rfl ?_
              have hk := Lib.hid (show ∀ v7 x', v7 = .agg IL → Below x.heap.size x x' → K (a.put (some 108) v7) x' from hK)
              have Hbx := Lib.hid hbx
              clear hsame hpre hK hbx
              refine wp_load_mid 25 (.tmp 107) rfl b (off + i * 15) (eval_at q107) IL.toList _ (HRI.out _ (below_call Hb9.out (below_call Hbj1.out Hbx.out))) Tryd.underlying25 rfl HinfI.out ?_
              exact hk.out _ _ rfl (Below.refl _ _)
            · have q103 : a.tmps[103]?.getD undef = .agg IX := hpre ⟨1, .data⟩ (by simp) rfl (by decide)
              have q108 : a.tmps[108]?.getD undef = .agg IL := hpre ⟨6, .data⟩ (by simp) rfl (by decide)
              refine step_plain rfl ?_
              have hk := Lib.hid (show ∀ v7 x', v7 = .bool true → Below x.heap.size x x' → K (a.put (some 109) v7) x' from hK)
              have Hbx := Lib.hid hbx
              clear hsame hpre hK hbx
              have heq := Heq.out
              go_simp
              exact hk.out _ _ rfl (Below.refl _ _)
            · have q109 : a.tmps[109]?.getD undef = .bool true := hpre ⟨7, .data⟩ (by simp) rfl (by decide)
              refine step_plain rfl ?_
              have hk := Lib.hid (show ∀ v7 x', v7 = .bool true → Below x.heap.size x x' → K (a.put (some 110) v7) x' from hK)
              have Hbx := Lib.hid hbx
              clear hsame hpre hK hbx
              go_simp
              exact hk.out _ _ rfl (Below.refl _ _)
            · have q0 : a.tmps[0]?.getD undef = .slice (some ⟨b, off, none⟩) n cc := (hsame 0 (by decide +kernel)).trans f0
              have w110 : a.tmps[110]?.getD undef = .bool true := hpre ⟨8, .guard⟩ (by simp) rfl (by decide)
              refine step_wanted (wanted_of (j := 8) (t := 110) (b := true) rfl rfl w110) ?_
              have hk := Lib.hid (show ∀ v7 x', v7 = .slice (some ⟨b, off, none⟩) n cc → Below x.heap.size x x' → K (a.put (some 111) v7) x' from hK)
              have Hbx := Lib.hid hbx
              clear hsame hpre hK hbx w110
              go_simp
              exact hk.out _ _ rfl (Below.refl _ _)
            · have q7 : a.tmps[7]?.getD undef = .int .i64 (i : Int) := (hsame 7 (by decide +kernel)).trans f7
              have w110 : a.tmps[110]?.getD undef = .bool true := hpre ⟨8, .guard⟩ (by simp) rfl (by decide)
              refine step_wanted (wanted_of (j := 8) (t := 110) (b := true) rfl rfl w110) ?_
              have hk := Lib.hid (show ∀ v7 x', v7 = .int .i64 (i : Int) → Below x.heap.size x x' → K (a.put (some 112) v7) x' from hK)
              have Hbx := Lib.hid hbx
              clear hsame hpre hK hbx w110
              go_simp
              exact hk.out _ _ rfl (Below.refl _ _)
            · have q5 : a.tmps[5]?.getD undef = .pointer (some ⟨w.heap.size, 0, none⟩) := (hsame 5 (by decide +kernel)).trans f5
              have w110 : a.tmps[110]?.getD undef = .bool true := hpre ⟨8, .guard⟩ (by simp) rfl (by decide)
              refine step_wanted (wanted_of (j := 8) (t := 110) (b := true) rfl rfl w110) ?_
              have hk := Lib.hid (show ∀ v7 x', v7 = .pointer (some ⟨w.heap.size, 0, none⟩) → Below x.heap.size x x' → K (a.put (some 113) v7) x' from hK)
              have Hbx := Lib.hid hbx
              clear hsame hpre hK hbx w110
              go_simp
              exact hk.out _ _ rfl (Below.refl _ _)
            · have q113 : a.tmps[113]?.getD undef = .pointer (some ⟨w.heap.size, 0, none⟩) := hpre ⟨11, .data⟩ (by simp) rfl (by decide)
              have w110 : a.tmps[110]?.getD undef = .bool true := hpre ⟨8, .guard⟩ (by simp) rfl (by decide)
              refine step_wanted (wanted_of (j := 8) (t := 110) (b := true) rfl rfl w110) ?_
              have hk := Lib.hid (show ∀ v7 x', v7 = .int .i64 r → Below x.heap.size x x' → K (a.put (some 114) v7) x' from hK)
              have Hbx := Lib.hid hbx
              clear hsame hpre hK hbx w110
              have hcb := (HB.out _ (below_call Hb9.out (below_call Hbj1.out Hbx.out))).1
              go_simp
              exact hk.out _ _ rfl (Below.refl _ _)
            · have q114 : a.tmps[114]?.getD undef = .int .i64 r := hpre ⟨12, .data⟩ (by simp) rfl (by decide)
              have w110 : a.tmps[110]?.getD undef = .bool true := hpre ⟨8, .guard⟩ (by simp) rfl (by decide)
              refine step_wanted (wanted_of (j := 8) (t := 110) (b := true) rfl rfl w110) ?_
              have hk := Lib.hid (show ∀ v7 x', v7 = .int .i64 (m : Int) → Below x.heap.size x x' → K (a.put (some 115) v7) x' from hK)
              have Hbx := Lib.hid hbx
              clear hsame hpre hK hbx w110
              go_simp
              exact hk.out _ _ (by rw [Hmr.out]; first | (congr 1; rw [IntKind.wrap_i64] <;> omega) | (congr 1; omega)) (Below.refl _ _)
            · have q111 : a.tmps[111]?.getD undef = .slice (some ⟨b, off, none⟩) n cc := hpre ⟨9, .data⟩ (by simp) rfl (by decide)
              have q112 : a.tmps[112]?.getD undef = .int .i64 (i : Int) := hpre ⟨10, .data⟩ (by simp) rfl (by decide)
              have w110 : a.tmps[110]?.getD undef = .bool true := hpre ⟨8, .guard⟩ (by simp) rfl (by decide)
              refine step_wanted (wanted_of (j := 8) (t := 110) (b := true) rfl rfl w110) ?_
              have hk := Lib.hid (show ∀ v7 x', v7 = .pointer (some ⟨b, off + i * 15, none⟩) → Below x.heap.size x x' → K (a.put (some 116) v7) x' from hK)
              have Hbx := Lib.hid hbx
              clear hsame hpre hK hbx w110
              go_simp
              exact hk.out _ _ rfl (Below.refl _ _)
            · have q116 : a.tmps[116]?.getD undef = .pointer (some ⟨b, off + i * 15, none⟩) := hpre ⟨14, .data⟩ (by simp) rfl (by decide)
              have w110 : a.tmps[110]?.getD undef = .bool true := hpre ⟨8, .guard⟩ (by simp) rfl (by decide)
              refine step_wanted (wanted_of (j := 8) (t := 110) (b := true) rfl rfl w110) ?_
              have hk := Lib.hid (show ∀ v7 x', v7 = .pointer (some ⟨b, off + i * 15 + 7, none⟩) → Below x.heap.size x x' → K (a.put (some 117) v7) x' from hK)
              have Hbx := Lib.hid hbx
              clear hsame hpre hK hbx w110
              go_simp
              exact hk.out _ _ rfl (Below.refl _ _)
            · have q117 : a.tmps[117]?.getD undef = .pointer (some ⟨b, off + i * 15 + 7, none⟩) := hpre ⟨15, .data⟩ (by simp) rfl (by decide)
              have q115 : a.tmps[115]?.getD undef = .int .i64 (m : Int) := hpre ⟨13, .data⟩ (by simp) rfl (by decide)
              have w110 : a.tmps[110]?.getD undef = .bool true := hpre ⟨8, .guard⟩ (by simp) rfl (by decide)
              refine step_wanted (wanted_of (j := 8) (t := 110) (b := true) rfl rfl w110) ?_
              have hk := Lib.hid (show ∀ v7 x', v7 = .pointer (some ⟨b, off + i * 15 + 7 + m, none⟩) → Below x.heap.size x x' → K (a.put (some 118) v7) x' from hK)
              have Hbx := Lib.hid hbx
              clear hsame hpre hK hbx w110
              go_simp
              exact hk.out _ _ rfl (Below.refl _ _)
            · have q118 : a.tmps[118]?.getD undef = .pointer (some ⟨b, off + i * 15 + 7 + m, none⟩) := hpre ⟨16, .data⟩ (by simp) rfl (by decide)
              have w110 : a.tmps[110]?.getD undef = .bool true := hpre ⟨8, .guard⟩ (by simp) rfl (by decide)
              refine step_wanted (wanted_of (j := 8) (t := 110) (b := true) rfl rfl w110) ?_
              have hk := Lib.hid (show ∀ v7 x', v7 = .int .u32 (X.by_ m : Int) → Below x.heap.size x x' → K (a.put (some 119) v7) x' from hK)
              have Hbx := Lib.hid hbx
              clear hsame hpre hK hbx w110
              have hcx := HXby.out _ (below_call Hb9.out (below_call Hbj1.out Hbx.out))
              go_simp
              exact hk.out _ _ rfl (Below.refl _ _)
            · have q5 : a.tmps[5]?.getD undef = .pointer (some ⟨w.heap.size, 0, none⟩) := (hsame 5 (by decide +kernel)).trans f5
              have w110 : a.tmps[110]?.getD undef = .bool true := hpre ⟨8, .guard⟩ (by simp) rfl (by decide)
              refine step_wanted (wanted_of (j := 8) (t := 110) (b := true) rfl rfl w110) ?_
              have hk := Lib.hid (show ∀ v7 x', v7 = .pointer (some ⟨w.heap.size, 1, none⟩) → Below x.heap.size x x' → K (a.put (some 120) v7) x' from hK)
              have Hbx := Lib.hid hbx
              clear hsame hpre hK hbx w110
              go_simp
              exact hk.out _ _ rfl (Below.refl _ _)
            · have q120 : a.tmps[120]?.getD undef = .pointer (some ⟨w.heap.size, 1, none⟩) := hpre ⟨18, .data⟩ (by simp) rfl (by decide)
              have w110 : a.tmps[110]?.getD undef = .bool true := hpre ⟨8, .guard⟩ (by simp) rfl (by decide)
              refine step_wanted (wanted_of (j := 8) (t := 110) (b := true) rfl rfl w110) ?_
              have hk := Lib.hid (show ∀ v7 x', v7 = .int .u32 (s : Int) → Below x.heap.size x x' → K (a.put (some 121) v7) x' from hK)
              have Hbx := Lib.hid hbx
              clear hsame hpre hK hbx w110
              have hcb := (HB.out _ (below_call Hb9.out (below_call Hbj1.out Hbx.out))).2.1
              go_simp
              exact hk.out _ _ rfl (Below.refl _ _)
            · have q119 : a.tmps[119]?.getD undef = .int .u32 (X.by_ m : Int) := hpre ⟨17, .data⟩ (by simp) rfl (by decide)
              have q121 : a.tmps[121]?.getD undef = .int .u32 (s : Int) := hpre ⟨19, .data⟩ (by simp) rfl (by decide)
              have w110 : a.tmps[110]?.getD undef = .bool true := hpre ⟨8, .guard⟩ (by simp) rfl (by decide)
              refine step_wanted (wanted_of (j := 8) (t := 110) (b := true) rfl rfl w110) ?_
              have hk := Lib.hid (show ∀ v7 x', v7 = .bool false → Below x.heap.size x x' → K (a.put (some 122) v7) x' from hK)
              have Hbx := Lib.hid hbx
              clear hsame hpre hK hbx w110
              have hgt := Hgt.out
              go_simp
              exact hk.out _ _ (by first | rfl | (congr 1; first | exact decide_eq_false (by omega) | (simp; omega))) (Below.refl _ _)
            · have q110 : a.tmps[110]?.getD undef = .bool true := hpre ⟨8, .data⟩ (by simp) rfl (by decide)
              have q122 : a.tmps[122]?.getD undef = .bool false := hpre ⟨20, .data⟩ (by simp) rfl (by decide)
              refine step_plain rfl ?_
              have hk := Lib.hid (show ∀ v7 x', v7 = .bool false → Below x.heap.size x x' → K (a.put (some 123) v7) x' from hK)
              have Hbx := Lib.hid hbx
              clear hsame hpre hK hbx
              go_simp
              exact hk.out _ _ rfl (Below.refl _ _)
          intro a73 x73 hbx hsame hG hsz73 hde73
          replace f98 := (hsame 98 (by decide +kernel)).trans f98
          replace f0 := (hsame 0 (by decide +kernel)).trans f0
          replace f5 := (hsame 5 (by decide +kernel)).trans f5
          replace f6 := (hsame 6 (by decide +kernel)).trans f6
          replace f7 := (hsame 7 (by decide +kernel)).trans f7
          replace f8 := (hsame 8 (by decide +kernel)).trans f8
          replace f9 := (hsame 9 (by decide +kernel)).trans f9
          replace f96 := (hsame 96 (by decide +kernel)).trans f96
          replace f97 := (hsame 97 (by decide +kernel)).trans f97
          replace f12 := (hsame 12 (by decide +kernel)).trans f12
          have f123 : a73.tmps[123]?.getD undef = .bool false := hG 21 (by decide)
          have Hbx73 := Lib.hid hbx
          have hsz73h := Lib.hid hsz73
          have hde73h := Lib.hid (hde73.trans hde72.out)
          clear hsame hG hbx hsz73 hde73 hsz72 hde72
          refine then_go ?_
          repeat with_reducible refine wp_seq ?_
          refine wp_cond_false (eval_at f123) ?_
          refine wp_skip ?_
          refine block_go ?_
          refine then_go ?_
          clear f123 f12
          refine wp_region_lit ?_
          refine wpList_next rfl hsz73h hde73h 124 rfl (by decide) fun K hK => ?_
          go_simp
          refine hK _ _ fun a74 hsz74 hde74 f124 hk => ?_
          clear hK K
          replace f98 := (hk 98 (by decide)).trans f98
          replace f0 := (hk 0 (by decide)).trans f0
          replace f5 := (hk 5 (by decide)).trans f5
          replace f6 := (hk 6 (by decide)).trans f6
          replace f7 := (hk 7 (by decide)).trans f7
          replace f8 := (hk 8 (by decide)).trans f8
          replace f9 := (hk 9 (by decide)).trans f9
          replace f96 := (hk 96 (by decide)).trans f96
          replace f97 := (hk 97 (by decide)).trans f97
          clear hk hsz73h hde73h
          replace f124 : a74.tmps[124]?.getD undef = .int .i64 ((j + 1 : Nat) : Int) := f124.trans (by first | (congr 1; done) | (congr 1; rw [IntKind.wrap_i64] <;> omega))
          refine wpList_next rfl hsz74 hde74 98 rfl (by decide) fun K hK => ?_
          go_simp
          refine hK _ _ fun a75 hsz75 hde75 f98 hk => ?_
          clear hK K
          replace f0 := (hk 0 (by decide)).trans f0
          replace f5 := (hk 5 (by decide)).trans f5
          replace f6 := (hk 6 (by decide)).trans f6
          replace f7 := (hk 7 (by decide)).trans f7
          replace f8 := (hk 8 (by decide)).trans f8
          replace f9 := (hk 9 (by decide)).trans f9
          replace f96 := (hk 96 (by decide)).trans f96
          replace f97 := (hk 97 (by decide)).trans f97
          replace f98 : a75.tmps[98]?.getD undef = .int .i64 ((j + 1 : Nat) : Int) := f98
          clear hk hsz74 hde74 f124
          refine wpList_nil ?_
          refine then_go ?_
          exact ⟨⟨j + 1, by omega, hsz75, hde75, f98, f0, f5, f6, f7, f8, f9, f96, f97, (Lib.hid (below_call Hbj1.out Hbx73.out))⟩, by rw [f98, F98o.out]; show p9 - ((j + 1 : Nat) : Int).toNat < p9 - ((j : Nat) : Int).toNat; omega⟩
      · have hjn : j = p9 := by omega
        have hltj : decide ((j : Int) < (p9 : Int)) = false := decide_eq_false (by omega)
        clear hjn
        refine wp_region_lit ?_
        refine wpList_next rfl hsz68 hde68 99 rfl (by decide) fun K hK => ?_
        go_simp
        refine hK _ _ fun a69 hsz69 hde69 f99 hk => ?_
        clear hK K
        replace f98 := (hk 98 (by decide)).trans f98
        replace f0 := (hk 0 (by decide)).trans f0
        replace f5 := (hk 5 (by decide)).trans f5
        replace f6 := (hk 6 (by decide)).trans f6
        replace f7 := (hk 7 (by decide)).trans f7
        replace f8 := (hk 8 (by decide)).trans f8
        replace f9 := (hk 9 (by decide)).trans f9
        replace f96 := (hk 96 (by decide)).trans f96
        replace f97 := (hk 97 (by decide)).trans f97
        clear hk hsz68 hde68
        replace f99 : a69.tmps[99]?.getD undef = .bool false := f99.trans (by first | rfl | simp [hlt])
        refine wpList_nil ?_
        refine then_go ?_
        repeat with_reducible refine wp_seq ?_
        refine wp_cond_false (eval_at f99) ?_
        refine wp_exit ?_
        repeat with_reducible refine then_exit ?_
        refine block_exit ?_
        refine then_go ?_
        clear f99 f96 f97 f98
        repeat with_reducible refine wp_seq ?_
        refine wp_region_lit ?_
        refine wpList_next rfl hsz69 hde69 6 rfl (by decide) fun K hK => ?_
        go_simp
        refine hK _ _ fun a70 hsz70 hde70 f6 hk => ?_
        clear hK K
        replace f0 := (hk 0 (by decide)).trans f0
        replace f5 := (hk 5 (by decide)).trans f5
        replace f7 := (hk 7 (by decide)).trans f7
        replace f8 := (hk 8 (by decide)).trans f8
        replace f9 := (hk 9 (by decide)).trans f9
        replace f6 : a70.tmps[6]?.getD undef = .bool true := f6
        clear hk hsz69 hde69
        refine wpList_nil ?_
        refine then_go ?_
        refine wp_ret ?_
        refine (ret_tmp (R := fun e2 w2 => e2 = .returned (.bool true) ∧ Below w.heap.size w w2) Tryd.results9 hde70 f6 ?_)
        exact ⟨rfl, below_call Hbel.out (below_call Hb9.out Hbj.out)⟩
end Go.Proofs.YtckibimganmklaaDoor
