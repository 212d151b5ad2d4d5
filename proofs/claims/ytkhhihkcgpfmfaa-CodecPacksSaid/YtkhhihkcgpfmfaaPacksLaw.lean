/-
  The walk of CodecPacks.
-/
import Derived.Test.YtkhhihkcgpfmfaaApartLaw
import Derived.Test.YtkhhihkcgpfmfaaRefPack
import Derived.Test.YtkhhihkcgpfmfaaNum
import Derived.Deep.RegionHeldLaw
import Derived.Deep.OwnRows
namespace Go.Proofs.Ytkhhihkcgpfmfaa
open Go.RowKit
set_option maxRecDepth 100000

set_option maxHeartbeats 1000000 in
theorem codecpacks_short (L : List (List UInt8)) (v : Value) (ok : Nat → Prop) (w : World) (hv : IsBB w ok v L) (hfew : fewV L = true) :
    Calls Try.prog 4 #[v, .bool false] w fun e w' => e = .returned (.bool true) ∧ Below w.heap.size w w' := by
  have Hv := Lib.hid hv
  clear hv
  obtain ⟨hsum, hshort⟩ := fewV_le L hfew
  have hpl := packB_length_le L
  have hn : L.length ≤ 3000 := by omega
  have hpk : (packB L).length ≤ 12000 := by omega
  have hall : ∀ f ∈ L, f.length ≤ 65535 := fun f hf => by have := hshort f hf; omega
  have Hf := Lib.hid hfew
  have Hall := Lib.hid hall
  clear hfew hall hsum hshort hpl
  obtain ⟨A0, c0, hv0, hc0, hm0, _⟩ := Hv.out.elem
  subst hv0
  unfold maxLen at hm0
  go_enter Try.func4, Try.ntmps4
  go_wp2_with fail
  refine (lives_any _).mono ?_
  rintro e w1 ⟨rfl, hb1⟩
  go_wp2_with fail
  refine (few_any ok _ L _ (Hv.out.grow hb1)).mono ?_
  rintro e w2 ⟨rfl, hb2⟩
  rw [Hf.out]
  have hb12 := below_call hb1 hb2
  go_wp2_with fail
  refine (pack_ok ok _ L _ (Hv.out.grow hb12) (by omega) Hall.out).mono ?_
  rintro e w3 ⟨x, rfl, hx, hb3⟩
  have hb13 := below_call hb12 hb3
  obtain ⟨Ax, cx, rfl, hxc, hxm, hxr⟩ := hx.isB
  have Hx3 := Lib.hid (hxr.weaken (ok' := fun _ => True) (fun _ _ => trivial))
  clear hx hxr
  go_wp2_with fail
  refine (texts_at _ _ L _ (Hv.out.grow hb13) (by omega)).mono ?_
  rintro e w4 ⟨A4, c4, rfl, ho4, hr4, hb4⟩
  have hb14 := below_call hb13 hb4
  go_wp2_with fail
  refine (refpack_any _ A4 c4 L _ hr4 (by omega) (by omega) Hall.out).mono ?_
  rintro e w5 ⟨rfl, hb5⟩
  have hb15 := below_call hb14 hb5
  have hx5 := (Hx3.out.grow hb4).grow hb5
  go_wp2_with fail
  refine (unpack_ok _ _ L (L.length : Int) rfl _ ⟨Ax, cx, rfl, hxc, hxm, hx5⟩ (by omega) Hall.out).mono ?_
  rintro e w6 ⟨z, rfl, hz, hb6⟩
  have hb16 := below_call hb15 hb6
  have hzB := hz.isBB
  have hx6 := hx5.grow hb6
  clear hz hx5
  have hcv := conv_later' (c := cx) hx6 w6 (Below.refl _ _)
  go_wp2_with fail
  refine (texts_at _ z L _ hzB (by omega)).mono ?_
  rintro e w7 ⟨A7, c7, rfl, ho7, hr7, hb7⟩
  have hb17 := below_call hb16 hb7
  go_wp2_with fail
  refine (texts_at _ _ L _ (Hv.out.grow hb17) (by omega)).mono ?_
  rintro e w8 ⟨A8, c8, rfl, ho8, hr8, hb8⟩
  have hb18 := below_call hb17 hb8
  go_wp2_with fail
  refine (same_any _ _ A7 A8 c7 c8 L L _ (hr7.grow hb8) hr8 (by omega)).mono ?_
  rintro e w9 ⟨rfl, hb9⟩
  go_wp2_with fail
  go_ret
  exact ⟨by simp, below_call hb18 hb9⟩

theorem isBB_open {w : World} {ok : Nat → Prop} {A : Option Addr} {c : Nat} {L : List (List UInt8)} (h : IsBB w ok (.slice A L.length c) L) : ∃ vs : List Value, vs.length = L.length ∧ Rd w ok A vs ∧ ∀ (i : Nat) (h : i < L.length) (h' : i < vs.length), IsB w ok vs[i] L[i] := by
  obtain ⟨A', c', vs, hx, hl, _, _, hr, he⟩ := h
  cases hx
  exact ⟨vs, hl, hr, he⟩

/-- So many zeros, as cells. -/
def zeroCells (n : Nat) : Array Value := madeCells #[.int .u8 0] n
theorem run_zeros (n : Nat) (h : n ≤ 1099511627776) (u : World) : (Instr.makeSlice 23 (.int .i64 (n : Int)) (.int .i64 (n : Int))).run Try.prog u = .ok (.slice (some ⟨u.heap.size, 0, none⟩) n n) (u.alloc (.cells (zeroCells n) 5)) :=
  run_make_row' (P := Try.prog) 23 5 (.int .u8 0) 1 Try.underlying23 info_byte rfl .i64 .i64 n (by omega) (by omega) u
theorem zeroCells_toList (n : Nat) : (zeroCells n).toList = (List.replicate n (0 : UInt8)).map u8 := by
  rw [zeroCells, madeCells_byte]
  simp [u8]

theorem append_nothing' {P : Program} (w : World) {t ty e : TypeId} {i : TypeInfo} (ht : P.underlying t = some (.slice e)) (hi : P.info? e = some i) {base size n c : Nat} {v : Value} {xs : List Value} (A : Option Addr) (hown : w.ownsRow base e size v n xs) :
    (Builtin.append_ #[t, t] ty #[v, .slice A 0 c]).run P w = .ok v w := by
  cases A <;> rcases hown.2 with ⟨rfl, rfl⟩ | ⟨g, cap, cur, rfl, _, _, hnc, _⟩
  · simp [Builtin.append_, run_underlying ht, sizeOf, typeInfo, hi, Builtin.lenOf, Builtin.firstCells]
  · simp [Builtin.append_, run_underlying ht, sizeOf, typeInfo, hi, Builtin.lenOf, Builtin.firstCells, hnc, storeCells]
  · simp [Builtin.append_, run_underlying ht, sizeOf, typeInfo, hi, Builtin.lenOf, Builtin.firstCells, loadCells, loadCellsFrom]
  · simp [Builtin.append_, run_underlying ht, sizeOf, typeInfo, hi, Builtin.lenOf, Builtin.firstCells, hnc, storeCells, loadCells, loadCellsFrom]

/-- append onto an own row that is empty: what lay in memory lies there. -/
theorem run_app_fresh {P : Program} {w : World} {t ty e : TypeId} {bytes : Nat} (het : ElemT P t e bytes) {base g : Nat} (hblk : Blk w g e #[]) (hg : base ≤ g) (hbase : base ≤ w.heap.size)
    {ok : Nat → Prop} {A : Option Addr} {c : Nat} {news : List Value} (hr : Rd w ok A news) (hbytes : news.length * bytes ≤ 140737488355328) (h63 : news.length ≤ 140737488355328) :
    ∃ v' w', (Builtin.append_ #[t, t] ty #[.slice (some ⟨g, 0, none⟩) 0 0, .slice A news.length c]).run P w = .ok v' w' ∧ Own1 w' base e v' news ∧ Below w.heap.size w w' := by
  have hown : Own1 w base e (.slice (some ⟨g, 0, none⟩) 0 0) [] := by
    unfold Own1 World.ownsRow
    exact ⟨by simp, .inr ⟨g, 0, #[], rfl, hg, hblk, by simp, by simp, by simp, by simp⟩⟩
  obtain ⟨ht, i, z, hi, hz, hz1, hz2, hz3⟩ := het
  by_cases hn : news = []
  · subst hn
    exact ⟨_, w, append_nothing' (P := P) w (ty := ty) (c := c) ht hi A hown, hown, Below.refl _ _⟩
  · obtain ⟨ad, rfl, _, hc⟩ := hr hn
    have hpos := List.length_pos_iff.2 hn
    obtain ⟨v', w', hrun, h1, h2⟩ := run_append_arg_grows (P := P) w t ty e i z 1 bytes ht hi hz hz1 hz2 hz3 (by decide) ⟨g, 0, none⟩ 0 0 [] (by simp) (fun j u hu => by simp at hu) ad news.length c news (by simp) hc (by omega) (by simp only [maxLen]; omega) (by simpa using hbytes)
    have hown' : Own1 w' w.heap.size e v' news := by
      unfold Own1
      simpa using h1
    exact ⟨v', w', hrun, hown'.mono hbase, below_of_grown h2 (Nat.le_refl _) (fun k hk => by cases hk)⟩

theorem step_app_fresh {P : Program} {w : World} {t e : TypeId} {bytes : Nat} (het : ElemT P t e bytes) {ops : Array Oper} {o : Oper} {a : Act} {K : Act → World → Prop} {Q : Exit → Act → World → Prop} {E : Prop} (hw : Region.wanted o (yielded ops a.tmps) = true) (s x : Operand)
    (ho : o.op = .call { callee := .builtin .append, args := #[s, x], argTypes := #[t, t] })
    (base g : Nat) (hs : a.eval s = .slice (some ⟨g, 0, none⟩) 0 0) (hblk : Blk w g e #[]) (hg : base ≤ g) (hbase : base ≤ w.heap.size)
    (ok : Nat → Prop) (A : Option Addr) (m c : Nat) (news : List Value) (hm : news.length = m) (hx : a.eval x = .slice A m c) (hr : Rd w ok A news)
    (hbytes : m * bytes ≤ 140737488355328) (h63 : m ≤ 140737488355328)
    (h : ∀ v' w', Own1 w' base e v' news → Below w.heap.size w w' → K (a.put o.dst v') w') :
    if Region.wanted o (yielded ops a.tmps) = true then Oper.wp P o a w K Q else E := by
  subst hm
  obtain ⟨v', w', hrun, h2, h3⟩ := run_app_fresh (P := P) (ty := o.type) het hblk hg hbase (c := c) hr hbytes h63
  rw [if_pos hw]
  unfold Oper.wp execOp
  simp only [ho, resolve, invoke, builtin, Sem.run_bind, Sem.run_pure, Result.andThen_ok, List.map_toArray, List.map_cons, List.map_nil, hs, hx, hrun]
  exact h v' w' h2 h3

theorem step_app1 {P : Program} {w : World} {t e : TypeId} {bytes : Nat} (het : ElemT P t e bytes) {ops : Array Oper} {o : Oper} {a : Act} {K : Act → World → Prop} {Q : Exit → Act → World → Prop} {E : Prop} (hw : Region.wanted o (yielded ops a.tmps) = true) (s x : Operand)
    (ho : o.op = .call { callee := .builtin .append, args := #[s, x], argTypes := #[t, t] })
    (base : Nat) (v : Value) (xs : List Value) (hs : a.eval s = v) (hown : Own1 w base e v xs)
    (ok : Nat → Prop) (A : Option Addr) (m c : Nat) (news : List Value) (hm : news.length = m) (hx : a.eval x = .slice A m c) (hr : Rd w ok A news) (h1 : ∀ u ∈ news, u.oneCell' = true)
    (hbytes : (xs.length + m) * bytes ≤ 140737488355328) (h63 : xs.length + m ≤ 140737488355328) (hbase : base ≤ w.heap.size)
    (h : ∀ v' w', Own1 w' base e v' (xs ++ news) → w.grownBy w' v.ownBlock → Below base w w' → K (a.put o.dst v') w') :
    if Region.wanted o (yielded ops a.tmps) = true then Oper.wp P o a w K Q else E := by
  subst hm
  obtain ⟨v', w', hrun, h2, h3, _⟩ := run_app1 (P := P) w (ty := o.type) het hown (c := c) hr h1 hbytes h63 hbase
  rw [if_pos hw]
  unfold Oper.wp execOp
  simp only [ho, resolve, invoke, builtin, Sem.run_bind, Sem.run_pure, Result.andThen_ok, List.map_toArray, List.map_cons, List.map_nil, hs, hx, hrun]
  exact h v' w' h2 h3 (hown.below_of h3 hbase (Nat.le_refl _))

theorem Blk.new' {w : World} {g : Nat} {t : TypeId} {cs : Array Value} (h : g = w.heap.size) : Blk (w.alloc (.cells cs t)) g t cs := by
  subst h
  exact Blk.new w t cs

/-- append of a field that lies apart. -/
theorem step_app_last {P : Program} {w : World} {t e te : TypeId} {bytes : Nat} (het : ElemT P t e bytes) {ops : Array Oper} {o : Oper} {a : Act} {K : Act → World → Prop} {Q : Exit → Act → World → Prop} {E : Prop} (hw : Region.wanted o (yielded ops a.tmps) = true) (s x : Operand)
    (ho : o.op = .call { callee := .builtin .append, args := #[s, x], argTypes := #[t, t] })
    (base gr n : Nat) (Z : Array Value) (v : Value) (xs : List Value) (hs : a.eval s = v) (hown : Own1 w base e v xs) (hx : a.eval x = .slice (some ⟨gr, 0, none⟩) 1 1)
    (hrz : ∃ gz, Blk w gr e #[.slice (some ⟨gz, 0, none⟩) n n] ∧ Blk w gz te Z) (hne : e ≠ te)
    (hbytes : (xs.length + 1) * bytes ≤ 140737488355328) (h63 : xs.length + 1 ≤ 140737488355328) (hbase : base ≤ w.heap.size)
    (h : ∀ gz v' w', Own1 w' base e v' (xs ++ [.slice (some ⟨gz, 0, none⟩) n n]) → Below base w w' → Blk w' gz te Z → K (a.put o.dst v') w') :
    if Region.wanted o (yielded ops a.tmps) = true then Oper.wp P o a w K Q else E := by
  obtain ⟨gz, hrow, hzero⟩ := hrz
  exact step_app1 het hw s x ho base v xs hs hown (fun _ => True) (some ⟨gr, 0, none⟩) 1 1 [.slice (some ⟨gz, 0, none⟩) n n] rfl hx (hrow.rd _ trivial) (fun u hu => by simp at hu; subst hu; rfl) hbytes h63 hbase
    fun v' w' h1 h2 h3 => h gz v' w' h1 h3 (hzero.grown h2 (hown.apart hzero hne))

theorem zeros_isB {w : World} {g n : Nat} {t : TypeId} {Z : Array Value} {F : List UInt8} (h : Blk w g t Z) (hZ : Z.toList = F.map u8) (hF : F.length = n) (hn : n ≤ maxLen) : IsB w (fun _ => True) (.slice (some ⟨g, 0, none⟩) n n) F := by
  subst hF
  have := h.rd (fun _ => True) trivial
  rw [hZ] at this
  exact ⟨_, _, rfl, Nat.le_refl _, hn, this⟩

/-- One more field behind the fields. -/
theorem isBB_snoc {w : World} {base : Nat} {v z : Value} {vs : List Value} {L : List (List UInt8)} {l : List UInt8} (h : Own1 w base 23 v (vs ++ [z])) (hl : vs.length = L.length) (he : ∀ (i : Nat) (h : i < L.length) (h' : i < vs.length), IsB w (fun _ => True) vs[i] L[i]) (hz : IsB w (fun _ => True) z l) :
    IsBB w (fun _ => True) v (L ++ [l]) := by
  obtain ⟨A, c, hx, hc, hm, hr⟩ := h.form
  refine ⟨A, c, vs ++ [z], by rw [hx]; simp [hl], by simp [hl], by simpa [hl] using hc, hm, hr.weaken fun _ _ => trivial, fun i hi hi' => ?_⟩
  rw [List.length_append, List.length_singleton] at hi hi'
  by_cases hil : i < L.length
  · rw [List.getElem_append_left hil, List.getElem_append_left (by omega)]
    exact he i hil (by omega)
  · obtain rfl : i = L.length := by omega
    rw [List.getElem_append_right (by omega), List.getElem_append_right (by omega)]
    simpa [hl] using hz

/-- Pack, where a field is too long. -/
theorem pack_long (ok : Nat → Prop) (v0 : Value) (L : List (List UInt8)) (w : World) (hL : IsBB w ok v0 L) (hsum : (packB L).length ≤ 1099511627776) (hall : ¬ ∀ f ∈ L, f.length ≤ 65535) :
    Calls Try.prog 15 #[v0] w fun e w' => e = .returned (.tuple #[.slice none 0 0, .int .i64 4]) ∧ Below w.heap.size w w' :=
  (pack_any ok v0 L w hL hsum).mono fun e w' ⟨h, hb⟩ => by
    rw [if_neg hall] at h
    exact ⟨h, hb⟩

set_option maxHeartbeats 1000000 in
theorem codecpacks_long (L : List (List UInt8)) (v : Value) (ok : Nat → Prop) (w : World) (hv : IsBB w ok v L) (hfew : fewV L = true) :
    Calls Try.prog 4 #[v, .bool true] w fun e w' => e = .returned (.bool true) ∧ Below w.heap.size w w' := by
  have Hv := Lib.hid hv
  clear hv
  obtain ⟨hsum, hshort⟩ := fewV_le L hfew
  have hpl := packB_length_le L
  have hn : L.length ≤ 3000 := by omega
  have hpk : (packB L).length ≤ 12000 := by omega
  have Hf := Lib.hid hfew
  clear hfew hsum hshort hpl
  obtain ⟨A0, c0, hv0, hc0, hm0, _⟩ := Hv.out.elem
  subst hv0
  unfold maxLen at hm0
  go_enter Try.func4, Try.ntmps4
  go_wp2_with fail
  refine (lives_any _).mono ?_
  rintro e w1 ⟨rfl, hb1⟩
  go_wp2_with fail
  refine (few_any ok _ L _ (Hv.out.grow hb1)).mono ?_
  rintro e w2 ⟨rfl, hb2⟩
  rw [Hf.out]
  have hb12 := below_call hb1 hb2
  obtain ⟨vs, hvl, hRd, hEl⟩ := isBB_open (Hv.out.grow hb12)
  have hR : ∀ u, Below w2.heap.size w2 u → Rd u ok A0 vs := fun u hu => hRd.grow hu
  obtain ⟨F, Z, hF, hZ, hmk⟩ : ∃ (F : List UInt8) (Z : Array Value), F.length = 65536 ∧ Z.toList = F.map u8 ∧ ∀ u : World, (Instr.makeSlice 23 (.int .i64 65536) (.int .i64 65536)).run Try.prog u = .ok (.slice (some ⟨u.heap.size, 0, none⟩) 65536 65536) (u.alloc (.cells Z 5)) :=
    ⟨List.replicate 65536 0, zeroCells 65536, List.length_replicate, zeroCells_toList 65536, fun u => run_zeros 65536 (by decide) u⟩
  have hnot : ¬ ∀ f ∈ L ++ [F], f.length ≤ 65535 := fun h => by
    have := h F (by simp)
    omega
  have hsumF : (packB (L ++ [F])).length ≤ 1099511627776 := by
    have := (lenB_le F.length).2
    rw [packB_append, packB_cons, packB_nil, List.length_append, List.length_append, fieldB_length]
    simp only [List.length_nil]
    omega
  have HF := Lib.hid hF
  have HZ := Lib.hid hZ
  have Hnot := Lib.hid hnot
  have HsumF := Lib.hid hsumF
  clear hF hZ hnot hsumF
  have HEl := Lib.hid hEl
  have Hvl := Lib.hid hvl
  clear hRd hEl hvl
  go_wp2_with fail
  go_region_held_law (fun u => Below w2.heap.size w2 u) (first | assumption | exact below_then_drew (Below.refl _ _) | exact Below.alloc (by assumption) (Below.size (by assumption)) _ | exact below_call (by assumption) hb11 | exact Below.trans (by assumption) hb10 | exact below_call (by assumption) hb9)
    (first
      | (refine step_app_fresh elemBB rfl (.tmp 23) (.tmp 24) rfl w2.heap.size _ rfl ?_ ?_ (Below.size (by assumption)) ok A0 L.length c0 vs Hvl.out rfl (hR _ (by assumption)) ?_ ?_ ?_; (repeat (first | exact Blk.new' (by first | rfl | (simp; done)) | refine Blk.alloc ?_ _)); (first | exact Nat.le_refl _ | omega | (simp only [World.size_alloc, World.size_drew]; omega)); omega; omega; intro v9 w9 hown9 hb9)
      | (go_at_call 15; refine (pack_long _ v10 (L ++ [F]) _ (isBB_snoc hown10 Hvl.out (fun i h h' => ((HEl.out i h h').grow (by assumption)).weaken (fun _ _ => trivial)) (zeros_isB hz10 HZ.out HF.out (by unfold maxLen; decide))) HsumF.out Hnot.out).mono ?_; rintro e w11 ⟨rfl, hb11⟩)
      | (refine step_app_last (te := 5) (n := 65536) (Z := Z) elemBB rfl (.tmp 25) (.tmp 27) rfl w2.heap.size _ v9 vs rfl ?_ rfl ?_ (by decide) ?_ ?_ (Below.size (by assumption)) ?_; (first | exact hown9 | exact hown9.alloc _ | exact (hown9.alloc _).alloc _); (exact ⟨_, by (repeat (first | exact Blk.new' (by first | rfl | (simp; done)) | refine Blk.alloc ?_ _ | refine Blk.grow ?_ hb9)), by (repeat (first | exact Blk.new' (by first | rfl | (simp; done)) | refine Blk.alloc ?_ _ | refine Blk.grow ?_ hb9))⟩); (have := Hvl.out; omega); (have := Hvl.out; omega); intro gz v10 w10 hown10 hb10 hz10))
  all_goals go_wp2
  all_goals go_ret
  all_goals exact ⟨rfl, below_call hb12 (by assumption)⟩

set_option maxHeartbeats 1000000 in
theorem codecpacks_few (L : List (List UInt8)) (v : Value) (b : Bool) (ok : Nat → Prop) (w : World) (hv : IsBB w ok v L) (hf : fewV L = false) :
    Calls Try.prog 4 #[v, .bool b] w fun e w' => e = .returned (.bool true) ∧ Below w.heap.size w w' := by
  have Hv := Lib.hid hv
  have Hf := Lib.hid hf
  clear hv hf
  go_enter Try.func4, Try.ntmps4
  go_wp2_with fail
  refine (lives_any _).mono ?_
  rintro e w1 ⟨rfl, hb1⟩
  go_wp2_with fail
  refine (few_any ok _ L _ (Hv.out.grow hb1)).mono ?_
  rintro e w2 ⟨rfl, hb2⟩
  rw [Hf.out]
  have hb12 := below_call hb1 hb2
  go_wp2_with fail
  refine (lives_any _).mono ?_
  rintro e w3 ⟨rfl, hb3⟩
  go_wp2_with fail
  go_ret
  exact ⟨rfl, below_call hb12 hb3⟩

theorem codecpacks_walk (L : List (List UInt8)) (v : Value) (b : Bool) (ok : Nat → Prop) (w : World) (hv : IsBB w ok v L) :
    Calls Try.prog 4 #[v, .bool b] w fun e w' => e = .returned (.bool true) ∧ Below w.heap.size w w' := by
  by_cases hf : fewV L = true
  · cases b
    · exact codecpacks_short L v ok w hv hf
    · exact codecpacks_long L v ok w hv hf
  · exact codecpacks_few L v b ok w hv (by simpa using hf)
end Go.Proofs.Ytkhhihkcgpfmfaa
