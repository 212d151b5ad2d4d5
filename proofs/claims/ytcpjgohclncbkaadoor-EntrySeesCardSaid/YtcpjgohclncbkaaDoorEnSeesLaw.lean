/-
  The walk of EntrySees.
-/
import Derived.Test.YtcpjgohclncbkaaDoorEnIter
import Derived.Test.YtcpjgohclncbkaaDoorEnLives
import Derived.Test.YtcpjgohclncbkaaDoorEnIn
import Derived.Test.YtcpjgohclncbkaaDoorEnRefs
import Derived.Test.YtcpjgohclncbkaaDoorEnOpen
namespace Go.Proofs.YtcpjgohclncbkaaDoor
open Go.RowKit
set_option maxRecDepth 100000

theorem retM {n : Nat} {P : Program} {fn : Func} {R : Ending → World → Prop} {a : Act} {w : World} {v : Value} (hde : Hid (a.defers = [])) (hr : (results fn a.tmps).run P w = .ok v w) (hR : R (.returned v) w) : bodyPostM Fence.wide n P fn R .ret a w := by
  show LeavesInM Fence.wide n P fn a.tmps R a.defers .returning w
  rw [hde.out]
  exact ⟨v, hr, hR⟩
theorem retMD {n D : Nat} {P : Program} {fn : Func} {R : Ending → World → Prop} {a : Act} {w : World} {v : Value} (hde : Hid (a.defers = [{ target := .collected D, args := #[] }])) (hD : w.heap[D]? = some (.deferred (some []))) (hr : (results fn a.tmps).run P (w.putObj D (.deferred none)) = .ok v (w.putObj D (.deferred none))) (hR : R (.returned v) (w.putObj D (.deferred none))) : bodyPostM Fence.wide n P fn R .ret a w := by
  show LeavesInM Fence.wide n P fn a.tmps R a.defers .returning w
  rw [hde.out]
  exact ⟨by simp, .inl ⟨_, _, rfl, run_takeDeferred hD, v, hr, hR⟩⟩
theorem res_cell {a : Act} {w : World} {g : Nat} {b : Bool} (hp : a.tmps[6]?.getD undef = .pointer (some ⟨g, 0, none⟩)) (hb : Blk w g 4 #[.bool b]) : (results Tryd.f4 a.tmps).run Tryd.prog w = .ok (.bool b) w := by
  have h1 : w.cell? ⟨g, 0, none⟩ = some (.bool b) := by rw [hb.cell]; rfl
  simp [results, Tryd.results4, hp, go_sem, h1]
theorem count_of (nn : Int) : ∃ kk : Nat, IntKind.i64.wrap (1 + IntKind.i64.wrap ((IntKind.u64.wrap nn).tmod 20)) = (kk : Int) ∧ 1 ≤ kk ∧ kk ≤ 20 := by
  have h0 : 0 ≤ IntKind.u64.wrap nn := Int.emod_nonneg _ (by decide)
  obtain ⟨u, hu⟩ : ∃ u : Nat, IntKind.u64.wrap nn = u := ⟨_, (Int.toNat_of_nonneg h0).symm⟩
  rw [hu, Int.tmod_eq_emod_of_nonneg (by omega), show IntKind.i64.wrap ((u : Int) % 20) = (u : Int) % 20 from IntWalk.i64_in _ (by omega), IntWalk.i64_in _ (by omega)]
  exact ⟨1 + u % 20, by omega, by omega, by omega⟩
theorem enter_absIn {F : Fence} {n : Nat} {P : Program} {Q : Exit → Act → World → Prop} {c : Code} {a : Act} {w : World} {N : Nat} (hs : a.tmps.size = N) (hd : a.defers = [])
    (h : ∀ a' : Act, Hid (a'.tmps.size = N) → Hid (a'.defers = []) → (∀ t : Nat, a'.tmps[t]?.getD undef = a.tmps[t]?.getD undef) → c.wpIn F n P Q a' w) : c.wpIn F n P Q a w :=
  h a (Lib.hid hs) (Lib.hid hd) (fun _ => rfl)
theorem enter_absD {P : Program} {Q : Exit → Act → World → Prop} {c : Code} {a : Act} {w : World} {N : Nat} {De : List Deferred} (hs : a.tmps.size = N) (hd : a.defers = De)
    (h : ∀ a' : Act, Hid (a'.tmps.size = N) → Hid (a'.defers = De) → (∀ t : Nat, a'.tmps[t]?.getD undef = a.tmps[t]?.getD undef) → c.wp P Q a' w) : c.wp P Q a w :=
  h a (Lib.hid hs) (Lib.hid hd) (fun _ => rfl)
def SeG (wA : World) (g13 g14 : Nat) (x : Ent) (a : Act) (W : World) : Prop :=
  a.tmps.size = 97 ∧ a.defers = [] ∧ a.tmps[13]?.getD undef = .pointer (some ⟨g13, 0, none⟩) ∧ a.tmps[14]?.getD undef = .pointer (some ⟨g14, 0, none⟩) ∧ a.tmps[15]?.getD undef = .pointer (some ⟨g14 + 1, 0, none⟩) ∧
  ∃ g16, a.tmps[16]?.getD undef = .pointer (some ⟨g16, 0, none⟩) ∧ wA.heap.size ≤ g16 ∧ Blk W g16 29 (entC x)
theorem SeG_own (wA : World) (g13 g14 : Nat) (x : Ent) (a : Act) : OwnFrom wA.heap.size (fun (_ : Unit) W => SeG wA g13 g14 x a W) := by
  rintro s W W' row ⟨h1, h2, h3, h4, h5, g16, h6, h7, h8⟩ hg hr
  refine ⟨h1, h2, h3, h4, h5, g16, h6, h7, h8.grown hg fun e => ?_⟩
  obtain ⟨_, o, ho, hc⟩ := hr g16 e
  unfold Blk at h8
  rw [h8] at ho
  cases ho
  cases hc
/-- Two ID cells side by side. -/
def id2C (r1 : Int) (s1 : Nat) (r2 : Int) (s2 : Nat) : Array Value := #[.int .i64 r1, .int .u32 (s1 : Int), .int .i64 r2, .int .u32 (s2 : Int)]
theorem put_ne {a : Act} {s t : Nat} {v : Value} (h : t ≠ s) : (a.put (some s) v).tmps[t]?.getD undef = a.tmps[t]?.getD undef := at_put h
theorem put_eq {a : Act} {s N : Nat} {v : Value} (hsz : a.tmps.size = N) (h : s < N) : (a.put (some s) v).tmps[s]?.getD undef = v := at_put_self (by rw [hsz]; exact h)
theorem put_size {a : Act} {s N : Nat} {v : Value} (hsz : a.tmps.size = N) : (a.put (some s) v).tmps.size = N := by
  show (a.tmps.setIfInBounds _ _).size = N
  rw [Array.size_setIfInBounds]; exact hsz
def SeI (a0 : Act) (w0 : World) (g4 : Nat) (I1 I2 : Array Value) (d : Nat → Bool) (a : Act) (x : World) : Prop :=
  a.tmps.size = 97 ∧ a.defers = [] ∧ (∀ s, s ∉ [7, 8, 17, 18, 19, 20] → a.tmps[s]?.getD undef = a0.tmps[s]?.getD undef) ∧ Below w0.heap.size w0 x ∧ ((d 6 = true → d 4 = true) ∧ (d 7 = true → d 5 = true)) ∧
  (d 0 = true → a.tmps[17]?.getD undef = .pointer (some ⟨g4, 0, none⟩)) ∧ (d 1 = true → a.tmps[18]?.getD undef = .agg I1) ∧ (d 2 = true → a.tmps[19]?.getD undef = .pointer (some ⟨g4, 2, none⟩)) ∧ (d 3 = true → a.tmps[20]?.getD undef = .agg I2) ∧
  (d 4 = true → ∃ p, a.tmps[7]?.getD undef = .pointer (some ⟨p, 0, none⟩) ∧ w0.heap.size ≤ p ∧ Blk x p 25 (cond (d 6) I1 (idC 0 0)) ∧ (d 5 = true → ∀ q, a.tmps[8]?.getD undef = .pointer (some ⟨q, 0, none⟩) → p ≠ q)) ∧
  (d 5 = true → ∃ q, a.tmps[8]?.getD undef = .pointer (some ⟨q, 0, none⟩) ∧ w0.heap.size ≤ q ∧ Blk x q 25 (cond (d 7) I2 (idC 0 0)))
def SeInv (wd : World) (v p6 p8 nn S u7 : Value) (d : Nat) (k9 : Nat) (a : Act) (x : World) : Prop :=
  ∃ i : Nat, Hid (a.tmps.size = 97) ∧ Hid (a.defers = []) ∧ a.tmps[0]?.getD undef = v ∧ a.tmps[2]?.getD undef = nn ∧ a.tmps[6]?.getD undef = p6 ∧ a.tmps[8]?.getD undef = p8 ∧ a.tmps[10]?.getD undef = S ∧ a.tmps[11]?.getD undef = u7 ∧ a.tmps[48]?.getD undef = .int .i64 ((d : Nat) : Int) ∧ a.tmps[49]?.getD undef = .int .i64 ((i : Nat) : Int) ∧ Hid (i ≤ d) ∧ Hid (Below wd.heap.size wd x) ∧ k9 = d - i
/-- How many have been looked at. -/
def CntE (wA : World) (g c : Nat) (W : World) : Prop := Blk W g 3 #[.int .i64 (c : Int)] ∧ (∀ k, k < wA.heap.size → k ≠ g → W.heap[k]? = wA.heap[k]?) ∧ wA.heap.size ≤ W.heap.size ∧ Below g wA W
theorem CntE.own {wA : World} {g c B : Nat} (hB : wA.heap.size ≤ B) (hg : g < wA.heap.size) {W W' : World} {row : Option Nat} (h : CntE wA g c W) (hw : W.grownBy W' row) (hr : ∀ r, row = some r → B ≤ r ∧ ∃ o : Obj, W.heap[r]? = some o ∧ o.isCells = false) : CntE wA g c W' := by
  obtain ⟨h1, h2, h3, h4⟩ := h
  refine ⟨h1.grown hw (fun e => ?_), fun k hk hne => ?_, Nat.le_trans h3 hw.size, h4.grown hw (by omega) (fun k e => ?_)⟩
  · have := (hr g e).1; omega
  · rw [hw.block k (by omega) (fun e => by have := (hr k e.symm).1; omega)]; exact h2 k hk hne
  · have := (hr k e).1; omega

set_option maxHeartbeats 8000000 in
theorem entrysees_walk (v : Value) (L : List Ent) (r1 : Int) (s1 : Nat) (r2 : Int) (s2 : Nat) (nn : Int) (w : World) (hL : IsL kEnt w (fun _ => True) v L) (hp : Pow w) :
    Calls Tryd.prog 4 #[v, .agg (id2C r1 s1 r2 s2), .int .i64 nn] w fun e w' => e = .returned (.bool true) ∧ Below w.heap.size w w' := by
  have Hl := Lib.hid fun (z : World) (hz : Pow z) => lives10_any z hz
  obtain ⟨I1, hI1⟩ : ∃ A, A = idC r1 s1 := ⟨_, rfl⟩
  obtain ⟨I2, hI2⟩ : ∃ A, A = idC r2 s2 := ⟨_, rfl⟩
  obtain ⟨I12, hI12⟩ : ∃ A, A = id2C r1 s1 r2 s2 := ⟨_, rfl⟩
  obtain ⟨wb, hwb⟩ : ∃ wb, wb = (w.alloc (.cells I12 38)).alloc (.cells #[.bool false] 4) := ⟨_, rfl⟩
  have hbel : Below w.heap.size w wb := by rw [hwb]; exact ((Below.refl _ w).alloc (Nat.le_refl _) _).alloc (by simp) _
  have hbox : Blk wb w.heap.size 38 I12 := by rw [hwb]; exact (Blk.new w _ _).alloc _
  have hres : Blk wb (w.heap.size + 1) 4 #[.bool false] := by rw [hwb]; have := Blk.new (w.alloc (.cells I12 38)) 4 #[.bool false]; rwa [World.size_alloc] at this
  have HrB := Lib.hid (show ∀ z, Below wb.heap.size wb z → z.rangeAt w.heap.size 0 I1.toList from fun z hz => (hbox.grow hz).range 0 I1.toList fun j u hu => by rw [hI12, Nat.zero_add]; rw [hI1] at hu; match j, hu with | 0, hu => exact hu | 1, hu => exact hu)
  have HrB2 := Lib.hid (show ∀ z, Below wb.heap.size wb z → z.rangeAt w.heap.size 2 I2.toList from fun z hz => (hbox.grow hz).range 2 I2.toList fun j u hu => by rw [hI12]; rw [hI2] at hu; match j, hu with | 0, hu => exact hu | 1, hu => exact hu)
  have HfI1 := Lib.hid (show (Tryd.prog.info? 25).map (·.size) = some I1.toList.length by rw [hI1]; exact id_info)
  have HfI2 := Lib.hid (show (Tryd.prog.info? 25).map (·.size) = some I2.toList.length by rw [hI2]; exact id_info)
  have HfS1 := Lib.hid (show (Tryd.prog.info? 25).map (·.size) = some I1.size by rw [hI1]; exact id_info)
  have HfS2 := Lib.hid (show (Tryd.prog.info? 25).map (·.size) = some I2.size by rw [hI2]; exact id_info)
  have Ho1 := Lib.hid (show I1.all (·.oneCell') = true by rw [hI1]; exact idC_one _ _)
  have Ho2 := Lib.hid (show I2.all (·.oneCell') = true by rw [hI2]; exact idC_one _ _)
  have Hz1 := Lib.hid (show (idC 0 0).size = I1.size by rw [hI1]; rfl)
  have Hz2 := Lib.hid (show (idC 0 0).size = I2.size by rw [hI2]; rfl)
  have HI1 := Lib.hid hI1
  have HI2 := Lib.hid hI2
  have Hbel := Lib.hid hbel
  have HW := Lib.hid hwb
  have HL := Lib.hid (hL.grow hbel)
  have Hp := Lib.hid (hp.grow hbel)
  have Hres := Lib.hid hres
  obtain ⟨A, cc, rfl, hc1, hc2, hE⟩ := ent_at HL.out
  obtain ⟨n, hn⟩ : ∃ n, n = L.length := ⟨_, rfl⟩
  rw [← hn] at hc1 HL ⊢
  have Hn := Lib.hid hn
  have hmx : maxLen ≤ 9223372036854775807 := by decide
  rw [← hI12]
  clear hL hp hbel hbox hwb hI1 hI2 hI12 hE hn hres
  refine (callsIn_wide (n := 9)).1 ?_
  refine callsIn_of_wp_marks Tryd.func4 rfl trivial ?_ rfl
  refine (wpIn_wide (n := 9)).2 ?_
  simp only [Tryd.ntmps4, List.size_toArray, List.length_cons, List.length_nil, Nat.reduceAdd, Nat.reduceSub, Array.replicate_succ, Array.replicate_zero, List.push_toArray, List.append_toArray, List.nil_append, List.cons_append]
  refine enter_abs (N := 97) rfl rfl fun a0 hsz0 hde0 hk => ?_
  have f0 : a0.tmps[0]?.getD undef = .slice A n cc := hk 0
  have f1 : a0.tmps[1]?.getD undef = .agg I12 := hk 1
  have f2 : a0.tmps[2]?.getD undef = .int .i64 nn := hk 2
  clear hk
  repeat with_reducible refine wp_seq ?_
  refine wp_region_lit ?_
  refine wpList_next rfl hsz0 hde0 4 rfl (by decide) fun K hK => ?_
  go_simp
  refine hK _ _ fun a1 hsz1 hde1 f4 hk => ?_
  clear hK K
  replace f0 := (hk 0 (by decide)).trans f0
  replace f1 := (hk 1 (by decide)).trans f1
  replace f2 := (hk 2 (by decide)).trans f2
  replace f4 : a1.tmps[4]?.getD undef = .pointer (some ⟨w.heap.size, 0, none⟩) := f4
  clear hk hsz0 hde0
  refine wpList_next rfl hsz1 hde1 6 rfl (by decide) fun K hK => ?_
  go_simp
  refine hK _ _ fun a2 hsz2 hde2 f6 hk => ?_
  clear hK K
  replace f0 := (hk 0 (by decide)).trans f0
  replace f1 := (hk 1 (by decide)).trans f1
  replace f2 := (hk 2 (by decide)).trans f2
  replace f4 := (hk 4 (by decide)).trans f4
  replace f6 : a2.tmps[6]?.getD undef = .pointer (some ⟨w.heap.size + 1, 0, none⟩) := f6
  clear hk hsz1 hde1
  refine wpList_nil ?_
  clear f1
  rw [← HW.out]
  refine then_go ?_
  repeat with_reducible refine wp_seq ?_
  refine wp_region_inv (SeI a2 wb w.heap.size I1 I2) (by kernel_rfl) (by kernel_rfl) ?_ ?_ ?_
  · exact ⟨hsz2.out, hde2.out, fun _ _ => rfl, (Below.refl _ _).drew, ⟨fun h => absurd h (by simp), fun h => absurd h (by simp)⟩, fun h => absurd h (by simp), fun h => absurd h (by simp), fun h => absurd h (by simp), fun h => absurd h (by simp), fun h => absurd h (by simp), fun h => absurd h (by simp)⟩
  · intro i0 o0 hi0 d a x hd0 hpre hI K hK
    obtain ⟨k1, k2, k3, k4, kc, k17, k18, k19, k20, k7, k8⟩ := hI
    have hlt0 : i0 < 8 := (Array.getElem?_eq_some_iff.1 hi0).1
    rcases (show i0 = 0 ∨ i0 = 1 ∨ i0 = 2 ∨ i0 = 3 ∨ i0 = 4 ∨ i0 = 5 ∨ i0 = 6 ∨ i0 = 7 by omega) with rfl | rfl | rfl | rfl | rfl | rfl | rfl | rfl
    all_goals (have ho0 := Option.some.inj hi0; subst ho0; clear hi0 hlt0; refine step_plain rfl ?_)
    · have q4 : a.tmps[4]?.getD undef = .pointer (some ⟨w.heap.size, 0, none⟩) := (k3 4 (by decide)).trans f4
      have hk := Lib.hid (fun v (h : v = .pointer (some ⟨w.heap.size, 0, none⟩)) => hK (a.put (some 17) v) x ⟨put_size k1, k2, fun s hs => (put_ne (by rintro rfl; exact hs (by decide))).trans (k3 s hs), k4, kc, fun _ => (put_eq k1 (by decide)).trans h, fun h => (put_ne (by decide)).trans (k18 h), fun h => (put_ne (by decide)).trans (k19 h), fun h => (put_ne (by decide)).trans (k20 h), fun h => by obtain ⟨p, e1, e2, e3, e4⟩ := k7 h; exact ⟨p, (put_ne (by decide)).trans e1, e2, e3, fun h5 q hq => e4 h5 q ((put_ne (by decide)).symm.trans hq)⟩, fun h => by obtain ⟨q, e1, e2, e3⟩ := k8 h; exact ⟨q, (put_ne (by decide)).trans e1, e2, e3⟩⟩)
      clear hpre hK k1 k2 k3 k4 kc k17 k18 k19 k20 k7 k8
      go_simp
      exact hk.out _ rfl
    · have q17 := k17 (hpre ⟨0, .data⟩ (by simp) rfl)
      refine wp_load_mid 25 (.tmp 17) rfl w.heap.size 0 (eval_at q17) I1.toList _ (HrB.out _ k4) Tryd.underlying25 rfl HfI1.out ?_
      exact hK _ x ⟨put_size k1, k2, fun s hs => (put_ne (by rintro rfl; exact hs (by decide))).trans (k3 s hs), k4, kc, fun h => (put_ne (by decide)).trans (k17 h), fun _ => put_eq k1 (by decide), fun h => (put_ne (by decide)).trans (k19 h), fun h => (put_ne (by decide)).trans (k20 h), fun h => by obtain ⟨p, e1, e2, e3, e4⟩ := k7 h; exact ⟨p, (put_ne (by decide)).trans e1, e2, e3, fun h5 q hq => e4 h5 q ((put_ne (by decide)).symm.trans hq)⟩, fun h => by obtain ⟨q, e1, e2, e3⟩ := k8 h; exact ⟨q, (put_ne (by decide)).trans e1, e2, e3⟩⟩
    · have q4 : a.tmps[4]?.getD undef = .pointer (some ⟨w.heap.size, 0, none⟩) := (k3 4 (by decide)).trans f4
      have hk := Lib.hid (fun v (h : v = .pointer (some ⟨w.heap.size, 2, none⟩)) => hK (a.put (some 19) v) x ⟨put_size k1, k2, fun s hs => (put_ne (by rintro rfl; exact hs (by decide))).trans (k3 s hs), k4, kc, fun h => (put_ne (by decide)).trans (k17 h), fun h => (put_ne (by decide)).trans (k18 h), fun _ => (put_eq k1 (by decide)).trans h, fun h => (put_ne (by decide)).trans (k20 h), fun h => by obtain ⟨p, e1, e2, e3, e4⟩ := k7 h; exact ⟨p, (put_ne (by decide)).trans e1, e2, e3, fun h5 q hq => e4 h5 q ((put_ne (by decide)).symm.trans hq)⟩, fun h => by obtain ⟨q, e1, e2, e3⟩ := k8 h; exact ⟨q, (put_ne (by decide)).trans e1, e2, e3⟩⟩)
      clear hpre hK k1 k2 k3 k4 kc k17 k18 k19 k20 k7 k8
      go_simp
      exact hk.out _ rfl
    · have q19 := k19 (hpre ⟨2, .data⟩ (by simp) rfl)
      refine wp_load_mid 25 (.tmp 19) rfl w.heap.size 2 (eval_at q19) I2.toList _ (HrB2.out _ k4) Tryd.underlying25 rfl HfI2.out ?_
      exact hK _ x ⟨put_size k1, k2, fun s hs => (put_ne (by rintro rfl; exact hs (by decide))).trans (k3 s hs), k4, kc, fun h => (put_ne (by decide)).trans (k17 h), fun h => (put_ne (by decide)).trans (k18 h), fun h => (put_ne (by decide)).trans (k19 h), fun _ => put_eq k1 (by decide), fun h => by obtain ⟨p, e1, e2, e3, e4⟩ := k7 h; exact ⟨p, (put_ne (by decide)).trans e1, e2, e3, fun h5 q hq => e4 h5 q ((put_ne (by decide)).symm.trans hq)⟩, fun h => by obtain ⟨q, e1, e2, e3⟩ := k8 h; exact ⟨q, (put_ne (by decide)).trans e1, e2, e3⟩⟩
    · by_cases h6 : d 6 = true
      · exact absurd (kc.1 h6) (by rw [hd0]; simp)
      replace h6 : d 6 = false := by simpa using h6
      have hk := Lib.hid (hK (a.put (some 7) (.pointer (some ⟨x.heap.size, 0, none⟩))) (x.alloc (.cells (idC 0 0) 25)) ⟨put_size k1, k2, fun s hs => (put_ne (by rintro rfl; exact hs (by decide))).trans (k3 s hs), k4.alloc k4.size _, ⟨fun _ => rfl, kc.2⟩, fun h => (put_ne (by decide)).trans (k17 h), fun h => (put_ne (by decide)).trans (k18 h), fun h => (put_ne (by decide)).trans (k19 h), fun h => (put_ne (by decide)).trans (k20 h), fun _ => ⟨x.heap.size, put_eq k1 (by decide), k4.size, by rw [show also d 4 6 = false from h6]; exact Blk.new _ _ _, fun h5 q hq => by obtain ⟨q2, e1, e2, e3⟩ := k8 h5; have hq2 := (put_ne (by decide)).symm.trans hq; rw [e1] at hq2; injection hq2 with hq2; injection hq2 with hq2; injection hq2 with hq2 _ _; have := e3.lt; omega⟩, fun h => by obtain ⟨q, e1, e2, e3⟩ := k8 h; exact ⟨q, (put_ne (by decide)).trans e1, e2, e3.alloc _⟩⟩)
      clear hpre hK k1 k2 k3 k4 kc k17 k18 k19 k20 k7 k8
      go_simp
      exact hk.out
    · by_cases h6 : d 7 = true
      · exact absurd (kc.2 h6) (by rw [hd0]; simp)
      replace h6 : d 7 = false := by simpa using h6
      have hk := Lib.hid (hK (a.put (some 8) (.pointer (some ⟨x.heap.size, 0, none⟩))) (x.alloc (.cells (idC 0 0) 25)) ⟨put_size k1, k2, fun s hs => (put_ne (by rintro rfl; exact hs (by decide))).trans (k3 s hs), k4.alloc k4.size _, ⟨kc.1, fun _ => rfl⟩, fun h => (put_ne (by decide)).trans (k17 h), fun h => (put_ne (by decide)).trans (k18 h), fun h => (put_ne (by decide)).trans (k19 h), fun h => (put_ne (by decide)).trans (k20 h), fun h => by obtain ⟨p, e1, e2, e3, e4⟩ := k7 h; exact ⟨p, (put_ne (by decide)).trans e1, e2, e3.alloc _, fun _ q hq => by have hq2 := (put_eq k1 (by decide)).symm.trans hq; injection hq2 with hq2; injection hq2 with hq2; injection hq2 with hq2 _ _; have := e3.lt; omega⟩, fun _ => ⟨x.heap.size, put_eq k1 (by decide), k4.size, by rw [show also d 5 7 = false from h6]; exact Blk.new _ _ _⟩⟩)
      clear hpre hK k1 k2 k3 k4 kc k17 k18 k19 k20 k7 k8
      go_simp
      exact hk.out
    · have da := hpre ⟨4, .data⟩ (by simp) rfl
      have dv := hpre ⟨1, .data⟩ (by simp) rfl
      have q18 := k18 dv
      obtain ⟨p, e1, e2, e3, e4⟩ := k7 da
      rw [show d 6 = false from hd0] at e3
      refine wp_store_row 25 (.tmp 7) (.tmp 18) rfl p I1 (eval_at e1) (eval_at q18) 25 _ e3 HfS1.out Hz1.out Ho1.out ?_
      exact hK _ _ ⟨k1, k2, k3, below_setRow k4 e2 _, ⟨fun _ => da, kc.2⟩, k17, k18, k19, k20, fun _ => ⟨p, e1, e2, e3.setRow_ I1, e4⟩, fun h => by obtain ⟨q, h1, h2, h3⟩ := k8 h; exact ⟨q, h1, h2, h3.setRowFar (fun e => e4 h q h1 e.symm) _⟩⟩
    · have da := hpre ⟨5, .data⟩ (by simp) rfl
      have dv := hpre ⟨3, .data⟩ (by simp) rfl
      have q20 := k20 dv
      obtain ⟨q, e1, e2, e3⟩ := k8 da
      rw [show d 7 = false from hd0] at e3
      refine wp_store_row 25 (.tmp 8) (.tmp 20) rfl q I2 (eval_at e1) (eval_at q20) 25 _ e3 HfS2.out Hz2.out Ho2.out ?_
      exact hK _ _ ⟨k1, k2, k3, below_setRow k4 e2 _, ⟨kc.1, fun _ => da⟩, k17, k18, k19, k20, fun h => by obtain ⟨p, h1, h2, h3, h4⟩ := k7 h; exact ⟨p, h1, h2, h3.setRowFar (h4 da q e1) _, h4⟩, fun _ => ⟨q, e1, e2, e3.setRow_ I2⟩⟩
  intro d1 a9 wc hall hI
  obtain ⟨k1, k2, k3, k4, _, _, _, _, _, k7, k8⟩ := hI
  obtain ⟨p, e7, hp0, hb7, hpq⟩ := k7 (hall 4 (by decide))
  obtain ⟨q, e8, hq0, hb8⟩ := k8 (hall 5 (by decide))
  rw [hall 6 (by decide)] at hb7
  rw [hall 7 (by decide)] at hb8
  replace f0 := (k3 0 (by decide)).trans f0
  replace f2 := (k3 2 (by decide)).trans f2
  replace f6 := (k3 6 (by decide)).trans f6
  have f7 := e7
  have f8 := e8
  have hsz9 := Lib.hid k1
  have hde9 := Lib.hid k2
  have Hb7 := Lib.hid (show Blk wc p 25 I1 from hb7)
  have Hb8 := Lib.hid (show Blk wc q 25 I2 from hb8)
  have Hp0 := Lib.hid hp0
  have Hq0 := Lib.hid hq0
  have HLc := Lib.hid (HL.out.grow k4)
  have Hpc := Lib.hid (Hp.out.grow k4)
  have Hrc := Lib.hid (Hres.out.grow k4)
  have Hbc := Lib.hid (below_call Hbel.out k4)
  have Hsb := Lib.hid (show wb.heap.size = w.heap.size + 1 + 1 by rw [HW.out]; simp)
  clear k1 k2 k3 k4 k7 k8 hall e7 e8 hb7 hb8 hpq hp0 hq0 f4 HL Hp Hres HW HrB HrB2 Hz1 Hz2 Ho1 Ho2 hsz2 hde2
  refine then_go ?_
  repeat with_reducible refine wp_seq ?_
  refine wp_region_lit ?_
  refine wpList_next rfl hsz9 hde9 21 rfl (by decide) fun K hK => ?_
  go_simp
  refine (Hl.out _ Hpc.out).mono ?_
  rintro e1 w1 ⟨rfl, hb1⟩
  go_simp
  refine hK _ _ fun a10 hsz10 hde10 f21 hk => ?_
  clear hK K
  replace f0 := (hk 0 (by decide)).trans f0
  replace f2 := (hk 2 (by decide)).trans f2
  replace f6 := (hk 6 (by decide)).trans f6
  replace f7 := (hk 7 (by decide)).trans f7
  replace f8 := (hk 8 (by decide)).trans f8
  replace f21 : a10.tmps[21]?.getD undef = .bool true := f21
  clear hk hsz9 hde9
  refine wpList_next rfl hsz10 hde10 22 rfl (by decide) fun K hK => ?_
  go_simp
  refine hK _ _ fun a11 hsz11 hde11 f22 hk => ?_
  clear hK K
  replace f0 := (hk 0 (by decide)).trans f0
  replace f2 := (hk 2 (by decide)).trans f2
  replace f6 := (hk 6 (by decide)).trans f6
  replace f7 := (hk 7 (by decide)).trans f7
  replace f8 := (hk 8 (by decide)).trans f8
  replace f22 : a11.tmps[22]?.getD undef = .bool false := f22
  clear hk hsz10 hde10 f21
  refine wpList_next rfl hsz11 hde11 23 rfl (by decide) fun K hK => ?_
  go_simp
  refine hK _ _ fun a12 hsz12 hde12 f23 hk => ?_
  clear hK K
  replace f0 := (hk 0 (by decide)).trans f0
  replace f2 := (hk 2 (by decide)).trans f2
  replace f6 := (hk 6 (by decide)).trans f6
  replace f7 := (hk 7 (by decide)).trans f7
  replace f8 := (hk 8 (by decide)).trans f8
  replace f23 : a12.tmps[23]?.getD undef = .bool false := f23
  clear hk hsz11 hde11 f22
  refine wpList_nextg (wanted_of (j := 2) (t := 23) (b := false) rfl rfl f23) hsz12 hde12 24 rfl (by decide) fun K hK => ?_
  go_simp
  refine hK _ _ fun a13 hsz13 hde13 f24 hk => ?_
  clear hK K
  replace f0 := (hk 0 (by decide)).trans f0
  replace f2 := (hk 2 (by decide)).trans f2
  replace f6 := (hk 6 (by decide)).trans f6
  replace f7 := (hk 7 (by decide)).trans f7
  replace f8 := (hk 8 (by decide)).trans f8
  replace f23 := (hk 23 (by decide)).trans f23
  replace f24 : a13.tmps[24]?.getD undef = .slice A n cc := f24
  clear hk hsz12 hde12
  refine wpList_nextg (wanted_of (j := 2) (t := 23) (b := false) rfl rfl f23) hsz13 hde13 25 rfl (by decide) fun K hK => ?_
  go_simp
  refine (fits10_any _ _ _ _ (HLc.out.grow hb1)).mono ?_
  rintro e2 w2 ⟨⟨q1, rfl, hq1⟩, hb2⟩
  go_simp
  refine hK _ _ fun a14 hsz14 hde14 f25 hk => ?_
  clear hK K
  replace f0 := (hk 0 (by decide)).trans f0
  replace f2 := (hk 2 (by decide)).trans f2
  replace f6 := (hk 6 (by decide)).trans f6
  replace f7 := (hk 7 (by decide)).trans f7
  replace f8 := (hk 8 (by decide)).trans f8
  replace f23 := (hk 23 (by decide)).trans f23
  replace f25 : a14.tmps[25]?.getD undef = .bool q1 := f25
  clear hk hsz13 hde13 f24
  have Hb2 := Lib.hid (below_call hb1 hb2)
  have Hq1 := Lib.hid hq1
  clear hb1 hb2 hq1
  cases q1 with
  | false =>
    refine wpList_nextg (wanted_of (j := 2) (t := 23) (b := false) rfl rfl f23) hsz14 hde14 26 rfl (by decide) fun K hK => ?_
    go_simp
    refine hK _ _ fun a15 hsz15 hde15 f26 hk => ?_
    clear hK K
    replace f0 := (hk 0 (by decide)).trans f0
    replace f2 := (hk 2 (by decide)).trans f2
    replace f6 := (hk 6 (by decide)).trans f6
    replace f7 := (hk 7 (by decide)).trans f7
    replace f8 := (hk 8 (by decide)).trans f8
    replace f23 := (hk 23 (by decide)).trans f23
    replace f26 : a15.tmps[26]?.getD undef = .bool true := f26
    clear hk hsz14 hde14 f25
    refine wpList_next rfl hsz15 hde15 27 rfl (by decide) fun K hK => ?_
    go_simp
    refine hK _ _ fun a16 hsz16 hde16 f27 hk => ?_
    clear hK K
    replace f0 := (hk 0 (by decide)).trans f0
    replace f2 := (hk 2 (by decide)).trans f2
    replace f6 := (hk 6 (by decide)).trans f6
    replace f7 := (hk 7 (by decide)).trans f7
    replace f8 := (hk 8 (by decide)).trans f8
    replace f27 : a16.tmps[27]?.getD undef = .bool true := f27
    clear hk hsz15 hde15 f23 f26
    refine wpList_nil ?_
    refine then_go ?_
    repeat with_reducible refine wp_seq ?_
    refine wp_cond_true (eval_at f27) ?_
    clear f27
    repeat with_reducible refine wp_seq ?_
    refine wp_region_lit ?_
    refine wpList_next rfl hsz16 hde16 28 rfl (by decide) fun K hK => ?_
    go_simp
    refine (Hl.out _ (Hpc.out.grow Hb2.out)).mono ?_
    rintro e9 w9 ⟨rfl, hb9⟩
    go_simp
    refine hK _ _ fun a17 hsz17 hde17 f28 hk => ?_
    clear hK K
    replace f0 := (hk 0 (by decide)).trans f0
    replace f2 := (hk 2 (by decide)).trans f2
    replace f6 := (hk 6 (by decide)).trans f6
    replace f7 := (hk 7 (by decide)).trans f7
    replace f8 := (hk 8 (by decide)).trans f8
    replace f28 : a17.tmps[28]?.getD undef = .bool true := f28
    clear hk hsz16 hde16
    have Hb9 := Lib.hid (below_call Hb2.out hb9)
    clear hb9
    refine wpList_next0 rfl rfl fun K hK => ?_
    have c6 := (Hrc.out.grow Hb9.out).cell 0
    have z6 := (Hrc.out.grow Hb9.out).frozen 0
    simp only [List.getElem?_toArray, List.getElem?_cons_zero] at c6
    go_simp
    refine hK undef _ ?_
    clear hK K
    clear c6 z6
    clear f28
    refine wpList_nil ?_
    refine then_go ?_
    refine wp_ret ?_
    repeat first | with_reducible refine then_ret ?_ | with_reducible refine block_ret ?_
    exact retM hde17 (res_cell f6 ((Hrc.out.grow Hb9.out).set_ 0 (.bool true))) ⟨rfl, (below_call Hbc.out Hb9.out).setCell (p := ⟨w.heap.size + 1, 0, none⟩) (by show w.heap.size ≤ w.heap.size + 1; omega) _⟩
  | true =>
    refine wpList_nextg (wanted_of (j := 2) (t := 23) (b := false) rfl rfl f23) hsz14 hde14 26 rfl (by decide) fun K hK => ?_
    go_simp
    refine hK _ _ fun a15 hsz15 hde15 f26 hk => ?_
    clear hK K
    replace f0 := (hk 0 (by decide)).trans f0
    replace f2 := (hk 2 (by decide)).trans f2
    replace f6 := (hk 6 (by decide)).trans f6
    replace f7 := (hk 7 (by decide)).trans f7
    replace f8 := (hk 8 (by decide)).trans f8
    replace f23 := (hk 23 (by decide)).trans f23
    replace f26 : a15.tmps[26]?.getD undef = .bool false := f26
    clear hk hsz14 hde14 f25
    refine wpList_next rfl hsz15 hde15 27 rfl (by decide) fun K hK => ?_
    go_simp
    refine hK _ _ fun a16 hsz16 hde16 f27 hk => ?_
    clear hK K
    replace f0 := (hk 0 (by decide)).trans f0
    replace f2 := (hk 2 (by decide)).trans f2
    replace f6 := (hk 6 (by decide)).trans f6
    replace f7 := (hk 7 (by decide)).trans f7
    replace f8 := (hk 8 (by decide)).trans f8
    replace f27 : a16.tmps[27]?.getD undef = .bool false := f27
    clear hk hsz15 hde15 f23 f26
    refine wpList_nil ?_
    refine then_go ?_
    repeat with_reducible refine wp_seq ?_
    refine wp_cond_false (eval_at f27) ?_
    refine wp_skip ?_
    refine then_go ?_
    clear f27
    repeat with_reducible refine wp_seq ?_
    obtain ⟨hs, hl, hd⟩ := Hq1.out rfl
    have Hs := Lib.hid hs
    have Hd := Lib.hid (show ∀ x ∈ L, x.data.length ≤ 40 from hd)
    have hn40 : n ≤ 40 := by rw [Hn.out]; exact hl
    clear hs hl hd Hq1
    obtain ⟨wd, hwd⟩ : ∃ wd, wd = w2 := ⟨_, rfl⟩
    rw [← hwd] at Hb2 ⊢
    clear hwd
    have hLl : L.length ≤ 1000 := by rw [← Hn.out]; omega
    have hLd : ∀ x ∈ L, x.data.length ≤ 1000 := fun x hx => Nat.le_trans (Hd.out x hx) (by omega)
    have HLl := Lib.hid hLl
    have HLd := Lib.hid hLd
    have hin := in_any (fun _ => True) (.slice A n cc) L r1 s1 wd (HLc.out.grow Hb2.out) hLd hLl Hs.out
    rw [← HI1.out] at hin
    have Hin := Lib.hid hin
    have hin2 := fun z (hz : Below wc.heap.size wc z) => erefin_any (fun _ => True) (.slice A n cc) L r1 s1 z (HLc.out.grow hz) hLl Hs.out
    rw [← HI1.out] at hin2
    have Hin2 := Lib.hid hin2
    clear hin hin2 hLl hLd
    refine wp_region_lit ?_
    refine wpList_next rfl hsz16 hde16 29 rfl (by decide) fun K hK => ?_
    go_simp
    refine hK _ _ fun a17 hsz17 hde17 f29 hk => ?_
    clear hK K
    replace f0 := (hk 0 (by decide)).trans f0
    replace f2 := (hk 2 (by decide)).trans f2
    replace f6 := (hk 6 (by decide)).trans f6
    replace f7 := (hk 7 (by decide)).trans f7
    replace f8 := (hk 8 (by decide)).trans f8
    replace f29 : a17.tmps[29]?.getD undef = .slice A n cc := f29
    clear hk hsz16 hde16
    refine wpList_next rfl hsz17 hde17 30 rfl (by decide) fun K hK => ?_
    refine wp_load_row 25 (.tmp 7) rfl p (eval_at f7) 25 I1 (0, 0) _ (Hb7.out.grow Hb2.out) Tryd.underlying25 rfl HfS1.out ?_
    refine hK _ _ fun a18 hsz18 hde18 f30 hk => ?_
    clear hK K
    replace f0 := (hk 0 (by decide)).trans f0
    replace f2 := (hk 2 (by decide)).trans f2
    replace f6 := (hk 6 (by decide)).trans f6
    replace f7 := (hk 7 (by decide)).trans f7
    replace f8 := (hk 8 (by decide)).trans f8
    replace f29 := (hk 29 (by decide)).trans f29
    replace f30 : a18.tmps[30]?.getD undef = .agg I1 := f30
    clear hk hsz17 hde17
    refine wpList_next rfl hsz18 hde18 31 rfl (by decide) fun K hK => ?_
    go_simp
    refine (Hin.out).mono ?_
    rintro e3 w3 ⟨⟨u3, M, rfl, hown3, hpm3, hps3⟩, hb3⟩
    go_simp
    refine hK _ _ fun a19 hsz19 hde19 f31 hk => ?_
    clear hK K
    replace f0 := (hk 0 (by decide)).trans f0
    replace f2 := (hk 2 (by decide)).trans f2
    replace f6 := (hk 6 (by decide)).trans f6
    replace f7 := (hk 7 (by decide)).trans f7
    replace f8 := (hk 8 (by decide)).trans f8
    replace f31 : a19.tmps[31]?.getD undef = u3 := f31
    clear hk hsz18 hde18 f29 f30
    have Hown3 := Lib.hid hown3
    have Hpm := Lib.hid hpm3
    have Hps := Lib.hid hps3
    have Hb3 := Lib.hid (below_call Hb2.out hb3)
    clear hown3 hpm3 hps3 hb3 Hin
    refine wpList_next rfl hsz19 hde19 9 rfl (by decide) fun K hK => ?_
    go_simp
    refine hK _ _ fun a20 hsz20 hde20 f9 hk => ?_
    clear hK K
    replace f0 := (hk 0 (by decide)).trans f0
    replace f2 := (hk 2 (by decide)).trans f2
    replace f6 := (hk 6 (by decide)).trans f6
    replace f7 := (hk 7 (by decide)).trans f7
    replace f8 := (hk 8 (by decide)).trans f8
    replace f9 : a20.tmps[9]?.getD undef = u3 := f9
    clear hk hsz19 hde19 f31
    refine wpList_nil ?_
    refine then_go ?_
    repeat with_reducible refine wp_seq ?_
    refine wp_region_lit ?_
    refine wpList_next rfl hsz20 hde20 32 rfl (by decide) fun K hK => ?_
    go_simp
    refine hK _ _ fun a21 hsz21 hde21 f32 hk => ?_
    clear hK K
    replace f0 := (hk 0 (by decide)).trans f0
    replace f2 := (hk 2 (by decide)).trans f2
    replace f6 := (hk 6 (by decide)).trans f6
    replace f7 := (hk 7 (by decide)).trans f7
    replace f8 := (hk 8 (by decide)).trans f8
    replace f9 := (hk 9 (by decide)).trans f9
    replace f32 : a21.tmps[32]?.getD undef = u3 := f32
    clear hk hsz20 hde20
    refine wpList_next rfl hsz21 hde21 33 rfl (by decide) fun K hK => ?_
    go_simp
    refine hK _ _ fun a22 hsz22 hde22 f33 hk => ?_
    clear hK K
    replace f0 := (hk 0 (by decide)).trans f0
    replace f2 := (hk 2 (by decide)).trans f2
    replace f6 := (hk 6 (by decide)).trans f6
    replace f7 := (hk 7 (by decide)).trans f7
    replace f8 := (hk 8 (by decide)).trans f8
    replace f9 := (hk 9 (by decide)).trans f9
    replace f32 := (hk 32 (by decide)).trans f32
    replace f33 : a22.tmps[33]?.getD undef = .slice A n cc := f33
    clear hk hsz21 hde21
    refine wpList_next rfl hsz22 hde22 34 rfl (by decide) fun K hK => ?_
    refine wp_load_row 25 (.tmp 7) rfl p (eval_at f7) 25 I1 (0, 0) _ (Hb7.out.grow Hb3.out) Tryd.underlying25 rfl HfS1.out ?_
    refine hK _ _ fun a23 hsz23 hde23 f34 hk => ?_
    clear hK K
    replace f0 := (hk 0 (by decide)).trans f0
    replace f2 := (hk 2 (by decide)).trans f2
    replace f6 := (hk 6 (by decide)).trans f6
    replace f7 := (hk 7 (by decide)).trans f7
    replace f8 := (hk 8 (by decide)).trans f8
    replace f9 := (hk 9 (by decide)).trans f9
    replace f32 := (hk 32 (by decide)).trans f32
    replace f33 := (hk 33 (by decide)).trans f33
    replace f34 : a23.tmps[34]?.getD undef = .agg I1 := f34
    clear hk hsz22 hde22
    refine wpList_next rfl hsz23 hde23 35 rfl (by decide) fun K hK => ?_
    go_simp
    refine (Hin2.out _ Hb3.out).mono ?_
    rintro e5 w5 ⟨⟨u5, M5, rfl, hown5, hpm5, hps5⟩, hb5⟩
    go_simp
    refine hK _ _ fun a24 hsz24 hde24 f35 hk => ?_
    clear hK K
    replace f0 := (hk 0 (by decide)).trans f0
    replace f2 := (hk 2 (by decide)).trans f2
    replace f6 := (hk 6 (by decide)).trans f6
    replace f7 := (hk 7 (by decide)).trans f7
    replace f8 := (hk 8 (by decide)).trans f8
    replace f9 := (hk 9 (by decide)).trans f9
    replace f32 := (hk 32 (by decide)).trans f32
    replace f35 : a24.tmps[35]?.getD undef = u5 := f35
    clear hk hsz23 hde23 f33 f34
    obtain rfl : M = M5 := srt_unique (Hpm.out.trans hpm5.symm) Hps.out hps5
    have Hown5 := Lib.hid hown5.isL
    have Hown4 := Lib.hid (Hown3.out.grow hb5)
    have Hb5 := Lib.hid (below_call Hb3.out hb5)
    clear hown5 hpm5 hps5 hb5 Hin2 Hown3
    refine wpList_next rfl hsz24 hde24 36 rfl (by decide) fun K hK => ?_
    go_simp
    refine (erefsame_any _ _ u3 u5 M _ Hown4.out.isL Hown5.out).mono ?_
    rintro e6 w6 ⟨rfl, hb6⟩
    go_simp
    refine hK _ _ fun a25 hsz25 hde25 f36 hk => ?_
    clear hK K
    replace f0 := (hk 0 (by decide)).trans f0
    replace f2 := (hk 2 (by decide)).trans f2
    replace f6 := (hk 6 (by decide)).trans f6
    replace f7 := (hk 7 (by decide)).trans f7
    replace f8 := (hk 8 (by decide)).trans f8
    replace f9 := (hk 9 (by decide)).trans f9
    replace f36 : a25.tmps[36]?.getD undef = .bool true := f36
    clear hk hsz24 hde24 f32 f35
    have Hown6 := Lib.hid (Hown4.out.grow hb6)
    have Hb6 := Lib.hid (below_call Hb5.out hb6)
    clear hb6 Hown4 Hown5
    refine wpList_next rfl hsz25 hde25 37 rfl (by decide) fun K hK => ?_
    go_simp
    refine hK _ _ fun a26 hsz26 hde26 f37 hk => ?_
    clear hK K
    replace f0 := (hk 0 (by decide)).trans f0
    replace f2 := (hk 2 (by decide)).trans f2
    replace f6 := (hk 6 (by decide)).trans f6
    replace f7 := (hk 7 (by decide)).trans f7
    replace f8 := (hk 8 (by decide)).trans f8
    replace f9 := (hk 9 (by decide)).trans f9
    replace f37 : a26.tmps[37]?.getD undef = .bool false := f37
    clear hk hsz25 hde25 f36
    refine wpList_nil ?_
    refine then_go ?_
    repeat with_reducible refine wp_seq ?_
    refine wp_cond_false (eval_at f37) ?_
    refine wp_skip ?_
    refine then_go ?_
    clear f37 f7
    repeat with_reducible refine wp_seq ?_
    have Hmem := Lib.hid (show ∀ x ∈ M, x ∈ L from fun x hx => (List.mem_filter.1 (Hpm.out.mem_iff.1 hx)).1)
    have Hml := Lib.hid (show M.length ≤ 40 by rw [Hpm.out.length_eq]; exact Nat.le_trans (List.length_filter_le _ _) (by rw [← Hn.out]; omega))
    have Hmd := Lib.hid (show ∀ x ∈ M, x.data.length ≤ 400 from fun x hx => Nat.le_trans (Hd.out x (Hmem.out x hx)) (by omega))
    obtain ⟨d, hd⟩ : ∃ d, d = M.length := ⟨_, rfl⟩
    have Hdm := Lib.hid hd
    clear hd
    refine wp_region_lit ?_
    refine wpList_next rfl hsz26 hde26 38 rfl (by decide) fun K hK => ?_
    go_simp
    refine hK _ _ fun a27 hsz27 hde27 f38 hk => ?_
    clear hK K
    replace f0 := (hk 0 (by decide)).trans f0
    replace f2 := (hk 2 (by decide)).trans f2
    replace f6 := (hk 6 (by decide)).trans f6
    replace f8 := (hk 8 (by decide)).trans f8
    replace f9 := (hk 9 (by decide)).trans f9
    replace f38 : a27.tmps[38]?.getD undef = u3 := f38
    clear hk hsz26 hde26
    refine wpList_next rfl hsz27 hde27 39 rfl (by decide) fun K hK => ?_
    go_simp
    refine (shown_any _ u3 M w6 Hown6.out.isL (Nat.le_trans Hml.out (by omega)) Hmd.out (Hpc.out.grow Hb6.out)).mono ?_
    rintro e7 w7 ⟨⟨g, rfl, hbk7, _⟩, hb7⟩
    go_simp
    refine hK _ _ fun a28 hsz28 hde28 f39 hk => ?_
    clear hK K
    replace f0 := (hk 0 (by decide)).trans f0
    replace f2 := (hk 2 (by decide)).trans f2
    replace f6 := (hk 6 (by decide)).trans f6
    replace f8 := (hk 8 (by decide)).trans f8
    replace f9 := (hk 9 (by decide)).trans f9
    replace f39 : a28.tmps[39]?.getD undef = .slice (some ⟨g, 0, none⟩) M.length M.length := f39
    clear hk hsz27 hde27 f38
    rw [← Hdm.out] at f39
    have Hbk7 := Lib.hid hbk7
    have Hown7 := Lib.hid (Hown6.out.grow hb7)
    have Hb77 := Lib.hid (below_call Hb6.out hb7)
    clear hbk7 hb7 Hown6
    refine wpList_next rfl hsz28 hde28 40 rfl (by decide) fun K hK => ?_
    go_simp
    refine hK _ _ fun a29 hsz29 hde29 f40 hk => ?_
    clear hK K
    replace f0 := (hk 0 (by decide)).trans f0
    replace f2 := (hk 2 (by decide)).trans f2
    replace f6 := (hk 6 (by decide)).trans f6
    replace f8 := (hk 8 (by decide)).trans f8
    replace f9 := (hk 9 (by decide)).trans f9
    replace f39 := (hk 39 (by decide)).trans f39
    replace f40 : a29.tmps[40]?.getD undef = u3 := f40
    clear hk hsz28 hde28
    refine wpList_next rfl hsz29 hde29 41 rfl (by decide) fun K hK => ?_
    go_simp
    refine (erefshown_any _ u3 M w7 Hown7.out.isL (Nat.le_trans Hml.out (by omega)) Hmd.out (Hpc.out.grow Hb77.out)).mono ?_
    rintro e8 w8 ⟨⟨u8, rfl, hown8⟩, hb8⟩
    go_simp
    refine hK _ _ fun a30 hsz30 hde30 f41 hk => ?_
    clear hK K
    replace f0 := (hk 0 (by decide)).trans f0
    replace f2 := (hk 2 (by decide)).trans f2
    replace f6 := (hk 6 (by decide)).trans f6
    replace f8 := (hk 8 (by decide)).trans f8
    replace f9 := (hk 9 (by decide)).trans f9
    replace f39 := (hk 39 (by decide)).trans f39
    replace f41 : a30.tmps[41]?.getD undef = u8 := f41
    clear hk hsz29 hde29 f40
    have Hbk8 := Lib.hid (Hbk7.out.grow hb8)
    have Hown8 := Lib.hid hown8
    have Hb88 := Lib.hid (below_call Hb77.out hb8)
    clear hown8 hb8 Hbk7 Hown7
    refine wpList_next rfl hsz30 hde30 10 rfl (by decide) fun K hK => ?_
    go_simp
    refine hK _ _ fun a31 hsz31 hde31 f10 hk => ?_
    clear hK K
    replace f0 := (hk 0 (by decide)).trans f0
    replace f2 := (hk 2 (by decide)).trans f2
    replace f6 := (hk 6 (by decide)).trans f6
    replace f8 := (hk 8 (by decide)).trans f8
    replace f9 := (hk 9 (by decide)).trans f9
    replace f41 := (hk 41 (by decide)).trans f41
    replace f10 : a31.tmps[10]?.getD undef = .slice (some ⟨g, 0, none⟩) d d := f10
    clear hk hsz30 hde30 f39
    refine wpList_next rfl hsz31 hde31 11 rfl (by decide) fun K hK => ?_
    go_simp
    refine hK _ _ fun a32 hsz32 hde32 f11 hk => ?_
    clear hK K
    replace f0 := (hk 0 (by decide)).trans f0
    replace f2 := (hk 2 (by decide)).trans f2
    replace f6 := (hk 6 (by decide)).trans f6
    replace f8 := (hk 8 (by decide)).trans f8
    replace f9 := (hk 9 (by decide)).trans f9
    replace f10 := (hk 10 (by decide)).trans f10
    replace f11 : a32.tmps[11]?.getD undef = u8 := f11
    clear hk hsz31 hde31 f41
    refine wpList_nil ?_
    obtain ⟨A8, c8, hu8, hc81, hc82, hr8⟩ := Hown8.out.form
    rw [← Hdm.out] at hu8 hc81
    subst hu8
    have Hr8 := Lib.hid hr8
    clear hr8
    obtain ⟨we, hwe⟩ : ∃ we, we = w8 := ⟨_, rfl⟩
    rw [← hwe] at Hb88 Hbk8 Hr8 ⊢
    clear hwe Hown8 Hb77 Hb6 Hb5 Hb3
    clear f9
    refine then_go ?_
    repeat with_reducible refine wp_seq ?_
    refine wp_region_lit ?_
    refine wpList_next rfl hsz32 hde32 42 rfl (by decide) fun K hK => ?_
    go_simp
    refine hK _ _ fun a33 hsz33 hde33 f42 hk => ?_
    clear hK K
    replace f0 := (hk 0 (by decide)).trans f0
    replace f2 := (hk 2 (by decide)).trans f2
    replace f6 := (hk 6 (by decide)).trans f6
    replace f8 := (hk 8 (by decide)).trans f8
    replace f10 := (hk 10 (by decide)).trans f10
    replace f11 := (hk 11 (by decide)).trans f11
    replace f42 : a33.tmps[42]?.getD undef = .slice (some ⟨g, 0, none⟩) d d := f42
    clear hk hsz32 hde32
    refine wpList_next rfl hsz33 hde33 43 rfl (by decide) fun K hK => ?_
    go_simp
    refine hK _ _ fun a34 hsz34 hde34 f43 hk => ?_
    clear hK K
    replace f0 := (hk 0 (by decide)).trans f0
    replace f2 := (hk 2 (by decide)).trans f2
    replace f6 := (hk 6 (by decide)).trans f6
    replace f8 := (hk 8 (by decide)).trans f8
    replace f10 := (hk 10 (by decide)).trans f10
    replace f11 := (hk 11 (by decide)).trans f11
    replace f43 : a34.tmps[43]?.getD undef = .int .i64 ((d : Nat) : Int) := f43
    clear hk hsz33 hde33 f42
    refine wpList_next rfl hsz34 hde34 44 rfl (by decide) fun K hK => ?_
    go_simp
    refine hK _ _ fun a35 hsz35 hde35 f44 hk => ?_
    clear hK K
    replace f0 := (hk 0 (by decide)).trans f0
    replace f2 := (hk 2 (by decide)).trans f2
    replace f6 := (hk 6 (by decide)).trans f6
    replace f8 := (hk 8 (by decide)).trans f8
    replace f10 := (hk 10 (by decide)).trans f10
    replace f11 := (hk 11 (by decide)).trans f11
    replace f43 := (hk 43 (by decide)).trans f43
    replace f44 : a35.tmps[44]?.getD undef = .slice A8 d c8 := f44
    clear hk hsz34 hde34
    refine wpList_next rfl hsz35 hde35 45 rfl (by decide) fun K hK => ?_
    go_simp
    refine hK _ _ fun a36 hsz36 hde36 f45 hk => ?_
    clear hK K
    replace f0 := (hk 0 (by decide)).trans f0
    replace f2 := (hk 2 (by decide)).trans f2
    replace f6 := (hk 6 (by decide)).trans f6
    replace f8 := (hk 8 (by decide)).trans f8
    replace f10 := (hk 10 (by decide)).trans f10
    replace f11 := (hk 11 (by decide)).trans f11
    replace f43 := (hk 43 (by decide)).trans f43
    replace f45 : a36.tmps[45]?.getD undef = .int .i64 ((d : Nat) : Int) := f45
    clear hk hsz35 hde35 f44
    refine wpList_next rfl hsz36 hde36 46 rfl (by decide) fun K hK => ?_
    go_simp
    refine hK _ _ fun a37 hsz37 hde37 f46 hk => ?_
    clear hK K
    replace f0 := (hk 0 (by decide)).trans f0
    replace f2 := (hk 2 (by decide)).trans f2
    replace f6 := (hk 6 (by decide)).trans f6
    replace f8 := (hk 8 (by decide)).trans f8
    replace f10 := (hk 10 (by decide)).trans f10
    replace f11 := (hk 11 (by decide)).trans f11
    replace f46 : a37.tmps[46]?.getD undef = .bool false := f46
    clear hk hsz36 hde36 f43 f45
    replace f46 : a37.tmps[46]?.getD undef = .bool false := f46.trans (by first | rfl | simp)
    refine wpList_nil ?_
    refine then_go ?_
    repeat with_reducible refine wp_seq ?_
    refine wp_cond_false (eval_at f46) ?_
    refine wp_skip ?_
    refine then_go ?_
    clear f46
    repeat with_reducible refine wp_seq ?_
    refine wp_region_lit ?_
    refine wpList_next rfl hsz37 hde37 47 rfl (by decide) fun K hK => ?_
    go_simp
    refine hK _ _ fun a38 hsz38 hde38 f47 hk => ?_
    clear hK K
    replace f0 := (hk 0 (by decide)).trans f0
    replace f2 := (hk 2 (by decide)).trans f2
    replace f6 := (hk 6 (by decide)).trans f6
    replace f8 := (hk 8 (by decide)).trans f8
    replace f10 := (hk 10 (by decide)).trans f10
    replace f11 := (hk 11 (by decide)).trans f11
    replace f47 : a38.tmps[47]?.getD undef = .slice (some ⟨g, 0, none⟩) d d := f47
    clear hk hsz37 hde37
    refine wpList_next rfl hsz38 hde38 48 rfl (by decide) fun K hK => ?_
    go_simp
    refine hK _ _ fun a39 hsz39 hde39 f48 hk => ?_
    clear hK K
    replace f0 := (hk 0 (by decide)).trans f0
    replace f2 := (hk 2 (by decide)).trans f2
    replace f6 := (hk 6 (by decide)).trans f6
    replace f8 := (hk 8 (by decide)).trans f8
    replace f10 := (hk 10 (by decide)).trans f10
    replace f11 := (hk 11 (by decide)).trans f11
    replace f48 : a39.tmps[48]?.getD undef = .int .i64 ((d : Nat) : Int) := f48
    clear hk hsz38 hde38 f47
    refine wpList_next rfl hsz39 hde39 49 rfl (by decide) fun K hK => ?_
    go_simp
    refine hK _ _ fun a40 hsz40 hde40 f49 hk => ?_
    clear hK K
    replace f0 := (hk 0 (by decide)).trans f0
    replace f2 := (hk 2 (by decide)).trans f2
    replace f6 := (hk 6 (by decide)).trans f6
    replace f8 := (hk 8 (by decide)).trans f8
    replace f10 := (hk 10 (by decide)).trans f10
    replace f11 := (hk 11 (by decide)).trans f11
    replace f48 := (hk 48 (by decide)).trans f48
    replace f49 : a40.tmps[49]?.getD undef = .int .i64 ((0 : Nat) : Int) := f49
    clear hk hsz39 hde39
    refine wpList_nil ?_
    refine then_go ?_
    repeat with_reducible refine wp_seq ?_
    have Hc7 := Lib.hid (show ∀ k, k < d → we.cell? ⟨g, k, none⟩ = some (str (nameAt M k)) from fun k hk => by
      rw [Hbk8.out.cell, List.getElem?_toArray, List.getElem?_map, shown_get M k (by rw [← Hdm.out]; exact hk)]
      rfl)
    refine wp_block ?_
    refine wp_loop_ghost (SeInv we (.slice A n cc) (.pointer (some ⟨w.heap.size + 1, 0, none⟩)) (.pointer (some ⟨q, 0, none⟩)) (.int .i64 nn) (.slice (some ⟨g, 0, none⟩) d d) (.slice A8 d c8) d) (d - 0) ?_ ?_
    · exact ⟨0, hsz40, hde40, f0, f2, f6, f8, f10, f11, f48, f49, Lib.hid (Nat.zero_le _), Lib.hid (Below.refl _ _), rfl⟩
    clear hsz40 hde40 f0 f2 f6 f8 f10 f11 f48 f49
    intro n2 a99 wr hI
    obtain ⟨i, hsz99, hde99, f0, f2, f6, f8, f10, f11, f48, f49, Hi, Hbr, hn2⟩ := hI
    have Hn2 := Lib.hid hn2
    clear hn2
    repeat with_reducible refine wp_seq ?_
    by_cases hlt : i < d
    · skip
      refine wp_region_lit ?_
      refine wpList_next rfl hsz99 hde99 50 rfl (by decide) fun K hK => ?_
      go_simp
      refine hK _ _ fun a100 hsz100 hde100 f50 hk => ?_
      clear hK K
      replace f0 := (hk 0 (by decide)).trans f0
      replace f2 := (hk 2 (by decide)).trans f2
      replace f6 := (hk 6 (by decide)).trans f6
      replace f8 := (hk 8 (by decide)).trans f8
      replace f10 := (hk 10 (by decide)).trans f10
      replace f11 := (hk 11 (by decide)).trans f11
      replace f48 := (hk 48 (by decide)).trans f48
      replace f49 := (hk 49 (by decide)).trans f49
      clear hk hsz99 hde99
      replace f50 : a100.tmps[50]?.getD undef = .bool true := f50.trans (by first | rfl | (congr 1; first | exact decide_eq_true (by omega) | exact decide_eq_false (by omega)) | (simp; omega))
      refine wpList_nil ?_
      refine then_go ?_
      repeat with_reducible refine wp_seq ?_
      refine wp_cond_true (eval_at f50) ?_
      refine wp_skip ?_
      refine then_go ?_
      clear f50
      repeat with_reducible refine wp_seq ?_
      refine wp_block ?_
      repeat with_reducible refine wp_seq ?_
      obtain ⟨b8, o8, hA8, _, _, hcl8⟩ := Hr8.out.at' (by intro e; have := List.map_eq_nil_iff.1 e; have h2 := shown_length M; rw [this, ← Hdm.out, List.length_nil] at h2; omega)
      subst hA8
      obtain ⟨N, hN⟩ : ∃ N, N = nameAt M i := ⟨_, rfl⟩
      have Hn7 := Lib.hid (show ∀ z, Below wr.heap.size wr z → z.cell? ⟨g, i, none⟩ = some (str N) from fun z hz => by have h := Hc7.out i hlt; rw [hN, ← h]; have h2 := (Hbr.out.trans (hz.mono Hbr.out.size)); exact h2.cell (World.block_lt_of_cell? we _ h))
      have hlM : i < M.length := by rw [← Hdm.out]; exact hlt
      have Hn8 := Lib.hid (show ∀ z, Below wr.heap.size wr z → z.cell? ⟨b8, o8 + i, none⟩ = some (str N) from fun z hz => by
        have hls : i < (shownE M).length := by rw [shown_length]; exact hlM
        have h := hcl8 i (by rw [List.length_map]; exact hls)
        rw [List.getElem_map] at h
        have h3 : (shownE M)[i]? = some N := by rw [hN]; exact shown_get M i hlM
        rw [List.getElem?_eq_getElem hls] at h3
        rw [Option.some.inj h3] at h
        rw [← h]
        exact (Hbr.out.trans (hz.mono Hbr.out.size)).cell (World.block_lt_of_cell? we _ h))
      have hi0 : (0 : Int) ≤ (i : Int) := by omega
      have hi1 : (i : Int) < (d : Int) := by omega
      clear hcl8 hN
      refine wp_region_lit ?_
      refine wpList_next rfl hsz100 hde100 51 rfl (by decide) fun K hK => ?_
      go_simp
      refine hK _ _ fun a101 hsz101 hde101 f51 hk => ?_
      clear hK K
      replace f0 := (hk 0 (by decide)).trans f0
      replace f2 := (hk 2 (by decide)).trans f2
      replace f6 := (hk 6 (by decide)).trans f6
      replace f8 := (hk 8 (by decide)).trans f8
      replace f10 := (hk 10 (by decide)).trans f10
      replace f11 := (hk 11 (by decide)).trans f11
      replace f48 := (hk 48 (by decide)).trans f48
      replace f49 := (hk 49 (by decide)).trans f49
      replace f51 : a101.tmps[51]?.getD undef = .int .i64 ((i : Nat) : Int) := f51
      clear hk hsz100 hde100
      refine wpList_next rfl hsz101 hde101 12 rfl (by decide) fun K hK => ?_
      go_simp
      refine hK _ _ fun a102 hsz102 hde102 f12 hk => ?_
      clear hK K
      replace f0 := (hk 0 (by decide)).trans f0
      replace f2 := (hk 2 (by decide)).trans f2
      replace f6 := (hk 6 (by decide)).trans f6
      replace f8 := (hk 8 (by decide)).trans f8
      replace f10 := (hk 10 (by decide)).trans f10
      replace f11 := (hk 11 (by decide)).trans f11
      replace f48 := (hk 48 (by decide)).trans f48
      replace f49 := (hk 49 (by decide)).trans f49
      replace f12 : a102.tmps[12]?.getD undef = .int .i64 ((i : Nat) : Int) := f12
      clear hk hsz101 hde101 f51
      refine wpList_nil ?_
      refine then_go ?_
      repeat with_reducible refine wp_seq ?_
      refine wp_region_goodg (tblG [(52, .slice (some ⟨g, 0, none⟩) d d), (53, .int .i64 ((i : Nat) : Int)), (54, .pointer (some ⟨g, i, none⟩)), (55, str N), (56, .slice (some ⟨b8, o8, none⟩) d c8), (57, .int .i64 ((i : Nat) : Int)), (58, .pointer (some ⟨b8, o8 + i, none⟩)), (59, str N), (60, .bool false)]) 97 (by kernel_rfl) (by kernel_rfl) (by kernel_rfl) (by kernel_rfl) hsz102.out ?_ ?_ ?_
      · intro t v7 x x' h _ _
        exact h
      · intro i7 o hi7 a x hbx hsame hpre K hK
        have hlt7 : i7 < 9 := (Array.getElem?_eq_some_iff.1 hi7).1
        rcases (show i7 = 0 ∨ i7 = 1 ∨ i7 = 2 ∨ i7 = 3 ∨ i7 = 4 ∨ i7 = 5 ∨ i7 = 6 ∨ i7 = 7 ∨ i7 = 8 by omega) with rfl | rfl | rfl | rfl | rfl | rfl | rfl | rfl | rfl
        all_goals (have ho := Option.some.inj hi7; subst ho; clear hi7 hlt7)
        · have q10 : a.tmps[10]?.getD undef = .slice (some ⟨g, 0, none⟩) d d := (hsame 10 (by decide +kernel)).trans f10
          refine step_plain rfl ?_
          have hk := Lib.hid (show ∀ v7 x', v7 = .slice (some ⟨g, 0, none⟩) d d → Below x.heap.size x x' → K (a.put (some 52) v7) x' from hK)
          have Hbx := Lib.hid hbx
          clear hsame hpre hK hbx
          go_simp
          exact hk.out _ _ rfl (Below.refl _ _)
        · have q12 : a.tmps[12]?.getD undef = .int .i64 ((i : Nat) : Int) := (hsame 12 (by decide +kernel)).trans f12
          refine step_plain rfl ?_
          have hk := Lib.hid (show ∀ v7 x', v7 = .int .i64 ((i : Nat) : Int) → Below x.heap.size x x' → K (a.put (some 53) v7) x' from hK)
          have Hbx := Lib.hid hbx
          clear hsame hpre hK hbx
          go_simp
          exact hk.out _ _ rfl (Below.refl _ _)
        · have q52 : a.tmps[52]?.getD undef = .slice (some ⟨g, 0, none⟩) d d := hpre ⟨0, .data⟩ (by simp) rfl (by decide)
          have q53 : a.tmps[53]?.getD undef = .int .i64 ((i : Nat) : Int) := hpre ⟨1, .data⟩ (by simp) rfl (by decide)
          refine step_plain rfl ?_
          have hk := Lib.hid (show ∀ v7 x', v7 = .pointer (some ⟨g, i, none⟩) → Below x.heap.size x x' → K (a.put (some 54) v7) x' from hK)
          have Hbx := Lib.hid hbx
          clear hsame hpre hK hbx
          go_simp
          exact hk.out _ _ rfl (Below.refl _ _)
        · have q54 : a.tmps[54]?.getD undef = .pointer (some ⟨g, i, none⟩) := hpre ⟨2, .data⟩ (by simp) rfl (by decide)
          refine step_plain rfl ?_
          have hk := Lib.hid (show ∀ v7 x', v7 = str N → Below x.heap.size x x' → K (a.put (some 55) v7) x' from hK)
          have Hbx := Lib.hid hbx
          clear hsame hpre hK hbx
          have hcj := Hn7.out x Hbx.out
          go_simp
          exact hk.out _ _ rfl (Below.refl _ _)
        · have q11 : a.tmps[11]?.getD undef = .slice (some ⟨b8, o8, none⟩) d c8 := (hsame 11 (by decide +kernel)).trans f11
          refine step_plain rfl ?_
          have hk := Lib.hid (show ∀ v7 x', v7 = .slice (some ⟨b8, o8, none⟩) d c8 → Below x.heap.size x x' → K (a.put (some 56) v7) x' from hK)
          have Hbx := Lib.hid hbx
          clear hsame hpre hK hbx
          go_simp
          exact hk.out _ _ rfl (Below.refl _ _)
        · have q12 : a.tmps[12]?.getD undef = .int .i64 ((i : Nat) : Int) := (hsame 12 (by decide +kernel)).trans f12
          refine step_plain rfl ?_
          have hk := Lib.hid (show ∀ v7 x', v7 = .int .i64 ((i : Nat) : Int) → Below x.heap.size x x' → K (a.put (some 57) v7) x' from hK)
          have Hbx := Lib.hid hbx
          clear hsame hpre hK hbx
          go_simp
          exact hk.out _ _ rfl (Below.refl _ _)
        · have q56 : a.tmps[56]?.getD undef = .slice (some ⟨b8, o8, none⟩) d c8 := hpre ⟨4, .data⟩ (by simp) rfl (by decide)
          have q57 : a.tmps[57]?.getD undef = .int .i64 ((i : Nat) : Int) := hpre ⟨5, .data⟩ (by simp) rfl (by decide)
          refine step_plain rfl ?_
          have hk := Lib.hid (show ∀ v7 x', v7 = .pointer (some ⟨b8, o8 + i, none⟩) → Below x.heap.size x x' → K (a.put (some 58) v7) x' from hK)
          have Hbx := Lib.hid hbx
          clear hsame hpre hK hbx
          go_simp
          exact hk.out _ _ rfl (Below.refl _ _)
        · have q58 : a.tmps[58]?.getD undef = .pointer (some ⟨b8, o8 + i, none⟩) := hpre ⟨6, .data⟩ (by simp) rfl (by decide)
          refine step_plain rfl ?_
          have hk := Lib.hid (show ∀ v7 x', v7 = str N → Below x.heap.size x x' → K (a.put (some 59) v7) x' from hK)
          have Hbx := Lib.hid hbx
          clear hsame hpre hK hbx
          have hcj := Hn8.out x Hbx.out
          go_simp
          exact hk.out _ _ rfl (Below.refl _ _)
        · have q55 : a.tmps[55]?.getD undef = str N := hpre ⟨3, .data⟩ (by simp) rfl (by decide)
          have q59 : a.tmps[59]?.getD undef = str N := hpre ⟨7, .data⟩ (by simp) rfl (by decide)
          refine step_plain rfl ?_
          have hk := Lib.hid (show ∀ v7 x', v7 = .bool false → Below x.heap.size x x' → K (a.put (some 60) v7) x' from hK)
          have Hbx := Lib.hid hbx
          clear hsame hpre hK hbx
          go_simp
          exact hk.out _ _ (by first | rfl | simp) (Below.refl _ _)
      intro a103 x103 hbx hsame hG hsz103 hde103
      replace f0 := (hsame 0 (by decide +kernel)).trans f0
      replace f2 := (hsame 2 (by decide +kernel)).trans f2
      replace f6 := (hsame 6 (by decide +kernel)).trans f6
      replace f8 := (hsame 8 (by decide +kernel)).trans f8
      replace f10 := (hsame 10 (by decide +kernel)).trans f10
      replace f11 := (hsame 11 (by decide +kernel)).trans f11
      replace f48 := (hsame 48 (by decide +kernel)).trans f48
      replace f49 := (hsame 49 (by decide +kernel)).trans f49
      replace f12 := (hsame 12 (by decide +kernel)).trans f12
      have f60 : a103.tmps[60]?.getD undef = .bool false := hG 8 (by decide)
      have Hbx103 := Lib.hid hbx
      have hsz103h := Lib.hid hsz103
      have hde103h := Lib.hid (hde103.trans hde102.out)
      clear hsame hG hbx hsz103 hde103 hsz102 hde102
      refine then_go ?_
      repeat with_reducible refine wp_seq ?_
      refine wp_cond_false (eval_at f60) ?_
      refine wp_skip ?_
      repeat first | with_reducible refine block_go ?_ | with_reducible refine then_go ?_
      clear f60 f12
      repeat with_reducible refine wp_seq ?_
      refine wp_region_lit ?_
      refine wpList_next rfl hsz103h hde103h 61 rfl (by decide) fun K hK => ?_
      go_simp
      refine hK _ _ fun a104 hsz104 hde104 f61 hk => ?_
      clear hK K
      replace f0 := (hk 0 (by decide)).trans f0
      replace f2 := (hk 2 (by decide)).trans f2
      replace f6 := (hk 6 (by decide)).trans f6
      replace f8 := (hk 8 (by decide)).trans f8
      replace f10 := (hk 10 (by decide)).trans f10
      replace f11 := (hk 11 (by decide)).trans f11
      replace f48 := (hk 48 (by decide)).trans f48
      replace f49 := (hk 49 (by decide)).trans f49
      clear hk hsz103h hde103h
      replace f61 : a104.tmps[61]?.getD undef = .int .i64 (((i + 1 : Nat) : Int)) := f61.trans (by first | rfl | (congr 1; done) | (congr 1; omega) | (congr 1; rw [IntKind.wrap_i64] <;> omega))
      refine wpList_next rfl hsz104 hde104 49 rfl (by decide) fun K hK => ?_
      go_simp
      refine hK _ _ fun a105 hsz105 hde105 f49 hk => ?_
      clear hK K
      replace f0 := (hk 0 (by decide)).trans f0
      replace f2 := (hk 2 (by decide)).trans f2
      replace f6 := (hk 6 (by decide)).trans f6
      replace f8 := (hk 8 (by decide)).trans f8
      replace f10 := (hk 10 (by decide)).trans f10
      replace f11 := (hk 11 (by decide)).trans f11
      replace f48 := (hk 48 (by decide)).trans f48
      replace f49 : a105.tmps[49]?.getD undef = .int .i64 ((i + 1 : Nat) : Int) := f49
      clear hk hsz104 hde104 f61
      refine wpList_nil ?_
      refine then_go ?_
      exact ⟨d - (i + 1), by rw [Hn2.out]; omega, i + 1, hsz105, hde105, f0, f2, f6, f8, f10, f11, f48, f49, Lib.hid (by omega), Lib.hid (Hbr.out.trans (Hbx103.out.mono Hbr.out.size)), rfl⟩
    refine wp_region_lit ?_
    refine wpList_next rfl hsz99 hde99 50 rfl (by decide) fun K hK => ?_
    go_simp
    refine hK _ _ fun a100 hsz100 hde100 f50 hk => ?_
    clear hK K
    replace f0 := (hk 0 (by decide)).trans f0
    replace f2 := (hk 2 (by decide)).trans f2
    replace f6 := (hk 6 (by decide)).trans f6
    replace f8 := (hk 8 (by decide)).trans f8
    replace f10 := (hk 10 (by decide)).trans f10
    replace f11 := (hk 11 (by decide)).trans f11
    replace f48 := (hk 48 (by decide)).trans f48
    replace f49 := (hk 49 (by decide)).trans f49
    clear hk hsz99 hde99
    replace f50 : a100.tmps[50]?.getD undef = .bool false := f50.trans (by first | rfl | (congr 1; first | exact decide_eq_true (by omega) | exact decide_eq_false (by omega)) | (simp; omega))
    refine wpList_nil ?_
    refine then_go ?_
    repeat with_reducible refine wp_seq ?_
    refine wp_cond_false (eval_at f50) ?_
    refine wp_exit ?_
    repeat with_reducible refine then_exit ?_
    refine block_exit ?_
    repeat first | with_reducible refine block_go ?_ | with_reducible refine then_go ?_
    clear f50 f48 f49 f10 f11
    repeat with_reducible refine wp_seq ?_
    have Hbq := Lib.hid (below_call Hb88.out Hbr.out)
    obtain ⟨wq, hwq⟩ : ∃ wq, wq = wr := ⟨_, rfl⟩
    rw [← hwq] at Hbq ⊢
    clear hwq Hbr Hc7 Hbk8 Hr8 Hb88 Hn2 Hi Hmem Hml Hmd Hpm Hps Hdm
    have hof := erefof_any (fun _ => True) (.slice A n cc) L r2 s2 wq (HLc.out.grow Hbq.out) HLl.out
    rw [← HI2.out] at hof
    have hof2 := fun z (hz : Below wc.heap.size wc z) => of_any (fun _ => True) (.slice A n cc) L r2 s2 z (HLc.out.grow hz) HLd.out HLl.out
    rw [← HI2.out] at hof2
    have hOl : (objE L r2 s2).length ≤ 40 := Nat.le_trans (List.length_filter_le _ _) (by rw [← Hn.out]; omega)
    have hOd : ∀ x ∈ objE L r2 s2, x.data.length ≤ 1000 := fun x hx => HLd.out x (List.mem_filter.1 hx).1
    obtain ⟨O, hO⟩ : ∃ O, O = objE L r2 s2 := ⟨_, rfl⟩
    rw [← hO] at hof hof2 hOl hOd
    have Hof := Lib.hid hof
    have Hof2 := Lib.hid hof2
    have HOl := Lib.hid hOl
    have HOd := Lib.hid hOd
    obtain ⟨m, hm⟩ : ∃ m, m = O.length := ⟨_, rfl⟩
    have Hm := Lib.hid hm
    clear hof hof2 hOl hOd hO hm
    refine wp_region_lit ?_
    refine wpList_next rfl hsz100 hde100 62 rfl (by decide) fun K hK => ?_
    go_simp
    refine hK _ _ fun a101 hsz101 hde101 f62 hk => ?_
    clear hK K
    replace f0 := (hk 0 (by decide)).trans f0
    replace f2 := (hk 2 (by decide)).trans f2
    replace f6 := (hk 6 (by decide)).trans f6
    replace f8 := (hk 8 (by decide)).trans f8
    replace f62 : a101.tmps[62]?.getD undef = .slice A n cc := f62
    clear hk hsz100 hde100
    refine wpList_next rfl hsz101 hde101 63 rfl (by decide) fun K hK => ?_
    refine wp_load_row 25 (.tmp 8) rfl q (eval_at f8) 25 I2 (0, 0) _ (Hb8.out.grow Hbq.out) Tryd.underlying25 rfl HfS2.out ?_
    refine hK _ _ fun a102 hsz102 hde102 f63 hk => ?_
    clear hK K
    replace f0 := (hk 0 (by decide)).trans f0
    replace f2 := (hk 2 (by decide)).trans f2
    replace f6 := (hk 6 (by decide)).trans f6
    replace f8 := (hk 8 (by decide)).trans f8
    replace f62 := (hk 62 (by decide)).trans f62
    replace f63 : a102.tmps[63]?.getD undef = .agg I2 := f63
    clear hk hsz101 hde101
    refine wpList_next rfl hsz102 hde102 64 rfl (by decide) fun K hK => ?_
    go_simp
    refine (Hof.out).mono ?_
    rintro e9 w9 ⟨⟨u64, rfl, hown9⟩, hb9⟩
    go_simp
    refine hK _ _ fun a103 hsz103 hde103 f64 hk => ?_
    clear hK K
    replace f0 := (hk 0 (by decide)).trans f0
    replace f2 := (hk 2 (by decide)).trans f2
    replace f6 := (hk 6 (by decide)).trans f6
    replace f8 := (hk 8 (by decide)).trans f8
    replace f64 : a103.tmps[64]?.getD undef = u64 := f64
    clear hk hsz102 hde102 f62 f63
    have Hown9 := Lib.hid hown9
    have Hb99 := Lib.hid (below_call Hbq.out hb9)
    clear hown9 hb9 Hof
    refine wpList_next rfl hsz103 hde103 13 rfl (by decide) fun K hK => ?_
    go_simp
    refine hK _ _ fun a104 hsz104 hde104 f13 hk => ?_
    clear hK K
    replace f0 := (hk 0 (by decide)).trans f0
    replace f2 := (hk 2 (by decide)).trans f2
    replace f6 := (hk 6 (by decide)).trans f6
    replace f8 := (hk 8 (by decide)).trans f8
    replace f64 := (hk 64 (by decide)).trans f64
    replace f13 : a104.tmps[13]?.getD undef = .pointer (some ⟨w9.heap.size, 0, none⟩) := f13
    clear hk hsz103 hde103
    obtain ⟨A9, c9, e9, hc91, hc92, _⟩ := ent_at Hown9.out.isL
    rw [← Hm.out] at e9 hc91
    subst e9
    refine wpList_next0 rfl rfl fun K hK => ?_
    go_simp
    refine hK undef _ ?_
    clear hK K
    clear f64
    refine wpList_nil ?_
    obtain ⟨wf, hwf⟩ : ∃ wf, wf = w9.alloc (.cells #[.slice A9 m c9] 22) := ⟨_, rfl⟩
    have h9f : Below w9.heap.size w9 wf := by rw [hwf]; exact (Below.refl _ _).alloc (Nat.le_refl _) _
    have h13 : Blk wf w9.heap.size 22 #[.slice A9 m c9] := by rw [hwf]; exact Blk.new _ _ _
    rw [← hwf]
    have Hb9f := Lib.hid (below_call Hb99.out h9f)
    have Hownf := Lib.hid (Hown9.out.grow h9f)
    have H13 := Lib.hid h13
    obtain ⟨g13, hg13⟩ : ∃ g13, g13 = w9.heap.size := ⟨_, rfl⟩
    rw [← hg13] at f13 H13
    have Hg13 := Lib.hid (show wc.heap.size ≤ g13 by rw [hg13]; exact Hb99.out.size)
    clear hwf h9f h13 Hown9 Hb99 hg13
    refine then_go ?_
    repeat with_reducible refine wp_seq ?_
    refine wp_region_lit ?_
    refine wpList_next rfl hsz104 hde104 65 rfl (by decide) fun K hK => ?_
    go_simp
    refine hK _ _ fun a105 hsz105 hde105 f65 hk => ?_
    clear hK K
    replace f0 := (hk 0 (by decide)).trans f0
    replace f2 := (hk 2 (by decide)).trans f2
    replace f6 := (hk 6 (by decide)).trans f6
    replace f8 := (hk 8 (by decide)).trans f8
    replace f13 := (hk 13 (by decide)).trans f13
    replace f65 : a105.tmps[65]?.getD undef = .int .i64 nn := f65
    clear hk hsz104 hde104
    refine wpList_next rfl hsz105 hde105 66 rfl (by decide) fun K hK => ?_
    go_simp
    refine hK _ _ fun a106 hsz106 hde106 f66 hk => ?_
    clear hK K
    replace f0 := (hk 0 (by decide)).trans f0
    replace f2 := (hk 2 (by decide)).trans f2
    replace f6 := (hk 6 (by decide)).trans f6
    replace f8 := (hk 8 (by decide)).trans f8
    replace f13 := (hk 13 (by decide)).trans f13
    clear hk hsz105 hde105 f65
    refine wpList_next rfl hsz106 hde106 67 rfl (by decide) fun K hK => ?_
    go_simp
    refine hK _ _ fun a107 hsz107 hde107 f67 hk => ?_
    clear hK K
    replace f0 := (hk 0 (by decide)).trans f0
    replace f2 := (hk 2 (by decide)).trans f2
    replace f6 := (hk 6 (by decide)).trans f6
    replace f8 := (hk 8 (by decide)).trans f8
    replace f13 := (hk 13 (by decide)).trans f13
    clear hk hsz106 hde106 f66
    refine wpList_next rfl hsz107 hde107 68 rfl (by decide) fun K hK => ?_
    go_simp
    refine hK _ _ fun a108 hsz108 hde108 f68 hk => ?_
    clear hK K
    replace f0 := (hk 0 (by decide)).trans f0
    replace f2 := (hk 2 (by decide)).trans f2
    replace f6 := (hk 6 (by decide)).trans f6
    replace f8 := (hk 8 (by decide)).trans f8
    replace f13 := (hk 13 (by decide)).trans f13
    clear hk hsz107 hde107 f67
    refine wpList_next rfl hsz108 hde108 69 rfl (by decide) fun K hK => ?_
    go_simp
    refine hK _ _ fun a109 hsz109 hde109 f69 hk => ?_
    clear hK K
    replace f0 := (hk 0 (by decide)).trans f0
    replace f2 := (hk 2 (by decide)).trans f2
    replace f6 := (hk 6 (by decide)).trans f6
    replace f8 := (hk 8 (by decide)).trans f8
    replace f13 := (hk 13 (by decide)).trans f13
    clear hk hsz108 hde108 f68
    obtain ⟨kk, hkk, hk1, hk20⟩ := count_of nn
    rw [hkk] at f69
    clear hkk
    refine wpList_next rfl hsz109 hde109 14 rfl (by decide) fun K hK => ?_
    go_simp
    refine hK _ _ fun a110 hsz110 hde110 f14 hk => ?_
    clear hK K
    replace f0 := (hk 0 (by decide)).trans f0
    replace f2 := (hk 2 (by decide)).trans f2
    replace f6 := (hk 6 (by decide)).trans f6
    replace f8 := (hk 8 (by decide)).trans f8
    replace f13 := (hk 13 (by decide)).trans f13
    replace f69 := (hk 69 (by decide)).trans f69
    replace f14 : a110.tmps[14]?.getD undef = .pointer (some ⟨wf.heap.size, 0, none⟩) := f14
    clear hk hsz109 hde109
    refine wpList_next rfl hsz110 hde110 15 rfl (by decide) fun K hK => ?_
    go_simp
    refine hK _ _ fun a111 hsz111 hde111 f15 hk => ?_
    clear hK K
    replace f0 := (hk 0 (by decide)).trans f0
    replace f2 := (hk 2 (by decide)).trans f2
    replace f6 := (hk 6 (by decide)).trans f6
    replace f8 := (hk 8 (by decide)).trans f8
    replace f13 := (hk 13 (by decide)).trans f13
    replace f69 := (hk 69 (by decide)).trans f69
    replace f14 := (hk 14 (by decide)).trans f14
    replace f15 : a111.tmps[15]?.getD undef = .pointer (some ⟨wf.heap.size + 1, 0, none⟩) := f15
    clear hk hsz110 hde110
    obtain ⟨g14, hg14⟩ : ∃ g14, g14 = wf.heap.size := ⟨_, rfl⟩
    obtain ⟨wg, hwg⟩ : ∃ wg, wg = (wf.alloc (.cells #[.int .i64 0] 3)).alloc (.cells #[.int .i64 0] 3) := ⟨_, rfl⟩
    have hfg : Below wf.heap.size wf wg := by rw [hwg]; exact ((Below.refl _ wf).alloc (Nat.le_refl _) _).alloc (by simp) _
    have h14 : Blk wg g14 3 #[.int .i64 0] := by rw [hwg, hg14]; exact (Blk.new wf _ _).alloc _
    have h15 : Blk wg (g14 + 1) 3 #[.int .i64 0] := by rw [hwg, hg14]; have := Blk.new (wf.alloc (.cells #[.int .i64 0] 3)) 3 #[.int .i64 0]; rwa [World.size_alloc] at this
    rw [← hwg]
    rw [← hg14] at f14 f15
    have Hbg := Lib.hid (below_call Hb9f.out hfg)
    have H13g := Lib.hid (H13.out.grow hfg)
    have Howng := Lib.hid (Hownf.out.grow hfg)
    have H14 := Lib.hid h14
    have H15 := Lib.hid h15
    have Hg14 := Lib.hid (show wf.heap.size ≤ g14 by omega)
    have Hg13b := Lib.hid (show g13 < g14 by rw [hg14]; exact H13.out.lt)
    have Hown14 := Lib.hid (show ∀ k, (Value.slice A9 m c9).ownBlock = some k → k < g14 by rw [hg14]; exact fun k hk => (Hownf.out.lt k hk).2)
    have Hg14w := Lib.hid (show wc.heap.size ≤ g14 by rw [hg14]; exact Hb9f.out.size)
    clear hwg hfg h14 h15 hg14 Hb9f H13 Hownf
    refine wpList_next0 rfl rfl fun K hK => ?_
    have c6 := (H14.out).cell 0
    have z6 := (H14.out).frozen 0
    simp only [List.getElem?_toArray, List.getElem?_cons_zero] at c6
    go_simp
    refine hK undef _ ?_
    clear hK K
    clear c6 z6
    refine wpList_next0 rfl rfl fun K hK => ?_
    have c6 := ((H15.out.far (p := ⟨g14, 0, none⟩) (by show g14 + 1 ≠ g14; omega) (.int .i64 0))).cell 0
    have z6 := ((H15.out.far (p := ⟨g14, 0, none⟩) (by show g14 + 1 ≠ g14; omega) (.int .i64 0))).frozen 0
    simp only [List.getElem?_toArray, List.getElem?_cons_zero] at c6
    go_simp
    refine hK undef _ ?_
    clear hK K
    clear c6 z6
    clear f69
    refine wpList_nil ?_
    obtain ⟨wh, hwh⟩ : ∃ wh, wh = (wg.setCell ⟨g14, 0, none⟩ (.int .i64 0)).setCell ⟨g14 + 1, 0, none⟩ (.int .i64 ((kk : Nat) : Int)) := ⟨_, rfl⟩
    have h14 : Blk wh g14 3 #[.int .i64 0] := by rw [hwh]; exact (H14.out.set_ 0 (.int .i64 0)).far (p := ⟨g14 + 1, 0, none⟩) (by show g14 ≠ g14 + 1; omega) _
    have h15 : Blk wh (g14 + 1) 3 #[.int .i64 ((kk : Nat) : Int)] := by rw [hwh]; exact (H15.out.far (p := ⟨g14, 0, none⟩) (by show g14 + 1 ≠ g14; omega) (.int .i64 0)).set_ 0 _
    have hlo : ∀ k, k < g14 → wh.heap[k]? = wg.heap[k]? := fun k hk => by rw [hwh, Below.heap_setCell _ _ _ k (by show k ≠ g14 + 1; omega), Below.heap_setCell _ _ _ k (by show k ≠ g14; omega)]
    have Hbh := Lib.hid (show Below wc.heap.size wc wh by rw [hwh]; exact (Hbg.out.setCell (p := ⟨g14, 0, none⟩) (by have := Hg14w.out; exact this) _).setCell (p := ⟨g14 + 1, 0, none⟩) (by have := Hg14w.out; show _ ≤ g14 + 1; omega) _)
    have H13h := Lib.hid (H13g.out.keep (hlo g13 Hg13b.out))
    have Hownh := Lib.hid (show OwnE wh wq.heap.size (.slice A9 m c9) O from ⟨OwnK.keep Howng.out.1 fun k hk => hlo k (Hown14.out k hk), Howng.out.2⟩)
    have H14h := Lib.hid h14
    have H15h := Lib.hid h15
    rw [← hwh]
    clear h14 h15 hlo hwh H13g Howng H14 H15 Hbg
    clear f2
    refine then_go ?_
    repeat with_reducible refine wp_seq ?_
    refine wp_region_lit ?_
    refine wpList_next rfl hsz111 hde111 70 rfl (by decide) fun K hK => ?_
    go_simp
    refine hK _ _ fun a112 hsz112 hde112 f70 hk => ?_
    clear hK K
    replace f0 := (hk 0 (by decide)).trans f0
    replace f6 := (hk 6 (by decide)).trans f6
    replace f8 := (hk 8 (by decide)).trans f8
    replace f13 := (hk 13 (by decide)).trans f13
    replace f14 := (hk 14 (by decide)).trans f14
    replace f15 := (hk 15 (by decide)).trans f15
    replace f70 : a112.tmps[70]?.getD undef = .slice A n cc := f70
    clear hk hsz111 hde111
    refine wpList_next rfl hsz112 hde112 71 rfl (by decide) fun K hK => ?_
    refine wp_load_row 25 (.tmp 8) rfl q (eval_at f8) 25 I2 (0, 0) _ (Hb8.out.grow Hbh.out) Tryd.underlying25 rfl HfS2.out ?_
    refine hK _ _ fun a113 hsz113 hde113 f71 hk => ?_
    clear hK K
    replace f0 := (hk 0 (by decide)).trans f0
    replace f6 := (hk 6 (by decide)).trans f6
    replace f8 := (hk 8 (by decide)).trans f8
    replace f13 := (hk 13 (by decide)).trans f13
    replace f14 := (hk 14 (by decide)).trans f14
    replace f15 := (hk 15 (by decide)).trans f15
    replace f70 := (hk 70 (by decide)).trans f70
    replace f71 : a113.tmps[71]?.getD undef = .agg I2 := f71
    clear hk hsz112 hde112
    refine wpList_next rfl hsz113 hde113 72 rfl (by decide) fun K hK => ?_
    go_simp
    refine (Hof2.out _ Hbh.out).mono ?_
    rintro e10 wA ⟨⟨gq, uq, rfl, hbkq, hownq, hgq, _⟩, hbA⟩
    go_simp
    refine hK _ _ fun a114 hsz114 hde114 f72 hk => ?_
    clear hK K
    replace f0 := (hk 0 (by decide)).trans f0
    replace f6 := (hk 6 (by decide)).trans f6
    replace f8 := (hk 8 (by decide)).trans f8
    replace f13 := (hk 13 (by decide)).trans f13
    replace f14 := (hk 14 (by decide)).trans f14
    replace f15 := (hk 15 (by decide)).trans f15
    replace f72 : a114.tmps[72]?.getD undef = .func (.func 55) #[] #[.pointer (some ⟨gq, 0, none⟩)] := f72
    clear hk hsz113 hde113 f70 f71
    have HbA := Lib.hid (below_call Hbh.out hbA)
    have H13A := Lib.hid (H13h.out.grow hbA)
    have H14A := Lib.hid (H14h.out.grow hbA)
    have H15A := Lib.hid (H15h.out.grow hbA)
    have HownA := Lib.hid (Hownh.out.grow hbA)
    have HsA := Lib.hid hbA.size
    have Hbkq := Lib.hid hbkq
    have Hownq := Lib.hid hownq
    have Hgq := Lib.hid hgq
    have Hl14 := Lib.hid H14h.out.lt
    have Hl15 := Lib.hid H15h.out.lt
    clear hbkq hownq hgq hbA H13h H14h H15h Hownh Hof2
    refine wpList_nil ?_
    clear f0 f8
    refine then_go ?_
    repeat with_reducible refine wp_seq ?_
    have HrA := Lib.hid (Hrc.out.grow HbA.out)
    have H14l := Lib.hid (show g14 < wA.heap.size from H14A.out.lt)
    refine wp_block ?_
    refine (wpIn_wide (n := 9)).1 ?_
    refine wp_rangeE (gf := 55) (lb := #[.pointer (some ⟨gq, 0, none⟩)]) (eval_at f72) (enters_of Tryd.func55 (by kernel_rfl) rfl)
      (of_iter 8 (fun k => wh.heap.size ≤ k ∧ k < wA.heap.size) gq wh.heap.size uq O wA (fun k hk => hk.2) ⟨Hgq.out, Hbkq.out.lt⟩ Hbkq.out Hownq.out (fun k hk => Hownq.out.lt k hk) HOd.out) (fun k hk => hk.2)
      (SeG wA g13 g14) (SeG_own wA g13 g14) (fun _ => rfl) (fun pre W => pre.length < kk ∧ CntE wA g14 pre.length W) (fun cd pre W => cd = Code.exit 2 ∧ pre.length = kk ∧ kk ≤ m ∧ CntE wA g14 pre.length W)
      (fun pre W W2 row h hw hr => ⟨h.1, h.2.own (Nat.le_refl _) H14l.out hw hr⟩) (fun cd pre W W2 row h hw hr => ⟨h.1, h.2.1, h.2.2.1, h.2.2.2.own (Nat.le_refl _) H14l.out hw hr⟩)
      ⟨by show 0 < kk; omega, H14A.out, fun k _ _ => rfl, Nat.le_refl _, Below.refl _ _⟩ ?assign ?body ?done ?stop
    case assign =>
      intro L7 pre x W K hX hI hsW hK
      obtain ⟨CX, hCX⟩ : ∃ C, C = entC x := ⟨_, rfl⟩
      have HCX := Lib.hid hCX
      have Hinf := Lib.hid (show (Tryd.prog.info? 29).map (·.size) = some CX.size by rw [hCX]; exact ent_info)
      have Hone := Lib.hid (show CX.all (·.oneCell') = true by rw [hCX]; exact entC_one x)
      have hCs : CX.size = 15 := by rw [hCX]; rfl
      dsimp only
      rw [← hCX]
      have HK := Lib.hid hK
      clear hCX hX hI hK
      have hz : ((#[73] : Array Tmp).zip #[Value.agg CX]).foldl (fun t (p, v) => t.setIfInBounds p v) a114.tmps = a114.tmps.setIfInBounds 73 (.agg CX) := by simp
      rw [hz]
      refine enter_absIn (N := 97) (by rw [Array.size_setIfInBounds]; exact hsz114.out) rfl fun a200 hsz200 hde200 hk => ?_
      replace f13 := (hk 13).trans ((put_ne (a := a114) (s := 73) (v := .agg CX) (by decide)).trans f13)
      replace f14 := (hk 14).trans ((put_ne (a := a114) (s := 73) (v := .agg CX) (by decide)).trans f14)
      replace f15 := (hk 15).trans ((put_ne (a := a114) (s := 73) (v := .agg CX) (by decide)).trans f15)
      have f73 : a200.tmps[73]?.getD undef = .agg CX := (hk 73).trans (put_eq (a := a114) (s := 73) (v := .agg CX) hsz114.out (by decide))
      clear hk hz hsz114 hde114 f6 f72
      refine wpIn_region_lit ?_
      refine listIn_next rfl rfl hsz200 hde200 16 rfl (by decide) fun K hK => ?_
      go_simp
      refine hK _ _ fun a201 hsz201 hde201 f16 hk => ?_
      clear hK K
      replace f13 := (hk 13 (by decide)).trans f13
      replace f14 := (hk 14 (by decide)).trans f14
      replace f15 := (hk 15 (by decide)).trans f15
      replace f73 := (hk 73 (by decide)).trans f73
      replace f16 : a201.tmps[16]?.getD undef = .pointer (some ⟨W.heap.size, 0, none⟩) := f16
      clear hk hsz200 hde200
      refine listIn_next0 rfl rfl rfl fun K hK => ?_
      refine wp_store_new 29 (.tmp 16) (.tmp 73) rfl zeroE CX (eval_at f16) (eval_at f73) Hinf.out (by rw [hCs]; rfl) Hone.out ?_
      refine hK undef _ ?_
      clear hK K
      refine wpListIn_nil ?_
      refine then_go ?_
      exact HK.out _ _ ((Below.refl _ _).alloc (Nat.le_refl _) _) ⟨hsz201.out, hde201.out, f13, f14, f15, W.heap.size, f16, by omega, by rw [← HCX.out]; exact Blk.new _ _ _⟩
    case body =>
      rintro L7 pre x a300 W hX ⟨hlt, hcnt⟩ hsW ⟨hs300, hd300, f13, f14, f15, g16, f16, hg16, hblk⟩
      clear hsz114 hde114 f6 f72
      have hsz300 := Lib.hid hs300
      have hde300 := Lib.hid hd300
      obtain ⟨cn, hcn⟩ : ∃ cn, cn = pre.length := ⟨_, rfl⟩
      rw [← hcn] at hlt hcnt hX
      have Hcn := Lib.hid hcn
      obtain ⟨c1, c2, c3, c4⟩ := hcnt
      have hcm : cn < m := by rw [Hm.out]; exact (List.getElem?_eq_some_iff.1 hX).1
      have hownW : OwnE W wq.heap.size (.slice A9 m c9) O := ⟨OwnK.keep HownA.out.1 fun k hk => by have h7 := Hown14.out k hk; exact c2 k (by have := H14l.out; omega) (by omega), HownA.out.2⟩
      obtain ⟨A2, cc2, e2, _, _, hE2⟩ := ent_at hownW.isL
      injection e2 with e21 e23 e22
      subst e21
      clear e23 e22
      obtain ⟨b, off, rfl, _, _, hel⟩ := hE2 (by intro e; rw [e] at hX; simp at hX)
      obtain ⟨CX, hCX⟩ : ∃ C, C = entC x := ⟨_, rfl⟩
      rw [← hCX] at hblk
      have hxe : O[cn]'(by rw [← Hm.out]; exact hcm) = x := by have h := List.getElem?_eq_getElem (l := O) (i := cn) (by rw [← Hm.out]; exact hcm); rw [hX] at h; exact (Option.some.inj h).symm
      have HrX := Lib.hid (show ∀ z, Below W.heap.size W z → z.rangeAt b (off + cn * 15) CX.toList from fun z hz => by have h := (hel cn (by rw [← Hm.out]; exact hcm)).1; rw [hxe, ← hCX] at h; exact range_ext h hz)
      have HfX := Lib.hid (show (Tryd.prog.info? 29).map (·.size) = some CX.toList.length by rw [hCX]; exact ent_info)
      have Hinf := Lib.hid (show (Tryd.prog.info? 29).map (·.size) = some CX.size by rw [hCX]; exact ent_info)
      have hne := fun z => ent_neq_self x z
      rw [← hCX] at hne
      have Hne := Lib.hid hne
      have H14W := Lib.hid c1
      have Hc2 := Lib.hid c2
      have Hc3 := Lib.hid c3
      have Hc4 := Lib.hid c4
      have Hblk := Lib.hid hblk
      have H13W := Lib.hid (H13A.out.keep (c2 g13 (by have := H14l.out; have := Hg13b.out; omega) (by have := Hg13b.out; omega)))
      have H15W := Lib.hid (H15A.out.keep (c2 (g14 + 1) H15A.out.lt (by omega)))
      have hi0 : (0 : Int) ≤ (cn : Int) := by omega
      have hi1 : (cn : Int) < (m : Int) := by omega
      have hO40 : m ≤ 40 := by rw [Hm.out]; exact HOl.out
      have hge := Lib.hid (show decide ((m : Int) ≤ (cn : Int)) = false from decide_eq_false (by omega))
      clear hs300 hd300 hcn c1 c2 c3 c4 hX hownW hE2 hel hCX hxe hne hblk
      refine wpIn_block ?_
      repeat with_reducible refine wpIn_seq ?_
      refine wpIn_region_goodg (tblG [(74, .int .i64 ((cn : Nat) : Int)), (75, .slice (some ⟨b, off, none⟩) m c9), (76, .int .i64 ((m : Nat) : Int)), (77, .bool false), (78, .bool false), (79, .agg CX), (80, .slice (some ⟨b, off, none⟩) m c9), (81, .int .i64 ((cn : Nat) : Int)), (82, .pointer (some ⟨b, off + cn * 15, none⟩)), (83, .agg CX), (84, .bool false), (85, .bool false)]) 97 (by kernel_rfl) (by kernel_rfl) (by kernel_rfl) (by kernel_rfl) (by kernel_rfl) hsz300.out ?_ ?_ ?_
      · intro t v7 x x' h _ _
        exact h
      · intro i7 o hi7 a x hbx hsame hpre K hK
        have hlt7 : i7 < 12 := (Array.getElem?_eq_some_iff.1 hi7).1
        rcases (show i7 = 0 ∨ i7 = 1 ∨ i7 = 2 ∨ i7 = 3 ∨ i7 = 4 ∨ i7 = 5 ∨ i7 = 6 ∨ i7 = 7 ∨ i7 = 8 ∨ i7 = 9 ∨ i7 = 10 ∨ i7 = 11 by omega) with rfl | rfl | rfl | rfl | rfl | rfl | rfl | rfl | rfl | rfl | rfl | rfl
        all_goals (have ho := Option.some.inj hi7; subst ho; clear hi7 hlt7)
        · have q14 : a.tmps[14]?.getD undef = .pointer (some ⟨g14, 0, none⟩) := (hsame 14 (by decide +kernel)).trans f14
          refine step_plain rfl ?_
          have hk := Lib.hid (show ∀ v7 x', v7 = .int .i64 ((cn : Nat) : Int) → Below x.heap.size x x' → K (a.put (some 74) v7) x' from hK)
          have Hbx := Lib.hid hbx
          clear hsame hpre hK hbx
          have c6 := ((H14W.out).grow Hbx.out).cell 0
          simp only [List.getElem?_toArray, List.getElem?_cons_zero] at c6
          go_simp
          exact hk.out _ _ rfl (Below.refl _ _)
        · have q13 : a.tmps[13]?.getD undef = .pointer (some ⟨g13, 0, none⟩) := (hsame 13 (by decide +kernel)).trans f13
          refine step_plain rfl ?_
          have hk := Lib.hid (show ∀ v7 x', v7 = .slice (some ⟨b, off, none⟩) m c9 → Below x.heap.size x x' → K (a.put (some 75) v7) x' from hK)
          have Hbx := Lib.hid hbx
          clear hsame hpre hK hbx
          have c6 := ((H13W.out).grow Hbx.out).cell 0
          simp only [List.getElem?_toArray, List.getElem?_cons_zero] at c6
          go_simp
          exact hk.out _ _ rfl (Below.refl _ _)
        · have q75 : a.tmps[75]?.getD undef = .slice (some ⟨b, off, none⟩) m c9 := hpre ⟨1, .data⟩ (by simp) rfl (by decide)
          refine step_plain rfl ?_
          have hk := Lib.hid (show ∀ v7 x', v7 = .int .i64 ((m : Nat) : Int) → Below x.heap.size x x' → K (a.put (some 76) v7) x' from hK)
          have Hbx := Lib.hid hbx
          clear hsame hpre hK hbx
          go_simp
          exact hk.out _ _ rfl (Below.refl _ _)
        · have q74 : a.tmps[74]?.getD undef = .int .i64 ((cn : Nat) : Int) := hpre ⟨0, .data⟩ (by simp) rfl (by decide)
          have q76 : a.tmps[76]?.getD undef = .int .i64 ((m : Nat) : Int) := hpre ⟨2, .data⟩ (by simp) rfl (by decide)
          refine step_plain rfl ?_
          have hk := Lib.hid (show ∀ v7 x', v7 = .bool false → Below x.heap.size x x' → K (a.put (some 77) v7) x' from hK)
          have Hbx := Lib.hid hbx
          clear hsame hpre hK hbx
          go_simp
          exact hk.out _ _ (by have h7 := hge.out; first | (congr 1; done) | (congr 1; exact h7) | (simp; omega)) (Below.refl _ _)
        · have q77 : a.tmps[77]?.getD undef = .bool false := hpre ⟨3, .data⟩ (by simp) rfl (by decide)
          refine step_plain rfl ?_
          have hk := Lib.hid (show ∀ v7 x', v7 = .bool false → Below x.heap.size x x' → K (a.put (some 78) v7) x' from hK)
          have Hbx := Lib.hid hbx
          clear hsame hpre hK hbx
          go_simp
          exact hk.out _ _ rfl (Below.refl _ _)
        · have q16 : a.tmps[16]?.getD undef = .pointer (some ⟨g16, 0, none⟩) := (hsame 16 (by decide +kernel)).trans f16
          have w78 : a.tmps[78]?.getD undef = .bool false := hpre ⟨4, .guard⟩ (by simp) rfl (by decide)
          refine step_wanted (wanted_of (j := 4) (t := 78) (b := false) rfl rfl w78) ?_
          have hk := Lib.hid (show ∀ v7 x', v7 = .agg CX → Below x.heap.size x x' → K (a.put (some 79) v7) x' from hK)
          have Hbx := Lib.hid hbx
          clear hsame hpre hK hbx w78
          refine wp_load_row 29 (.tmp 16) rfl g16 (eval_at q16) 29 CX (0, 0) _ (Hblk.out.grow Hbx.out) Tryd.underlying29 rfl Hinf.out ?_
          exact hk.out _ _ rfl (Below.refl _ _)
        · have q13 : a.tmps[13]?.getD undef = .pointer (some ⟨g13, 0, none⟩) := (hsame 13 (by decide +kernel)).trans f13
          have w78 : a.tmps[78]?.getD undef = .bool false := hpre ⟨4, .guard⟩ (by simp) rfl (by decide)
          refine step_wanted (wanted_of (j := 4) (t := 78) (b := false) rfl rfl w78) ?_
          have hk := Lib.hid (show ∀ v7 x', v7 = .slice (some ⟨b, off, none⟩) m c9 → Below x.heap.size x x' → K (a.put (some 80) v7) x' from hK)
          have Hbx := Lib.hid hbx
          clear hsame hpre hK hbx w78
          have c6 := ((H13W.out).grow Hbx.out).cell 0
          simp only [List.getElem?_toArray, List.getElem?_cons_zero] at c6
          go_simp
          exact hk.out _ _ rfl (Below.refl _ _)
        · have q14 : a.tmps[14]?.getD undef = .pointer (some ⟨g14, 0, none⟩) := (hsame 14 (by decide +kernel)).trans f14
          have w78 : a.tmps[78]?.getD undef = .bool false := hpre ⟨4, .guard⟩ (by simp) rfl (by decide)
          refine step_wanted (wanted_of (j := 4) (t := 78) (b := false) rfl rfl w78) ?_
          have hk := Lib.hid (show ∀ v7 x', v7 = .int .i64 ((cn : Nat) : Int) → Below x.heap.size x x' → K (a.put (some 81) v7) x' from hK)
          have Hbx := Lib.hid hbx
          clear hsame hpre hK hbx w78
          have c6 := ((H14W.out).grow Hbx.out).cell 0
          simp only [List.getElem?_toArray, List.getElem?_cons_zero] at c6
          go_simp
          exact hk.out _ _ rfl (Below.refl _ _)
        · have q80 : a.tmps[80]?.getD undef = .slice (some ⟨b, off, none⟩) m c9 := hpre ⟨6, .data⟩ (by simp) rfl (by decide)
          have q81 : a.tmps[81]?.getD undef = .int .i64 ((cn : Nat) : Int) := hpre ⟨7, .data⟩ (by simp) rfl (by decide)
          have w78 : a.tmps[78]?.getD undef = .bool false := hpre ⟨4, .guard⟩ (by simp) rfl (by decide)
          refine step_wanted (wanted_of (j := 4) (t := 78) (b := false) rfl rfl w78) ?_
          have hk := Lib.hid (show ∀ v7 x', v7 = .pointer (some ⟨b, off + cn * 15, none⟩) → Below x.heap.size x x' → K (a.put (some 82) v7) x' from hK)
          have Hbx := Lib.hid hbx
          clear hsame hpre hK hbx w78
          go_simp
          exact hk.out _ _ rfl (Below.refl _ _)
        · have q82 : a.tmps[82]?.getD undef = .pointer (some ⟨b, off + cn * 15, none⟩) := hpre ⟨8, .data⟩ (by simp) rfl (by decide)
          have w78 : a.tmps[78]?.getD undef = .bool false := hpre ⟨4, .guard⟩ (by simp) rfl (by decide)
          refine step_wanted (wanted_of (j := 4) (t := 78) (b := false) rfl rfl w78) ?_
          have hk := Lib.hid (show ∀ v7 x', v7 = .agg CX → Below x.heap.size x x' → K (a.put (some 83) v7) x' from hK)
          have Hbx := Lib.hid hbx
          clear hsame hpre hK hbx w78
          refine wp_load_mid 29 (.tmp 82) rfl b (off + cn * 15) (eval_at q82) CX.toList _ (HrX.out _ Hbx.out) Tryd.underlying29 rfl HfX.out ?_
          exact hk.out _ _ rfl (Below.refl _ _)
        · have q79 : a.tmps[79]?.getD undef = .agg CX := hpre ⟨5, .data⟩ (by simp) rfl (by decide)
          have q83 : a.tmps[83]?.getD undef = .agg CX := hpre ⟨9, .data⟩ (by simp) rfl (by decide)
          have w78 : a.tmps[78]?.getD undef = .bool false := hpre ⟨4, .guard⟩ (by simp) rfl (by decide)
          refine step_wanted (wanted_of (j := 4) (t := 78) (b := false) rfl rfl w78) ?_
          have hk := Lib.hid (show ∀ v7 x', v7 = .bool false → Below x.heap.size x x' → K (a.put (some 84) v7) x' from hK)
          have Hbx := Lib.hid hbx
          clear hsame hpre hK hbx w78
          have hne := Hne.out
          go_simp
          exact hk.out _ _ rfl (Below.refl _ _)
        · have q78 : a.tmps[78]?.getD undef = .bool false := hpre ⟨4, .data⟩ (by simp) rfl (by decide)
          have q84 : a.tmps[84]?.getD undef = .bool false := hpre ⟨10, .data⟩ (by simp) rfl (by decide)
          refine step_plain rfl ?_
          have hk := Lib.hid (show ∀ v7 x', v7 = .bool false → Below x.heap.size x x' → K (a.put (some 85) v7) x' from hK)
          have Hbx := Lib.hid hbx
          clear hsame hpre hK hbx
          go_simp
          exact hk.out _ _ rfl (Below.refl _ _)
      intro a301 x301 hbx hsame hG hsz301 hde301
      replace f13 := (hsame 13 (by decide +kernel)).trans f13
      replace f14 := (hsame 14 (by decide +kernel)).trans f14
      replace f15 := (hsame 15 (by decide +kernel)).trans f15
      replace f16 := (hsame 16 (by decide +kernel)).trans f16
      have f85 : a301.tmps[85]?.getD undef = .bool false := hG 11 (by decide)
      have Hbx301 := Lib.hid hbx
      have hsz301h := Lib.hid hsz301
      have hde301h := Lib.hid (hde301.trans hde300.out)
      clear hsame hG hbx hsz301 hde301 hsz300 hde300
      refine then_go ?_
      repeat with_reducible refine wpIn_seq ?_
      refine wpIn_cond_false (eval_at f85) ?_
      refine wpIn_skip ?_
      refine then_go ?_
      clear f85 f16 f13
      repeat with_reducible refine wpIn_seq ?_
      obtain ⟨cv, hcv⟩ : ∃ cv, cv = cn + 1 := ⟨_, rfl⟩
      have Hcv := Lib.hid hcv
      have H14x := Lib.hid (H14W.out.grow Hbx301.out)
      have H15x := Lib.hid ((H15W.out.grow Hbx301.out).far (p := ⟨g14, 0, none⟩) (by show g14 + 1 ≠ g14; omega) (.int .i64 ((cv : Nat) : Int)))
      clear hcv
      refine wpIn_region_lit ?_
      refine listIn_next rfl rfl hsz301h hde301h 86 rfl (by decide) fun K hK => ?_
      have c6 := (H14x.out).cell 0
      simp only [List.getElem?_toArray, List.getElem?_cons_zero] at c6
      go_simp
      refine hK _ _ fun a302 hsz302 hde302 f86 hk => ?_
      clear hK K
      replace f14 := (hk 14 (by decide)).trans f14
      replace f15 := (hk 15 (by decide)).trans f15
      replace f86 : a302.tmps[86]?.getD undef = .int .i64 ((cn : Nat) : Int) := f86
      clear hk hsz301h hde301h
      clear c6
      refine listIn_next rfl rfl hsz302 hde302 87 rfl (by decide) fun K hK => ?_
      go_simp
      refine hK _ _ fun a303 hsz303 hde303 f87 hk => ?_
      clear hK K
      replace f14 := (hk 14 (by decide)).trans f14
      replace f15 := (hk 15 (by decide)).trans f15
      clear hk hsz302 hde302 f86
      replace f87 : a303.tmps[87]?.getD undef = .int .i64 (((cv : Nat) : Int)) := f87.trans (by have h7 := Hcv.out; first | rfl | (congr 1; done) | (congr 1; omega) | (congr 1; rw [IntKind.wrap_i64] <;> omega))
      refine listIn_next0 rfl rfl rfl fun K hK => ?_
      have c6 := (H14x.out).cell 0
      have z6 := (H14x.out).frozen 0
      simp only [List.getElem?_toArray, List.getElem?_cons_zero] at c6
      go_simp
      refine hK undef _ ?_
      clear hK K
      clear c6 z6
      clear f87
      refine wpListIn_nil ?_
      refine then_go ?_
      repeat with_reducible refine wpIn_seq ?_
      obtain ⟨wy, hwy⟩ : ∃ wy, wy = x301.setCell ⟨g14, 0, none⟩ (.int .i64 ((cv : Nat) : Int)) := ⟨_, rfl⟩
      have H14y := Lib.hid (show Blk wy g14 3 #[.int .i64 ((cv : Nat) : Int)] by rw [hwy]; exact H14x.out.set_ 0 (.int .i64 ((cv : Nat) : Int)))
      have H15y := Lib.hid (show Blk wy (g14 + 1) 3 #[.int .i64 ((kk : Nat) : Int)] by rw [hwy]; exact H15x.out)
      have Hcnt := Lib.hid (show CntE wA g14 cv wy from ⟨H14y.out, fun k hk hne => by rw [hwy, Below.heap_setCell _ _ _ k hne, Hbx301.out.block k (by have := Hc3.out; omega)]; exact Hc2.out k hk hne, by have h1 := Hc3.out; have h2 := Hbx301.out.size; rw [hwy]; simp [World.setCell]; omega, by rw [hwy]; exact (Hc4.out.trans (Hbx301.out.mono (by have := Hc3.out; have := H14l.out; omega))).setCell (p := ⟨g14, 0, none⟩) (Nat.le_refl _) _⟩)
      have Hkf := Lib.hid (show KeepsFrom wA.heap.size W wy by rw [hwy]; exact (keepsFrom_belowE Hbx301.out).trans ((KeepsOthers.setCell _ _ _).from _))
      have Hkp := Lib.hid (show ∀ k, (wh.heap.size ≤ k ∧ k < wA.heap.size) → wy.heap[k]? = W.heap[k]? from fun k hk => by rw [hwy, Below.heap_setCell _ _ _ k (by have := Hl14.out; show k ≠ g14; omega), Hbx301.out.block k (by have := Hc3.out; omega)])
      rw [← hwy]
      clear hwy H14x H15x
      refine wpIn_region_lit ?_
      refine listIn_next rfl rfl hsz303 hde303 88 rfl (by decide) fun K hK => ?_
      have c6 := (H14y.out).cell 0
      simp only [List.getElem?_toArray, List.getElem?_cons_zero] at c6
      go_simp
      refine hK _ _ fun a304 hsz304 hde304 f88 hk => ?_
      clear hK K
      replace f14 := (hk 14 (by decide)).trans f14
      replace f15 := (hk 15 (by decide)).trans f15
      replace f88 : a304.tmps[88]?.getD undef = .int .i64 ((cv : Nat) : Int) := f88
      clear hk hsz303 hde303
      clear c6
      refine listIn_next rfl rfl hsz304 hde304 89 rfl (by decide) fun K hK => ?_
      have c6 := (H15y.out).cell 0
      simp only [List.getElem?_toArray, List.getElem?_cons_zero] at c6
      go_simp
      refine hK _ _ fun a305 hsz305 hde305 f89 hk => ?_
      clear hK K
      replace f14 := (hk 14 (by decide)).trans f14
      replace f15 := (hk 15 (by decide)).trans f15
      replace f88 := (hk 88 (by decide)).trans f88
      replace f89 : a305.tmps[89]?.getD undef = .int .i64 ((kk : Nat) : Int) := f89
      clear hk hsz304 hde304
      clear c6
      refine listIn_next rfl rfl hsz305 hde305 90 rfl (by decide) fun K hK => ?_
      go_simp
      refine hK _ _ fun a306 hsz306 hde306 f90 hk => ?_
      clear hK K
      replace f14 := (hk 14 (by decide)).trans f14
      replace f15 := (hk 15 (by decide)).trans f15
      clear hk hsz305 hde305 f88 f89
      refine wpListIn_nil ?_
      have hcv := Hcv.out
      by_cases he : cv = kk
      · skip
        replace f90 : a306.tmps[90]?.getD undef = .bool true := f90.trans (by first | (congr 1; exact decide_eq_true (by omega)) | (simp; omega))
        refine then_go ?_
        repeat with_reducible refine wpIn_seq ?_
        refine wpIn_cond_true (eval_at f90) ?_
        refine wpIn_exit ?_
        refine block_other (by decide) ?_
        exact ⟨Hkf.out, rfl, by rw [List.length_append, List.length_singleton, ← Hcn.out, ← hcv]; exact he, by omega, by rw [List.length_append, List.length_singleton, ← Hcn.out, ← hcv]; exact Hcnt.out⟩
      · skip
        replace f90 : a306.tmps[90]?.getD undef = .bool false := f90.trans (by first | (congr 1; exact decide_eq_false (by omega)) | (simp; omega))
        refine then_go ?_
        repeat with_reducible refine wpIn_seq ?_
        refine wpIn_cond_false (eval_at f90) ?_
        refine wpIn_skip ?_
        repeat first | with_reducible refine block_go ?_ | with_reducible refine then_go ?_
        exact ⟨Hkf.out, Hkp.out, by rw [List.length_append, List.length_singleton, ← Hcn.out, ← hcv]; omega, by rw [List.length_append, List.length_singleton, ← Hcn.out, ← hcv]; exact Hcnt.out⟩
    case done =>
      rintro D xs W hD rfl ⟨hlt, hcnt⟩ hdef
      obtain ⟨cn, hcn⟩ : ∃ cn, cn = xs.length := ⟨_, rfl⟩
      rw [← hcn] at hlt hcnt
      have hmin : min kk m = cn := by have := Hm.out; omega
      have Hmin := Lib.hid hmin
      clear hmin hcn hlt
      refine block_go ?_
      refine then_go ?_
      refine enter_absD (N := 97) (De := [{ target := .collected D, args := #[] }]) hsz114.out (by show _ :: a114.defers = _; rw [hde114.out]) fun a400 hsz400 hde400 hk => ?_
      replace f6 : a400.tmps[6]?.getD undef = .pointer (some ⟨w.heap.size + 1, 0, none⟩) := (hk 6).trans f6
      replace f13 : a400.tmps[13]?.getD undef = .pointer (some ⟨g13, 0, none⟩) := (hk 13).trans f13
      replace f14 : a400.tmps[14]?.getD undef = .pointer (some ⟨g14, 0, none⟩) := (hk 14).trans f14
      replace f15 : a400.tmps[15]?.getD undef = .pointer (some ⟨g14 + 1, 0, none⟩) := (hk 15).trans f15
      clear hk hsz114 hde114 f72
      obtain ⟨c1, c2, c3, c4⟩ := hcnt
      have H14W := Lib.hid c1
      have H13W := Lib.hid (H13A.out.keep (c2 g13 (by have := H14l.out; have := Hg13b.out; omega) (by have := Hg13b.out; omega)))
      have H15W := Lib.hid (H15A.out.keep (c2 (g14 + 1) H15A.out.lt (by omega)))
      have HrW := Lib.hid (HrA.out.keep (c2 (w.heap.size + 1) HrA.out.lt (by have := Hg14w.out; have := Hrc.out.lt; omega)))
      have HbW := Lib.hid (show Below w.heap.size w W from Hbc.out.trans ((HbA.out.mono Hbc.out.size).trans (c4.mono (by have := Hg14w.out; have := Hbc.out.size; omega))))
      have Hdef := Lib.hid hdef
      have HDl := Lib.hid hD
      have Hc3 := Lib.hid c3
      clear c1 c2 c3 c4 hdef hD
      repeat with_reducible refine wp_seq ?_
      refine wp_region_lit ?_
      refine listD_next rfl hsz400 hde400 91 rfl (by decide) fun K hK => ?_
      have c6 := (H14W.out).cell 0
      simp only [List.getElem?_toArray, List.getElem?_cons_zero] at c6
      go_simp
      refine hK _ _ fun a401 hsz401 hde401 f91 hk => ?_
      clear hK K
      replace f6 := (hk 6 (by decide)).trans f6
      replace f13 := (hk 13 (by decide)).trans f13
      replace f14 := (hk 14 (by decide)).trans f14
      replace f15 := (hk 15 (by decide)).trans f15
      replace f91 : a401.tmps[91]?.getD undef = .int .i64 ((cn : Nat) : Int) := f91
      clear hk hsz400 hde400
      clear c6
      refine listD_next rfl hsz401 hde401 92 rfl (by decide) fun K hK => ?_
      have c6 := (H15W.out).cell 0
      simp only [List.getElem?_toArray, List.getElem?_cons_zero] at c6
      go_simp
      refine hK _ _ fun a402 hsz402 hde402 f92 hk => ?_
      clear hK K
      replace f6 := (hk 6 (by decide)).trans f6
      replace f13 := (hk 13 (by decide)).trans f13
      replace f14 := (hk 14 (by decide)).trans f14
      replace f15 := (hk 15 (by decide)).trans f15
      replace f91 := (hk 91 (by decide)).trans f91
      replace f92 : a402.tmps[92]?.getD undef = .int .i64 ((kk : Nat) : Int) := f92
      clear hk hsz401 hde401
      clear c6
      refine listD_next rfl hsz402 hde402 93 rfl (by decide) fun K hK => ?_
      have c6 := (H13W.out).cell 0
      simp only [List.getElem?_toArray, List.getElem?_cons_zero] at c6
      go_simp
      refine hK _ _ fun a403 hsz403 hde403 f93 hk => ?_
      clear hK K
      replace f6 := (hk 6 (by decide)).trans f6
      replace f13 := (hk 13 (by decide)).trans f13
      replace f14 := (hk 14 (by decide)).trans f14
      replace f15 := (hk 15 (by decide)).trans f15
      replace f91 := (hk 91 (by decide)).trans f91
      replace f92 := (hk 92 (by decide)).trans f92
      replace f93 : a403.tmps[93]?.getD undef = .slice A9 m c9 := f93
      clear hk hsz402 hde402
      clear c6
      refine listD_next rfl hsz403 hde403 94 rfl (by decide) fun K hK => ?_
      go_simp
      refine hK _ _ fun a404 hsz404 hde404 f94 hk => ?_
      clear hK K
      replace f6 := (hk 6 (by decide)).trans f6
      replace f13 := (hk 13 (by decide)).trans f13
      replace f14 := (hk 14 (by decide)).trans f14
      replace f15 := (hk 15 (by decide)).trans f15
      replace f91 := (hk 91 (by decide)).trans f91
      replace f92 := (hk 92 (by decide)).trans f92
      replace f94 : a404.tmps[94]?.getD undef = .int .i64 ((m : Nat) : Int) := f94
      clear hk hsz403 hde403 f93
      refine listD_next rfl hsz404 hde404 95 rfl (by decide) fun K hK => ?_
      go_simp
      refine hK _ _ fun a405 hsz405 hde405 f95 hk => ?_
      clear hK K
      replace f6 := (hk 6 (by decide)).trans f6
      replace f13 := (hk 13 (by decide)).trans f13
      replace f14 := (hk 14 (by decide)).trans f14
      replace f15 := (hk 15 (by decide)).trans f15
      replace f91 := (hk 91 (by decide)).trans f91
      clear hk hsz404 hde404 f92 f94
      replace f95 : a405.tmps[95]?.getD undef = .int .i64 ((cn : Nat) : Int) := f95.trans (by have h7 := Hmin.out; congr 1; omega)
      refine listD_next rfl hsz405 hde405 96 rfl (by decide) fun K hK => ?_
      go_simp
      refine hK _ _ fun a406 hsz406 hde406 f96 hk => ?_
      clear hK K
      replace f6 := (hk 6 (by decide)).trans f6
      replace f13 := (hk 13 (by decide)).trans f13
      replace f14 := (hk 14 (by decide)).trans f14
      replace f15 := (hk 15 (by decide)).trans f15
      clear hk hsz405 hde405 f91 f95
      replace f96 : a406.tmps[96]?.getD undef = .bool true := f96.trans (by first | rfl | simp)
      refine wpList_next0 rfl rfl fun K hK => ?_
      have c6 := (HrW.out).cell 0
      have z6 := (HrW.out).frozen 0
      simp only [List.getElem?_toArray, List.getElem?_cons_zero] at c6
      go_simp
      refine hK undef _ ?_
      clear hK K
      clear c6 z6
      clear f96
      refine wpList_nil ?_
      refine then_go ?_
      repeat with_reducible refine wp_seq ?_
      refine wp_ret ?_
      repeat first | with_reducible refine then_ret ?_ | with_reducible refine block_ret ?_
      have HrZ := Lib.hid (HrW.out.set_ 0 (.bool true))
      have hdz : (W.setCell ⟨w.heap.size + 1, 0, none⟩ (.bool true)).heap[D]? = some (.deferred (some [])) := by rw [Below.heap_setCell _ _ _ D (by have := HDl.out; have := HrA.out.lt; show D ≠ w.heap.size + 1; omega)]; exact Hdef.out
      refine retMD hde406 hdz (res_cell f6 (HrZ.out.keep (World.putObj_heap_other (by have := HDl.out; have := HrA.out.lt; omega)))) ⟨rfl, ?_⟩
      have hbz := HbW.out.setCell (p := ⟨w.heap.size + 1, 0, none⟩) (by show w.heap.size ≤ w.heap.size + 1; omega) (.bool true)
      exact hbz.grown (grownBy_putObj' _ D (.deferred none)) hbz.size (fun k e => by cases e; have := HDl.out; have := HrA.out.lt; omega)
    case stop =>
      rintro D cd xs W hD ⟨rfl, hlk, hkm, hcnt⟩ hdef
      obtain ⟨cn, hcn⟩ : ∃ cn, cn = xs.length := ⟨_, rfl⟩
      rw [← hcn] at hlk hcnt
      have hmin : min kk m = cn := by omega
      have Hmin := Lib.hid hmin
      clear hmin hcn hlk hkm
      refine wpIn_exit ?_
      refine block_exit ?_
      refine then_go ?_
      refine enter_absD (N := 97) (De := [{ target := .collected D, args := #[] }]) hsz114.out (by show _ :: a114.defers = _; rw [hde114.out]) fun a400 hsz400 hde400 hk => ?_
      replace f6 : a400.tmps[6]?.getD undef = .pointer (some ⟨w.heap.size + 1, 0, none⟩) := (hk 6).trans f6
      replace f13 : a400.tmps[13]?.getD undef = .pointer (some ⟨g13, 0, none⟩) := (hk 13).trans f13
      replace f14 : a400.tmps[14]?.getD undef = .pointer (some ⟨g14, 0, none⟩) := (hk 14).trans f14
      replace f15 : a400.tmps[15]?.getD undef = .pointer (some ⟨g14 + 1, 0, none⟩) := (hk 15).trans f15
      clear hk hsz114 hde114 f72
      obtain ⟨c1, c2, c3, c4⟩ := hcnt
      have H14W := Lib.hid c1
      have H13W := Lib.hid (H13A.out.keep (c2 g13 (by have := H14l.out; have := Hg13b.out; omega) (by have := Hg13b.out; omega)))
      have H15W := Lib.hid (H15A.out.keep (c2 (g14 + 1) H15A.out.lt (by omega)))
      have HrW := Lib.hid (HrA.out.keep (c2 (w.heap.size + 1) HrA.out.lt (by have := Hg14w.out; have := Hrc.out.lt; omega)))
      have HbW := Lib.hid (show Below w.heap.size w W from Hbc.out.trans ((HbA.out.mono Hbc.out.size).trans (c4.mono (by have := Hg14w.out; have := Hbc.out.size; omega))))
      have Hdef := Lib.hid hdef
      have HDl := Lib.hid hD
      have Hc3 := Lib.hid c3
      clear c1 c2 c3 c4 hdef hD
      repeat with_reducible refine wp_seq ?_
      refine wp_region_lit ?_
      refine listD_next rfl hsz400 hde400 91 rfl (by decide) fun K hK => ?_
      have c6 := (H14W.out).cell 0
      simp only [List.getElem?_toArray, List.getElem?_cons_zero] at c6
      go_simp
      refine hK _ _ fun a401 hsz401 hde401 f91 hk => ?_
      clear hK K
      replace f6 := (hk 6 (by decide)).trans f6
      replace f13 := (hk 13 (by decide)).trans f13
      replace f14 := (hk 14 (by decide)).trans f14
      replace f15 := (hk 15 (by decide)).trans f15
      replace f91 : a401.tmps[91]?.getD undef = .int .i64 ((cn : Nat) : Int) := f91
      clear hk hsz400 hde400
      clear c6
      refine listD_next rfl hsz401 hde401 92 rfl (by decide) fun K hK => ?_
      have c6 := (H15W.out).cell 0
      simp only [List.getElem?_toArray, List.getElem?_cons_zero] at c6
      go_simp
      refine hK _ _ fun a402 hsz402 hde402 f92 hk => ?_
      clear hK K
      replace f6 := (hk 6 (by decide)).trans f6
      replace f13 := (hk 13 (by decide)).trans f13
      replace f14 := (hk 14 (by decide)).trans f14
      replace f15 := (hk 15 (by decide)).trans f15
      replace f91 := (hk 91 (by decide)).trans f91
      replace f92 : a402.tmps[92]?.getD undef = .int .i64 ((kk : Nat) : Int) := f92
      clear hk hsz401 hde401
      clear c6
      refine listD_next rfl hsz402 hde402 93 rfl (by decide) fun K hK => ?_
      have c6 := (H13W.out).cell 0
      simp only [List.getElem?_toArray, List.getElem?_cons_zero] at c6
      go_simp
      refine hK _ _ fun a403 hsz403 hde403 f93 hk => ?_
      clear hK K
      replace f6 := (hk 6 (by decide)).trans f6
      replace f13 := (hk 13 (by decide)).trans f13
      replace f14 := (hk 14 (by decide)).trans f14
      replace f15 := (hk 15 (by decide)).trans f15
      replace f91 := (hk 91 (by decide)).trans f91
      replace f92 := (hk 92 (by decide)).trans f92
      replace f93 : a403.tmps[93]?.getD undef = .slice A9 m c9 := f93
      clear hk hsz402 hde402
      clear c6
      refine listD_next rfl hsz403 hde403 94 rfl (by decide) fun K hK => ?_
      go_simp
      refine hK _ _ fun a404 hsz404 hde404 f94 hk => ?_
      clear hK K
      replace f6 := (hk 6 (by decide)).trans f6
      replace f13 := (hk 13 (by decide)).trans f13
      replace f14 := (hk 14 (by decide)).trans f14
      replace f15 := (hk 15 (by decide)).trans f15
      replace f91 := (hk 91 (by decide)).trans f91
      replace f92 := (hk 92 (by decide)).trans f92
      replace f94 : a404.tmps[94]?.getD undef = .int .i64 ((m : Nat) : Int) := f94
      clear hk hsz403 hde403 f93
      refine listD_next rfl hsz404 hde404 95 rfl (by decide) fun K hK => ?_
      go_simp
      refine hK _ _ fun a405 hsz405 hde405 f95 hk => ?_
      clear hK K
      replace f6 := (hk 6 (by decide)).trans f6
      replace f13 := (hk 13 (by decide)).trans f13
      replace f14 := (hk 14 (by decide)).trans f14
      replace f15 := (hk 15 (by decide)).trans f15
      replace f91 := (hk 91 (by decide)).trans f91
      clear hk hsz404 hde404 f92 f94
      replace f95 : a405.tmps[95]?.getD undef = .int .i64 ((cn : Nat) : Int) := f95.trans (by have h7 := Hmin.out; congr 1; omega)
      refine listD_next rfl hsz405 hde405 96 rfl (by decide) fun K hK => ?_
      go_simp
      refine hK _ _ fun a406 hsz406 hde406 f96 hk => ?_
      clear hK K
      replace f6 := (hk 6 (by decide)).trans f6
      replace f13 := (hk 13 (by decide)).trans f13
      replace f14 := (hk 14 (by decide)).trans f14
      replace f15 := (hk 15 (by decide)).trans f15
      clear hk hsz405 hde405 f91 f95
      replace f96 : a406.tmps[96]?.getD undef = .bool true := f96.trans (by first | rfl | simp)
      refine wpList_next0 rfl rfl fun K hK => ?_
      have c6 := (HrW.out).cell 0
      have z6 := (HrW.out).frozen 0
      simp only [List.getElem?_toArray, List.getElem?_cons_zero] at c6
      go_simp
      refine hK undef _ ?_
      clear hK K
      clear c6 z6
      clear f96
      refine wpList_nil ?_
      refine then_go ?_
      repeat with_reducible refine wp_seq ?_
      refine wp_ret ?_
      repeat first | with_reducible refine then_ret ?_ | with_reducible refine block_ret ?_
      have HrZ := Lib.hid (HrW.out.set_ 0 (.bool true))
      have hdz : (W.setCell ⟨w.heap.size + 1, 0, none⟩ (.bool true)).heap[D]? = some (.deferred (some [])) := by rw [Below.heap_setCell _ _ _ D (by have := HDl.out; have := HrA.out.lt; show D ≠ w.heap.size + 1; omega)]; exact Hdef.out
      refine retMD hde406 hdz (res_cell f6 (HrZ.out.keep (World.putObj_heap_other (by have := HDl.out; have := HrA.out.lt; omega)))) ⟨rfl, ?_⟩
      have hbz := HbW.out.setCell (p := ⟨w.heap.size + 1, 0, none⟩) (by show w.heap.size ≤ w.heap.size + 1; omega) (.bool true)
      exact hbz.grown (grownBy_putObj' _ D (.deferred none)) hbz.size (fun k e => by cases e; have := HDl.out; have := HrA.out.lt; omega)
section
variable {H : Type} {enc : TypeId × Value → H} {w : World} {r : Reach} {b0 base : Nat} {sp : Nat → Bool} {held : Bool} {v : Value} {d : DataW H} {ps : List MemPlace}
theorem open_idpair (hval : Value.okWide Tryd.prog w r b0 38 v) (hd : DataW.Trod enc Tryd.prog w base sp held 38 v d ps) : ∃ r1 s1 r2 s2, v = .agg (id2C r1 s1 r2 s2) := by
  obtain ⟨fuel, hf⟩ := hd
  obtain ⟨cs, rfl, _⟩ := okWide_array Tryd.underlying38 hval
  obtain ⟨L, hl, hm⟩ := Opens.array (K := kId) Tryd.underlying38 (by kernel_rfl) (by kernel_rfl) opens_id hf
  obtain ⟨css, hcs, hcl, hr⟩ := hm
  rw [hl] at hcl
  match css, hcl, L, hl, hr, hcs with
  | [c0, c1], _, [x0, x1], _, hr, hcs =>
    have k0 := (kId_cells.1 (hr 0 (by simp) (by simp))).1
    have k1 := (kId_cells.1 (hr 1 (by simp) (by simp))).1
    simp only [List.getElem_cons_zero, List.getElem_cons_succ] at k0 k1
    refine ⟨x0.1, x0.2, x1.1, x1.2, ?_⟩
    have h7 : cs.toList = (id2C x0.1 x0.2 x1.1 x1.2).toList := by
      have h8 : cs.toList = [c0, c1].flatten := hcs
      rw [h8, k0, k1]
      rfl
    rw [show cs = cs.toList.toArray by simp, h7]
end
end Go.Proofs.YtcpjgohclncbkaaDoor
