/-
  slices.Insert of one version into a list that the call owns.
-/
import Derived.Test.YtcpjgohclncbkaaDoorVeInsert
import Derived.Test.YtcpjgohclncbkaaDoorVeOwn
import Derived.Test.YtcpjgohclncbkaaDoorEnOwn
import Derived.Test.YtcpjgohclncbkaaDoorVeThose
import Derived.Test.YtcpjgohclncbkaaDoorEnThose
import Derived.Lib.Overlaps
import Derived.Lib.AppendZerosOnto
import Derived.Shelf.RegionOpenPlain
import Derived.Laws.NewBlocks
namespace Go.Proofs.YtcpjgohclncbkaaDoor
open Go.RowKit
set_option maxRecDepth 100000

def insE (L : List Ent) (i : Nat) (X : Ent) : List Ent := L.take i ++ (X :: L.drop i)
theorem insE_length (L : List Ent) (i : Nat) (X : Ent) : (insE L i X).length = L.length + 1 := by
  unfold insE
  rw [List.length_append, List.length_cons, List.length_take, List.length_drop]
  omega
theorem insE_ok {L : List Ent} {i : Nat} {X : Ent} (h : ∀ x ∈ L, EntOk x) (hX : EntOk X) : ∀ x ∈ insE L i X, EntOk x := fun x hx => by
  unfold insE at hx
  rcases List.mem_append.1 hx with hx | hx
  · exact h x (List.mem_of_mem_take hx)
  · rcases List.mem_cons.1 hx with rfl | hx
    · exact hX
    · exact h x (List.mem_of_mem_drop hx)
theorem entsC_ins (L : List Ent) (i : Nat) (X : Ent) : entsC (insE L i X) = entsC (L.take i) ++ ((entC X).toList ++ entsC (L.drop i)) := by
  unfold insE
  rw [entsC_append, show X :: L.drop i = [X] ++ L.drop i from rfl, entsC_append, entsC_one]
theorem entsC_split (L : List Ent) (i : Nat) : entsC L = entsC (L.take i) ++ entsC (L.drop i) := by rw [← entsC_append, List.take_append_drop]
/-- The cells behind the two copies in place. -/
theorem eshift_cells (A D rest V : List Value) (hV : V.length = 15) (hr : 15 ≤ rest.length) :
    splice (splice (A ++ (D ++ rest)) (A.length + 15) D) A.length V = (A ++ (V ++ D)) ++ rest.drop 15 := by
  rw [splice_front]
  have := splice_front A (splice (D ++ rest) 15 D) 0 V
  rw [Nat.add_zero] at this
  rw [this, List.append_assoc A (V ++ D)]
  congr 1
  have hY : ((D ++ rest).take 15).length = 15 := by rw [List.length_take, List.length_append]; omega
  have hd : (D ++ rest).drop (15 + D.length) = rest.drop 15 := by rw [Nat.add_comm, List.drop_length_add_append]
  unfold splice
  rw [List.take_zero, List.nil_append, Nat.zero_add, hV, hd, List.drop_left' hY, List.append_assoc]

/-- At the end: append. -/
theorem einsert_end (base : Nat) (u : Value) (L : List Ent) (X : Ent) (hX : EntOk X) (vb : Nat) (w : World) (hown : OwnE w base u L) (hb : Blk w vb 29 (entC X)) (hl : L.length ≤ 1000) (hbase : base ≤ w.heap.size) :
    Calls Tryd.prog 38 #[u, .int .i64 (L.length : Int), .slice (some ⟨vb, 0, none⟩) 1 1] w fun e w' => (∃ u', e = .returned u' ∧ OwnE w' base u' (L ++ [X])) ∧ Below base w w' := by
  obtain ⟨A, c, rfl, hc1, hc2, _⟩ := hown.1.form
  have hm : maxLen ≤ 9223372036854775807 := by decide
  have Hown := Lib.hid hown
  have Hrd := Lib.hid (hb.rd (fun _ => True) trivial)
  have Hech := Lib.hid (entC_each X)
  obtain ⟨n, hn⟩ : ∃ n, n = L.length := ⟨_, rfl⟩
  rw [← hn] at Hown hl hc1 ⊢
  have Hown1 := Lib.hid (show OwnK w base 29 15 (.slice A n c) n (entsC L) by rw [hn]; exact hown.1)
  have hbk : n = 0 ∨ ∃ g, A = some ⟨g, 0, none⟩ := by
    rcases Nat.eq_zero_or_pos n with h | h
    · exact .inl h
    · obtain ⟨g, cap, cur, hv, _⟩ := OwnK.addr hown.1 (by omega)
      injection hv with hv _ _
      exact .inr ⟨g, hv⟩
  have hvok := Lib.hid hown.2
  have Hn := Lib.hid hn
  clear hown hb hn
  obtain ⟨VC, hVC⟩ : ∃ VC, VC = (entC X).toList := ⟨_, rfl⟩
  rw [← hVC] at Hrd Hech
  have hvl : VC.length = 1 * 15 := by rw [hVC]; rfl
  have Hvl := Lib.hid hvl
  have HVC := Lib.hid hVC
  clear hVC hvl
  cases A with
  | none =>
    have hn0 : n = 0 := by
      rcases hbk with h | ⟨g, h⟩
      · exact h
      · cases h
    go_enter Tryd.func38, Tryd.ntmps38
    go_wp2_with (at_builtin; go_must (refine wpList_appK w elemE rfl (.tmp 23) (.tmp 24) rfl base n (.slice none n c) (entsC L) rfl Hown1.out (fun _ => True) (some ⟨vb, 0, none⟩) 1 1 VC Hvl.out rfl Hrd.out Hech.out (by omega) (by omega) hbase ?_; intro v9 w9 hown9 hg9 hat9))
    go_ret
    exact ⟨⟨_, rfl, OwnE.app (by rw [← HVC.out, ← Hn.out]; exact hown9) hvok.out hX⟩, Hown1.out.below_of hg9 hbase (Nat.le_refl _)⟩
  | some ad =>
    go_enter Tryd.func38, Tryd.ntmps38
    go_wp2_with (at_builtin; go_must (refine wpList_appK w elemE rfl (.tmp 23) (.tmp 24) rfl base n (.slice (some ad) n c) (entsC L) rfl Hown1.out (fun _ => True) (some ⟨vb, 0, none⟩) 1 1 VC Hvl.out rfl Hrd.out Hech.out (by omega) (by omega) hbase ?_; intro v9 w9 hown9 hg9 hat9))
    all_goals go_ret
    all_goals exact ⟨⟨_, rfl, OwnE.app (by rw [← HVC.out, ← Hn.out]; exact hown9) hvok.out hX⟩, Hown1.out.below_of hg9 hbase (Nat.le_refl _)⟩

/-- In the middle, with room: in place. -/
theorem einsert_shift (base g c i : Nat) (L : List Ent) (X : Ent) (hX : EntOk X) (vb : Nat) (w : World) (hown : OwnE w base (.slice (some ⟨g, 0, none⟩) L.length c) L) (hb : Blk w vb 29 (entC X)) (hvb : vb ≠ g) (hl : L.length ≤ 1000) (hbase : base ≤ w.heap.size) (hi : i < L.length) (hroom : L.length + 1 ≤ c) :
    Calls Tryd.prog 38 #[.slice (some ⟨g, 0, none⟩) L.length c, .int .i64 (i : Int), .slice (some ⟨vb, 0, none⟩) 1 1] w fun e w' => (∃ u', e = .returned u' ∧ OwnE w' base u' (insE L i X)) ∧ Below base w w' := by
  have hm : maxLen ≤ 9223372036854775807 := by decide
  obtain ⟨g2, cap, cur, hv, hbg, hblk, h1, h2, h3⟩ := OwnK.addr hown.1 (by omega)
  injection hv with hv _ hcc
  injection hv with hv
  injection hv with hv _ _
  subst hv hcc
  -- the whole block
  have hcs : cur.size = c * 15 ∧ cur.toList.take (L.length * 15) = entsC L := by
    have := hown.1
    unfold OwnK World.ownsRow at this
    rcases this.2 with ⟨h0, _⟩ | ⟨g', cap', cur', hv', _, hk', _, _, h5, h6⟩
    · cases h0
    · injection hv' with hv' _ hc'
      injection hv' with hv'
      injection hv' with hv' _ _
      subst hv' hc'
      have : cur' = cur := by
        have e := hk'.symm.trans hblk
        injection e with e
        injection e
      subst this
      exact ⟨h5, h6⟩
  obtain ⟨hsz, htk⟩ := hcs
  obtain ⟨n, hn⟩ : ∃ n, n = L.length := ⟨_, rfl⟩
  obtain ⟨CA, hCA⟩ : ∃ A, A = entsC (L.take i) := ⟨_, rfl⟩
  obtain ⟨CD, hCD⟩ : ∃ D, D = entsC (L.drop i) := ⟨_, rfl⟩
  obtain ⟨CR, hCR⟩ : ∃ R, R = cur.toList.drop (L.length * 15) := ⟨_, rfl⟩
  obtain ⟨VC, hVC⟩ : ∃ VC, VC = (entC X).toList := ⟨_, rfl⟩
  have hcur : cur.toList = CA ++ (CD ++ CR) := by rw [hCA, hCD, hCR, ← List.append_assoc, ← entsC_split, ← htk, List.take_append_drop]
  have hAl : CA.length = i * 15 := by rw [hCA, entsC_length, List.length_take]; congr 1; omega
  have hDl : CD.length = (n - i) * 15 := by rw [hCD, entsC_length, List.length_drop, hn]
  have hRl : CR.length = (c - n) * 15 := by rw [hCR, List.length_drop, Array.length_toList, hsz, hn, Nat.sub_mul]
  have hVl : VC.length = 1 * 15 := by rw [hVC]; rfl
  have h1D : ∀ u ∈ CD, u.oneCell' = true := by rw [hCD]; exact entsC_each _
  have h1V : ∀ u ∈ VC, u.oneCell' = true := by rw [hVC]; exact entC_each _
  rw [← hn] at hi hl hroom ⊢
  have hinf : (Tryd.prog.info? 29).map (·.size) = some 15 := ent_info
  have hcurA : cur = (CA ++ (CD ++ CR)).toArray := by rw [← hcur]
  have hcell : ∀ j u, (CA ++ (CD ++ CR))[j]? = some u → w.cell? ⟨g, j, none⟩ = some u := fun j u hu => by rw [hblk.cell, hcurA]; simpa using hu
  have hlenA : (CA ++ (CD ++ CR)).length = c * 15 := by rw [← hcur, Array.length_toList, hsz]
  have hblk' : Blk w g 29 (CA ++ (CD ++ CR)).toArray := by rw [← hcurA]; exact hblk
  have hth : ∀ o m, o + m ≤ c * 15 → w.there g o m := fun o m h => Blk.there hblk' o m (by rw [hlenA]; exact h)
  have hcp1 : ∀ ty dc sc, (Builtin.copy_ #[22, 22] ty #[.slice (some ⟨g, (i + 1) * 15, none⟩) (n - i) dc, .slice (some ⟨g, i * 15, none⟩) (n + 1 - i) sc]).run Tryd.prog w.drew = .ok (goInt ((n - i : Nat) : Int)) (w.drew.setCells g ((i + 1) * 15) CD) := fun ty dc sc =>
    run_copyK w.drew _ _ ty 29 15 (n - i) g ((i + 1) * 15) (n - i) dc ⟨g, i * 15, none⟩ (n + 1 - i) sc CD Tryd.underlying22 hinf (by simp only [Nat.min_def]; split <;> omega) hDl
      (fun j u hj => by
        have hjl := (List.getElem?_eq_some_iff.1 hj).1
        rw [add_lit]
        refine hcell _ _ ?_
        rw [List.getElem?_append_right (by omega), hAl, Nat.add_sub_cancel_left, List.getElem?_append_left hjl, hj]) (by
        have := hth ((i + 1) * 15) CD.length (by rw [hDl]; omega)
        exact this) h1D
  obtain ⟨W1, hW1⟩ : ∃ W1, W1 = w.drew.setCells g ((i + 1) * 15) CD := ⟨_, rfl⟩
  rw [← hW1] at hcp1
  have hblk1 : Blk W1 g 29 (splice (CA ++ (CD ++ CR)) ((i + 1) * 15) CD).toArray := by rw [hW1]; exact Blk.setCells CD _ w.drew _ hblk'.drew (by rw [hlenA, hDl]; omega)
  have hl1 : (splice (CA ++ (CD ++ CR)) ((i + 1) * 15) CD).length = c * 15 := by rw [length_splice _ _ _ (by rw [hlenA, hDl]; omega), hlenA]
  have hvb1 : Blk W1 vb 29 (entC X) := by rw [hW1]; exact hb.drew.keep (heap_setCells g CD _ _ vb hvb)
  have hcp2 : ∀ ty dc, (Builtin.copy_ #[22, 22] ty #[.slice (some ⟨g, i * 15, none⟩) (n + 1 - i) dc, .slice (some ⟨vb, 0, none⟩) 1 1]).run Tryd.prog W1 = .ok (goInt ((1 : Nat) : Int)) (W1.setCells g (i * 15) VC) := fun ty dc =>
    run_copyK W1 _ _ ty 29 15 1 g (i * 15) (n + 1 - i) dc ⟨vb, 0, none⟩ 1 1 VC Tryd.underlying22 hinf (by simp only [Nat.min_def]; split <;> omega) hVl
      (fun j u hj => by
        rw [add_lit, hvb1.cell, Nat.zero_add, ← Array.getElem?_toList, ← hVC]; exact hj) (Blk.there hblk1 (i * 15) VC.length (by rw [hl1, hVl]; omega)) h1V
  have hblk2 : Blk (W1.setCells g (i * 15) VC) g 29 (splice (splice (CA ++ (CD ++ CR)) ((i + 1) * 15) CD) (i * 15) VC).toArray := Blk.setCells VC _ W1 _ hblk1 (by rw [hl1, hVl]; omega)
  have hbel2 : Below base w (W1.setCells g (i * 15) VC) := by
    refine below_setCells ?_ hbg (by rw [hW1, size_setCells]; exact hbase) _ _
    rw [hW1]
    exact below_setCells (below_then_drew (Below.refl _ _)) hbg hbase _ _
  have hend : OwnE (W1.setCells g (i * 15) VC) base (.slice (some ⟨g, 0, none⟩) (n + 1) c) (insE L i X) := by
    refine ⟨?_, insE_ok hown.2 hX⟩
    rw [insE_length, ← hn, entsC_ins, ← hCA, ← hVC, ← hCD]
    have hsp := eshift_cells CA CD CR VC hVl (by rw [hRl]; omega)
    rw [hAl, show i * 15 + 15 = (i + 1) * 15 by omega] at hsp
    rw [hsp] at hblk2
    unfold OwnK World.ownsRow
    refine ⟨by rw [List.length_append, List.length_append, hAl, hVl, hDl]; omega, .inr ⟨g, c, _, rfl, hbg, hblk2, by omega, h2, ?_, ?_⟩⟩
    · rw [List.size_toArray, List.length_append, List.length_append, List.length_append, List.length_drop, hAl, hVl, hDl, hRl]; omega
    · rw [List.toList_toArray, List.take_append_of_le_length (by rw [List.length_append, List.length_append, hAl, hVl, hDl]; omega), List.take_of_length_le (by rw [List.length_append, List.length_append, hAl, hVl, hDl]; omega)]
  have hov : ∀ lb cb, (callFunc 61 #[.slice (some ⟨vb, 0, none⟩) 1 1, .slice (some ⟨g, (i + 1) * 15, none⟩) lb cb]).run Tryd.prog w = .ok (.value (.bool false)) w := fun lb cb => by
    rw [run_callFunc_extern Tryd.func61 (by kernel_rfl) (by kernel_rfl) (by kernel_rfl) (e := Extern.SlicesOverlaps.overlaps #[22, 22] #[4]) (by kernel_rfl),
      Lib.run_overlaps_apart w 22 4 29 Tryd.underlying22 15 Tryd.sizeOf29 ⟨vb, 0, none⟩ ⟨g, (i + 1) * 15, none⟩ 1 1 lb cb hvb 29 29 15 cur.size (by simp [World.shape?, show w.heap[vb]? = _ from hb, entC]) (by simp [World.shape?, show w.heap[g]? = _ from hblk]) (by rw [hsz]; omega) (hb.frozen 0) (hb.frozen 15)]
    rfl
  have Hend := Lib.hid hend
  have Hbel2 := Lib.hid hbel2
  have Hcp1 := Lib.hid hcp1
  have Hcp2 := Lib.hid hcp2
  have Hov := Lib.hid hov
  have hz2 : ¬ ((i : Int) = (n : Int)) := by omega
  have hci : ¬ c = i + 1 := by omega
  have hci2 : ¬ c = i := by omega
  have mixed : Tryd.prog.follows .mixedOrders = true := by kernel_rfl
  have hw1 : IntKind.i64.wrap ((i : Int) + 1) = (i : Int) + 1 := by rw [IntKind.wrap_i64]; omega
  have hw2 : (0 : Int) ≤ (i : Int) + 1 := by omega
  have hw3 : (i : Int) + 1 ≤ (n : Int) + 1 := by omega
  have hw4 : ((i : Int) + 1).toNat = i + 1 := by omega
  have hw5 : (i : Int) ≤ (n : Int) + 1 := by omega
  clear hown hb hvb hblk htk hsz hn hCA hCD hCR hVC hcur hAl hDl hRl hVl h1D h1V hinf hcurA hcell hlenA hblk' hth hcp1 hcp2 hW1 hblk1 hl1 hvb1 hblk2 hbel2 hend hov h1 h2 h3
  go_enter Tryd.func38, Tryd.ntmps38
  go_upto_region 15 with (simp only [Hov.out])
  go_region_law_o (refine step_copy_at rfl _ _ 22 22 rfl _ _ (by simp [Act.eval, Act.put]) (by simp [Act.eval, Act.put]) (Hcp1.out _ (c - (i + 1)) (c - i)) ?_)
  go_wp2_with (with_reducible refine wpList_copy_at W1 rfl (.tmp 80) (.tmp 81) 22 22 rfl (.slice (some ⟨g, i * 15, none⟩) (n + 1 - i) (c - i)) (.slice (some ⟨vb, 0, none⟩) 1 1) rfl rfl (Hcp2.out _ _) ?_)
  go_ret
  exact ⟨⟨_, rfl, Hend.out⟩, Hbel2.out⟩

theorem egrow_cells (A Z D V : List Value) (hV : V.length = 15) :
    splice (splice (A ++ Z) A.length V) (A.length + 15) D = (A ++ (V ++ D)) ++ Z.drop (15 + D.length) := by
  have e1 := splice_front A Z 0 V
  rw [Nat.add_zero] at e1
  have e2 : splice Z 0 V = V ++ Z.drop 15 := by unfold splice; rw [List.take_zero, List.nil_append, Nat.zero_add, hV]
  have e3 := splice_front V (Z.drop 15) 0 D
  rw [Nat.add_zero, hV] at e3
  have e4 : splice (Z.drop 15) 0 D = D ++ Z.drop (15 + D.length) := by unfold splice; rw [List.take_zero, List.nil_append, Nat.zero_add, List.drop_drop]
  rw [e1, e2, splice_front, e3, e4]
  simp only [List.append_assoc]

set_option maxHeartbeats 1000000 in
/-- In the middle, without room: a new row. -/
theorem einsert_grow (base g i : Nat) (L : List Ent) (X : Ent) (hX : EntOk X) (vb : Nat) (w : World) (hown : OwnE w base (.slice (some ⟨g, 0, none⟩) L.length L.length) L) (hb : Blk w vb 29 (entC X)) (hl : L.length ≤ 1000) (hbase : base ≤ w.heap.size) (hi : i < L.length) :
    Calls Tryd.prog 38 #[.slice (some ⟨g, 0, none⟩) L.length L.length, .int .i64 (i : Int), .slice (some ⟨vb, 0, none⟩) 1 1] w fun e w' => (∃ u', e = .returned u' ∧ OwnE w' base u' (insE L i X)) ∧ Below base w w' := by
  have hm : maxLen ≤ 9223372036854775807 := by decide
  obtain ⟨g2, cap, cur, hv, hbg, hblk, h1, h2, h3⟩ := OwnK.addr hown.1 (by omega)
  injection hv with hv _ hcc
  injection hv with hv
  injection hv with hv _ _
  subst hv hcc
  have hcellL : ∀ j u, (entsC L)[j]? = some u → w.cell? ⟨g, j, none⟩ = some u := fun j u hu => by
    obtain ⟨hj, e⟩ := List.getElem?_eq_some_iff.1 hu
    rw [hblk.cell, h3 j hj, e]
  have hvok := hown.2
  have hglt := hblk.lt
  have hvlt := hb.lt
  obtain ⟨n, hn⟩ : ∃ n, n = L.length := ⟨_, rfl⟩
  obtain ⟨CA, hCA⟩ : ∃ A, A = entsC (L.take i) := ⟨_, rfl⟩
  obtain ⟨CD, hCD⟩ : ∃ D, D = entsC (L.drop i) := ⟨_, rfl⟩
  obtain ⟨VC, hVC⟩ : ∃ VC, VC = (entC X).toList := ⟨_, rfl⟩
  have hspl : entsC L = CA ++ CD := by rw [hCA, hCD]; exact entsC_split L i
  have hAl : CA.length = i * 15 := by rw [hCA, entsC_length, List.length_take]; congr 1; omega
  have hDl : CD.length = (n - i) * 15 := by rw [hCD, entsC_length, List.length_drop, hn]
  have hVl : VC.length = 1 * 15 := by rw [hVC]; rfl
  have h1D : ∀ u ∈ CD, u.oneCell' = true := by rw [hCD]; exact entsC_each _
  have h1V : ∀ u ∈ VC, u.oneCell' = true := by rw [hVC]; exact entC_each _
  rw [← hn] at hi hl ⊢
  have hinf : (Tryd.prog.info? 29).map (·.size) = some 15 := ent_info
  have hinf3 : (Tryd.prog.info? 29).map (fun i => (i.zero, i.size, i.bytes)) = some (some (.agg zeroE), 15, 96) := by kernel_rfl
  obtain ⟨i0, hi0, hz0, hzs, hzb⟩ := info_parts hinf3
  have hold : (Builtin.firstCells i0.size i (.slice (some ⟨g, 0, none⟩) i n)).run Tryd.prog w.drew = .ok CA.toArray w.drew := by
    rw [hzs]
    exact run_firstCells_some w.drew 15 i ⟨g, 0, none⟩ i n CA hAl (fun j v hj => by
      rw [add_lit, Nat.zero_add]
      refine hcellL j v ?_
      rw [hspl, List.getElem?_append_left (List.getElem?_eq_some_iff.1 hj).1, hj])
  obtain ⟨G, hG⟩ : ∃ G, G = grownCap w (n + 1) n 29 := ⟨_, rfl⟩
  have hGn : n + 1 ≤ G := by rw [hG]; exact grownCap_ge w _ _ _
  have hG63 : G ≤ maxLen := by rw [hG]; exact grownCap_le_maxLen w (n + 1) n 29 (by unfold maxLen; omega)
  obtain ⟨ROW, hROW⟩ : ∃ ROW : Array Value, ROW = CA.toArray ++ Builtin.zeroCells (Value.agg zeroE).cells (n + 1 - i) ++ Builtin.zeroCells (Value.agg zeroE).cells (G - (n + 1)) := ⟨_, rfl⟩
  have hkk : (n : Int) + 1 - (i : Int) = ((n + 1 - i : Nat) : Int) := by omega
  have hrz : ∀ ty, (Builtin.append_ #[22, 3] ty #[.slice (some ⟨g, 0, none⟩) i n, .int .i64 ((n : Int) + 1 - (i : Int))]).run Tryd.prog w = .ok (.slice (some ⟨w.heap.size, 0, none⟩) (n + 1) G) (w.drew.alloc (.cells ROW 29)) := fun ty => by
    have h := Lib.run_append_grow_zeros w 22 3 ty 29 i0 _ .i64 .i64 Tryd.underlying22 Tryd.underlying3 hi0 hz0 (some ⟨g, 0, none⟩) i n CA hold (n + 1 - i) (by omega) (by omega) (by omega) (by omega) (by rw [hzb]; omega) (by rw [hzb, show i + (n + 1 - i) = n + 1 by omega]; exact growslice_fits (by omega) (by omega))
    rw [show i + (n + 1 - i) = n + 1 by omega, ← hG, ← hROW] at h
    rw [hkk]
    exact h
  obtain ⟨Z, hZ⟩ : ∃ Z : List Value, ROW.toList = CA ++ Z ∧ Z.length = (G - i) * 15 := by
    refine ⟨(Builtin.zeroCells (Value.agg zeroE).cells (n + 1 - i)).toList ++ (Builtin.zeroCells (Value.agg zeroE).cells (G - (n + 1))).toList, by rw [hROW]; simp, ?_⟩
    simp [Builtin.zeroCells, Value.cells, zeroE]
    omega
  obtain ⟨hZ1, hZ2⟩ := hZ
  obtain ⟨W1, hW1⟩ : ∃ W1, W1 = w.drew.alloc (.cells ROW 29) := ⟨_, rfl⟩
  rw [← hW1] at hrz
  obtain ⟨N, hN⟩ : ∃ N, N = w.heap.size := ⟨_, rfl⟩
  rw [← hN] at hrz
  have hblk1 : Blk W1 N 29 (CA ++ Z).toArray := by
    rw [hW1, hN, ← hZ1]
    exact Blk.new w.drew 29 ROW
  have hbel1 : Below base w W1 := by rw [hW1]; exact (below_then_drew (Below.refl base w)).alloc hbase _
  have hvb1 : Blk W1 vb 29 (entC X) := by rw [hW1]; exact hb.drew.alloc _
  have hg1 : Blk W1 g 29 cur := by rw [hW1]; exact hblk.drew.alloc _
  have hlen1 : (CA ++ Z).length = G * 15 := by rw [List.length_append, hAl, hZ2]; omega
  have hcp1 : ∀ ty, (Builtin.copy_ #[22, 22] ty #[.slice (some ⟨N, i * 15, none⟩) (n + 1 - i) (G - i), .slice (some ⟨vb, 0, none⟩) 1 1]).run Tryd.prog W1 = .ok (goInt ((1 : Nat) : Int)) (W1.setCells N (i * 15) VC) := fun ty =>
    run_copyK W1 _ _ ty 29 15 1 N (i * 15) (n + 1 - i) (G - i) ⟨vb, 0, none⟩ 1 1 VC Tryd.underlying22 hinf (by simp only [Nat.min_def]; split <;> omega) hVl
      (fun j u hj => by rw [add_lit, hvb1.cell, Nat.zero_add, ← Array.getElem?_toList, ← hVC]; exact hj) (Blk.there hblk1 (i * 15) VC.length (by rw [hlen1, hVl]; omega)) h1V
  have hblk2 : Blk (W1.setCells N (i * 15) VC) N 29 (splice (CA ++ Z) (i * 15) VC).toArray := Blk.setCells VC _ W1 _ hblk1 (by rw [hlen1, hVl]; omega)
  have hlen2 : (splice (CA ++ Z) (i * 15) VC).length = G * 15 := by rw [length_splice _ _ _ (by rw [hlen1, hVl]; omega), hlen1]
  have hg2 : Blk (W1.setCells N (i * 15) VC) g 29 cur := hg1.keep (heap_setCells N VC _ _ g (by omega))
  have hbel2 : Below base w (W1.setCells N (i * 15) VC) := below_setCells hbel1 (by omega) (by have := hbel1.size; omega) _ _
  obtain ⟨W2, hW2⟩ : ∃ W2, W2 = W1.setCells N (i * 15) VC := ⟨_, rfl⟩
  rw [← hW2] at hblk2 hg2 hbel2 hcp1
  have hcp2 : ∀ ty, (Builtin.copy_ #[22, 22] ty #[.slice (some ⟨N, (i + 1) * 15, none⟩) (n - i) (G - (i + 1)), .slice (some ⟨g, i * 15, none⟩) (n - i) (n - i)]).run Tryd.prog W2.drew = .ok (goInt ((n - i : Nat) : Int)) (W2.drew.setCells N ((i + 1) * 15) CD) := fun ty =>
    run_copyK W2.drew _ _ ty 29 15 (n - i) N ((i + 1) * 15) (n - i) (G - (i + 1)) ⟨g, i * 15, none⟩ (n - i) (n - i) CD Tryd.underlying22 hinf (by simp) hDl
      (fun j u hj => by
        have hjl := (List.getElem?_eq_some_iff.1 hj).1
        have hq : (entsC L)[i * 15 + j]? = some u := by rw [hspl, List.getElem?_append_right (by omega), hAl, Nat.add_sub_cancel_left, hj]
        obtain ⟨hq1, hq2⟩ := List.getElem?_eq_some_iff.1 hq
        rw [add_lit, hg2.drew.cell, h3 _ hq1, hq2]) (Blk.there hblk2.drew ((i + 1) * 15) CD.length (by rw [hlen2, hDl]; omega)) h1D
  have hblk3 : Blk (W2.drew.setCells N ((i + 1) * 15) CD) N 29 (splice (splice (CA ++ Z) (i * 15) VC) ((i + 1) * 15) CD).toArray := Blk.setCells CD _ W2.drew _ hblk2.drew (by rw [hlen2, hDl]; omega)
  have hbel3 : Below base w (W2.drew.setCells N ((i + 1) * 15) CD) := below_setCells (below_then_drew hbel2) (by omega) (by have := hbel2.size; show base ≤ W2.heap.size; omega) _ _
  have hend : OwnE (W2.drew.setCells N ((i + 1) * 15) CD) base (.slice (some ⟨N, 0, none⟩) (n + 1) G) (insE L i X) := by
    refine ⟨?_, insE_ok hvok hX⟩
    rw [insE_length, ← hn, entsC_ins, ← hCA, ← hVC, ← hCD]
    have hsp := egrow_cells CA Z CD VC hVl
    rw [hAl, show i * 15 + 15 = (i + 1) * 15 by omega] at hsp
    rw [hsp] at hblk3
    unfold OwnK World.ownsRow
    refine ⟨by rw [List.length_append, List.length_append, hAl, hVl, hDl]; omega, .inr ⟨N, G, _, rfl, by omega, hblk3, by omega, hG63, ?_, ?_⟩⟩
    · rw [List.size_toArray, List.length_append, List.length_append, List.length_append, List.length_drop, hAl, hVl, hDl, hZ2]; omega
    · rw [List.toList_toArray, List.take_append_of_le_length (by rw [List.length_append, List.length_append, hAl, hVl, hDl]; omega), List.take_of_length_le (by rw [List.length_append, List.length_append, hAl, hVl, hDl]; omega)]
  have Hend := Lib.hid hend
  have Hbel3 := Lib.hid hbel3
  have Hrz := Lib.hid hrz
  have Hcp1 := Lib.hid hcp1
  have Hcp2 := Lib.hid hcp2
  have hz2 : ¬ ((i : Int) = (n : Int)) := by omega
  have hGi : ¬ G = i := by omega
  have hGi2 : ¬ G = i + 1 := by omega
  have hni : ¬ n = i := by omega
  have mixed : Tryd.prog.follows .mixedOrders = true := by kernel_rfl
  have hw1 : IntKind.i64.wrap ((i : Int) + 1) = (i : Int) + 1 := by rw [IntKind.wrap_i64]; omega
  have hw2 : (0 : Int) ≤ (i : Int) + 1 := by omega
  have hw3 : (i : Int) + 1 ≤ (n : Int) + 1 := by omega
  have hw4 : ((i : Int) + 1).toNat = i + 1 := by omega
  have hw5 : (i : Int) ≤ (n : Int) := by omega
  clear hown hb hblk h1 h2 h3 hcellL hvok hglt hvlt hn hCA hCD hVC hspl hAl hDl hVl h1D h1V hinf hinf3 hi0 hz0 hzs hzb hold hG hROW hkk hrz hZ1 hZ2 hW1 hN hblk1 hbel1 hvb1 hg1 hlen1 hcp1 hblk2 hlen2 hg2 hbel2 hW2 hcp2 hblk3 hbel3 hend
  go_enter Tryd.func38, Tryd.ntmps38
  go_upto_region 11 with (first | (at_builtin; refine Lib.wpList_append_run w rfl (.tmp 34) (.tmp 39) 22 3 rfl _ _ rfl rfl _ _ (Hrz.out _) ?_) | (with_reducible refine wpList_copy_at W1 rfl (.tmp 43) (.tmp 44) 22 22 rfl (.slice (some ⟨N, i * 15, none⟩) (n + 1 - i) (G - i)) (.slice (some ⟨vb, 0, none⟩) 1 1) rfl rfl (Hcp1.out _) ?_))
  go_region_law_o (refine step_copy_at rfl _ _ 22 22 rfl _ _ (by simp [Act.eval, Act.put]) (by simp [Act.eval, Act.put]) (Hcp2.out _) ?_)
  go_wp2_with fail
  go_ret
  exact ⟨⟨_, rfl, Hend.out⟩, Hbel3.out⟩
end Go.Proofs.YtcpjgohclncbkaaDoor
