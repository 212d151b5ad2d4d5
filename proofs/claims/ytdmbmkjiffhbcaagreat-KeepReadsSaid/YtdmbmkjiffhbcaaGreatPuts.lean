/-
  Changes (api.Put), and what a map of pairs holds: keep's change.
-/
import Derived.Test.YtdmbmkjiffhbcaaGreatKMaps
import Derived.Test.YtdmbmkjiffhbcaaGreatKinds2
import Derived.Test.YtdmbmkjiffhbcaaGreatPlainKit
import Derived.Test.YtdmbmkjiffhbcaaGreatSortA
namespace Go.Proofs.YtdmbmkjiffhbcaaGreat
open Go.RowKit Go.Maps
set_option maxRecDepth 100000

structure PutM where
  key : Nat
  val : List UInt8
  gone : Bool
theorem IsB.move_ {w w' : World} {ok ok' : Nat → Prop} {v : Value} {l : List UInt8} (h : IsB w ok v l) (hk : ∀ k, ok k → k < w.heap.size → ok' k ∧ w'.heap[k]? = w.heap[k]?) : IsB w' ok' v l := by
  obtain ⟨A, c, e, h1, h2, h3⟩ := h
  exact ⟨A, c, e, h1, h2, h3.move hk⟩
def kPut : Kind PutM where
  size := 3
  R w ok cs p := ∃ v, cs = [.int .u64 (p.key : Int), v, .bool p.gone] ∧ p.key < 18446744073709551616 ∧ IsB w ok v p.val
  len := fun ⟨v, e, _⟩ => by rw [e]; rfl
  move := fun ⟨v, e, h1, h2⟩ hk => ⟨v, e, h1, h2.move_ hk⟩
theorem put_at {w : World} {ok : Nat → Prop} {v : Value} {L : List PutM} (h : IsL kPut w ok v L) :
    ∃ A c, v = .slice A L.length c ∧ L.length ≤ c ∧ c ≤ maxLen ∧ (L ≠ [] → ∃ b off, A = some ⟨b, off, none⟩ ∧ ok b ∧ b < w.heap.size ∧ ∀ (i : Nat) (hi : i < L.length), ∃ Ai ci,
      w.cell? ⟨b, off + i * 3, none⟩ = some (.int .u64 (L[i].key : Int)) ∧ w.cell? ⟨b, off + i * 3 + 1, none⟩ = some (.slice Ai L[i].val.length ci) ∧ w.cell? ⟨b, off + i * 3 + 2, none⟩ = some (.bool L[i].gone) ∧
      L[i].key < 18446744073709551616 ∧ IsB w ok (.slice Ai L[i].val.length ci) L[i].val) := by
  obtain ⟨A, c, hv, h1, h2, h3⟩ := h.elem (by decide)
  refine ⟨A, c, hv, h1, h2, fun hn => ?_⟩
  obtain ⟨b, off, hA, ho, hlt, hc⟩ := h3 hn
  refine ⟨b, off, hA, ho, hlt, fun i hi => ?_⟩
  obtain ⟨cs, ⟨v, rfl, hk, hb⟩, hcs⟩ := hc i hi
  have hsz : kPut.size = 3 := rfl
  rw [hsz] at hcs
  have hb' := hb
  obtain ⟨Ai, ci, rfl, _⟩ := hb
  have e0 := hcs 0 (by simp)
  have e1 := hcs 1 (by simp)
  have e2 := hcs 2 (by simp)
  exact ⟨Ai, ci, by simpa [Nat.add_assoc] using e0, by simpa [Nat.add_assoc] using e1, by simpa [Nat.add_assoc] using e2, hk, hb'⟩

/-- One change, and several. -/
def putG (G : Nat → Option (List UInt8)) (p : PutM) (k : Nat) : Option (List UInt8) := if k = p.key then (if p.gone then none else some p.val) else G k
def putsG (G : Nat → Option (List UInt8)) (L : List PutM) : Nat → Option (List UInt8) := L.foldl putG G
theorem putsG_snoc (G : Nat → Option (List UInt8)) (L : List PutM) (p : PutM) : putsG G (L ++ [p]) = putG (putsG G L) p := by unfold putsG; rw [List.foldl_append]; rfl
/-- Block g holds these pairs; their bytes lie in blocks that P lets. -/
def KMap (w : World) (g n : Nat) (P : Nat → Prop) (G : Nat → Option (List UInt8)) : Prop :=
  ∃ F, MapU w g n F ∧ ∀ k, k < 18446744073709551616 → (G k = none ∧ F k = none) ∨ ∃ l v, G k = some l ∧ F k = some v ∧ IsB w P v l
theorem KMap.keep {w w' : World} {g n : Nat} {P P' : Nat → Prop} {G : Nat → Option (List UInt8)} (h : KMap w g n P G) (hg : w'.heap[g]? = w.heap[g]?) (hk : ∀ k, P k → k < w.heap.size → P' k ∧ w'.heap[k]? = w.heap[k]?) : KMap w' g n P' G := by
  obtain ⟨F, h1, h2⟩ := h
  refine ⟨F, h1.keep hg, fun k hk' => ?_⟩
  rcases h2 k hk' with h | ⟨l, v, h3, h4, h5⟩
  · exact .inl h
  · exact .inr ⟨l, v, h3, h4, h5.move_ hk⟩
theorem KMap.put {w w' : World} {g n : Nat} {P : Nat → Prop} {G : Nat → Option (List UInt8)} {F : Nat → Option Value} (h2 : ∀ k, k < 18446744073709551616 → (G k = none ∧ F k = none) ∨ ∃ l v, G k = some l ∧ F k = some v ∧ IsB w P v l)
    {p : PutM} (hg : p.gone = false) {v : Value} (hv : IsB w' P v p.val) (hm : MapU w' g n (updU F p.key (some v))) (hk : ∀ k, P k → k < w.heap.size → w'.heap[k]? = w.heap[k]?) : KMap w' g n P (putG G p) := by
  refine ⟨_, hm, fun k hk' => ?_⟩
  unfold putG
  by_cases e : k = p.key
  · subst e
    rw [if_pos rfl, updU_same, hg]
    exact .inr ⟨_, _, rfl, rfl, hv⟩
  · rw [if_neg e, updU_other F _ e]
    rcases h2 k hk' with h | ⟨l, u, h3, h4, h5⟩
    · exact .inl h
    · exact .inr ⟨l, u, h3, h4, h5.frame hk⟩
theorem KMap.del {w w' : World} {g n : Nat} {P : Nat → Prop} {G : Nat → Option (List UInt8)} {F : Nat → Option Value} (h2 : ∀ k, k < 18446744073709551616 → (G k = none ∧ F k = none) ∨ ∃ l v, G k = some l ∧ F k = some v ∧ IsB w P v l)
    {p : PutM} (hg : p.gone = true) (hm : MapU w' g n (updU F p.key none)) (hk : ∀ k, P k → k < w.heap.size → w'.heap[k]? = w.heap[k]?) : KMap w' g n P (putG G p) := by
  refine ⟨_, hm, fun k hk' => ?_⟩
  unfold putG
  by_cases e : k = p.key
  · subst e
    rw [if_pos rfl, updU_same, hg]
    exact .inl ⟨rfl, rfl⟩
  · rw [if_neg e, updU_other F _ e]
    rcases h2 k hk' with h | ⟨l, u, h3, h4, h5⟩
    · exact .inl h
    · exact .inr ⟨l, u, h3, h4, h5.frame hk⟩
/-- What has come since w, beside P. -/
def since (w : World) (P : Nat → Prop) (w' : World) (k : Nat) : Prop := P k ∨ (w.heap.size ≤ k ∧ k < w'.heap.size)

set_option maxHeartbeats 2000000 in
theorem kchange_any (ok P : Nat → Prop) (v : Value) (L : List PutM) (g n : Nat) (G : Nat → Option (List UInt8)) (w : World) (hL : IsL kPut w ok v L) (hm : KMap w g n P G) (hog : ¬ ok g) (hPg : ¬ P g) (hn : n + L.length ≤ 1099511627776) (hvl : ∀ p, p ∈ L → p.val.length ≤ 1099511627776) :
    Calls Tryz.prog 23 #[.map (some g), v] w fun e w' => e = .returned (.tuple #[]) ∧ KMap w' g (n + L.length) (since w P w') (putsG G L) ∧ ButS g w w' := by
  have hglt : g < w.heap.size := by obtain ⟨F, h1, _⟩ := hm; exact h1.lt
  obtain ⟨A, c, rfl, hLc, hcm, hcells⟩ := put_at hL
  have Hc := Lib.hid hcells
  have Hm := Lib.hid hm
  have Hvl := Lib.hid hvl
  clear hL hcells hm hvl
  go_enter Tryz.func23, Tryz.ntmps23
  go_wp2_with fail
  go_loopw [8] (fun i wr => ∃ k : Nat, k ≤ L.length ∧ i = .int .i64 (k : Int) ∧ KMap wr g (n + k) (since w P wr) (putsG G (L.take k)) ∧ ButS g w wr) (fun i _ => L.length - (intOf i).toNat)
  case atStart => exact ⟨0, by omega, rfl, Hm.out.keep rfl fun k h _ => ⟨.inl h, rfl⟩, ButS.refl _ _⟩
  case round =>
    obtain ⟨k, hk, rfl, hmap, hbut⟩ := hrel
    have Hmap := Lib.hid hmap
    have Hbut := Lib.hid hbut
    clear hmap hbut
    by_cases hlt : k < L.length
    · obtain ⟨b, off, rfl, hokb, hbl, hcell⟩ := Hc.out (by intro e; subst e; simp at hlt)
      obtain ⟨Ai, ci, c0, c1, c2, hkey, hval⟩ := hcell k hlt
      have hbg : b ≠ g := fun e => hog (e ▸ hokb)
      have hsame := Hbut.out.2.2.2.2 b hbl hbg
      have c0' := (World.cell?_of_block (a := ⟨b, off + k * 3, none⟩) hsame).trans c0
      have c1' := (World.cell?_of_block (a := ⟨b, off + k * 3 + 1, none⟩) hsame).trans c1
      have c2' := (World.cell?_of_block (a := ⟨b, off + k * 3 + 2, none⟩) hsame).trans c2
      have hval' := hval.frame (w' := wr) fun j hj hjl => Hbut.out.2.2.2.2 j hjl fun e => hog (e ▸ hj)
      have hvlk := Hvl.out L[k] (List.getElem_mem hlt)
      have htk : L.take (k + 1) = L.take k ++ [L[k]] := List.take_succ_eq_append_getElem hlt
      have Htk := Lib.hid htk
      have Hval := Lib.hid hval'
      generalize L[k] = p at c0' c1' c2' hkey Hval hvlk Htk
      have Hkey := Lib.hid hkey
      clear hcell c0 c1 c2 hval hval' htk hkey
      obtain ⟨pk, pv, pg⟩ := p
      dsimp only at c0' c1' c2' Hkey Hval hvlk
      obtain ⟨F, hF, h2⟩ := Hmap.out
      have H2 := Lib.hid h2
      have hsg : ∀ j, since w P wr j → j ≠ g := fun j hj e => by
        subst e
        rcases hj with h | h
        · exact hPg h
        · omega
      have hnew : g ≠ wr.heap.size := by have := hF.lt; omega
      have hwrs : w.heap.size ≤ wr.heap.size := Hbut.out.2.2.2.1
      clear h2 Hmap
      cases pg with
      | true =>
        have hmA : MapU (wr.alloc (.cells #[.int .u64 (pk : Int), .slice Ai pv.length ci, .bool true] 49)) g (n + k) F := hF.keep (Below.heap_alloc _ _ _ hF.lt)
        have Hsg := Lib.hid hsg
        clear hsg
        go_wp2_with (at_delete; refine wpList_deleteU _ rfl _ _ rfl g (n + k) F rfl hmA pk Hkey.out rfl ?_; intro w5 hm5 hg5)
        have hblk5 : ∀ j, j < wr.heap.size → j ≠ g → w5.heap[j]? = wr.heap[j]? := fun j hj hjg => (hg5.block j (by simp; omega) (fun e => hjg (Option.some.inj e))).trans (Below.heap_alloc _ _ _ hj)
        have hs5 : wr.heap.size ≤ w5.heap.size := by have := hg5.size; simp at this; omega
        go_roundw
        case rel =>
          refine ⟨k + 1, by omega, by go_num, ?_, Hbut.out.trans ⟨hg5.os, hg5.tape, hg5.output, hs5, hblk5⟩⟩
          rw [Htk.out, putsG_snoc]
          have hd := KMap.del (w := wr) (P := since w P wr) H2.out (p := ⟨pk, pv, true⟩) rfl (hm5.mono (show n + k ≤ n + (k + 1) by omega)) (fun j hj hjl => hblk5 j hjl (Hsg.out j hj))
          exact hd.keep rfl fun j hj _ => ⟨by rcases hj with h | h; exact .inl h; exact .inr ⟨h.1, by omega⟩, rfl⟩
        case measure => simp [intOf]; omega
      | false =>
        have Hsg := Lib.hid hsg
        clear hsg
        go_upto_region 5 with (fail)
        have hblk1 : Blk (wr.alloc (.cells #[.int .u64 (pk : Int), .slice Ai pv.length ci, .bool false] 49)) wr.heap.size 49 #[.int .u64 (pk : Int), .slice Ai pv.length ci, .bool false] := Blk.new wr _ _
        have hm1 : MapU (wr.alloc (.cells #[.int .u64 (pk : Int), .slice Ai pv.length ci, .bool false] 49)) g (n + k) F := hF.keep (Below.heap_alloc _ _ _ hF.lt)
        have hb1 : Below wr.heap.size wr (wr.alloc (.cells #[.int .u64 (pk : Int), .slice Ai pv.length ci, .bool false] 49)) := (Below.refl _ _).alloc (Nat.le_refl _) _
        obtain ⟨W1, hW1⟩ : ∃ W1, W1 = wr.alloc (.cells #[.int .u64 (pk : Int), .slice Ai pv.length ci, .bool false] 49) := ⟨_, rfl⟩
        rw [← hW1] at hblk1 hm1 hb1 ⊢
        clear hW1
        have hs1 := hb1.size
        have hv1 := Hval.out.grow hb1
        have e0 := hblk1.cell 0
        have e1 := hblk1.cell 1
        simp only [List.getElem?_toArray, List.getElem?_cons_zero, List.getElem?_cons_succ] at e0 e1
        have hcl : ∀ z, Below W1.heap.size W1 z → Calls Tryz.prog 41 #[.slice Ai pv.length ci] z fun e w' => ∃ A' c' w3, e = .returned (.slice A' pv.length c') ∧ Own1 w' z.heap.size 5 (.slice A' pv.length c') (pv.map u8) ∧ Below z.heap.size z w' ∧ w'.cell? ⟨wr.heap.size, 0, none⟩ = some (.int .u64 (pk : Int)) ∧ w'.cell? ⟨wr.heap.size, 1, none⟩ = some (.slice Ai pv.length ci) ∧
            (Instr.mapUpdate 69 (.map (some g)) (.int .u64 (pk : Int)) (.slice A' pv.length c')).run Tryz.prog w' = .ok () w3 ∧ MapU w3 g (n + (k + 1)) (updU F pk (some (.slice A' pv.length c'))) ∧ w'.grownBy w3 (some g) := fun z hz => by
          refine (clone_any ok _ pv z (hv1.grow hz) hvlk).mono ?_
          rintro e w2 ⟨v', rfl, hown, hb2⟩
          obtain ⟨A', c', hv', _⟩ := hown.form
          rw [List.length_map] at hv'
          subst hv'
          have hbz := below_call hz hb2
          obtain ⟨D, hD1, hD2⟩ := (hm1.keep (w' := w2) (hbz.block g hm1.lt))
          obtain ⟨w3, hrun, hD3, hg3⟩ := hD1.update keyU Tryz.underlying69 (by have : n + k < 1099511627776 := (by omega); unfold maxLen; omega) (keyOf_U Hkey.out) (val := .slice A' pv.length c') (d := .held (.slice A' pv.length c')) (ps := []) rfl
          exact ⟨A', c', w3, rfl, hown, hb2, (hblk1.grow hbz).cell 0, (hblk1.grow hbz).cell 1, hrun, ⟨_, hD3, hD2.put hD1.isMap Hkey.out _⟩, hg3⟩
        have Hcl := Lib.hid hcl
        have Hb1 := Lib.hid hb1
        clear hcl hblk1 hm1 hv1 hb1 hF
        go_region_with (first
          | (go_at_call 41; refine (Hcl.out _ ?_).mono ?_; exact (Below.refl _ _).drew; rintro e w2 ⟨A', c', w3, rfl, hown, hb2, d0, d1, hrun, hm3, hg3⟩))
        all_goals
          have hb12 : Below W1.heap.size W1 w2 := below_call ((Below.refl _ _).drew) hb2
          have hbut3 : ButS g wr w3 := ((butS_below Hb1.out g).trans (butS_below hb12 g)).trans ⟨hg3.os, hg3.tape, hg3.output, hg3.size, fun j hj hjg => hg3.block j hj fun e => hjg (Option.some.inj e)⟩
          have hs3 := hbut3.2.2.2.1
          have hs23 := hg3.size
          have hlt2 := hown.lt
          have hgw : g < W1.heap.size := by omega
          have hvs : IsB w3 (since w P w3) (.slice A' pv.length c') pv := hown.isB.move_ fun j hj hjl => by
            have h1 := (hlt2 j hj).1
            have h2 : W1.heap.size ≤ j := h1
            exact ⟨.inr ⟨by omega, by omega⟩, hg3.block j hjl fun e => by have := Option.some.inj e; omega⟩
        all_goals go_wp2_with fail
        all_goals go_roundw
        all_goals first
          | (refine ⟨k + 1, by omega, by go_num, ?_, Hbut.out.trans hbut3⟩
             rw [Htk.out, putsG_snoc]
             have hH := H2.out
             have hH3 : ∀ j, j < 18446744073709551616 → (putsG G (L.take k) j = none ∧ F j = none) ∨ ∃ l v, putsG G (L.take k) j = some l ∧ F j = some v ∧ IsB wr (since w P w3) v l := fun j hj => by
               rcases hH j hj with h | ⟨l, v, h1, h2, h3⟩
               · exact .inl h
               · exact .inr ⟨l, v, h1, h2, h3.weaken fun q hq => by rcases hq with h | h; exact .inl h; exact .inr ⟨h.1, by omega⟩⟩
             exact KMap.put (w := wr) (P := since w P w3) hH3 (p := ⟨pk, pv, false⟩) rfl hvs hm3 (fun j hj hjl => hbut3.2.2.2.2 j hjl (by
               rintro rfl
               rcases hj with h | h
               · exact hPg h
               · omega)))
          | (simp [intOf]; omega)
    · obtain rfl : k = L.length := by omega
      have hfin := Hmap.out
      rw [List.take_length] at hfin
      have Hfin := Lib.hid hfin
      clear hfin
      go_wp2_with fail
      first
      | exact bodyPost_end (v := .tuple #[]) (results_none rfl _ _ _) rfl ⟨rfl, Hfin.out, Hbut.out⟩
      | exact bodyPost_ret (v := .tuple #[]) (results_none rfl _ _ _) rfl ⟨rfl, Hfin.out, Hbut.out⟩
end Go.Proofs.YtdmbmkjiffhbcaaGreat
