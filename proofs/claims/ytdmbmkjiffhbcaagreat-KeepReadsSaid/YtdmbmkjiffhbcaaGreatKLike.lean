/-
  What a Keep shows (its keys, its values), whatever its device does; wardshiplaw05's like.
-/
import Derived.Test.YtdmbmkjiffhbcaaGreatKKept
import Derived.Test.YtdmbmkjiffhbcaaGreatKRefMath
namespace Go.Proofs.YtdmbmkjiffhbcaaGreat
open Go.RowKit Go.Maps
set_option maxRecDepth 100000

/-- The Keep at kb holds the pairs G, all within the blocks of F. -/
def KSees (w : World) (F : Nat → Prop) (kb n : Nat) (G : Nat → Option (List UInt8)) : Prop :=
  ∃ j gm P, Blk w kb 74 #[.pointer (some ⟨j, 0, none⟩), .map (some gm)] ∧ KMap w gm n P G ∧ F kb ∧ F gm ∧ (∀ k, P k → F k) ∧ gm < w.heap.size
theorem KSees.keep {w w' : World} {F : Nat → Prop} {kb n : Nat} {G : Nat → Option (List UInt8)} (h : KSees w F kb n G) (hs : w.heap.size ≤ w'.heap.size) (hk : ∀ k, F k → k < w.heap.size → w'.heap[k]? = w.heap[k]?) : KSees w' F kb n G := by
  obtain ⟨j, gm, P, h1, h2, h3, h4, h5, h6⟩ := h
  exact ⟨j, gm, P, h1.keep (hk kb h3 h1.lt), h2.keep (hk gm h4 h6) fun k hP hl => ⟨hP, hk k (h5 k hP) hl⟩, h3, h4, h5, by omega⟩
theorem KSees.grow {w w' : World} {F : Nat → Prop} {kb n : Nat} {G : Nat → Option (List UInt8)} (h : KSees w F kb n G) (hb : Below w.heap.size w w') : KSees w' F kb n G := h.keep hb.size fun k _ hk => hb.block k hk
theorem KeepOk.sees {w : World} {base : Nat} {Fp : Nat → Prop} {kb g : Nat} {D : Dev} {J : JM} {Ls : List (List UInt8)} {n : Nat} {G : Nat → Option (List UInt8)} (h : KeepOk w base Fp kb g D J Ls n G) :
    JInv D J Ls ∧ ∃ Gd F, DevAt w base Gd g D ∧ KSees w F kb n G ∧ (∀ k, F k → Fp k ∧ ¬ Gd k) ∧ ∀ k, Gd k → Fp k := by
  obtain ⟨Gd, j, gm, P, hd, hi, hj, hkb, hm, h1, h2, h3, h4, h5, h6, hP, hF, hl⟩ := h
  refine ⟨hi, Gd, fun k => k = kb ∨ k = gm ∨ P k, hd, ⟨j, gm, P, hkb, hm, .inl rfl, .inr (.inl rfl), fun k hk => .inr (.inr hk), (hl gm (hF gm (.inr (.inr (.inr (.inl rfl)))))).2⟩, ?_, fun k hk => hF k (.inl hk)⟩
  rintro k (rfl | rfl | hk)
  · exact ⟨hF _ (.inr (.inr (.inl rfl))), h2⟩
  · exact ⟨hF _ (.inr (.inr (.inr (.inl rfl)))), h3⟩
  · exact ⟨hF k (.inr (.inr (.inr (.inr hk)))), (hP k hk).2.1⟩
theorem sees_keys {w : World} {F : Nat → Prop} {kb n : Nat} {G : Nat → Option (List UInt8)} (h : KSees w F kb n G) (hn : n ≤ 1099511627776) :
    Calls Tryz.prog 21 #[.pointer (some ⟨kb, 0, none⟩)] w fun e w' => (∃ v ys, e = .returned v ∧ KeysOf G ys ∧ ys.length ≤ n ∧ Own1 w' (w.heap.size + 2) 46 v (ys.map numV)) ∧ Below w.heap.size w w' := by
  obtain ⟨j, gm, P, hkb, ⟨F2, hF, h2⟩, _⟩ := h
  have k1 := hkb.cell 1
  simp only [List.getElem?_toArray, List.getElem?_cons_zero, List.getElem?_cons_succ] at k1
  refine (keys_any kb gm n hn F2 w k1 hF).mono ?_
  rintro e w' ⟨⟨v, ys, rfl, ⟨⟨hs1, hs2⟩, hl⟩, ho⟩, hb⟩
  refine ⟨⟨v, ys, rfl, ⟨fun y => ?_, hs1⟩, hl, ho⟩, hb⟩
  rw [hs2 y]
  constructor
  · rintro ⟨h3, h4⟩
    refine ⟨h3, ?_⟩
    rcases h2 y h3 with ⟨h5, h6⟩ | ⟨l, u, h5, h6, _⟩
    · rw [h6] at h4; cases h4
    · rw [h5]; rfl
  · rintro ⟨h3, h4⟩
    refine ⟨h3, ?_⟩
    rcases h2 y h3 with ⟨h5, h6⟩ | ⟨l, u, h5, h6, _⟩
    · rw [h5] at h4; cases h4
    · rw [h6]; rfl
theorem sees_get {w : World} {F : Nat → Prop} {kb n : Nat} {G : Nat → Option (List UInt8)} (h : KSees w F kb n G) (key : Nat) (hkey : key < 18446744073709551616) (hl : ∀ l, G key = some l → l.length ≤ 1099511627776) :
    Calls Tryz.prog 20 #[.pointer (some ⟨kb, 0, none⟩), .int .u64 (key : Int)] w fun e w' => (∃ v, e = .returned (.tuple #[v, .bool (G key).isSome]) ∧ Own1 w' w.heap.size 5 v (((G key).getD []).map u8)) ∧ Below w.heap.size w w' := by
  obtain ⟨j, gm, P, hkb, hm, _⟩ := h
  have k1 := hkb.cell 1
  simp only [List.getElem?_toArray, List.getElem?_cons_zero, List.getElem?_cons_succ] at k1
  exact kget_any kb gm n key hkey P G w k1 hm hl

end Go.Proofs.YtdmbmkjiffhbcaaGreat
