/-
  maps.Clone at keep's pairs; keep's clone.
  keep's replace.
  keep's Commit.
-/
import Derived.Test.YtdmbmkjiffhbcaaGreatPuts
import Derived.Shelf.SlMaps.Clone
import Derived.Test.YtdmbmkjiffhbcaaGreatKeepRecs
import Derived.Test.YtdmbmkjiffhbcaaGreatJPutAdd
import Derived.Test.YtdmbmkjiffhbcaaGreatKSmall
namespace Go.Proofs.YtdmbmkjiffhbcaaGreat
open Go.RowKit Go.Maps Go.Shelf
set_option maxRecDepth 100000

set_option maxHeartbeats 1000000 in
theorem mapclone_run (b : Nat) (es : Array MapEntry) (clock : Nat) (w : World) (hb : w.heap[b]? = some (.map es clock)) :
    Calls Tryz.prog 74 #[.map (some b)] w fun e w' => e = .returned (.map (some w.heap.size)) ∧ w' = w.alloc (.map es clock) := by
  have hq := fun w => run_eql_map_nil_sl (P := Tryz.prog) w 69 _ _ (some b) Tryz.underlying69
  go_enter Tryz.func74, Tryz.ntmps74
  go_wp2
  rw [run_callFunc_extern Tryz.func91 (by kernel_rfl) (by kernel_rfl) (by kernel_rfl) (e := Extern.MapsClone.clone) (by kernel_rfl), run_maps_clone_sl w 69 hb]
  simp only [Result.andThen]
  rw [Oper.upon_value]
  go_wp2
  rw [run_typeAssert_map_sl _ 69 _ _ _ _ Tryz.underlying69]
  simp only [Result.andThen]
  rw [Oper.upon_value]
  go_wp2
  go_ret
  exact ⟨rfl, rfl⟩
theorem mapclone_any (g n : Nat) (F : Nat → Option Value) (w : World) (h : MapU w g n F) :
    Calls Tryz.prog 74 #[.map (some g)] w fun e w' => e = .returned (.map (some w.heap.size)) ∧ MapU w' w.heap.size n F ∧ Below w.heap.size w w' := by
  obtain ⟨D, ⟨es, clock, hb, E, hs, hD⟩, hF⟩ := h
  refine (mapclone_run g es clock w hb).mono ?_
  rintro e w' ⟨rfl, rfl⟩
  exact ⟨rfl, ⟨D, ⟨es, clock, (MapKept.heap_alloc w _).1, E, hs, hD⟩, hF⟩, (Below.refl _ w).alloc (Nat.le_refl _) _⟩
theorem kclone_any (g n : Nat) (P : Nat → Prop) (G : Nat → Option (List UInt8)) (w : World) (h : KMap w g n P G) :
    Calls Tryz.prog 50 #[.map (some g)] w fun e w' => e = .returned (.map (some w.heap.size)) ∧ KMap w' w.heap.size n P G ∧ Below w.heap.size w w' := by
  obtain ⟨F, h1, h2⟩ := h
  have Hc := Lib.hid (mapclone_any g n F w h1)
  have H2 := Lib.hid h2
  clear h1 h2
  go_enter Tryz.func50, Tryz.ntmps50
  go_wp2_with fail
  refine Hc.out.mono ?_
  rintro e w' ⟨rfl, hm, hb⟩
  go_wp2_with fail
  go_ret
  refine ⟨rfl, ⟨F, hm, fun k hk => ?_⟩, hb⟩
  rcases H2.out k hk with h | ⟨l, v, h3, h4, h5⟩
  · exact .inl h
  · exact .inr ⟨l, v, h3, h4, h5.grow hb⟩
end Go.Proofs.YtdmbmkjiffhbcaaGreat

namespace Go.Proofs.YtdmbmkjiffhbcaaGreat
open Go.RowKit Go.Maps
set_option maxRecDepth 100000

theorem putsG_len {B : Nat} : ∀ (L : List PutM) (G : Nat → Option (List UInt8)), (∀ k l, G k = some l → l.length ≤ B) → (∀ p ∈ L, p.val.length ≤ B) → ∀ k l, putsG G L k = some l → l.length ≤ B := by
  intro L
  induction L with
  | nil => intro G hG _ k l h; exact hG k l h
  | cons p L ih =>
    intro G hG hL k l h
    refine ih (putG G p) (fun k l h => ?_) (fun q hq => hL q (by simp [hq])) k l h
    unfold putG at h
    split at h
    · split at h
      · cases h
      · cases h
        exact hL p (by simp)
    · exact hG k l h
/-- The records that replace leaves. -/
def recsOfG (G : Nat → Option (List UInt8)) (ys : List Nat) : List (List UInt8) := ys.map fun y => (pairM G y).1
def KeysOf (G : Nat → Option (List UInt8)) (ys : List Nat) : Prop := (∀ y, y ∈ ys ↔ y < 18446744073709551616 ∧ (G y).isSome = true) ∧ ys.Pairwise (· < ·)
/-- How replace ends. -/
def ReplPost (base : Nat) (Gd P : Nat → Prop) (kb j g n : Nat) (J : JM) (D : Dev) (G : Nat → Option (List UInt8)) (w : World) (e : Ending) (w' : World) : Prop :=
  ((∃ y, y < 18446744073709551616 ∧ (G y).isSome = true ∧ (pairM G y).2 = 4) ∧ e = .returned (.int .i64 4) ∧ Below w.heap.size w w') ∨
  ∃ ys, KeysOf G ys ∧ (∀ y ∈ ys, (pairM G y).2 = 0) ∧ e = .returned (.int .i64 (repJ J D (recsOfG G ys)).2) ∧ ∃ G', DevAt w' base G' g (repJ J D (recsOfG G ys)).1.2 ∧ JAt w' j g (repJ J D (recsOfG G ys)).1.1 ∧ ¬ G' j ∧ ¬ G' kb ∧
    (((repJ J D (recsOfG G ys)).2 ≠ 0 ∧ Fr (fun k => Gd k ∨ k = j) (fun k => G' k ∨ k = j) w w') ∨
     ((repJ J D (recsOfG G ys)).2 = 0 ∧ Fr (fun k => Gd k ∨ k = j ∨ k = kb) (fun k => G' k ∨ k = j ∨ k = kb) w w' ∧ ∃ g2, w.heap.size ≤ g2 ∧ ¬ G' g2 ∧ Blk w' kb 74 #[.pointer (some ⟨j, 0, none⟩), .map (some g2)] ∧ KMap w' g2 n (fun k => ¬ G' k ∧ k ≠ j ∧ k ≠ kb ∧ k ≠ g2 ∧ (P k ∨ w.heap.size ≤ k)) G))
set_option maxHeartbeats 2000000 in
theorem kreplace_any (base : Nat) (Gd ok P : Nat → Prop) (kb j g gm n : Nat) (J : JM) (D : Dev) (v : Value) (L : List PutM) (G : Nat → Option (List UInt8)) (w : World) (hfit : JFit J D) (hfew : D.Few 900000) (hd : DevAt w base Gd g D) (hj : JAt w j g J) (hn : ¬ Gd j)
    (hkb : Blk w kb 74 #[.pointer (some ⟨j, 0, none⟩), .map (some gm)]) (hkd : ¬ Gd kb) (hkj : kb ≠ j) (hm : KMap w gm n P G) (hL : IsL kPut w ok v L) (hok : ∀ k, ok k → k < w.heap.size) (hP : ∀ k, P k → k < w.heap.size ∧ ¬ Gd k ∧ k ≠ j ∧ k ≠ kb)
    (hnl : n + L.length ≤ 1099511627776) (hvl : ∀ p ∈ L, p.val.length ≤ 65535) (hGl : ∀ k l, G k = some l → l.length ≤ 65535) :
    Calls Tryz.prog 27 #[.pointer (some ⟨kb, 0, none⟩), v] w (ReplPost base Gd P kb j g (n + L.length) J D (putsG G L) w) := by
  have hlen := putsG_len L G hGl hvl
  have hkl : kb < w.heap.size := (Array.getElem?_eq_some_iff.1 hkb).1
  have hjl : j < w.heap.size := (Array.getElem?_eq_some_iff.1 hj).1
  have hlow := hd.low
  obtain ⟨Av, cv, hv, _⟩ := put_at hL
  subst hv
  have Hcl := Lib.hid (kclone_any gm n P G w hm)
  have c1 := hkb.cell 1
  simp only [List.getElem?_toArray, List.getElem?_cons_zero, List.getElem?_cons_succ] at c1
  have Hd := Lib.hid hd
  have Hj := Lib.hid hj
  have Hkb := Lib.hid hkb
  have HL := Lib.hid hL
  have Hok := Lib.hid hok
  have HP := Lib.hid hP
  have Hvl := Lib.hid hvl
  have Hlen := Lib.hid hlen
  have Hlow := Lib.hid hlow
  have Hfit := Lib.hid hfit
  have Hfew := Lib.hid hfew
  clear hd hj hkb hL hok hP hvl hlen hlow hfit hfew hm hGl
  go_enter Tryz.func27, Tryz.ntmps27
  go_wp2_with fail
  refine Hcl.out.mono ?_
  rintro e w1 ⟨rfl, hm1, hb1⟩
  have hs1 := hb1.size
  have hg1 : w.heap.size < w1.heap.size := by obtain ⟨F, h1, _⟩ := hm1; exact h1.lt
  have hch := kchange_any ok P _ L w.heap.size n G w1 (HL.out.grow hb1) hm1 (fun h => by have := Hok.out _ h; omega) (fun h => by have := (HP.out _ h).1; omega) hnl (fun p hp => by have := Hvl.out p hp; omega)
  have Hch := Lib.hid hch
  have Hb1 := Lib.hid hb1
  clear hch hb1 hm1 Hcl
  go_wp2_with fail
  refine Hch.out.mono ?_
  rintro e w2 ⟨rfl, hm2, hbut⟩
  have hs2 := hbut.2.2.2.1
  have hb02 : Below w.heap.size w w2 := Hb1.out.trans ⟨hbut.1, hbut.2.1, hbut.2.2.1, hs2, fun k hk => hbut.2.2.2.2 k (by omega) (by omega)⟩
  have hrec := krecords_any w.heap.size (n + L.length) hnl _ _ w2 hm2 (fun k l h => by have := Hlen.out k l h; omega)
  have Hrec := Lib.hid hrec
  have Hm2 := Lib.hid hm2
  have Hb02 := Lib.hid hb02
  clear hrec hm2 hb02 hbut Hch
  go_wp2_with fail
  refine Hrec.out.mono ?_
  rintro e w3 ⟨⟨x, ys, ⟨hy1, hy2, hy3⟩, hok3, rfl, hbb⟩ | ⟨hbad, rfl⟩, hb3⟩
  · obtain ⟨Ax, cx, rfl, hxc, hxm, _⟩ := hbb.elem
    have hb03 : Below w.heap.size w w3 := Hb02.out.trans (hb3.mono Hb02.out.size)
    have hs3 := hb3.size
    have hrep := jreplace_any base Gd _ j g J D _ (recsOfG (putsG G L) ys) w3 Hfit.out Hfew.out (Hd.out.grow hb03) (Hj.out.grow hb03) hn hbb
    rw [List.length_map] at hrep
    obtain ⟨R, hR⟩ : ∃ R, R = repJ J D (recsOfG (putsG G L) ys) := ⟨_, rfl⟩
    rw [← hR] at hrep
    have HR := Lib.hid hR
    clear hR
    obtain ⟨⟨J', D'⟩, er⟩ := R
    have k0 := (Hkb.out.grow hb03).cell 0
    simp only [List.getElem?_toArray, List.getElem?_cons_zero] at k0
    have Hrep := Lib.hid hrep
    have Hb3 := Lib.hid hb3
    have Hb03 := Lib.hid hb03
    have Hy := Lib.hid (show KeysOf (putsG G L) ys from ⟨hy1, hy2⟩)
    have Hok3 := Lib.hid hok3
    clear hrep hb3 hb03 hbb hy1 hy2 hok3
    go_wp2_with fail
    refine Hrep.out.mono ?_
    rintro e w4 ⟨rfl, G', hd4, hj4, hnj4, hfr4⟩
    dsimp only at hd4 hj4
    have hs4 := hfr4.size
    obtain ⟨hk4n, hk4⟩ := hfr4.block kb (by omega) (fun h => h.elim hkd hkj)
    have hnk4 : ¬ G' kb := fun h => hk4n (.inl h)
    have hkb4 := (Hkb.out.grow Hb03.out).keep hk4
    have m0 := hkb4.cell 0
    have m1 := hkb4.cell 1
    have f1 := hkb4.frozen 1
    simp only [List.getElem?_toArray, List.getElem?_cons_zero, List.getElem?_cons_succ] at m0 m1
    have Hd4 := Lib.hid hd4
    have Hj4 := Lib.hid hj4
    have Hfr4 := Lib.hid hfr4
    have Hkb4 := Lib.hid hkb4
    clear hd4 hj4 hfr4 hkb4 hk4n hk4
    by_cases he : er = 0
    · have hne : (er != 0) = false := by rw [bne_eq_false_iff_eq]; exact he
      go_wp2_with fail
      go_ret
      have hsame : ∀ k, k < w2.heap.size → ¬ Gd k → k ≠ j → k ≠ kb → (w4.setCell ⟨kb, 1, none⟩ (.map (some w.heap.size))).heap[k]? = w2.heap[k]? ∧ ¬ G' k := fun k hk h1 h2 h3 => by
        obtain ⟨h4, h5⟩ := Hfr4.out.block k (by omega) (fun h => h.elim h1 h2)
        exact ⟨(Below.heap_setCell _ _ _ k h3).trans (h5.trans (Hb3.out.block k hk)), fun h => h4 (.inl h)⟩
      have hgd : ∀ k, w.heap.size ≤ k → ¬ Gd k := fun k hk h => by have := (Hlow.out k h).2; omega
      have hs02 := Hb02.out.size
      refine .inr ⟨ys, Hy.out, Hok3.out, by rw [← HR.out]; show Ending.returned (.int .i64 0) = Ending.returned (.int .i64 er); rw [he], G', ?_, ?_, hnj4, hnk4, .inr ⟨by rw [← HR.out]; exact he, ?_, w.heap.size, Nat.le_refl _, ?_, Hkb4.out.set_ 1 _, ?_⟩⟩
      · rw [← HR.out]
        exact Hd4.out.setFar hnk4 _
      · rw [← HR.out]
        exact Hj4.out.keep (Below.heap_setCell _ _ _ j (fun h => hkj h.symm))
      · refine ⟨Hfr4.out.os.trans Hb03.out.os, Hfr4.out.tape.trans Hb03.out.tape, Hfr4.out.output.trans Hb03.out.output, by simp; omega, fun k hk hF => ?_⟩
        have h1 : k ≠ kb := fun h => hF (.inr (.inr h))
        obtain ⟨h4, h5⟩ := Hfr4.out.block k (by omega) (fun h => hF (h.elim .inl fun h => .inr (.inl h)))
        exact ⟨fun h => h.elim (fun h => h4 (.inl h)) fun h => h.elim (fun h => h4 (.inr h)) h1, (Below.heap_setCell _ _ _ k h1).trans (h5.trans (Hb03.out.block k hk))⟩
      · exact (hsame w.heap.size (by omega) (hgd _ (Nat.le_refl _)) (by omega) (by omega)).2
      · refine Hm2.out.keep (hsame w.heap.size (by omega) (hgd _ (Nat.le_refl _)) (by omega) (by omega)).1 fun k hk hkl => ?_
        rcases hk with hk | hk
        · obtain ⟨h1, h2, h3, h4⟩ := HP.out k hk
          obtain ⟨h5, h6⟩ := hsame k hkl h2 h3 h4
          exact ⟨⟨h6, h3, h4, by omega, .inl hk⟩, h5⟩
        · have h0 : w1.heap.size ≤ k := hk.1
          obtain ⟨h5, h6⟩ := hsame k hkl (hgd k (by omega)) (by omega) (by omega)
          exact ⟨⟨h6, by omega, by omega, by omega, .inr (by omega)⟩, h5⟩
    · have hne : (er != 0) = true := by rw [bne_iff_ne]; exact he
      go_wp2_with fail
      go_ret
      refine .inr ⟨ys, Hy.out, Hok3.out, by rw [← HR.out]; rfl, G', ?_, ?_, hnj4, hnk4, .inl ⟨by rw [← HR.out]; exact he, (Fr.of_below Hb03.out _).trans Hfr4.out⟩⟩
      · rw [← HR.out]
        exact Hd4.out
      · rw [← HR.out]
        exact Hj4.out
  · have Hbad := Lib.hid hbad
    have Hb3 := Lib.hid hb3
    clear hbad hb3
    go_wp2_with fail
    go_ret
    exact .inl ⟨Hbad.out, rfl, Hb02.out.trans (Hb3.out.mono Hb02.out.size)⟩
end Go.Proofs.YtdmbmkjiffhbcaaGreat

namespace Go.Proofs.YtdmbmkjiffhbcaaGreat
open Go.RowKit Go.Maps
set_option maxRecDepth 100000

theorem long60_few {L : List PutM} (h : L.any long60 = false) : ∀ p ∈ L, p.val.length ≤ 60000 := fun p hp => by
  have := List.any_eq_false.1 h p hp
  unfold long60 at this
  simp at this
  omega
theorem isBB_one {w : World} {ok : Nat → Prop} {v : Value} {l : List UInt8} (h : IsB w ok v l) : IsBB (w.alloc (.cells #[v] 47)) (fun _ => True) (.slice (some ⟨w.heap.size, 0, none⟩) 1 1) [l] := by
  have hz : Below w.heap.size w (w.alloc (.cells #[v] 47)) := (Below.refl _ _).alloc (Nat.le_refl _) _
  refine isBB_of [(v, l)] (by simp) (by unfold maxLen; omega) ((Blk.new w 47 #[v]).rd _ trivial) ?_
  intro q hq
  simp only [List.mem_cons, List.not_mem_nil, or_false] at hq
  subst hq
  exact (h.grow hz).weaken fun _ _ => trivial
theorem precM_err (L : List PutM) : ∀ r, (precM L r).2 = 0 ∨ (precM L r).2 = 4 := by
  induction L with
  | nil => intro r; exact .inl rfl
  | cons p L ih =>
    intro r
    unfold precM
    split
    · exact .inr rfl
    · split
      · exact .inr rfl
      · exact ih _
/-- How Commit ends. -/
def CommPost (base : Nat) (Gd P : Nat → Prop) (kb j g gm n : Nat) (J : JM) (D : Dev) (G : Nat → Option (List UInt8)) (L : List PutM) (w : World) (e : Ending) (w' : World) : Prop :=
  (∃ er : Int, e = .returned (.int .i64 er) ∧ Below w.heap.size w w' ∧ ((J.broken = true ∧ er = 3) ∨ (J.broken = false ∧ L.any long60 = true ∧ er = 4) ∨ (J.broken = false ∧ L = [] ∧ er = 0) ∨ (J.broken = false ∧ L.any long60 = false ∧ L ≠ [] ∧ (precM L []).2 = 4 ∧ er = 4))) ∨
  (J.broken = false ∧ L.any long60 = false ∧ L ≠ [] ∧ (precM L []).2 = 0 ∧
    (((addJ J D [(precM L []).1]).2 = 5 ∧ ∃ w4 G4, w.heap.size ≤ w4.heap.size ∧ Fr (fun k => Gd k ∨ k = j) (fun k => G4 k ∨ k = j) w w4 ∧ ReplPost base G4 P kb j g (n + L.length) J D (putsG G L) w4 e w') ∨
     ((addJ J D [(precM L []).1]).2 ≠ 5 ∧ (addJ J D [(precM L []).1]).2 ≠ 0 ∧ e = .returned (.int .i64 (addJ J D [(precM L []).1]).2) ∧ ∃ G', DevAt w' base G' g (addJ J D [(precM L []).1]).1.2 ∧ JAt w' j g (addJ J D [(precM L []).1]).1.1 ∧ ¬ G' j ∧ Fr (fun k => Gd k ∨ k = j) (fun k => G' k ∨ k = j) w w') ∨
     ((addJ J D [(precM L []).1]).2 = 0 ∧ e = .returned (.int .i64 0) ∧ ∃ G', DevAt w' base G' g (addJ J D [(precM L []).1]).1.2 ∧ JAt w' j g (addJ J D [(precM L []).1]).1.1 ∧ ¬ G' j ∧ ¬ G' gm ∧ Fr (fun k => Gd k ∨ k = j ∨ k = gm) (fun k => G' k ∨ k = j ∨ k = gm) w w' ∧
       KMap w' gm (n + L.length) (fun k => ¬ G' k ∧ k ≠ j ∧ k ≠ kb ∧ k ≠ gm ∧ (P k ∨ w.heap.size ≤ k)) (putsG G L))))
set_option maxHeartbeats 2000000 in
theorem kcommit_any (base : Nat) (Gd ok P : Nat → Prop) (kb j g gm n : Nat) (J : JM) (D : Dev) (v : Value) (L : List PutM) (G : Nat → Option (List UInt8)) (w : World) (hfit : JFit J D) (hfew : D.Few 900000) (hd : DevAt w base Gd g D) (hj : JAt w j g J) (hn : ¬ Gd j)
    (hkb : Blk w kb 74 #[.pointer (some ⟨j, 0, none⟩), .map (some gm)]) (hkd : ¬ Gd kb) (hkj : kb ≠ j) (hgm : ¬ Gd gm ∧ gm ≠ j ∧ gm ≠ kb) (hm : KMap w gm n P G) (hL : IsL kPut w ok v L) (hok : ∀ k, ok k → k < w.heap.size ∧ ¬ Gd k ∧ k ≠ j ∧ k ≠ gm) (hP : ∀ k, P k → k < w.heap.size ∧ ¬ Gd k ∧ k ≠ j ∧ k ≠ kb ∧ k ≠ gm)
    (hnl : n + L.length ≤ 1099511627776) (hGl : ∀ k l, G k = some l → l.length ≤ 65535) (hfull : (addJ J D [(precM L []).1]).2 = 5 → (addJ J D [(precM L []).1]).1 = (J, D)) :
    Calls Tryz.prog 11 #[.pointer (some ⟨kb, 0, none⟩), v] w (CommPost base Gd P kb j g gm n J D G L w) := by
  have hkl : kb < w.heap.size := (Array.getElem?_eq_some_iff.1 hkb).1
  have hjl : j < w.heap.size := (Array.getElem?_eq_some_iff.1 hj).1
  have hgl : gm < w.heap.size := by obtain ⟨F, h1, _⟩ := hm; exact h1.lt
  have hlow := hd.low
  obtain ⟨Av, cv, hv, hvc, hvm, _⟩ := put_at hL
  subst hv
  have hLm : L.length ≤ 9223372036854775807 := by unfold maxLen at hvm; omega
  have k0 := hkb.cell 0
  have k1 := hkb.cell 1
  simp only [List.getElem?_toArray, List.getElem?_cons_zero, List.getElem?_cons_succ] at k0 k1
  have Hbr := Lib.hid (kbroken_any w kb j g J k0 hj)
  have Htl := Lib.hid (toolong_any ok _ L w hL)
  have Hd := Lib.hid hd
  have Hj := Lib.hid hj
  have Hkb := Lib.hid hkb
  have Hm := Lib.hid hm
  have HL := Lib.hid hL
  have Hok := Lib.hid hok
  have HP := Lib.hid hP
  have Hlow := Lib.hid hlow
  have Hfit := Lib.hid hfit
  have Hfew := Lib.hid hfew
  have HGl := Lib.hid hGl
  have Hfull := Lib.hid hfull
  obtain ⟨hg1, hg2, hg3⟩ := hgm
  clear hd hj hkb hm hL hok hP hlow hfit hfew hGl hfull
  obtain ⟨br, hbr⟩ : ∃ br, br = J.broken := ⟨_, rfl⟩
  rw [← hbr] at Hbr
  obtain ⟨lg, hlg⟩ : ∃ lg, lg = L.any long60 := ⟨_, rfl⟩
  rw [← hlg] at Htl
  have HBr := Lib.hid hbr
  have HLg := Lib.hid hlg
  clear hbr hlg
  go_enter Tryz.func11, Tryz.ntmps11
  cases br with
  | true =>
    go_wp2_with fail
    refine Hbr.out.mono ?_
    rintro e w1 ⟨rfl, rfl⟩
    go_wp2_with fail
    go_ret
    exact .inl ⟨3, rfl, Below.refl _ _, .inl ⟨HBr.out.symm, rfl⟩⟩
  | false =>
    go_wp2_with fail
    refine Hbr.out.mono ?_
    rintro e w1 ⟨rfl, rfl⟩
    go_wp2_with fail
    refine Htl.out.mono ?_
    rintro e w1 ⟨rfl, hb1⟩
    have Hb1 := Lib.hid hb1
    clear hb1
    cases lg with
    | true =>
      go_wp2_with fail
      go_ret
      exact .inl ⟨4, rfl, Hb1.out, .inr (.inl ⟨HBr.out.symm, HLg.out.symm, rfl⟩)⟩
    | false =>
      by_cases hnil : L = []
      · subst hnil
        go_wp2_with fail
        go_ret
        exact .inl ⟨0, rfl, Hb1.out, .inr (.inr (.inl ⟨HBr.out.symm, rfl, rfl⟩))⟩
      · have hll : ((L.length : Int) == 0) = false := by
          rw [beq_eq_false_iff_ne]
          have : L.length ≠ 0 := fun h => hnil (List.length_eq_zero_iff.1 h)
          omega
        have hfew60 := long60_few HLg.out.symm
        have hrec := asrecord_any ok _ L w1 (HL.out.grow Hb1.out) (fun p hp => by have := hfew60 p hp; omega)
        have herr := precM_err L []
        obtain ⟨RC, hRC⟩ : ∃ RC, RC = precM L [] := ⟨_, rfl⟩
        rw [← hRC] at hrec herr
        have Hfew60 := Lib.hid hfew60
        have Hrec := Lib.hid hrec
        have HRC := Lib.hid hRC
        obtain ⟨rc, re⟩ := RC
        clear hrec hRC hfew60
        dsimp only at herr Hrec
        go_wp2_with fail
        refine Hrec.out.mono ?_
        rintro e w2 ⟨⟨x, rfl, hxo⟩, hb2⟩
        have hxB := hxo.isB
        obtain ⟨Ax, cx, rfl, _⟩ := hxB
        have hb02 := Hb1.out.trans (hb2.mono Hb1.out.size)
        have HxB := Lib.hid hxo.isB
        have Hb02 := Lib.hid hb02
        clear hxo hb2 hb02
        rcases herr with rfl | rfl
        · have hba : Below w2.heap.size w2 (w2.alloc (.cells #[.slice Ax rc.length cx] 47)) := (Below.refl _ _).alloc (Nat.le_refl _) _
          have hb3 : Below w.heap.size w (w2.alloc (.cells #[.slice Ax rc.length cx] 47)) := Hb02.out.trans (hba.mono Hb02.out.size)
          have hadd := jadd_any base Gd (fun _ => True) j g J D _ [rc] _ Hfit.out Hfew.out (Hd.out.grow hb3) (Hj.out.grow hb3) hn (isBB_one HxB.out)
          obtain ⟨R, hR⟩ : ∃ R, R = addJ J D [rc] := ⟨_, rfl⟩
          rw [← hR] at hadd
          have hR2 : R = addJ J D [(precM L []).1] := by rw [hR, ← HRC.out]
          have HR := Lib.hid hR2
          have hfull := Hfull.out
          rw [← hR2] at hfull
          have HFull := Lib.hid hfull
          have k02 := (Hkb.out.grow Hb02.out).cell 0
          simp only [List.getElem?_toArray, List.getElem?_cons_zero] at k02
          have Hadd := Lib.hid hadd
          have Hb3 := Lib.hid hb3
          clear hadd hba hb3 hR hR2 hfull k0 k1 Hfull
          obtain ⟨⟨J', D'⟩, er⟩ := R
          go_wp2_with fail
          refine Hadd.out.mono ?_
          rintro e w4 ⟨rfl, G', hd4, hj4, hnj4, hfr4⟩
          dsimp only at hd4 hj4 HFull
          have hs3 := Hb3.out.size
          have hs4 := hfr4.size
          have hkeep : ∀ k, k < w.heap.size → ¬ Gd k → k ≠ j → w4.heap[k]? = w.heap[k]? ∧ ¬ G' k := fun k hk h1 h2 => by
            obtain ⟨h4, h5⟩ := hfr4.block k (by omega) (fun h => h.elim h1 h2)
            exact ⟨h5.trans (Hb3.out.block k hk), fun h => h4 (.inl h)⟩
          have hfr : Fr (fun k => Gd k ∨ k = j) (fun k => G' k ∨ k = j) w w4 := (Fr.of_below Hb3.out _).trans hfr4
          have hkb4 := Hkb.out.keep (hkeep kb hkl hkd hkj).1
          have hm4 := Hm.out.keep (hkeep gm hgl hg1 hg2).1 fun k hk _ => ⟨hk, (hkeep k (HP.out k hk).1 (HP.out k hk).2.1 (HP.out k hk).2.2.1).1⟩
          have hL4 : IsL kPut w4 ok (.slice Av L.length cv) L := by
            obtain ⟨A', c', cells, h1, h2, h3, h4, h5⟩ := HL.out
            exact ⟨A', c', cells, h1, h2, h3, h4.frame fun k hk hl => (hkeep k hl (Hok.out k hk).2.1 (Hok.out k hk).2.2.1).1, h5.frame fun k hk hl => (hkeep k hl (Hok.out k hk).2.1 (Hok.out k hk).2.2.1).1⟩
          have m0 := hkb4.cell 0
          have m1 := hkb4.cell 1
          simp only [List.getElem?_toArray, List.getElem?_cons_zero, List.getElem?_cons_succ] at m0 m1
          have Hd4 := Lib.hid hd4
          have Hj4 := Lib.hid hj4
          have Hkb4 := Lib.hid hkb4
          have Hm4 := Lib.hid hm4
          have HL4 := Lib.hid hL4
          have Hkeep := Lib.hid hkeep
          have HFr := Lib.hid hfr
          have Hlow4 := Lib.hid hd4.low
          clear hd4 hj4 hkb4 hm4 hL4 hkeep hfr hfr4
          by_cases h5 : er = 5
          · have he5 : (er == 5) = true := by rw [beq_iff_eq]; exact h5
            have hJD := HFull.out h5
            injection hJD with hJ hD
            subst hJ
            subst hD
            have hrp := kreplace_any base G' ok P kb j g gm n J' D' _ L G w4 Hfit.out Hfew.out Hd4.out Hj4.out hnj4 Hkb4.out (Hkeep.out kb hkl hkd hkj).2 hkj Hm4.out HL4.out (fun k hk => by have := (Hok.out k hk).1; omega)
              (fun k hk => ⟨by have := (HP.out k hk).1; omega, (Hkeep.out k (HP.out k hk).1 (HP.out k hk).2.1 (HP.out k hk).2.2.1).2, (HP.out k hk).2.2.1, (HP.out k hk).2.2.2.1⟩) hnl (fun p hp => by have := Hfew60.out p hp; omega) HGl.out
            have Hrp := Lib.hid hrp
            clear hrp
            go_wp2_with fail
            refine Hrp.out.mono ?_
            rintro e w5 hpost
            obtain ⟨e5, rfl⟩ : ∃ e5 : Int, e = .returned (.int .i64 e5) := by
              rcases hpost with ⟨_, rfl, _⟩ | ⟨ys, _, _, rfl, _⟩
              · exact ⟨4, rfl⟩
              · exact ⟨_, rfl⟩
            have Hpost := Lib.hid hpost
            clear hpost
            go_wp2_with fail
            go_ret
            exact .inr ⟨HBr.out.symm, HLg.out.symm, hnil, by rw [← HRC.out], .inl ⟨by rw [← HR.out]; exact h5, w4, G', by omega, HFr.out, Hpost.out⟩⟩
          · have he5 : (er == 5) = false := by rw [beq_eq_false_iff_ne]; exact h5
            by_cases h0 : er = 0
            · have he0 : (er != 0) = false := by rw [bne_eq_false_iff_eq]; exact h0
              have hch := kchange_any ok P _ L gm n G w4 HL4.out Hm4.out (fun h => (Hok.out _ h).2.2.2 rfl) (fun h => (HP.out _ h).2.2.2.2 rfl) hnl (fun p hp => by have := Hfew60.out p hp; omega)
              have Hch := Lib.hid hch
              clear hch
              go_wp2_with fail
              refine Hch.out.mono ?_
              rintro e w5 ⟨rfl, hm5, hbut5⟩
              have Hm5 := Lib.hid hm5
              have Hbut5 := Lib.hid hbut5
              clear hm5 hbut5
              go_wp2_with fail
              go_ret
              have hng := (Hkeep.out gm hgl hg1 hg2).2
              have hs5 := Hbut5.out.2.2.2.1
              refine .inr ⟨HBr.out.symm, HLg.out.symm, hnil, by rw [← HRC.out], .inr (.inr ⟨by rw [← HR.out]; exact h0, rfl, G', ?_, ?_, hnj4, hng, ?_, ?_⟩)⟩
              · rw [← HR.out]
                exact Hd4.out.keep (fun k hk => Hbut5.out.2.2.2.2 k (Hlow4.out k hk).2 (fun e => hng (e ▸ hk))) hs5
              · rw [← HR.out]
                exact Hj4.out.keep (Hbut5.out.2.2.2.2 j (by omega) (fun e => hg2 e.symm))
              · refine ⟨Hbut5.out.1.trans HFr.out.os, Hbut5.out.2.1.trans HFr.out.tape, Hbut5.out.2.2.1.trans HFr.out.output, by omega, fun k hk hF => ?_⟩
                have h1 : k ≠ gm := fun h => hF (.inr (.inr h))
                obtain ⟨h4, h6⟩ := HFr.out.block k hk (fun h => hF (h.elim .inl fun h => .inr (.inl h)))
                exact ⟨fun h => h.elim (fun h => h4 (.inl h)) fun h => h.elim (fun h => h4 (.inr h)) h1, (Hbut5.out.2.2.2.2 k (by omega) h1).trans h6⟩
              · refine Hm5.out.keep rfl fun k hk _ => ⟨?_, rfl⟩
                rcases hk with hk | hk
                · obtain ⟨h1, h2, h3, h4, h6⟩ := HP.out k hk
                  exact ⟨(Hkeep.out k h1 h2 h3).2, h3, h4, h6, .inl hk⟩
                · have h1 : w4.heap.size ≤ k := hk.1
                  exact ⟨fun h => by have := (Hlow4.out k h).2; omega, by omega, by omega, by omega, .inr (by omega)⟩
            · have he0 : (er != 0) = true := by rw [bne_iff_ne]; exact h0
              go_wp2_with fail
              go_ret
              refine .inr ⟨HBr.out.symm, HLg.out.symm, hnil, by rw [← HRC.out], .inr (.inl ⟨by rw [← HR.out]; exact h5, by rw [← HR.out]; exact h0, by rw [← HR.out]; rfl, G', ?_, ?_, hnj4, HFr.out⟩)⟩
              · rw [← HR.out]
                exact Hd4.out
              · rw [← HR.out]
                exact Hj4.out
        · go_wp2_with fail
          go_ret
          exact .inl ⟨4, rfl, Hb02.out, .inr (.inr (.inr ⟨HBr.out.symm, HLg.out.symm, hnil, by rw [← HRC.out], rfl⟩))⟩
end Go.Proofs.YtdmbmkjiffhbcaaGreat
