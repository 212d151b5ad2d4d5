/-
  keep.Open.
  Plain facts on keep's records: what asRecord writes, asChanges reads.
  keep's Get.
  What stands between keep's calls, and that Commit keeps it, where no cut is planned.
  wardshiplaw05.lives: what it is made of.
-/
import Derived.Test.YtdmbmkjiffhbcaaGreatKeepChgs
import Derived.Test.YtdmbmkjiffhbcaaGreatJOpens
import Derived.Test.YtdmbmkjiffhbcaaGreatKCommit
import Derived.Test.YtdmbmkjiffhbcaaGreatPuts
namespace Go.Proofs.YtdmbmkjiffhbcaaGreat
open Go.RowKit Go.Maps
set_option maxRecDepth 100000

theorem OwnBB.isBBk {w : World} {base : Nat} {x : Value} {L : List (List UInt8)} (h : OwnBB w base x L) : IsBB w (fun k => base ≤ k) x L := by
  obtain ⟨vs, h1, h2, h3, _⟩ := h
  obtain ⟨A, c, hv, hc, hm, hr⟩ := h1.form
  exact ⟨A, c, vs, by rw [hv, h2], h2, by omega, hm, hr.weaken fun k hk => (h1.lt k hk).1, fun i hi hi' => ((h3 i hi' hi).isB).weaken fun k hk => ((h3 i hi' hi).lt k hk).1⟩
theorem stepsN_le : ∀ (n : Nat) (b : List UInt8) (p : List UInt8 × Nat), p ∈ stepsN n b → p.1.length ≤ b.length := by
  intro n
  induction n with
  | zero => intro b p h; simp [stepsN] at h
  | succ n ih =>
    intro b p h
    unfold stepsN at h
    split at h
    · simp at h
    · rename_i h0
      split at h
      · simp at h
        rw [h]
        simp
      · rcases List.mem_cons.1 h with h | h
        · rw [h]
          dsimp only
          unfold firstF
          split
          · simp
          · split
            · simp
            · simp only [List.length_take, List.length_drop]
              omega
        · have h1 := ih _ p h
          have h2 := firstF_rest b h0
          omega
theorem unpackV_mem (most : Int) (S : List (List UInt8 × Nat)) : ∀ (acc : List (List UInt8)) (f : List UInt8), f ∈ (unpackV most acc S).1 → f ∈ acc ∨ ∃ e, (f, e) ∈ S := by
  induction S with
  | nil => intro acc f h; exact .inl (by simpa [unpackV] using h)
  | cons s S ih =>
    intro acc f h
    obtain ⟨f0, e0⟩ := s
    rw [unpackV_cons] at h
    split at h
    · simp at h
    · split at h
      · simp at h
      · rcases ih _ f h with h | ⟨e, h⟩
        · rcases List.mem_append.1 h with h | h
          · exact .inl h
          · simp at h
            subst h
            exact .inr ⟨e0, by simp⟩
        · exact .inr ⟨e, by simp [h]⟩
theorem asChM_few (b : List UInt8) : (asChM b).1.length ≤ b.length ∧ ∀ p ∈ (asChM b).1, p.val.length ≤ b.length := by
  have h1 := unpackV_length (b.length : Int) (steps b) []
  have h2 := steps_length b
  simp only [List.length_nil] at h1
  have hf : ∀ f ∈ (unpackV (b.length : Int) [] (steps b)).1, f.length ≤ b.length := fun f hf => by
    rcases unpackV_mem _ _ _ f hf with h | ⟨e, h⟩
    · cases h
    · exact stepsN_le _ _ _ h
  unfold asChM
  split
  · exact ⟨Nat.zero_le _, fun p h => (by cases h)⟩
  · split
    · exact ⟨Nat.zero_le _, fun p h => (by cases h)⟩
    · refine ⟨by simp only [List.length_map, List.length_range]; omega, fun p h => ?_⟩
      obtain ⟨i, hi, rfl⟩ := List.mem_map.1 h
      have hi' := List.mem_range.1 hi
      have h3 := chgM_val ((unpackV (b.length : Int) [] (steps b)).1.getD (2 * i) []) ((unpackV (b.length : Int) [] (steps b)).1.getD (2 * i + 1) [])
      unfold chg
      refine Nat.le_trans h3 ?_
      rw [List.getD_eq_getElem?_getD, List.getElem?_eq_getElem (by omega)]
      exact hf _ (List.getElem_mem _)
theorem asChM_err (b : List UInt8) : (asChM b).2 = 0 ∨ (asChM b).2 = 7 := by
  unfold asChM
  split
  · exact .inr rfl
  · split
    · exact .inr rfl
    · exact .inl rfl
/-- What records result in, and the error. -/
def readM : List (List UInt8) → (Nat → Option (List UInt8)) → (Nat → Option (List UInt8)) × Nat
  | [], G => (G, 0)
  | r :: L, G => if (asChM r).2 ≠ 0 then (fun _ => none, 7) else readM L (putsG G (asChM r).1)
/-- How Open ends. -/
def KOpenPost (base : Nat) (G : Nat → Prop) (g : Nat) (O : (Dev × Int) × (JM × List (List UInt8))) (w : World) (e : Ending) (w' : World) : Prop :=
  ∃ vk err, e = .returned (.tuple #[vk, .int .i64 err]) ∧ ∃ G', DevAt w' base G' g O.1.1 ∧ Fr G G' w w' ∧
    ((O.1.2 ≠ 0 ∧ err = O.1.2 ∧ vk = .pointer none) ∨
     (O.1.2 = 0 ∧ (readM O.2.2 fun _ => none).2 ≠ 0 ∧ err = 7 ∧ vk = .pointer none) ∨
     (O.1.2 = 0 ∧ (readM O.2.2 fun _ => none).2 = 0 ∧ err = 0 ∧ ∃ kb j gm B n, vk = .pointer (some ⟨kb, 0, none⟩) ∧ Blk w' kb 74 #[.pointer (some ⟨j, 0, none⟩), .map (some gm)] ∧ JAt w' j g O.2.1 ∧
       KMap w' gm n (fun k => gm + 1 ≤ k ∧ k < kb) (readM O.2.2 fun _ => none).1 ∧ n ≤ O.2.2.flatten.length ∧ w.heap.size ≤ B ∧ (∀ k, G' k → k < B) ∧ B ≤ j ∧ j < gm ∧ gm < kb))
set_option maxHeartbeats 2000000 in
theorem kopen_any (base : Nat) (G : Nat → Prop) (g : Nat) (D : Dev) (w : World) (hfew : D.Few 900000) (hd : DevAt w base G g D) (hsum : (openM D).2.2.flatten.length ≤ 549755813888) :
    Calls Tryz.prog 9 #[.pointer (some ⟨g, 0, none⟩)] w (KOpenPost base G g (openM D) w) := by
  have Hj := Lib.hid (jopen_any base G g D w hfew hd)
  unfold JOpenPost at Hj
  generalize openM D = O at Hj hsum ⊢
  obtain ⟨⟨D', err⟩, ⟨J, L⟩⟩ := O
  dsimp only at Hj hsum
  clear hd hfew
  obtain ⟨M0, hM0⟩ : ∃ M0, M0 = readM L fun _ => none := ⟨_, rfl⟩
  have HM0 := Lib.hid hM0
  clear hM0
  go_enter Tryz.func9, Tryz.ntmps9
  go_wp2_with fail
  refine Hj.out.mono ?_
  rintro e w1 ⟨vp, x, rfl, G', hdev, hfr, h | ⟨rfl, j, B, rfl, hjat, hB, hGB, hown, hBj⟩⟩
  · obtain ⟨he, rfl, rfl⟩ := h
    have hne : (err != 0) = true := by rw [bne_iff_ne]; exact he
    have Hdev := Lib.hid hdev
    have Hfr := Lib.hid hfr
    clear hdev hfr
    go_wp2_with fail
    go_ret2
    exact ⟨_, _, rfl, G', Hdev.out, Hfr.out, .inl ⟨he, rfl, rfl⟩⟩
  · have hbb := hown.isBBk
    obtain ⟨Ax, cx, rfl, hLc, hcm, hel⟩ := hbb.elem
    have hLm : L.length ≤ 9223372036854775807 := by unfold maxLen at hcm; omega
    have Hdev := Lib.hid hdev
    have Hfr := Lib.hid hfr
    have Hjat := Lib.hid hjat
    have Hel := Lib.hid hel
    have HGB := Lib.hid hGB
    have hjlt : j < w1.heap.size := (Array.getElem?_eq_some_iff.1 hjat).1
    have hmade := MapU.made w1
    have Hmade := Lib.hid hmade
    clear hdev hfr hjat hbb hel hown hGB hmade
    have hmk : ∀ u : World, (Instr.makeMap 69 none).run Tryz.prog u = .ok (.map (some u.heap.size)) (u.alloc (.map #[] 0)) := fun u => rfl
    go_wp2_with fail
    clear hmk
    go_loopw [24] (fun i wr => ∃ (k n : Nat) (Gk : Nat → Option (List UInt8)), k ≤ L.length ∧ i = .int .i64 (k : Int) ∧ readM (L.drop k) Gk = M0 ∧ KMap wr w1.heap.size n (fun q => w1.heap.size + 1 ≤ q) Gk ∧ n ≤ (L.take k).flatten.length ∧ Below w1.heap.size w1 wr ∧ w1.heap.size + 1 ≤ wr.heap.size) (fun i _ => L.length - (intOf i).toNat)
    case atStart => exact ⟨0, 0, fun _ => none, by omega, rfl, HM0.out.symm, ⟨_, Hmade.out, fun k hk => .inl ⟨rfl, rfl⟩⟩, by simp, (Below.refl _ _).alloc (Nat.le_refl _) _, by simp⟩
    case round =>
      obtain ⟨k, n, Gk, hk, rfl, hrd, hmap, hnk, hbel, hsz⟩ := hrel
      have Hrd := Lib.hid hrd
      have Hmap := Lib.hid hmap
      have Hbel := Lib.hid hbel
      clear hrd hmap hbel
      by_cases hlt : k < L.length
      · obtain ⟨b, off, rfl, hokb, hbl, hcell⟩ := Hel.out (by intro h; subst h; simp at hlt)
        obtain ⟨Ai, ci, q1, q2, q3, q4⟩ := hcell k hlt
        have q1' := (Hbel.out.cell (p := ⟨b, off + k, none⟩) hbl).trans q1
        have hrB : IsB wr (fun k => B ≤ k) (.slice Ai L[k].length ci) L[k] := ⟨Ai, ci, rfl, q2, q3, q4.grow Hbel.out⟩
        have hdrop : L.drop k = L[k] :: L.drop (k + 1) := List.drop_eq_getElem_cons hlt
        have htake : (L.take (k + 1)).flatten.length = (L.take k).flatten.length + L[k].length := by rw [List.take_succ_eq_append_getElem hlt, List.flatten_append, List.length_append]; simp
        have htot : (L.take (k + 1)).flatten.length ≤ L.flatten.length := by
          conv => rhs; rw [← List.take_append_drop (k + 1) L, List.flatten_append, List.length_append]
          omega
        have hrd := Hrd.out
        rw [hdrop] at hrd
        unfold readM at hrd
        obtain ⟨hf1, hf2⟩ := asChM_few L[k]
        have herr := asChM_err L[k]
        have has := asch_any _ _ L[k] wr hrB (by omega)
        generalize L[k] = r at q1' has hrd hf1 hf2 herr htake
        clear hcell q1 q2 q4 hrB hdrop Hrd
        generalize asChM r = R at has hrd hf1 hf2 herr
        obtain ⟨ch, er⟩ := R
        dsimp only at has hrd hf1 hf2 herr
        have Has := Lib.hid has
        have Hrd := Lib.hid hrd
        have Hf2 := Lib.hid hf2
        clear has hrd hf2
        rcases herr with rfl | rfl
        · have hrd := Hrd.out
          rw [if_neg (by simp)] at hrd
          have Hrd2 := Lib.hid hrd
          clear hrd Hrd
          go_wp2_with fail
          refine Has.out.mono ?_
          rintro e w3 ⟨⟨xv, rfl, hL3⟩, hb3⟩
          have hs3 := hb3.size
          have hch := kchange_any (fun q => wr.heap.size ≤ q) (fun q => w1.heap.size + 1 ≤ q) xv ch w1.heap.size n Gk w3 hL3 (Hmap.out.keep (hb3.block _ (by omega)) fun q hq hql => ⟨hq, hb3.block q hql⟩) (by omega) (by omega) (by omega) (fun p hp => by have := Hf2.out p hp; omega)
          obtain ⟨A3, c3, hx3, _⟩ := put_at hL3
          subst hx3
          have Hch := Lib.hid hch
          have Hb3 := Lib.hid hb3
          clear hL3 hch hb3
          go_wp2_with fail
          refine Hch.out.mono ?_
          rintro e w4 ⟨rfl, hmap4, hbut4⟩
          have hs4 := hbut4.2.2.2.1
          have Hmap4 := Lib.hid hmap4
          have Hbut4 := Lib.hid hbut4
          clear hmap4 hbut4
          go_wp2_with fail
          go_roundw
          case rel =>
            refine ⟨k + 1, n + ch.length, _, by omega, by go_num, Hrd2.out, Hmap4.out.keep rfl fun q hq _ => ⟨?_, rfl⟩, by omega, Hbel.out.trans ((Hb3.out.mono Hbel.out.size).trans ⟨Hbut4.out.1, Hbut4.out.2.1, Hbut4.out.2.2.1, hs4, fun q hq => Hbut4.out.2.2.2.2 q (by omega) (by omega)⟩), by omega⟩
            rcases hq with h | h
            · exact h
            · have := h.1; omega
          case measure => simp [intOf]; omega
        · have hrd := Hrd.out
          rw [if_pos (by simp)] at hrd
          have Hrd2 := Lib.hid hrd
          clear hrd Hrd
          go_wp2_with fail
          refine Has.out.mono ?_
          rintro e w3 ⟨⟨xv, rfl, hL3⟩, hb3⟩
          obtain ⟨A3, c3, hx3, _⟩ := put_at hL3
          subst hx3
          have Hb3 := Lib.hid hb3
          clear hL3 hb3
          go_wp2_with fail
          go_ret2
          have hbf := Hbel.out.trans (Hb3.out.mono Hbel.out.size)
          exact ⟨_, 7, rfl, G', Hdev.out.grow hbf, Hfr.out.trans (Fr.of_below hbf G'), .inr (.inl ⟨rfl, by show (readM L fun _ => none).2 ≠ 0; rw [← HM0.out, ← Hrd2.out]; decide, rfl, rfl⟩)⟩
      · obtain rfl : k = L.length := by omega
        have hrd := Hrd.out
        rw [List.drop_length] at hrd
        unfold readM at hrd
        have Hrd2 := Lib.hid hrd
        clear hrd Hrd
        go_wp2_with fail
        go_ret2
        have hbf : Below w1.heap.size w1 (wr.alloc (.cells #[.pointer (some ⟨j, 0, none⟩), .map (some w1.heap.size)] 74)) := Hbel.out.alloc Hbel.out.size _
        refine ⟨_, 0, rfl, G', Hdev.out.grow hbf, Hfr.out.trans (Fr.of_below hbf G'), .inr (.inr ⟨rfl, ?_, rfl, wr.heap.size, j, w1.heap.size, B, n, rfl, Blk.new wr _ _, Hjat.out.grow hbf, ?_, ?_, hB, HGB.out, hBj, hjlt, by omega⟩)⟩
        · show (readM L fun _ => none).2 = 0
          rw [← HM0.out, ← Hrd2.out]
        · show KMap _ _ _ _ (readM L fun _ => none).1
          rw [← HM0.out, ← Hrd2.out]
          exact Hmap.out.keep (Below.heap_alloc _ _ _ (by omega)) fun q hq hql => ⟨⟨hq, hql⟩, Below.heap_alloc _ _ _ hql⟩
        · rw [List.take_length] at hnk
          exact hnk
end Go.Proofs.YtdmbmkjiffhbcaaGreat

namespace Go.Proofs.YtdmbmkjiffhbcaaGreat

/-- The fields of changes. -/
def fieldsP (L : List PutM) : List (List UInt8) := L.flatMap fun p => [numB p.key, valB p]
/-- A change as it is read back: without a value where it takes one away. -/
def normP (p : PutM) : PutM := if p.gone then ⟨p.key, [], true⟩ else ⟨p.key, p.val, false⟩
theorem fieldsP_length (L : List PutM) : (fieldsP L).length = 2 * L.length := by
  induction L with
  | nil => rfl
  | cons p L ih => unfold fieldsP at *; rw [List.flatMap_cons, List.length_append, ih]; simp; omega
theorem precM_ok (L : List PutM) : ∀ r, (precM L r).2 = 0 → (precM L r).1 = r ++ packB (fieldsP L) ∧ (∀ p ∈ L, (valB p).length ≤ 65535) ∧ (L ≠ [] → (precM L r).1.length ≤ 65531) := by
  induction L with
  | nil => intro r _; exact ⟨by simp [precM, fieldsP, packB_nil], fun p h => (by cases h), fun h => absurd rfl h⟩
  | cons p L ih =>
    intro r h
    unfold precM at h ⊢
    split at h
    · cases h
    · rename_i h1
      rw [if_neg h1]
      split at h
      · cases h
      · rename_i h2
        rw [if_neg h2]
        obtain ⟨h3, h4, h5⟩ := ih _ h
        refine ⟨?_, ?_, fun _ => ?_⟩
        · rw [h3]
          unfold fieldsP putB
          rw [List.flatMap_cons, packB_append, List.append_assoc]
        · intro q hq
          rcases List.mem_cons.1 hq with rfl | hq
          · omega
          · exact h4 q hq
        · by_cases hL : L = []
          · subst hL
            rw [h3]
            simp [fieldsP, packB_nil]
            omega
          · exact h5 hL
theorem packB_many (L : List (List UInt8)) : L.length ≤ (packB L).length := by
  induction L with
  | nil => simp [packB_nil]
  | cons f L ih =>
    rw [packB_cons, List.length_append, fieldB_length, List.length_cons]
    have := (lenB_le f.length).1
    omega
theorem asNumV_numB_ (N : Nat) (h : N < 18446744073709551616) : asNumV (numB N) = (N, 0) := by
  have h8 : (numB N).length ≤ 8 := by rw [numB_length]; exact numLen_le N (by omega)
  unfold asNumV
  rw [if_neg (by omega), if_neg (numB_head _ _ (Nat.le_refl _) (by omega)), asNum_numB N (by omega)]
theorem chgM_rec (p : PutM) (h : p.key < 18446744073709551616) : chgM (numB p.key) (valB p) = (normP p, 0) := by
  unfold chgM
  rw [asNumV_numB_ p.key h]
  obtain ⟨k, v, g⟩ := p
  cases g
  · simp [valB, normP]
  · simp [valB, normP]
theorem fieldsP_at (L : List PutM) : ∀ i (hi : i < L.length), (fieldsP L).getD (2 * i) [] = numB L[i].key ∧ (fieldsP L).getD (2 * i + 1) [] = valB L[i] := by
  induction L with
  | nil => intro i hi; cases hi
  | cons p L ih =>
    intro i hi
    have e : fieldsP (p :: L) = numB p.key :: valB p :: fieldsP L := by unfold fieldsP; rw [List.flatMap_cons]; rfl
    rw [e]
    cases i with
    | zero => exact ⟨rfl, rfl⟩
    | succ i =>
      have := ih i (by simpa using hi)
      rw [show 2 * (i + 1) = 2 * i + 1 + 1 by omega]
      simpa using this
theorem asChM_rec (L : List PutM) (hk : ∀ p ∈ L, p.key < 18446744073709551616) (h : (precM L []).2 = 0) : asChM (precM L []).1 = (L.map normP, 0) := by
  obtain ⟨h1, h2, _⟩ := precM_ok L [] h
  rw [List.nil_append] at h1
  rw [h1]
  have hf : ∀ f ∈ fieldsP L, f.length ≤ 65535 := fun f hf => by
    unfold fieldsP at hf
    obtain ⟨p, hp, hf⟩ := List.mem_flatMap.1 hf
    simp at hf
    rcases hf with rfl | rfl
    · have := numLen_le p.key (by have := hk p hp; omega)
      rw [numB_length]
      omega
    · exact h2 p hp
  have hs : steps (packB (fieldsP L)) = (fieldsP L).map (fun f => (f, 0)) := by
    have := steps_packB (fieldsP L) [] hf
    rw [List.append_nil, steps_nil, List.append_nil] at this
    exact this
  have hm := packB_many (fieldsP L)
  have hu : unpackV ((packB (fieldsP L)).length : Int) [] (steps (packB (fieldsP L))) = (fieldsP L, 0) := by
    rw [hs, unpackV_ok _ _ _ (by simp; omega), List.nil_append]
  have hl := fieldsP_length L
  have hc : ∀ i (hi : i < L.length), chg (fieldsP L) i = (normP L[i], 0) := fun i hi => by
    unfold chg
    obtain ⟨e1, e2⟩ := fieldsP_at L i hi
    rw [e1, e2, chgM_rec _ (hk _ (List.getElem_mem hi))]
  unfold asChM
  rw [hu]
  dsimp only
  rw [if_neg (by omega), hl, show 2 * L.length / 2 = L.length by omega, if_neg]
  · refine Prod.ext ?_ rfl
    refine List.ext_getElem (by simp) fun i h3 h4 => ?_
    simp only [List.length_map, List.length_range] at h3
    rw [List.getElem_map, List.getElem_map, List.getElem_range, hc i h3]
  · intro h3
    obtain ⟨i, hi, hne⟩ := List.any_eq_true.1 h3
    rw [hc i (List.mem_range.1 hi)] at hne
    simp at hne
theorem putG_norm (G : Nat → Option (List UInt8)) (p : PutM) : putG G (normP p) = putG G p := by
  obtain ⟨k, v, g⟩ := p
  cases g <;> rfl
theorem putsG_norm (L : List PutM) : ∀ G, putsG G (L.map normP) = putsG G L := by
  induction L with
  | nil => intro G; rfl
  | cons p L ih =>
    intro G
    unfold putsG at *
    rw [List.map_cons, List.foldl_cons, List.foldl_cons, putG_norm]
    exact ih _
/-- Records of changes, read one after the other. -/
theorem readM_recs : ∀ (LL : List (List PutM)) (G : Nat → Option (List UInt8)), (∀ L ∈ LL, (∀ p ∈ L, p.key < 18446744073709551616) ∧ (precM L []).2 = 0) → readM (LL.map fun L => (precM L []).1) G = (LL.foldl putsG G, 0) := by
  intro LL
  induction LL with
  | nil => intro G _; rfl
  | cons L LL ih =>
    intro G h
    obtain ⟨h1, h2⟩ := h L (by simp)
    rw [List.map_cons]
    unfold readM
    rw [asChM_rec L h1 h2, if_neg (by simp), putsG_norm, List.foldl_cons]
    exact ih _ fun M hM => h M (by simp [hM])
/-- What replace leaves, read again. -/
theorem readM_pairs (G : Nat → Option (List UInt8)) (ys : List Nat) (hk : KeysOf G ys) (hok : ∀ y ∈ ys, (pairM G y).2 = 0) : (readM (recsOfG G ys) fun _ => none).2 = 0 ∧ ∀ k, k < 18446744073709551616 → (readM (recsOfG G ys) fun _ => none).1 k = G k := by
  have h := readM_recs (ys.map fun y => [⟨y, (G y).getD [], false⟩]) (fun _ => none) (fun L hL => by
    obtain ⟨y, hy, rfl⟩ := List.mem_map.1 hL
    exact ⟨fun p hp => by simp at hp; subst hp; exact ((hk.1 y).1 hy).1, hok y hy⟩)
  have e : recsOfG G ys = (ys.map fun y => [(⟨y, (G y).getD [], false⟩ : PutM)]).map fun L => (precM L []).1 := by
    unfold recsOfG pairM
    rw [List.map_map]
    rfl
  rw [e, h]
  refine ⟨rfl, fun k hk' => ?_⟩
  have key : ∀ (zs : List Nat) (H : Nat → Option (List UInt8)), ((zs.map fun y => [(⟨y, (G y).getD [], false⟩ : PutM)]).foldl putsG H) k = if k ∈ zs then some ((G k).getD []) else H k := by
    intro zs
    induction zs with
    | nil => intro H; simp
    | cons z zs ih =>
      intro H
      rw [List.map_cons, List.foldl_cons, ih]
      by_cases h1 : k ∈ zs
      · rw [if_pos h1, if_pos (by simp [h1])]
      · rw [if_neg h1]
        show putG H ⟨z, (G z).getD [], false⟩ k = _
        unfold putG
        dsimp only
        by_cases h2 : k = z
        · subst h2
          simp
        · rw [if_neg h2, if_neg (by simp [h1, h2])]
  dsimp only
  rw [key]
  by_cases h1 : k ∈ ys
  · rw [if_pos h1]
    have := ((hk.1 k).1 h1).2
    cases hG : G k with
    | none => rw [hG] at this; cases this
    | some l => rfl
  · rw [if_neg h1]
    cases hG : G k with
    | none => rfl
    | some l => exact absurd ((hk.1 k).2 ⟨hk', by rw [hG]; rfl⟩) h1
end Go.Proofs.YtdmbmkjiffhbcaaGreat

namespace Go.Proofs.YtdmbmkjiffhbcaaGreat
open Go.RowKit Go.Maps
set_option maxRecDepth 100000

theorem kget_nil (key : Nat) (w : World) : Calls Tryz.prog 20 #[.pointer none, .int .u64 (key : Int)] w fun e w' => e = .returned (.tuple #[.slice none 0 0, .bool false]) ∧ Below w.heap.size w w' := by
  go_enter Tryz.func20, Tryz.ntmps20
  go_wp2
  go_ret2
  exact ⟨rfl, Below.refl _ _⟩
theorem kget_any (kb g n key : Nat) (hkey : key < 18446744073709551616) (P : Nat → Prop) (G : Nat → Option (List UInt8)) (w : World) (hk : w.cell? ⟨kb, 1, none⟩ = some (.map (some g))) (hm : KMap w g n P G) (hl : ∀ l, G key = some l → l.length ≤ 1099511627776) :
    Calls Tryz.prog 20 #[.pointer (some ⟨kb, 0, none⟩), .int .u64 (key : Int)] w fun e w' => (∃ v, e = .returned (.tuple #[v, .bool (G key).isSome]) ∧ Own1 w' w.heap.size 5 v (((G key).getD []).map u8)) ∧ Below w.heap.size w w' := by
  obtain ⟨F, hF, h2⟩ := hm
  have hval : (F key).isSome = (G key).isSome ∧ IsB w (fun k => True) ((F key).getD (.slice none 0 0)) ((G key).getD []) ∧ ((G key).getD []).length ≤ 1099511627776 := by
    rcases h2 key hkey with ⟨h3, h4⟩ | ⟨l, v, h3, h4, h5⟩
    · rw [h3, h4]
      exact ⟨rfl, ⟨none, 0, rfl, Nat.le_refl _, Nat.zero_le _, Rd.nil⟩, Nat.zero_le _⟩
    · have := hl l h3
      rw [h3, h4]
      exact ⟨rfl, h5.weaken fun _ _ => trivial, this⟩
  obtain ⟨h3, h4, h5⟩ := hval
  have hlk := fun {ops : Array Oper} {rest : List Oper} {o : Oper} {a : Act} {Q : Exit → Act → World → Prop} hg m x hop hm' hx hK => wpList_lookupU w (ops := ops) (rest := rest) (o := o) (a := a) (Q := Q) hg m x hop g n F hm' hF key hkey hx hK
  rw [h3] at hlk
  generalize (G key).isSome = B at hlk ⊢
  generalize (G key).getD [] = l at h4 h5 ⊢
  generalize (F key).getD (.slice none 0 0) = u at hlk h4
  obtain ⟨A, c, rfl, hc1, hc2, hr⟩ := h4
  have hcl := fun z hz => clone_any (fun _ => True) (.slice A l.length c) l z ⟨A, c, rfl, hc1, hc2, hr.grow hz⟩ h5
  have Hcl := Lib.hid hcl
  have Hlk := @hlk
  clear h2 h3 hcl hr hlk hF
  go_enter Tryz.func20, Tryz.ntmps20
  go_wp2_with (at_lookup; refine Hlk rfl _ _ rfl rfl rfl ?_)
  refine (Hcl.out _ (Below.refl _ _)).mono ?_
  rintro e w1 ⟨v', rfl, hown, hb1⟩
  obtain ⟨A2, c2, hv2, _⟩ := hown.form
  rw [List.length_map] at hv2
  subst hv2
  have Hown := Lib.hid hown
  clear hown
  go_wp2_with fail
  go_ret2
  exact ⟨⟨_, rfl, Hown.out⟩, hb1⟩
end Go.Proofs.YtdmbmkjiffhbcaaGreat

namespace Go.Proofs.YtdmbmkjiffhbcaaGreat
open Go.RowKit Go.Maps
set_option maxRecDepth 100000

/-- A Keep at block kb, over the device at g, all within the blocks of Fp: its journal, its map; the records, and the pairs that they result in. -/
def KeepOk (w : World) (base : Nat) (Fp : Nat → Prop) (kb g : Nat) (D : Dev) (J : JM) (Ls : List (List UInt8)) (n : Nat) (G : Nat → Option (List UInt8)) : Prop :=
  ∃ Gd j gm P, DevAt w base Gd g D ∧ JInv D J Ls ∧ JAt w j g J ∧ Blk w kb 74 #[.pointer (some ⟨j, 0, none⟩), .map (some gm)] ∧ KMap w gm n P G ∧
    ¬ Gd j ∧ ¬ Gd kb ∧ ¬ Gd gm ∧ kb ≠ j ∧ gm ≠ j ∧ gm ≠ kb ∧ (∀ k, P k → k < w.heap.size ∧ ¬ Gd k ∧ k ≠ j ∧ k ≠ kb ∧ k ≠ gm) ∧ (∀ k, Gd k ∨ k = j ∨ k = kb ∨ k = gm ∨ P k → Fp k) ∧ (∀ k, Fp k → base ≤ k ∧ k < w.heap.size)
theorem KeepOk.grow {w w' : World} {base : Nat} {Fp : Nat → Prop} {kb g : Nat} {D : Dev} {J : JM} {Ls : List (List UInt8)} {n : Nat} {G : Nat → Option (List UInt8)} (h : KeepOk w base Fp kb g D J Ls n G) (hb : Below w.heap.size w w') : KeepOk w' base Fp kb g D J Ls n G := by
  obtain ⟨Gd, j, gm, P, hd, hi, hj, hkb, hm, h1, h2, h3, h4, h5, h6, hP, hF, hl⟩ := h
  have hgl : gm < w.heap.size := (hl gm (hF gm (.inr (.inr (.inr (.inl rfl)))))).2
  exact ⟨Gd, j, gm, P, hd.grow hb, hi, hj.grow hb, hkb.grow hb, hm.keep (hb.block gm hgl) fun k hk hkl => ⟨hk, hb.block k hkl⟩, h1, h2, h3, h4, h5, h6, fun k hk => ⟨Nat.lt_of_lt_of_le (hP k hk).1 hb.size, (hP k hk).2⟩, hF, fun k hk => ⟨(hl k hk).1, Nat.lt_of_lt_of_le (hl k hk).2 hb.size⟩⟩
/-- Open of a device that holds records of changes. -/
theorem kopen_ok (base : Nat) (Gd : Nat → Prop) (g : Nat) (D D' : Dev) (w : World) (hfew : D.Few 900000) (hd : DevAt w base Gd g D) (J : JM) (Ls : List (List UInt8)) (hopen : openM D = ((D', 0), (J, Ls))) (hinv : JInv D' J Ls) (G : Nat → Option (List UInt8)) (hread : readM Ls (fun _ => none) = (G, 0)) (hsum : Ls.flatten.length ≤ 549755813888) :
    Calls Tryz.prog 9 #[.pointer (some ⟨g, 0, none⟩)] w fun e w' => ∃ kb Fp n, e = .returned (.tuple #[.pointer (some ⟨kb, 0, none⟩), .int .i64 0]) ∧ KeepOk w' base Fp kb g D' J Ls n G ∧ n ≤ Ls.flatten.length ∧ w.heap.size ≤ kb ∧ Fr Gd Fp w w' := by
  refine (kopen_any base Gd g D w hfew hd (by rw [hopen]; exact hsum)).mono ?_
  rw [hopen]
  rintro e w' ⟨vk, err, rfl, Gd', hd', hfr, h | h | ⟨_, _, rfl, kb, j, gm, B, n, rfl, hkb, hj, hm, hn, hB, hGB, hBj, hjg, hgk⟩⟩
  · exact absurd rfl h.1
  · have := h.2.1
    dsimp only at this
    rw [hread] at this
    exact absurd rfl this
  · dsimp only at hd' hj hm hn
    rw [hread] at hm
    have hkl : kb < w'.heap.size := (Array.getElem?_eq_some_iff.1 hkb).1
    refine ⟨kb, fun k => Gd' k ∨ (B ≤ k ∧ k < w'.heap.size), n, rfl, ⟨Gd', j, gm, _, hd', hinv, hj, hkb, hm, fun h => by have := hGB _ h; omega, fun h => by have := hGB _ h; omega, fun h => by have := hGB _ h; omega, by omega, by omega, by omega,
      fun k hk => ⟨by have := hk.2; omega, fun h => by have := hGB _ h; have := hk.1; omega, by have := hk.1; omega, by have := hk.2; omega, by have := hk.1; omega⟩, ?_, ?_⟩, hn, by omega, ⟨hfr.os, hfr.tape, hfr.output, hfr.size, fun k hk hF => ?_⟩⟩
    · rintro k (h | rfl | rfl | rfl | h)
      · exact .inl h
      · exact .inr ⟨by omega, by omega⟩
      · exact .inr ⟨by omega, by omega⟩
      · exact .inr ⟨by omega, by omega⟩
      · have h1 := h.1; have h2 := h.2
        exact .inr ⟨by omega, by omega⟩
    · rintro k (h | h)
      · exact hd'.low k h
      · exact ⟨by have := h.1; have := hd.size; omega, h.2⟩
    · obtain ⟨h1, h2⟩ := hfr.block k hk hF
      exact ⟨fun h => h.elim h1 fun h => by have := h.1; omega, h2⟩
/-- Commit of changes whose record fits, where no cut is planned. -/
theorem kcommit_ok (base : Nat) (Fp ok : Nat → Prop) (kb g : Nat) (D : Dev) (J : JM) (Ls : List (List UInt8)) (n : Nat) (G : Nat → Option (List UInt8)) (v : Value) (L : List PutM) (w : World) (h : KeepOk w base Fp kb g D J Ls n G) (hfew : D.Few 900000) (hleft : D.left = -1) (hnum : J.number + 1 ≤ 4611686018427387904)
    (hL : IsL kPut w ok v L) (hok : ∀ k, ok k → k < w.heap.size ∧ ¬ Fp k) (hnil : L ≠ []) (hlg : L.any long60 = false) (hrec : (precM L []).2 = 0) (hroom : (recsB [(precM L []).1]).length ≤ sideN D * 256 - J.used) (hnl : n + L.length ≤ 1099511627776) (hGl : ∀ k l, G k = some l → l.length ≤ 65535) :
    Calls Tryz.prog 11 #[.pointer (some ⟨kb, 0, none⟩), v] w fun e w' => e = .returned (.int .i64 0) ∧ ∃ Fp' D' J', KeepOk w' base Fp' kb g D' J' (Ls ++ [(precM L []).1]) (n + L.length) (putsG G L) ∧ Fr Fp Fp' w w' ∧
      D' = (addJ J D [(precM L []).1]).1.2 ∧ J' = (addJ J D [(precM L []).1]).1.1 ∧ D'.left = -1 ∧ J'.used = J.used + (recsB [(precM L []).1]).length ∧ J'.number ≤ J.number + 1 := by
  obtain ⟨Gd, j, gm, P, hd, hi, hj, hkb, hm, h1, h2, h3, h4, h5, h6, hP, hF, hl⟩ := h
  have hlong : fewLong [(precM L []).1] := fun r hr => by
    simp only [List.mem_cons, List.not_mem_nil, or_false] at hr
    rw [hr]
    exact (precM_ok L [] hrec).2.2 hnil
  have hadd := add_inv hi hnum [(precM L []).1] hlong
  obtain ⟨_, a2, a3, a4, a5, a6⟩ : (recsB [(precM L []).1]).length ≤ sideN D * 256 - J.used ∧ (addJ J D [(precM L []).1]).2 = 0 ∧ JInv (addJ J D [(precM L []).1]).1.2 (addJ J D [(precM L []).1]).1.1 (Ls ++ [(precM L []).1]) ∧ (addJ J D [(precM L []).1]).1.1.used = J.used + (recsB [(precM L []).1]).length ∧ (addJ J D [(precM L []).1]).1.1.number ≤ J.number + 1 ∧ (D.left = -1 → (addJ J D [(precM L []).1]).1.2.left = -1) := by
    rcases hadd with h | h | h
    · omega
    · exact h
    · exact absurd hleft h.2.1
  refine (kcommit_any base Gd ok P kb j g gm n J D v L G w hi.fit hfew hd hj h1 hkb h2 h4 ⟨h3, h5, h6⟩ hm hL (fun k hk => ⟨(hok k hk).1, fun h => (hok k hk).2 (hF k (.inl h)), fun h => (hok k hk).2 (hF k (.inr (.inl h))), fun h => (hok k hk).2 (hF k (.inr (.inr (.inr (.inl h)))))⟩)
    hP hnl hGl (fun h => by rw [a2] at h; cases h)).mono ?_
  rintro e w' (⟨er, rfl, hb, h | h | h | h⟩ | ⟨_, _, _, _, h | h | ⟨_, rfl, G', hd', hj', hnj', hng, hfr, hm'⟩⟩)
  · rw [hi.brk] at h; cases h.1
  · rw [hlg] at h; cases h.2.1
  · exact absurd h.2.1 hnil
  · rw [hrec] at h; cases h.2.2.2.1
  · rw [a2] at h; cases h.1
  · exact absurd a2 h.2.1
  · have hgl : gm < w.heap.size := (hl gm (hF gm (.inr (.inr (.inr (.inl rfl)))))).2
    have hkl : kb < w.heap.size := (hl kb (hF kb (.inr (.inr (.inl rfl))))).2
    have hjl : j < w.heap.size := (hl j (hF j (.inr (.inl rfl)))).2
    have hfs := hfr.size
    obtain ⟨b1, b2⟩ := hfr.block kb hkl (by rintro (h | h | h); exact h2 h; exact h4 h; exact h6 h.symm)
    refine ⟨rfl, fun k => (G' k ∨ Fp k ∨ w.heap.size ≤ k) ∧ k < w'.heap.size, _, _, ⟨G', j, gm, fun k => (¬ G' k ∧ k ≠ j ∧ k ≠ kb ∧ k ≠ gm ∧ (P k ∨ w.heap.size ≤ k)) ∧ k < w'.heap.size, hd', a3, hj', hkb.keep b2, ?_, hnj', fun h => b1 (.inl h), hng, h4, h5, h6, ?_, ?_, ?_⟩, ?_, rfl, rfl, a6 hleft, a4, a5⟩
    · exact hm'.keep rfl fun k hk hkl => ⟨⟨hk, hkl⟩, rfl⟩
    · exact fun k hk => ⟨hk.2, hk.1.1, hk.1.2.1, hk.1.2.2.1, hk.1.2.2.2.1⟩
    · rintro k (h | rfl | rfl | rfl | h)
      · exact ⟨.inl h, (hd'.low k h).2⟩
      · exact ⟨.inr (.inl (hF _ (.inr (.inl rfl)))), by omega⟩
      · exact ⟨.inr (.inl (hF _ (.inr (.inr (.inl rfl))))), by omega⟩
      · exact ⟨.inr (.inl (hF _ (.inr (.inr (.inr (.inl rfl)))))), by omega⟩
      · refine ⟨?_, h.2⟩
        rcases h.1.2.2.2.2 with h | h
        · exact .inr (.inl (hF k (.inr (.inr (.inr (.inr h))))))
        · exact .inr (.inr h)
    · rintro k ⟨h | h | h, hk⟩
      · exact ⟨(hd'.low k h).1, hk⟩
      · exact ⟨(hl k h).1, hk⟩
      · exact ⟨by have := hd.size; omega, hk⟩
    · refine ⟨hfr.os, hfr.tape, hfr.output, hfr.size, fun k hk hnF => ?_⟩
      obtain ⟨c1, c2⟩ := hfr.block k hk (by
        rintro (h | h | h)
        · exact hnF (hF k (.inl h))
        · exact hnF (hF k (.inr (.inl h)))
        · exact hnF (hF k (.inr (.inr (.inr (.inl h))))))
      refine ⟨?_, c2⟩
      rintro ⟨h | h | h, _⟩
      · exact c1 (.inl h)
      · exact hnF h
      · omega
/-- Keys, Get and Room between calls. -/
theorem kkeys_ok (base : Nat) (Fp : Nat → Prop) (kb g : Nat) (D : Dev) (J : JM) (Ls : List (List UInt8)) (n : Nat) (G : Nat → Option (List UInt8)) (w : World) (h : KeepOk w base Fp kb g D J Ls n G) (hn : n ≤ 1099511627776) :
    Calls Tryz.prog 21 #[.pointer (some ⟨kb, 0, none⟩)] w fun e w' => (∃ v ys, e = .returned v ∧ KeysOf G ys ∧ ys.length ≤ n ∧ Own1 w' (w.heap.size + 2) 46 v (ys.map numV)) ∧ Below w.heap.size w w' := by
  obtain ⟨Gd, j, gm, P, hd, hi, hj, hkb, ⟨F, hF, h2⟩, _⟩ := h
  have k1 := hkb.cell 1
  simp only [List.getElem?_toArray, List.getElem?_cons_zero, List.getElem?_cons_succ] at k1
  refine (keys_any kb gm n hn F w k1 hF).mono ?_
  rintro e w' ⟨⟨v, ys, rfl, ⟨⟨hs1, hs2⟩, hl⟩, ho⟩, hb⟩
  refine ⟨⟨v, ys, rfl, ⟨fun y => ?_, hs1⟩, hl, ho⟩, hb⟩
  rw [hs2 y]
  constructor
  · rintro ⟨h3, h4⟩
    refine ⟨h3, ?_⟩
    rcases h2 y h3 with ⟨h5, h6⟩ | ⟨l, u, h5, h6, _⟩
    · rw [h6] at h4; cases h4
    · rw [h5]; rfl
  · rintro ⟨h3, h4⟩
    refine ⟨h3, ?_⟩
    rcases h2 y h3 with ⟨h5, h6⟩ | ⟨l, u, h5, h6, _⟩
    · rw [h5] at h4; cases h4
    · rw [h6]; rfl
theorem kget_ok (base : Nat) (Fp : Nat → Prop) (kb g : Nat) (D : Dev) (J : JM) (Ls : List (List UInt8)) (n : Nat) (G : Nat → Option (List UInt8)) (w : World) (h : KeepOk w base Fp kb g D J Ls n G) (key : Nat) (hkey : key < 18446744073709551616) (hl : ∀ l, G key = some l → l.length ≤ 1099511627776) :
    Calls Tryz.prog 20 #[.pointer (some ⟨kb, 0, none⟩), .int .u64 (key : Int)] w fun e w' => (∃ v, e = .returned (.tuple #[v, .bool (G key).isSome]) ∧ Own1 w' w.heap.size 5 v (((G key).getD []).map u8)) ∧ Below w.heap.size w w' := by
  obtain ⟨Gd, j, gm, P, hd, hi, hj, hkb, hm, _⟩ := h
  have k1 := hkb.cell 1
  simp only [List.getElem?_toArray, List.getElem?_cons_zero, List.getElem?_cons_succ] at k1
  exact kget_any kb gm n key hkey P G w k1 hm hl
theorem kbroken_ok (base : Nat) (Fp : Nat → Prop) (kb g : Nat) (D : Dev) (J : JM) (Ls : List (List UInt8)) (n : Nat) (G : Nat → Option (List UInt8)) (w : World) (h : KeepOk w base Fp kb g D J Ls n G) :
    Calls Tryz.prog 24 #[.pointer (some ⟨kb, 0, none⟩)] w fun e w' => e = .returned (.bool false) ∧ w = w' := by
  obtain ⟨Gd, j, gm, P, hd, hi, hj, hkb, _⟩ := h
  have k0 := hkb.cell 0
  simp only [List.getElem?_toArray, List.getElem?_cons_zero] at k0
  have h1 := kbroken_any w kb j g J k0 hj
  rwa [hi.brk] at h1
theorem add_full {D : Dev} {J : JM} {Ls : List (List UInt8)} (hi : JInv D J Ls) (hnum : J.number + 1 ≤ 4611686018427387904) (M : List (List UInt8)) (h : (addJ J D M).2 = 5) : (addJ J D M).1 = (J, D) := by
  by_cases hM : fewLong M
  · rcases add_inv hi hnum M hM with ⟨_, h1⟩ | ⟨_, h1, _⟩ | ⟨_, _, h1, _⟩
    · rw [h1]
    · rw [h1] at h; cases h
    · rw [h1] at h; cases h
  · unfold addJ
    split
    · rfl
    · rfl
theorem kcommit_nil (v : Value) (w : World) : Calls Tryz.prog 11 #[.pointer none, v] w fun e w' => e = .returned (.int .i64 3) ∧ w = w' := by
  go_enter Tryz.func11, Tryz.ntmps11
  go_wp2_with fail
  refine (kbroken_nil w).mono ?_
  rintro e w' ⟨rfl, rfl⟩
  go_wp2_with fail
  go_ret
  exact ⟨rfl, rfl⟩
/-- Commit of changes with a value that is too long, and of no changes. -/
theorem kcommit_few_ok (base : Nat) (Fp ok : Nat → Prop) (kb g : Nat) (D : Dev) (J : JM) (Ls : List (List UInt8)) (n : Nat) (G : Nat → Option (List UInt8)) (v : Value) (L : List PutM) (w : World) (h : KeepOk w base Fp kb g D J Ls n G) (hfew : D.Few 900000) (hnum : J.number + 1 ≤ 4611686018427387904)
    (hL : IsL kPut w ok v L) (hok : ∀ k, ok k → k < w.heap.size ∧ ¬ Fp k) (hfew2 : L.any long60 = true ∨ L = []) (hnl : n + L.length ≤ 1099511627776) (hGl : ∀ k l, G k = some l → l.length ≤ 65535) :
    Calls Tryz.prog 11 #[.pointer (some ⟨kb, 0, none⟩), v] w fun e w' => e = .returned (.int .i64 (if L.any long60 then 4 else 0)) ∧ KeepOk w' base Fp kb g D J Ls n G ∧ Below w.heap.size w w' := by
  have h' := h
  obtain ⟨Gd, j, gm, P, hd, hi, hj, hkb, hm, h1, h2, h3, h4, h5, h6, hP, hF, hl⟩ := h
  refine (kcommit_any base Gd ok P kb j g gm n J D v L G w hi.fit hfew hd hj h1 hkb h2 h4 ⟨h3, h5, h6⟩ hm hL (fun k hk => ⟨(hok k hk).1, fun h => (hok k hk).2 (hF k (.inl h)), fun h => (hok k hk).2 (hF k (.inr (.inl h))), fun h => (hok k hk).2 (hF k (.inr (.inr (.inr (.inl h)))))⟩)
    hP hnl hGl (add_full hi hnum _)).mono ?_
  rintro e w' (⟨er, rfl, hb, h | h | h | h⟩ | ⟨_, h7, h8, _⟩)
  · rw [hi.brk] at h; cases h.1
  · rw [h.2.1, h.2.2]
    exact ⟨rfl, h'.grow hb, hb⟩
  · obtain ⟨_, rfl, rfl⟩ := h
    exact ⟨rfl, h'.grow hb, hb⟩
  · rcases hfew2 with h9 | h9
    · rw [h.2.1] at h9; cases h9
    · exact absurd h9 h.2.2.1
  · rcases hfew2 with h9 | h9
    · rw [h7] at h9; cases h9
    · exact absurd h9 h8
/-- Commit where neither the record nor what would be left of all records has room: nothing is done. -/
theorem kcommit_full_ok (base : Nat) (Fp ok : Nat → Prop) (kb g : Nat) (D : Dev) (J : JM) (Ls : List (List UInt8)) (n : Nat) (G : Nat → Option (List UInt8)) (v : Value) (L : List PutM) (w : World) (h : KeepOk w base Fp kb g D J Ls n G) (hfew : D.Few 900000) (hnum : J.number + 1 ≤ 4611686018427387904)
    (hL : IsL kPut w ok v L) (hok : ∀ k, ok k → k < w.heap.size ∧ ¬ Fp k) (hnil : L ≠ []) (hlg : L.any long60 = false) (hrec : (precM L []).2 = 0) (hroom : sideN D * 256 - J.used < (recsB [(precM L []).1]).length) (hnl : n + L.length ≤ 1099511627776) (hGl : ∀ k l, G k = some l → l.length ≤ 65535)
    (hpair : ∀ y, (putsG G L y).isSome = true → (pairM (putsG G L) y).2 = 0) (hbig : ∀ ys, KeysOf (putsG G L) ys → sideN D * 256 < (recsB (recsOfG (putsG G L) ys)).length) :
    Calls Tryz.prog 11 #[.pointer (some ⟨kb, 0, none⟩), v] w fun e w' => e = .returned (.int .i64 5) ∧ ∃ Fp', KeepOk w' base Fp' kb g D J Ls n G ∧ Fr Fp Fp' w w' := by
  obtain ⟨Gd, j, gm, P, hd, hi, hj, hkb, hm, h1, h2, h3, h4, h5, h6, hP, hF, hl⟩ := h
  have hlong : fewLong [(precM L []).1] := fun r hr => by
    simp only [List.mem_cons, List.not_mem_nil, or_false] at hr
    rw [hr]
    exact (precM_ok L [] hrec).2.2 hnil
  have ha : addJ J D [(precM L []).1] = ((J, D), 5) := by
    rcases add_inv hi hnum [(precM L []).1] hlong with h | h | h
    · exact h.2
    · omega
    · omega
  refine (kcommit_any base Gd ok P kb j g gm n J D v L G w hi.fit hfew hd hj h1 hkb h2 h4 ⟨h3, h5, h6⟩ hm hL (fun k hk => ⟨(hok k hk).1, fun h => (hok k hk).2 (hF k (.inl h)), fun h => (hok k hk).2 (hF k (.inr (.inl h))), fun h => (hok k hk).2 (hF k (.inr (.inr (.inr (.inl h)))))⟩)
    hP hnl hGl (add_full hi hnum _)).mono ?_
  rintro e w' (⟨er, rfl, hb, h | h | h | h⟩ | ⟨_, _, _, _, ⟨_, w4, G4, hs4, hf4, hr⟩ | h | h⟩)
  · rw [hi.brk] at h; cases h.1
  · rw [hlg] at h; cases h.2.1
  · exact absurd h.2.1 hnil
  · rw [hrec] at h; cases h.2.2.2.1
  · rcases hr with ⟨⟨y, hy1, hy2, hy3⟩, _⟩ | ⟨ys, hk, hy, rfl, G', hd', hj', hnj', hnk', hfin⟩
    · rw [hpair y hy2] at hy3; cases hy3
    · have hfl : fewLong (recsOfG (putsG G L) ys) := fun r hr => by
        obtain ⟨y, hyy, rfl⟩ := List.mem_map.1 hr
        exact (precM_ok _ [] (hy y hyy)).2.2 (by simp)
      have hrj : repJ J D (recsOfG (putsG G L) ys) = ((J, D), 5) := by
        have := hbig ys hk
        rcases rep_inv hi hnum _ hfl with h | h | h
        · exact h.2
        · omega
        · omega
      rw [hrj] at hd' hj' hfin ⊢
      dsimp only at hd' hj' hfin
      rcases hfin with ⟨_, hf5⟩ | ⟨h, _⟩
      · have hfr : Fr (fun k => Gd k ∨ k = j) (fun k => G' k ∨ k = j) w w' := hf4.trans hf5
        have hgl : gm < w.heap.size := (hl gm (hF gm (.inr (.inr (.inr (.inl rfl)))))).2
        have hkl : kb < w.heap.size := (hl kb (hF kb (.inr (.inr (.inl rfl))))).2
        have hjl : j < w.heap.size := (hl j (hF j (.inr (.inl rfl)))).2
        have hfs := hfr.size
        have hkeep : ∀ k, k < w.heap.size → ¬ Gd k → k ≠ j → w'.heap[k]? = w.heap[k]? ∧ ¬ G' k := fun k hk h1 h2 => by
          obtain ⟨c1, c2⟩ := hfr.block k hk (fun h => h.elim h1 h2)
          exact ⟨c2, fun h => c1 (.inl h)⟩
        refine ⟨rfl, fun k => (G' k ∨ Fp k) ∧ k < w'.heap.size, ⟨G', j, gm, P, hd', hi, hj', hkb.keep (hkeep kb hkl h2 h4).1, hm.keep (hkeep gm hgl h3 h5).1 fun k hk _ => ⟨hk, (hkeep k (hP k hk).1 (hP k hk).2.1 (hP k hk).2.2.1).1⟩, hnj', hnk', (hkeep gm hgl h3 h5).2, h4, h5, h6,
          fun k hk => ⟨Nat.lt_of_lt_of_le (hP k hk).1 hfs, (hkeep k (hP k hk).1 (hP k hk).2.1 (hP k hk).2.2.1).2, (hP k hk).2.2⟩, ?_, fun k hk => ⟨hk.1.elim (fun h => (hd'.low k h).1) (fun h => (hl k h).1), hk.2⟩⟩, ⟨hfr.os, hfr.tape, hfr.output, hfr.size, fun k hk hnF => ?_⟩⟩
        · rintro k (h | rfl | rfl | rfl | h)
          · exact ⟨.inl h, (hd'.low k h).2⟩
          · exact ⟨.inr (hF _ (.inr (.inl rfl))), by omega⟩
          · exact ⟨.inr (hF _ (.inr (.inr (.inl rfl)))), by omega⟩
          · exact ⟨.inr (hF _ (.inr (.inr (.inr (.inl rfl))))), by omega⟩
          · exact ⟨.inr (hF k (.inr (.inr (.inr (.inr h))))), by have := (hP k h).1; omega⟩
        · obtain ⟨c1, c2⟩ := hkeep k hk (fun h => hnF (hF k (.inl h))) (fun h => hnF (hF k (.inr (.inl h))))
          exact ⟨fun h => h.1.elim c2 hnF, c1⟩
      · cases h
  · rw [ha] at h; exact absurd rfl h.1
  · rw [ha] at h; cases h.1
end Go.Proofs.YtdmbmkjiffhbcaaGreat

namespace Go.Proofs.YtdmbmkjiffhbcaaGreat
open Go.RowKit
set_option maxRecDepth 100000

theorem KeepOk.inv {w : World} {base : Nat} {Fp : Nat → Prop} {kb g : Nat} {D : Dev} {J : JM} {Ls : List (List UInt8)} {n : Nat} {G : Nat → Option (List UInt8)} (h : KeepOk w base Fp kb g D J Ls n G) : JInv D J Ls ∧ ∃ Gd, DevAt w base Gd g D ∧ ∀ k, Gd k → Fp k := by
  obtain ⟨Gd, j, gm, P, hd, hi, hj, hkb, hm, h1, h2, h3, h4, h5, h6, hP, hF, hl⟩ := h
  exact ⟨hi, Gd, hd, fun k hk => hF k (.inl hk)⟩
/-- A device as a Keep leaves it, opened again. -/
theorem JInv.opens {D : Dev} {J : JM} {Ls : List (List UInt8)} (h : JInv D J Ls) : openM D = ((D, 0), (J, Ls)) := by
  have h1 := (open_cont h.cont h.off h.long).1
  rw [h1]
  obtain ⟨n, s, u, c, b⟩ := J
  have h2 := h.count
  have h3 := h.brk
  dsimp only at h2 h3
  rw [← h2, ← h3]
/-- Changes written out, in a row of their own. -/
theorem isL_row {W : World} {ok : Nat → Prop} {L : List PutM} {cells : List Value} (hl : L.length ≤ 1099511627776) (hm : kMany kPut W ok cells L) : IsL kPut (W.alloc (.cells cells.toArray 49)) (fun k => ok k ∨ k = W.heap.size) (.slice (some ⟨W.heap.size, 0, none⟩) L.length L.length) L := by
  have hb : Below W.heap.size W (W.alloc (.cells cells.toArray 49)) := (Below.refl _ _).alloc (Nat.le_refl _) _
  exact ⟨_, L.length, cells, rfl, Nat.le_refl _, by unfold maxLen; omega, (Blk.new W 49 cells.toArray).rd _ (.inr rfl), hm.move fun k hk hkl => ⟨.inl hk, hb.block k hkl⟩⟩
def liv1 : List PutM := [⟨7, [120], false⟩]
def liv2 : List PutM := [⟨7, [], true⟩, ⟨8, [], false⟩]
theorem liv1_rec : (precM liv1 []).2 = 0 := by decide +kernel
theorem liv2_rec : (precM liv2 []).2 = 0 := by decide +kernel
theorem liv1_len : (recsB [(precM liv1 []).1]).length ≤ 100 := by decide +kernel
theorem liv2_len : (recsB [(precM liv2 []).1]).length ≤ 100 := by decide +kernel
theorem liv1_long : liv1.any long60 = false := by decide +kernel
theorem liv2_long : liv2.any long60 = false := by decide +kernel
def noneG : Nat → Option (List UInt8) := fun _ => none
def livG : Nat → Option (List UInt8) := putsG (putsG noneG liv1) liv2
theorem livG_at (k : Nat) : livG k = if k = 8 then some [] else none := by
  unfold livG putsG liv1 liv2
  simp only [List.foldl_cons, List.foldl_nil]
  unfold putG noneG
  dsimp only
  by_cases h8 : k = 8
  · subst h8
    rfl
  · by_cases h7 : k = 7
    · subst h7
      rfl
    · rw [if_neg h8, if_neg h8, if_neg h7, if_neg h7]
theorem liv_read : readM ([] ++ [(precM liv1 []).1] ++ [(precM liv2 []).1]) noneG = (livG, 0) :=
  readM_recs [liv1, liv2] noneG (fun L hL => by
    simp only [List.mem_cons, List.not_mem_nil, or_false] at hL
    rcases hL with rfl | rfl
    · exact ⟨fun p hp => by simp [liv1] at hp; subst hp; decide, liv1_rec⟩
    · exact ⟨fun p hp => by simp [liv2] at hp; rcases hp with rfl | rfl <;> decide, liv2_rec⟩)
theorem liv_keys (ys : List Nat) (h : KeysOf livG ys) : ys = [8] := by
  obtain ⟨h1, h2⟩ := h
  have h8 : 8 ∈ ys := (h1 8).2 ⟨by decide, by rw [livG_at]; rfl⟩
  have hall : ∀ y ∈ ys, y = 8 := fun y hy => by
    have := ((h1 y).1 hy).2
    rw [livG_at] at this
    by_cases e : y = 8
    · exact e
    · rw [if_neg e] at this; cases this
  cases ys with
  | nil => cases h8
  | cons a ys =>
    have ha := hall a (by simp)
    subst ha
    cases ys with
    | nil => rfl
    | cons b ys =>
      have hb := hall b (by simp)
      have := (List.pairwise_cons.1 h2).1 b (by simp)
      omega

theorem KeepOk.low {w : World} {base : Nat} {Fp : Nat → Prop} {kb g : Nat} {D : Dev} {J : JM} {Ls : List (List UInt8)} {n : Nat} {G : Nat → Option (List UInt8)} (h : KeepOk w base Fp kb g D J Ls n G) : ∀ k, Fp k → base ≤ k ∧ k < w.heap.size := by
  obtain ⟨Gd, j, gm, P, _, _, _, _, _, _, _, _, _, _, _, _, _, h⟩ := h
  exact h
theorem KeepOk.below {w w' : World} {base : Nat} {Fp Fp' : Nat → Prop} {kb g : Nat} {D : Dev} {J : JM} {Ls : List (List UInt8)} {n : Nat} {G : Nat → Option (List UInt8)} (h : KeepOk w base Fp kb g D J Ls n G) (hf : Fr Fp Fp' w w') : Below base w w' := by
  have hl := h.low
  obtain ⟨Gd, j, gm, P, hd, _⟩ := h
  exact hf.below (fun k hk => (hl k hk).1) hd.size
/-- Commit of changes that are laid out in fresh rows, in a device that is whole. -/
theorem kcommit_fresh (base : Nat) (Fp : Nat → Prop) (kb g : Nat) (D : Dev) (J : JM) (Ls : List (List UInt8)) (n : Nat) (G : Nat → Option (List UInt8)) (v : Value) (L : List PutM) (w z : World) (h : KeepOk w base Fp kb g D J Ls n G) (hz : Below w.heap.size w z) (hfew : D.Few 900000) (hleft : D.left = -1) (hnum : J.number + 1 ≤ 4611686018427387904)
    (ok : Nat → Prop) (hL : IsL kPut z ok v L) (hok : ∀ k, ok k → k < z.heap.size ∧ (w.heap.size ≤ k ∨ k < base)) (hnil : L ≠ []) (hlg : L.any long60 = false) (hrec : (precM L []).2 = 0) (hroom : (recsB [(precM L []).1]).length ≤ sideN D * 256 - J.used) (hnl : n + L.length ≤ 1099511627776) (hGl : ∀ k l, G k = some l → l.length ≤ 65535) :
    Calls Tryz.prog 11 #[.pointer (some ⟨kb, 0, none⟩), v] z fun e w' => e = .returned (.int .i64 0) ∧ ∃ Fp' D' J', KeepOk w' base Fp' kb g D' J' (Ls ++ [(precM L []).1]) (n + L.length) (putsG G L) ∧ Below base w w' ∧
      D' = (addJ J D [(precM L []).1]).1.2 ∧ J' = (addJ J D [(precM L []).1]).1.1 ∧ D'.left = -1 ∧ J'.used = J.used + (recsB [(precM L []).1]).length ∧ J'.number ≤ J.number + 1 := by
  have hl := h.low
  have hkz := h.grow hz
  refine (kcommit_ok base Fp ok kb g D J Ls n G v L z hkz hfew hleft hnum hL (fun k hk => ⟨(hok k hk).1, fun hF => by have := hl k hF; have := (hok k hk).2; omega⟩) hnil hlg hrec hroom hnl hGl).mono ?_
  rintro e w' ⟨rfl, Fp', D', J', h1, h2, h3⟩
  exact ⟨rfl, Fp', D', J', h1, (hz.mono (by obtain ⟨Gd, j, gm, P, hd, _⟩ := h; exact hd.size)).trans (hkz.below h2), h3⟩

set_option maxHeartbeats 1000000 in
theorem klives_any (w : World) : Calls Tryz.prog 6 #[] w fun e w' => e = .returned (.bool true) ∧ Below w.heap.size w w' := by
  obtain ⟨D1, ho1, hi1, hl1, hn1, hc1, hlo1⟩ := open_new 8 (by decide) (by decide)
  have hs1 : sideN D1 = 3 := by unfold sideN; rw [hn1]
  have hf1 : D1.Few 10 := ⟨by rw [hlo1]; decide, by rw [hc1]; decide⟩
  obtain ⟨J1, hJ1⟩ : ∃ J1 : JM, J1 = ⟨1, 0, 0, 0, false⟩ := ⟨_, rfl⟩
  rw [← hJ1] at ho1 hi1
  have hJ1u : J1.used = 0 := by rw [hJ1]
  have hJ1n : J1.number = 1 := by rw [hJ1]
  obtain ⟨L1, hL1⟩ : ∃ L1, L1 = liv1 := ⟨_, rfl⟩
  obtain ⟨L2, hL2⟩ : ∃ L2, L2 = liv2 := ⟨_, rfl⟩
  obtain ⟨R1, hR1⟩ : ∃ R1, R1 = (precM L1 []).1 := ⟨_, rfl⟩
  obtain ⟨R2, hR2⟩ : ∃ R2, R2 = (precM L2 []).1 := ⟨_, rfl⟩
  have H1 := Lib.hid (show L1 ≠ [] ∧ L1.any long60 = false ∧ (precM L1 []).2 = 0 ∧ (recsB [(precM L1 []).1]).length ≤ 100 ∧ L1.length = 1 from by rw [hL1]; exact ⟨(by intro h; cases h), liv1_long, liv1_rec, liv1_len, rfl⟩)
  have H2 := Lib.hid (show L2 ≠ [] ∧ L2.any long60 = false ∧ (precM L2 []).2 = 0 ∧ (recsB [(precM L2 []).1]).length ≤ 100 ∧ L2.length = 2 from by rw [hL2]; exact ⟨(by intro h; cases h), liv2_long, liv2_rec, liv2_len, rfl⟩)
  obtain ⟨G1, hG1⟩ : ∃ G1, G1 = putsG noneG L1 := ⟨_, rfl⟩
  obtain ⟨G2, hG2⟩ : ∃ G2, G2 = putsG G1 L2 := ⟨_, rfl⟩
  have hG2e : G2 = livG := by rw [hG2, hG1, hL1, hL2]; rfl
  have hG1l : ∀ k l, G1 k = some l → l.length ≤ 65535 := by
    intro k l hk
    rw [hG1, hL1] at hk
    unfold putsG liv1 at hk
    simp only [List.foldl_cons, List.foldl_nil] at hk
    unfold putG noneG at hk
    dsimp only at hk
    split at hk
    · simp at hk; subst hk; simp
    · cases hk
  have hread : readM ([] ++ [(precM L1 []).1] ++ [(precM L2 []).1]) (fun _ => none) = (G2, 0) := by rw [hG2e, hL1, hL2]; exact liv_read
  have hsum : (([] ++ [(precM L1 []).1] ++ [(precM L2 []).1] : List (List UInt8)).flatten).length ≤ 549755813888 := by
    rw [hL1, hL2]
    decide +kernel
  have HL1 := Lib.hid hL1
  have HL2 := Lib.hid hL2
  have HG1 := Lib.hid hG1
  have HG2 := Lib.hid hG2
  have HG2e := Lib.hid hG2e
  have HG1l := Lib.hid hG1l
  have Hread := Lib.hid hread
  have Hsum := Lib.hid hsum
  have Ho1 := Lib.hid ho1
  have Hi1 := Lib.hid hi1
  have Hl1 := Lib.hid hl1
  have Hf1 := Lib.hid hf1
  have Hn1 := Lib.hid hn1
  have Hs1 := Lib.hid hs1
  have HJ1u := Lib.hid hJ1u
  have HJ1n := Lib.hid hJ1n
  clear ho1 hi1 hl1 hn1 hc1 hlo1 hs1 hf1 hL1 hL2 hG1 hG2 hG2e hG1l hread hsum hJ1 hJ1u hJ1n hR1 hR2
  have kc := fun (w : World) (C : Array Value) (n c : Nat) => Lib.run_convert_bytes_const (P := Tryz.prog) w 47 5 C n c Tryz.underlying47 Tryz.underlying5
  go_enter Tryz.func6, Tryz.ntmps6
  go_wp2_with fail
  refine (new_ok 8 w (by decide) (by decide)).mono ?_
  rintro e w1 ⟨g, F1, rfl, hd1, hb1⟩
  have Hd1 := Lib.hid hd1
  have Hb1 := Lib.hid hb1
  clear hd1 hb1
  go_wp2_with fail
  have ho := kopen_ok w.heap.size F1 g (newD 8) D1 w1 (newD_few 8 900000) Hd1.out J1 [] Ho1.out Hi1.out noneG rfl (by simp)
  refine ho.mono ?_
  rintro e w2 ⟨kb, Fp2, n2, rfl, hk2, hn2, hkw, hfr2⟩
  obtain rfl : n2 = 0 := by simpa using hn2
  have hb2 : Below w.heap.size w w2 := Hb1.out.trans (hfr2.below (fun k hk => (Hd1.out.low k hk).1) Hb1.out.size)
  have Hk2 := Lib.hid hk2
  have Hb2 := Lib.hid hb2
  clear ho hk2 hb2 hfr2 hn2 Hd1 Hb1 Ho1
  have hz1 : Below w2.heap.size w2 (w2.alloc (.cells #[.int .u8 120] 5 (1, 2))) := (Below.refl _ _).alloc (Nat.le_refl _) _
  have hrow : (w2.alloc (.cells #[.int .u8 120] 5 (1, 2))).heap[w2.heap.size]? = some (.cells #[.int .u8 120] 5 (1, 2)) := row_new _ _
  have hx : IsB (w2.alloc (.cells #[.int .u8 120] 5 (1, 2))) (fun k => k = w2.heap.size) (.slice (some ⟨w2.heap.size, 0, none⟩) 1 1) [120] := ⟨_, 1, rfl, Nat.le_refl _, by unfold maxLen; omega, rd_of_row hrow _ rfl⟩
  have hL1 := isL_row (W := w2.alloc (.cells #[.int .u8 120] 5 (1, 2))) (ok := fun k => k = w2.heap.size) (L := liv1) (cells := [.int .u64 7, .slice (some ⟨w2.heap.size, 0, none⟩) 1 1, .bool false]) (by decide)
    (kMany.cons (K := kPut) (c := [.int .u64 7, .slice (some ⟨w2.heap.size, 0, none⟩) 1 1, .bool false]) (cs := []) (a := ⟨7, [120], false⟩) (L := []) ⟨_, rfl, (by decide : 7 < 18446744073709551616), hx⟩ kMany.nil)
  have hz2 : Below w2.heap.size w2 ((w2.alloc (.cells #[.int .u8 120] 5 (1, 2))).alloc (.cells #[.int .u64 7, .slice (some ⟨w2.heap.size, 0, none⟩) 1 1, .bool false] 49)) := hz1.alloc hz1.size _
  rw [← HL1.out] at hL1
  have hc1 := kcommit_fresh w.heap.size Fp2 kb g D1 J1 [] 0 noneG _ L1 w2 _ Hk2.out hz2 (Hf1.out.mono (by decide)) Hl1.out (by rw [HJ1n.out]; decide) _ hL1 (fun k hk => by
    have h2 : k < w2.heap.size + 1 + 1 := by rcases hk with h | h; exact (by rw [h]; omega); exact (by rw [h]; simp)
    have h3 : w2.heap.size ≤ k := by rcases hk with h | h; exact (by rw [h]; exact Nat.le_refl _); exact (by rw [h]; simp)
    exact ⟨by simp; omega, .inl h3⟩) H1.out.1 H1.out.2.1 H1.out.2.2.1 (by rw [Hs1.out, HJ1u.out]; have := H1.out.2.2.2.1; omega) (by rw [H1.out.2.2.2.2]; decide) (fun k l h => by cases h)
  have hl1 : L1.length = 1 := H1.out.2.2.2.2
  rw [hl1, World.size_alloc] at hc1
  have Hc1 := Lib.hid hc1
  clear hz1 hrow hx hL1 hz2 hc1 hl1
  go_wp2_with fail
  refine Hc1.out.mono ?_
  rintro e w4 ⟨rfl, Fp4, D4, J4, hk4, hb4, hD4, hJ4, hl4, hu4, hn4⟩
  have hlen4 : D4.sure.length = 8 := by rw [hD4, addJ_length, Hn1.out]
  have hf4 : D4.Few (10 + 2100) := by rw [hD4]; exact addJ_few Hf1.out (by rw [Hn1.out]; decide) _ _
  have hs4 : sideN D4 = 3 := by unfold sideN; rw [hlen4]
  have hu4' : J4.used ≤ 100 := by rw [hu4, HJ1u.out]; have := H1.out.2.2.2.1; omega
  have hn4' : J4.number ≤ 2 := by rw [HJ1n.out] at hn4; exact hn4
  rw [← HG1.out] at hk4
  have Hk4 := Lib.hid hk4
  have Hb4 := Lib.hid (Hb2.out.trans hb4)
  have Hl4 := Lib.hid hl4
  have Hs4 := Lib.hid hs4
  have Hf4 := Lib.hid hf4
  have Hu4 := Lib.hid hu4'
  have Hn4 := Lib.hid hn4'
  have Hlen4 := Lib.hid hlen4
  clear hk4 hb4 hl4 hs4 hf4 hu4 hu4' hn4 hn4' hlen4 hD4 hJ4 Hc1 Hk2 Hb2 Hl1 Hf1 Hs1 Hn1 HJ1u HJ1n
  have hz5 : Below w4.heap.size w4 (w4.alloc (.cells #[.int .u64 7, .slice none 0 0, .bool true, .int .u64 8, .slice none 0 0, .bool false] 49)) := (Below.refl _ _).alloc (Nat.le_refl _) _
  have hnil : IsB w4 (fun _ => False) (.slice none 0 0) [] := ⟨none, 0, rfl, Nat.le_refl _, Nat.zero_le _, Rd.nil⟩
  have hL2 := isL_row (W := w4) (ok := fun _ => False) (L := liv2) (cells := [.int .u64 7, .slice none 0 0, .bool true, .int .u64 8, .slice none 0 0, .bool false]) (by decide)
    (kMany.cons (K := kPut) (c := [.int .u64 7, .slice none 0 0, .bool true]) (cs := [.int .u64 8, .slice none 0 0, .bool false]) (a := ⟨7, [], true⟩) (L := [⟨8, [], false⟩]) ⟨_, rfl, (by decide : 7 < 18446744073709551616), hnil⟩
      (kMany.cons (K := kPut) (c := [.int .u64 8, .slice none 0 0, .bool false]) (cs := []) (a := ⟨8, [], false⟩) (L := []) ⟨_, rfl, (by decide : 8 < 18446744073709551616), hnil⟩ kMany.nil))
  rw [← HL2.out] at hL2
  have hc2 := kcommit_fresh w.heap.size Fp4 kb g D4 J4 _ _ G1 _ L2 w4 _ Hk4.out hz5 (Hf4.out.mono (by decide)) Hl4.out (by have := Hn4.out; omega) _ hL2 (fun k hk => by
    obtain rfl : k = w4.heap.size := hk.elim (fun h => h.elim) id
    exact ⟨by simp, .inl (Nat.le_refl _)⟩) H2.out.1 H2.out.2.1 H2.out.2.2.1 (by rw [Hs4.out]; have := Hu4.out; have := H2.out.2.2.2.1; omega) (by rw [H2.out.2.2.2.2]; decide) HG1l.out
  have hl2 : L2.length = 2 := H2.out.2.2.2.2
  rw [hl2] at hc2
  have Hc2 := Lib.hid hc2
  clear hz5 hnil hL2 hc2 hl2
  go_wp2_with fail
  refine Hc2.out.mono ?_
  rintro e w5 ⟨rfl, Fp5, D5, J5, hk5, hb5, hD5, hJ5, hl5, hu5, hn5⟩
  have hf5 : D5.Few (10 + 2100 + 2100) := by rw [hD5]; exact addJ_few Hf4.out (by rw [Hlen4.out]; decide) _ _
  rw [← HG2.out] at hk5
  obtain ⟨hi5, Gd5, hd5, hgf5⟩ := hk5.inv
  have hop := kopen_ok w.heap.size Gd5 g D5 D5 w5 (hf5.mono (by decide)) hd5 J5 _ hi5.opens hi5 G2 Hread.out Hsum.out
  have Hop := Lib.hid hop
  have Hb5 := Lib.hid (Hb4.out.trans hb5)
  have Hlow5 := Lib.hid (fun k (hk : Gd5 k) => hd5.low k hk)
  have hs5 := hd5.size
  clear hk5 hb5 hD5 hJ5 hl5 hu5 hn5 hf5 hi5 hd5 hgf5 hop Hc2 Hk4 Hb4 Hl4 Hs4 Hf4 Hu4 Hn4 Hlen4
  go_wp2_with fail
  refine Hop.out.mono ?_
  rintro e w6 ⟨kb6, Fp6, n6, rfl, hk6, hn6, hkw6, hfr6⟩
  have hb6 : Below w.heap.size w w6 := Hb5.out.trans (hfr6.below (fun k hk => (Hlow5.out k hk).1) hs5)
  have hn6' : n6 ≤ 1099511627776 := by have := Hsum.out; omega
  have hget := kget_ok w.heap.size Fp6 kb6 g D5 J5 _ n6 G2 w6 hk6 8 (by decide) (fun l hl => by rw [HG2e.out, livG_at] at hl; simp at hl; subst hl; simp)
  have e8 : (G2 8).isSome = true ∧ ((G2 8).getD []).map u8 = [] := by rw [HG2e.out, livG_at]; exact ⟨rfl, rfl⟩
  rw [e8.1, e8.2] at hget
  have Hget := Lib.hid hget
  have Hk6 := Lib.hid hk6
  have Hb6 := Lib.hid hb6
  clear hget e8 hk6 hb6 hn6 hfr6 Hop Hb5 Hlow5 hs5
  go_wp2_with fail
  refine Hget.out.mono ?_
  rintro e w7 ⟨⟨v7, rfl, hown7⟩, hb7⟩
  obtain ⟨A7, c7, rfl, _⟩ := hown7.form
  have hkeys := kkeys_ok w.heap.size Fp6 kb6 g D5 J5 _ n6 G2 w7 (Hk6.out.grow hb7) hn6'
  have Hkeys := Lib.hid hkeys
  have Hb7 := Lib.hid (below_call Hb6.out hb7)
  clear hkeys hb7 hown7 Hget
  go_wp2_with fail
  refine Hkeys.out.mono ?_
  rintro e w8 ⟨⟨v8, ys, rfl, hys, _, hown8⟩, hb8⟩
  rw [HG2e.out] at hys
  obtain rfl := liv_keys ys hys
  obtain ⟨q, cap, cur, rfl, hq, hblk, _, _, htk⟩ := hown8.cons_form
  have e0 : w8.cell? ⟨q, 0, none⟩ = some (.int .u64 8) := by
    rw [hblk.cell, ← Array.getElem?_toList]
    have := congrArg (fun l => l[0]?) htk
    simpa [numV] using this
  have Hb8 := Lib.hid (below_call Hb7.out hb8)
  clear hb8 hown8 hblk htk hys Hkeys Hb7 Hb6
  go_wp2
  go_ret
  exact ⟨rfl, Hb8.out⟩
end Go.Proofs.YtdmbmkjiffhbcaaGreat
