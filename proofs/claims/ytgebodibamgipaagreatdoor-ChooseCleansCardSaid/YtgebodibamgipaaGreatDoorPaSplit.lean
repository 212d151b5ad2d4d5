/-
  path.Split, path.Join and path.Within.
-/
import Derived.Test.YtgebodibamgipaaGreatDoorPaText
import Derived.Test.YtgebodibamgipaaGreatDoorPaRefRest
namespace Go.Proofs.YtgebodibamgipaaGreatDoor
open Go.RowKit
set_option maxRecDepth 100000

theorem strprefix_any (l : List UInt8) (w : World) : Calls Tryz.prog 34 #[.string ⟨l.toArray⟩, .string ⟨#[47]⟩] w fun e w' => e = .returned (.bool (l.head? == some 47)) ∧ w = w' := by
  have e : Lib.hasPrefix l [47] = (l.head? == some 47) := by
    cases l with
    | nil => rfl
    | cons a r =>
      show ([47] : List UInt8).isPrefixOf (a :: r) = (some a == some 47)
      rw [Bool.eq_iff_iff]
      simp [List.isPrefixOf]
      exact eq_comm
  refine (Tryz.strings_HasPrefix ⟨l.toArray⟩ ⟨#[47]⟩ w).mono ?_
  rintro e' w' ⟨rfl, rfl⟩
  exact ⟨by rw [← e], rfl⟩
theorem splitB_list (l : List UInt8) : Lib.splitB ⟨#[47]⟩ 0 (Lib.countB ⟨l.toArray⟩ ⟨#[47]⟩) ⟨l.toArray⟩ = (spl l).map fun x => ⟨x.toArray⟩ := by
  have h := Lib.splitB_data ⟨#[47]⟩ 0 (Lib.countB ⟨l.toArray⟩ ⟨#[47]⟩) ⟨l.toArray⟩
  have h2 : (Lib.splitB ⟨#[47]⟩ 0 (Lib.countB ⟨l.toArray⟩ ⟨#[47]⟩) ⟨l.toArray⟩).map (·.data.toList) = spl l := h
  rw [← h2, List.map_map]
  conv => lhs; rw [← List.map_id (Lib.splitB _ _ _ _)]
  apply List.map_congr_left
  intro x _
  apply ByteArray.ext
  simp
theorem strsplit_any (l : List UInt8) (hl : l.length ≤ 400) (w : World) (he : Env w) :
    Calls Tryz.prog 35 #[.string ⟨l.toArray⟩, .string ⟨#[47]⟩] w fun e w' => e = .returned (.slice (some ⟨w.heap.size, 0, none⟩) (spl l).length (spl l).length) ∧ w' = w.alloc (.cells ((spl l).map str).toArray 9) := by
  obtain ⟨m, hm⟩ := he.len
  have h := Tryz.strings_Split ⟨l.toArray⟩ ⟨#[47]⟩ m w (by show l.toArray.size < _; simp; omega) hm (by decide)
  have hlen : Lib.countB ⟨l.toArray⟩ ⟨#[47]⟩ + 1 = (spl l).length := by
    have h1 := Lib.splitB_all ⟨#[47]⟩ (by decide) 0 _ ⟨l.toArray⟩ rfl
    rw [splitB_list, List.length_map] at h1
    exact h1.symm
  refine h.mono ?_
  rintro e w' ⟨rfl, rfl⟩
  rw [splitB_list, hlen, List.map_map]
  exact ⟨rfl, rfl⟩

theorem psplit_head (s : List UInt8) (w : World) (hw : s = [47] ∨ s = [] ∨ (s.isEmpty = false ∧ (s == [47]) = false ∧ 120 < s.length) ∨ (∃ h : 0 < s.length, s.isEmpty = false ∧ (s == [47]) = false ∧ s.length ≤ 120 ∧ s[0].toNat ≠ 47)) :
    Calls Tryz.prog 24 #[.string ⟨s.toArray⟩] w (SplitPost s w) := by
  rcases hw with rfl | rfl | ⟨h0, h1, h2⟩ | ⟨h, h0, h1, h2, h3⟩
  · go_enter Tryz.func24, Tryz.ntmps24
    go_wp2
    go_ret2
    exact ⟨Below.refl _ _, .inl ⟨[], none, 0, rfl, Nat.le_refl _, Nat.zero_le _, rfl, Rd.nil⟩⟩
  · have hp := strprefix_any [] w
    have Hp := Lib.hid hp
    clear hp
    go_enter Tryz.func24, Tryz.ntmps24
    go_wp2_with fail
    refine Hp.out.mono ?_
    rintro e w1 ⟨rfl, rfl⟩
    go_wp2_with fail
    go_ret2
    exact ⟨Below.refl _ _, .inr ⟨splitV_head (.inl rfl), rfl⟩⟩
  · have hres := splitV_head (s := s) (.inr (.inl h2))
    have Hres := Lib.hid hres
    clear hres
    go_enter Tryz.func24, Tryz.ntmps24
    go_wp2
    go_ret2
    exact ⟨Below.refl _ _, .inr ⟨Hres.out, rfl⟩⟩
  · have hne : s.head? ≠ some 47 := by
      rw [head_at h]
      intro e
      rw [Option.some.inj e] at h3
      exact h3 rfl
    have hres := splitV_head (s := s) (.inr (.inr hne))
    have Hres := Lib.hid hres
    have hp := strprefix_any s w
    have hf : (s.head? == some 47) = false := beq_eq_false_iff_ne.2 hne
    rw [hf] at hp
    have Hp := Lib.hid hp
    clear hres hp hf hne h3
    go_enter Tryz.func24, Tryz.ntmps24
    go_wp2_with fail
    refine Hp.out.mono ?_
    rintro e w1 ⟨rfl, rfl⟩
    go_wp2_with fail
    go_ret2
    exact ⟨Below.refl _ _, .inr ⟨Hres.out, rfl⟩⟩

set_option maxHeartbeats 4000000 in
theorem psplit_any (s : List UInt8) (w : World) (he : Env w) : Calls Tryz.prog 24 #[.string ⟨s.toArray⟩] w (SplitPost s w) := by
  rcases split_ways s with h | h | h | h | ⟨h, h0, h1, h2, h3⟩
  · exact psplit_head s w (.inl h)
  · exact psplit_head s w (.inr (.inl h))
  · exact psplit_head s w (.inr (.inr (.inl h)))
  · exact psplit_head s w (.inr (.inr (.inr h)))
  · have hne : s ≠ [47] := by intro e; subst e; cases h1
    have hhd : s.head? = some 47 := by rw [head_at h, byte_of s[0] h3]; rfl
    have hp := strprefix_any s w
    have ht : (s.head? == some 47) = true := by rw [hhd]; rfl
    rw [ht] at hp
    have hbad := fun X => splitV_bad (s := s) (X := X) hne
    have hlong := splitV_long (s := s) hne
    have hgood := fun L => splitV_good (s := s) (L := L) hne h2 hhd
    have hx : (⟨s.toArray⟩ : ByteArray).extract 1 s.length = ⟨(s.drop 1).toArray⟩ := by rw [ba_extract, List.take_length]
    have hTl : (s.drop 1).length ≤ 400 := by rw [List.length_drop]; omega
    have hpl : ∀ p, p ∈ spl (s.drop 1) → p.length ≤ 400 := fun p hp => by
      have := Lib.joinTail_length
      have hj := join_spl (s.drop 1)
      obtain ⟨a, r, har⟩ : ∃ a r, spl (s.drop 1) = a :: r := by
        cases hs : spl (s.drop 1) with
        | nil => exact absurd hs (spl_ne _)
        | cons a r => exact ⟨a, r, rfl⟩
      have hjl := Lib.join_length a r [47]
      rw [← har, hj] at hjl
      have hm : p.length ≤ Lib.lens (spl (s.drop 1)) := by
        obtain ⟨k, hk, rfl⟩ := List.getElem_of_mem hp
        have h5 := Lib.lens_take_succ (spl (s.drop 1)) k _ (List.getElem?_eq_getElem hk)
        have h6 := Lib.lens_take_le (spl (s.drop 1)) (k + 1)
        omega
      omega
    have hsp := fun z hz => strsplit_any (s.drop 1) hTl z hz
    obtain ⟨T, hT⟩ : ∃ T, T = s.drop 1 := ⟨_, rfl⟩
    obtain ⟨L, hL⟩ : ∃ L, L = spl (s.drop 1) := ⟨_, rfl⟩
    rw [← hL] at hbad hlong hpl
    have hgood2 := hgood L hL.symm
    have hsp2 : ∀ z, Env z → Calls Tryz.prog 35 #[.string ⟨T.toArray⟩, .string ⟨#[47]⟩] z fun e w' => e = .returned (.slice (some ⟨z.heap.size, 0, none⟩) L.length L.length) ∧ w' = z.alloc (.cells (L.map str).toArray 9) := by
      rw [hL, hT]; exact hsp
    rw [← hT] at hx
    have Hsp := Lib.hid hsp2
    have Hp := Lib.hid hp
    have Hbad := Lib.hid hbad
    have Hlong := Lib.hid hlong
    have Hgood := Lib.hid hgood2
    have Hpl := Lib.hid hpl
    have He := Lib.hid he
    clear hbad hlong hgood hgood2 hhd hne hp ht hsp hsp2 hpl hTl hT hL h3 he
    go_enter Tryz.func24, Tryz.ntmps24
    go_wp2_with fail
    refine Hp.out.mono ?_
    rintro e w1 ⟨rfl, rfl⟩
    go_wp2_with fail
    refine (Hsp.out _ He.out).mono ?_
    rintro e w1 ⟨rfl, rfl⟩
    have hbel : Below w.heap.size w (w.alloc (.cells (L.map str).toArray 9)) := (Below.refl _ _).alloc (Nat.le_refl _) _
    have hblk : Blk (w.alloc (.cells (L.map str).toArray 9)) w.heap.size 9 (L.map str).toArray := Blk.new w _ _
    by_cases hL10 : 10 < L.length
    · have hres := Hlong.out hL10
      have Hres := Lib.hid hres
      have hgt : (10 : Int) < (L.length : Int) := by omega
      clear hres hblk
      go_wp2_with fail
      go_ret2
      exact ⟨hbel, .inr ⟨Hres.out, rfl⟩⟩
    · have hngt : ¬ (10 : Int) < (L.length : Int) := by omega
      have Hblk := Lib.hid hblk
      clear hblk
      go_wp2_with fail
      go_loopw [25] (fun i wr => ∃ k : Nat, k ≤ L.length ∧ i = .int .i64 (k : Int) ∧ (∀ j (hj : j < L.length), j < k → partB L[j] = true) ∧ Blk wr w.heap.size 9 (L.map str).toArray ∧ Below w.heap.size w wr) (fun i _ => L.length - (intOf i).toNat)
      case atStart => exact ⟨0, by omega, rfl, fun j hj h => by omega, Hblk.out, hbel⟩
      case round =>
        obtain ⟨k, hk, rfl, hall, hb, hbw⟩ := hrel
        have Hall := Lib.hid hall
        have Hb := Lib.hid hb
        clear hall hb hbel Hblk
        by_cases hlt : k < L.length
        · have hck : wr.cell? ⟨w.heap.size, k, none⟩ = some (.string ⟨L[k].toArray⟩) := by rw [Hb.out.cell]; simp [hlt, str]
          have hXl := Hpl.out L[k] (List.getElem_mem hlt)
          have hnb := Hbad.out L[k] (List.getElem_mem hlt)
          have hnx : partB L[k] = true → ∀ j (hj : j < L.length), j < k + 1 → partB L[j] = true := fun h j hj h2 => by
            by_cases e : j = k
            · subst e; exact h
            · exact Hall.out j hj (by omega)
          have hset : ((L.map str).toArray).setIfInBounds k (.string ⟨L[k].toArray⟩) = (L.map str).toArray := by
            apply Array.ext_getElem?
            intro j
            rw [Array.getElem?_setIfInBounds]
            by_cases e : k = j
            · subst e; simp [hlt, str]
            · rw [if_neg e]
          have hget : ((L.map str).toArray)[k]? = some (.string ⟨L[k].toArray⟩) := by simp [hlt, str]
          generalize L[k] = X at hck hXl hnb hnx hset hget
          have hpart := fun z hz => part_any X hXl z hz
          generalize partB X = P at hpart hnb hnx
          have hcl := fun z => strclone_any X hXl z
          have Hpart := Lib.hid hpart
          have Hnb := Lib.hid hnb
          have Hnx := Lib.hid hnx
          have Hset := Lib.hid hset
          have Hget := Lib.hid hget
          have Hcl := Lib.hid hcl
          clear hpart hnb hnx hset hcl hget
          go_wp2_with fail
          refine (Hpart.out _ (He.out.grow hbw)).mono ?_
          rintro e w2 ⟨rfl, hb2⟩
          have hb02 := below_call hbw hb2
          have Hb2 := Lib.hid (Hb.out.grow hb2)
          cases P with
          | false =>
            have hres := Hnb.out rfl
            have Hres := Lib.hid hres
            clear hres
            go_wp2_with fail
            go_ret2
            exact ⟨hb02, .inr ⟨Hres.out, rfl⟩⟩
          | true =>
            go_wp2_with fail
            refine (Hcl.out _).mono ?_
            rintro e w3 ⟨rfl, hb3⟩
            have hb03 := below_call hb02 hb3
            have Hb3 := Lib.hid (Hb2.out.grow hb3)
            have hc3 : w3.cell? ⟨w.heap.size, k, none⟩ = some (.string ⟨X.toArray⟩) := by rw [Hb3.out.cell]; exact Hget.out
            have hf3 := Hb3.out.frozen k
            have hs3 := Hb3.out.set_ k (.string ⟨X.toArray⟩)
            rw [Hset.out] at hs3
            have hb04 := hb03.setCell (p := ⟨w.heap.size, k, none⟩) (Nat.le_refl _) (.string ⟨X.toArray⟩)
            have Hs3 := Lib.hid hs3
            have Hb04 := Lib.hid hb04
            clear hs3 hb04 hck
            go_wp2_with fail
            go_roundw
            case rel => exact ⟨k + 1, by omega, by go_num, Hnx.out (by trivial), Hs3.out, Hb04.out⟩
            case measure => simp [intOf]; omega
        · have hres := Hgood.out (by omega) fun X hX => by
            obtain ⟨j, hj, rfl⟩ := List.getElem_of_mem hX
            exact Hall.out j hj (by omega)
          have Hres := Lib.hid hres
          have hrd : Rd wr (fun _ => True) (some ⟨w.heap.size, 0, none⟩) (L.map str) := by
            have := Hb.out.rd (fun _ => True) trivial
            simpa using this
          have Hrd := Lib.hid hrd
          clear hres hrd
          go_wp2_with fail
          go_ret2
          exact ⟨hbw, .inl ⟨L, _, _, Hres.out, Nat.le_refl _, by unfold maxLen; omega, rfl, Hrd.out⟩⟩

theorem lens_le {L : List (List UInt8)} (h : ∀ p, p ∈ L → p.length ≤ 1000) : Lib.lens L ≤ 1000 * L.length := by
  unfold Lib.lens
  induction L with
  | nil => simp
  | cons a r ih =>
    have h1 := ih fun p hp => h p (by simp [hp])
    have h2 := h a (by simp)
    simp only [List.map_cons, List.sum_cons, List.length_cons] at h1 ⊢
    omega
theorem join_le {L : List (List UInt8)} (hn : L.length ≤ 1000) (h : ∀ p, p ∈ L → p.length ≤ 1000) : (Lib.join L [47]).length ≤ 2000000 := by
  cases L with
  | nil => simp [Lib.join_nil]
  | cons a r =>
    rw [Lib.join_length]
    have h1 := lens_le h
    have h2 : 1000 * (a :: r).length ≤ 1000 * 1000 := Nat.mul_le_mul_left _ hn
    simp at hn ⊢
    omega
theorem bytes_inj {a b : List (List UInt8)} : (a.map fun l => (⟨l.toArray⟩ : ByteArray)) = (b.map fun l => (⟨l.toArray⟩ : ByteArray)) ↔ a = b := by
  constructor
  · intro h
    have := congrArg (List.map (·.data.toList)) h
    simpa [List.map_map, Function.comp_def] using this
  · rintro rfl; rfl
/-- slices.Equal over the first of some texts and all of others. -/
theorem sleq_any (ok ok' : Nat → Prop) (A B : Option Addr) (c d : Nat) (X Y : List (List UInt8)) (hxy : Y.length ≤ X.length) (hx : X.length ≤ 1000) (w : World) (hX : Rd w ok A (X.map str)) (hY : Rd w ok' B (Y.map str)) :
    Calls Tryz.prog 28 #[.slice A Y.length c, .slice B Y.length d] w fun e w' => e = .returned (.bool (Y.isPrefixOf X)) ∧ Below w.heap.size w w' := by
  by_cases h0 : Y = []
  · subst h0
    have h := Tryz.slices_Equal_string_empty A B c 0 d w (by omega)
    refine h.mono ?_
    rintro e w' ⟨rfl, hw⟩
    refine ⟨?_, by rw [hw]; exact Below.refl _ _⟩
    have e : ([] : List (List UInt8)).isPrefixOf X = true := by cases X <;> rfl
    rw [e]
    rfl
  · have hx0 : X ≠ [] := by
      rintro rfl
      exact h0 (List.length_eq_zero_iff.1 (by simpa using hxy))
    obtain ⟨b, off, rfl, hc1⟩ := cells_at (Below.refl _ w) hX hx0
    obtain ⟨b', off', rfl, hc2⟩ := cells_at (Below.refl _ w) hY h0
    have h := Tryz.slices_Equal_string b off Y.length c b' off' Y.length d (X.map fun l => (⟨l.toArray⟩ : ByteArray)) (Y.map fun l => (⟨l.toArray⟩ : ByteArray)) w (by rw [List.length_map]; exact hxy) (by rw [List.length_map]; exact Nat.le_refl _) (by omega) (by omega)
      (fun j hj => by rw [List.length_map] at hj; rw [hc1 j hj]; simp [List.getD_eq_getElem?_getD, hj])
      (fun j hj => by rw [List.length_map] at hj; rw [hc2 j hj]; simp [List.getD_eq_getElem?_getD, hj])
    refine h.mono ?_
    rintro e w' ⟨rfl, q, rfl⟩
    refine ⟨?_, below_drewN (Below.refl _ _) q⟩
    congr 2
    rw [Bool.eq_iff_iff, decide_eq_true_iff, List.isPrefixOf_iff_prefix, List.prefix_iff_eq_take, ← List.map_take, ← List.map_take, List.take_length, bytes_inj]
    exact eq_comm
set_option maxHeartbeats 1000000 in
theorem pwithin_any (s t : List UInt8) (w : World) (he : Env w) : Calls Tryz.prog 16 #[.string ⟨s.toArray⟩, .string ⟨t.toArray⟩] w fun e w' => e = .returned (.bool (withinV s t)) ∧ Below w.heap.size w w' := by
  obtain ⟨B, hB⟩ : ∃ B, B = withinV s t := ⟨_, rfl⟩
  rw [← hB]
  have HB := Lib.hid hB
  have He := Lib.hid he
  clear hB he
  go_enter Tryz.func16, Tryz.ntmps16
  go_wp2_with fail
  refine (psplit_any s w He.out).mono ?_
  rintro e w1 ⟨hb1, hcase⟩
  rcases hcase with ⟨X, A, c, hX, hXc, hcm, rfl, hrX⟩ | ⟨hX, rfl⟩
  · have HX := Lib.hid hX
    have HrX := Lib.hid hrX
    clear hX hrX
    go_wp2_with fail
    refine (psplit_any t w1 (He.out.grow hb1)).mono ?_
    rintro e w2 ⟨hb2, hcase⟩
    have hb02 := below_call hb1 hb2
    rcases hcase with ⟨Y, A', c', hY, hYc, hcm', rfl, hrY⟩ | ⟨hY, rfl⟩
    · have hval := within_some HX.out hY
      rw [← HB.out] at hval
      by_cases hlen : X.length < Y.length
      · have hb : B = false := by
          rw [hval]
          cases h : Y.isPrefixOf X with
          | false => rfl
          | true => have := (List.isPrefixOf_iff_prefix.1 h).length_le; omega
        subst hb
        have hgt : (X.length : Int) < (Y.length : Int) := by omega
        clear hval hY hrY
        go_wp2_with fail
        go_ret
        exact ⟨rfl, hb02⟩
      · have hle : Y.length ≤ X.length := by omega
        have hngt : ¬ (X.length : Int) < (Y.length : Int) := by omega
        have hYcI : (Y.length : Int) ≤ (c : Int) := by omega
        have hcall := fun c2 => sleq_any (fun _ => True) (fun _ => True) A A' c2 c' X Y hle (split_few HX.out) w2 (HrX.out.grow hb2) hrY
        rw [← hval] at hcall
        have Hcall := Lib.hid hcall
        clear hcall hval hY hrY
        unfold maxLen at hcm
        go_wp2_with fail
        refine (Hcall.out _).mono ?_
        rintro e w3 ⟨rfl, hb3⟩
        go_wp2_with fail
        go_ret
        exact ⟨rfl, below_call hb02 hb3⟩
    · have hb : B = false := by rw [HB.out]; exact within_right hY
      subst hb
      clear hY
      go_wp2_with fail
      go_ret
      exact ⟨rfl, hb02⟩
  · have hb : B = false := by rw [HB.out]; exact within_left hX
    subst hb
    clear hX
    go_wp2_with fail
    go_ret
    exact ⟨rfl, hb1⟩
end Go.Proofs.YtgebodibamgipaaGreatDoor
