/-
  The document's Split.
-/
import Derived.Test.YtgebodibamgipaaGreatDoorPaRef
namespace Go.Proofs.YtgebodibamgipaaGreatDoor
open Go.RowKit
set_option maxRecDepth 100000

theorem elemS : ElemT Tryz.prog 22 9 16 := ElemT.mk_ (z := .string ByteArray.empty) Tryz.underlying22 (by kernel_rfl) rfl

/-! ### Pieces -/
theorem piece_free {s : List UInt8} {f k : Nat} (h : ∀ j (hj : j < s.length), f ≤ j → j < k → s[j].toNat ≠ 47) : ∀ b, b ∈ (s.take k).drop f → b ≠ 47 := fun b hb e => by
  obtain ⟨j, hj, rfl⟩ := List.getElem_of_mem hb
  rw [List.length_drop, List.length_take] at hj
  rw [List.getElem_drop, List.getElem_take] at e
  exact h (f + j) (by omega) (by omega) (by omega) (by rw [e]; rfl)
theorem piece_step {s : List UInt8} {f k : Nat} (hf : f ≤ k) (hk : k < s.length) (hc : s[k].toNat = 47) (h : ∀ j (hj : j < s.length), f ≤ j → j < k → s[j].toNat ≠ 47) : spl (s.drop f) = (s.take k).drop f :: spl (s.drop (k + 1)) := by
  have e : s.drop f = (s.take k).drop f ++ 47 :: s.drop (k + 1) := by
    have h1 := drop_get s k hk
    have h2 : s[k] = 47 := by rw [byte_of s[k] hc]; rfl
    rw [h2] at h1
    rw [← h1]
    have h3 : s.drop k = (s.drop f).drop (k - f) := by rw [List.drop_drop]; congr 1; omega
    rw [h3, List.drop_take, List.take_append_drop]
  rw [e, spl_more _ (piece_free h)]
theorem piece_last {s : List UInt8} {f : Nat} (h : ∀ j (hj : j < s.length), f ≤ j → j < s.length → s[j].toNat ≠ 47) : spl (s.drop f) = [(s.take s.length).drop f] := by
  rw [List.take_length]
  have := piece_free h
  rw [List.take_length] at this
  exact spl_one this
theorem splitV_bad {s X : List UInt8} (h0 : s ≠ [47]) (hX : X ∈ spl (s.drop 1)) (hp : partB X = false) : splitV s = none := by
  unfold splitV
  rw [if_neg h0, if_neg]
  rintro ⟨_, _, _, h⟩
  rw [List.drop_one] at hX
  rw [List.all_eq_true.1 h X hX] at hp
  cases hp
theorem splitV_long {s : List UInt8} (h0 : s ≠ [47]) (hl : 10 < (spl (s.drop 1)).length) : splitV s = none := by
  unfold splitV
  rw [if_neg h0, if_neg]
  rintro ⟨_, _, h, _⟩
  rw [List.drop_one] at hl
  omega
theorem splitV_good {s : List UInt8} {L : List (List UInt8)} (h0 : s ≠ [47]) (h1 : s.length ≤ 120) (h2 : s.head? = some 47) (hL : spl (s.drop 1) = L) (hl : L.length ≤ 10) (hp : ∀ X, X ∈ L → partB X = true) : splitV s = some L := by
  rw [List.drop_one] at hL
  unfold splitV
  rw [if_neg h0, hL, if_pos ⟨h1, h2, hl, List.all_eq_true.2 hp⟩]
theorem splitV_head {s : List UInt8} (h : s = [] ∨ 120 < s.length ∨ s.head? ≠ some 47) : splitV s = none := by
  unfold splitV
  rw [if_neg, if_neg]
  · rintro ⟨h1, h2, _⟩
    rcases h with rfl | h | h
    · cases h2
    · omega
    · exact h h2
  · rintro rfl
    rcases h with h | h | h
    · cases h
    · simp at h
    · exact h rfl
/-- The ways in which a text is no path ahead of its parts. -/
theorem split_ways (s : List UInt8) : s = [47] ∨ s = [] ∨ (s.isEmpty = false ∧ (s == [47]) = false ∧ 120 < s.length) ∨ (∃ h : 0 < s.length, s.isEmpty = false ∧ (s == [47]) = false ∧ s.length ≤ 120 ∧ s[0].toNat ≠ 47) ∨ (∃ h : 0 < s.length, s.isEmpty = false ∧ (s == [47]) = false ∧ s.length ≤ 120 ∧ s[0].toNat = 47) := by
  by_cases h1 : s = [47]
  · exact .inl h1
  · have e1 : (s == [47]) = false := beq_eq_false_iff_ne.2 h1
    by_cases h2 : s = []
    · exact .inr (.inl h2)
    · have h0 : 0 < s.length := List.length_pos_iff.2 h2
      have e2 : s.isEmpty = false := by simpa using h2
      by_cases h3 : 120 < s.length
      · exact .inr (.inr (.inl ⟨e2, e1, h3⟩))
      · by_cases h4 : s[0].toNat = 47
        · exact .inr (.inr (.inr (.inr ⟨h0, e2, e1, by omega, h4⟩)))
        · exact .inr (.inr (.inr (.inl ⟨h0, e2, e1, by omega, h4⟩)))
theorem head_at {s : List UInt8} (h : 0 < s.length) : s.head? = some s[0] := by
  cases s with
  | nil => simp at h
  | cons a r => rfl

/-- What a Split answers: the parts, or that there are none. -/
def SplitPost (s : List UInt8) (w : World) (e : Ending) (w' : World) : Prop :=
  Below w.heap.size w w' ∧ ((∃ L A c, splitV s = some L ∧ L.length ≤ c ∧ c ≤ maxLen ∧ e = .returned (.tuple #[.slice A L.length c, .int .i64 0]) ∧ Rd w' (fun _ => True) A (L.map str)) ∨ (splitV s = none ∧ e = .returned (.tuple #[.slice none 0 0, .int .i64 20])))

theorem refsplit_head (s : List UInt8) (w : World) (hw : s = [47] ∨ s = [] ∨ (s.isEmpty = false ∧ (s == [47]) = false ∧ 120 < s.length) ∨ (∃ h : 0 < s.length, s.isEmpty = false ∧ (s == [47]) = false ∧ s.length ≤ 120 ∧ s[0].toNat ≠ 47)) :
    Calls Tryz.prog 30 #[.string ⟨s.toArray⟩] w (SplitPost s w) := by
  rcases hw with rfl | rfl | ⟨h0, h1, h2⟩ | ⟨h, h0, h1, h2, h3⟩
  · go_enter Tryz.func30, Tryz.ntmps30
    go_wp2
    go_ret2
    exact ⟨Below.refl _ _, .inl ⟨[], none, 0, rfl, Nat.le_refl _, Nat.zero_le _, rfl, Rd.nil⟩⟩
  · go_enter Tryz.func30, Tryz.ntmps30
    go_wp2
    go_ret2
    exact ⟨Below.refl _ _, .inr ⟨splitV_head (.inl rfl), rfl⟩⟩
  · have hres := splitV_head (s := s) (.inr (.inl h2))
    have Hres := Lib.hid hres
    clear hres
    go_enter Tryz.func30, Tryz.ntmps30
    go_wp2
    go_ret2
    exact ⟨Below.refl _ _, .inr ⟨Hres.out, rfl⟩⟩
  · have hres := splitV_head (s := s) (.inr (.inr (by
      rw [head_at h]
      intro e
      rw [Option.some.inj e] at h3
      exact h3 rfl)))
    have Hres := Lib.hid hres
    obtain ⟨c, hc⟩ : ∃ c, c = s[0].toNat := ⟨_, rfl⟩
    have hidx := byte_index s 0 h c hc
    have hne : ((c : Int) != 47) = true := by rw [bne_iff_ne]; omega
    have hidx2 : ∀ w : World, (Instr.index 9 (.string ⟨s.toArray⟩) (.int .i64 0)).run Tryz.prog w = .ok (.int .u8 (c : Int)) w := hidx
    clear hres hc h3 hidx
    go_enter Tryz.func30, Tryz.ntmps30
    go_wp2
    go_ret2
    exact ⟨Below.refl _ _, .inr ⟨Hres.out, rfl⟩⟩

set_option maxHeartbeats 4000000 in
theorem refsplit_any (s : List UInt8) (w : World) : Calls Tryz.prog 30 #[.string ⟨s.toArray⟩] w (SplitPost s w) := by
  rcases split_ways s with h | h | h | h | ⟨h, h0, h1, h2, h3⟩
  · exact refsplit_head s w (.inl h)
  · exact refsplit_head s w (.inr (.inl h))
  · exact refsplit_head s w (.inr (.inr (.inl h)))
  · exact refsplit_head s w (.inr (.inr (.inr h)))
  · have hne : s ≠ [47] := by intro e; subst e; cases h1
    have hhd : s.head? = some 47 := by rw [head_at h, byte_of s[0] h3]; rfl
    have hbad := fun X => splitV_bad (s := s) (X := X) hne
    have hlong := splitV_long (s := s) hne
    have hgood := fun L => splitV_good (s := s) (L := L) hne h2 hhd
    have hidx0 := byte_index s 0 h 47 h3.symm
    have hidx2 : ∀ w : World, (Instr.index 9 (.string ⟨s.toArray⟩) (.int .i64 0)).run Tryz.prog w = .ok (.int .u8 47) w := hidx0
    have Hbad := Lib.hid hbad
    have Hlong := Lib.hid hlong
    have Hgood := Lib.hid hgood
    clear hbad hlong hgood hhd hne hidx0 h3
    go_enter Tryz.func30, Tryz.ntmps30
    go_wp2_with fail
    go_loopw [4, 5, 6] (fun v f i wr => ∃ (L : List (List UInt8)) (fr k : Nat), f = .int .i64 (fr : Int) ∧ i = .int .i64 (k : Int) ∧ 1 ≤ fr ∧ fr ≤ k ∧ L.length ≤ 10 ∧ (∀ X, X ∈ L → partB X = true) ∧ Own1 wr w.heap.size 9 v (L.map str) ∧ Below w.heap.size w wr ∧
      ((k ≤ s.length ∧ spl (s.drop 1) = L ++ spl (s.drop fr) ∧ ∀ j (hj : j < s.length), fr ≤ j → j < k → s[j].toNat ≠ 47) ∨ (k = s.length + 1 ∧ spl (s.drop 1) = L))) (fun _ _ i _ => s.length + 1 - (intOf i).toNat)
    case atStart => exact ⟨[], 1, 1, rfl, rfl, by omega, by omega, by simp, fun X hX => (by cases hX), Own1.nil _ _ _, Below.refl _ _, .inl ⟨by omega, rfl, fun j hj h1 h2 => by omega⟩⟩
    case round =>
      obtain ⟨L, fr, k, rfl, rfl, hf1, hfk, hL, hparts, hown, hbel, hcase⟩ := hrel
      have Hparts := Lib.hid hparts
      clear hparts
      rcases hcase with ⟨hk, hspl, hfree⟩ | ⟨rfl, hspl⟩
      · by_cases hmid : ∃ hlt : k < s.length, s[k].toNat ≠ 47
        · obtain ⟨hlt, hc47⟩ := hmid
          obtain ⟨c, hc⟩ : ∃ c, c = s[k].toNat := ⟨_, rfl⟩
          have hidx := byte_index s k hlt c hc
          rw [← hc] at hc47
          have hne : ((c : Int) != 47) = true := by rw [bne_iff_ne]; omega
          have hfree2 : ∀ j (hj : j < s.length), fr ≤ j → j < k + 1 → s[j].toNat ≠ 47 := fun j hj h1 h2 => by
            by_cases e : j = k
            · subst e; rw [← hc]; exact hc47
            · exact hfree j hj h1 (by omega)
          have Hfree := Lib.hid hfree2
          have Hspl := Lib.hid hspl
          clear hfree hfree2 hspl hc hc47
          go_wp2_with fail
          go_roundw
          case rel => exact ⟨L, fr, k + 1, rfl, by go_num, hf1, by omega, hL, Hparts.out, hown, hbel, .inl ⟨by omega, Hspl.out, Hfree.out⟩⟩
          case measure => simp [intOf]; omega
        · -- a piece ends here
          have hend : (∃ hlt : k < s.length, s[k].toNat = 47) ∨ k = s.length := by
            by_cases hlt : k < s.length
            · by_cases hc : s[k].toNat = 47
              · exact .inl ⟨hlt, hc⟩
              · exact absurd ⟨hlt, hc⟩ hmid
            · exact .inr (by omega)
          obtain ⟨X, hX⟩ : ∃ X, X = (s.take k).drop fr := ⟨_, rfl⟩
          have hnext : ∃ Z, spl (s.drop 1) = L ++ (X :: Z) ∧ ((k < s.length ∧ Z = spl (s.drop (k + 1))) ∨ (k = s.length ∧ Z = [])) := by
            rcases hend with ⟨hlt, hc⟩ | rfl
            · exact ⟨_, by rw [hspl, piece_step hfk hlt hc hfree, hX], .inl ⟨hlt, rfl⟩⟩
            · exact ⟨[], by rw [hspl, piece_last hfree, hX], .inr ⟨rfl, rfl⟩⟩
          obtain ⟨Z, hZ, hZc⟩ := hnext
          have hx : (⟨s.toArray⟩ : ByteArray).extract fr k = ⟨X.toArray⟩ := by rw [ba_extract, hX]
          have hXl : X.length ≤ 400 := by rw [hX, List.length_drop, List.length_take]; omega
          have hpart := fun z => refpart_any X hXl z
          have hnone := Hbad.out X (by rw [hZ]; simp)
          have hlong2 : L.length = 10 → splitV s = none := fun h => Hlong.out (by rw [hZ]; simp; omega)
          have hfr : fr ≤ s.length := by omega
          have hkI : (k : Int) ≤ (s.length : Int) := by omega
          have Hpart := Lib.hid hpart
          have Hnone := Lib.hid hnone
          have Hlong2 := Lib.hid hlong2
          have HZ := Lib.hid hZ
          have HZc := Lib.hid hZc
          have hidxk : k = s.length ∨ ∃ hlt : k < s.length, ∀ w : World, (Instr.index 9 (.string ⟨s.toArray⟩) (.int .i64 (k : Int))).run Tryz.prog w = .ok (.int .u8 47) w := by
            rcases hend with ⟨hlt, hc⟩ | h
            · exact .inr ⟨hlt, byte_index s k hlt 47 hc.symm⟩
            · exact .inl h
          clear hpart hnone hlong2 hZ hZc hX hspl hfree hend hmid
          obtain ⟨P, hP⟩ : ∃ P, P = partB X := ⟨_, rfl⟩
          rw [← hP] at Hpart Hnone
          have HP := Lib.hid hP
          clear hP
          have HL := Lib.hid hL
          obtain ⟨A, c, hv, hLc, hcm, hrd⟩ := hown.form
          rw [List.length_map] at hv hLc
          subst hv
          have Hown := Lib.hid hown
          clear hown hrd hL
          rcases hidxk with hkl | ⟨hlt, hidx⟩
          · subst hkl
            go_wp2_with fail
            refine (Hpart.out _).mono ?_
            rintro e w2 ⟨rfl, hb2⟩
            have hb02 := below_call hbel hb2
            have Hown2 := Lib.hid (Hown.out.grow hb2)
            cases P with
            | false =>
              have hres := Hnone.out rfl
              have Hres := Lib.hid hres
              clear hres
              go_wp2_with fail
              go_ret2
              exact ⟨hb02, .inr ⟨Hres.out, rfl⟩⟩
            | true =>
              by_cases h10 : L.length = 10
              · have hres := Hlong2.out h10
                have Hres := Lib.hid hres
                have heq : ((L.length : Int) == 10) = true := by rw [beq_iff_eq]; omega
                clear hres
                go_wp2_with fail
                go_ret2
                exact ⟨hb02, .inr ⟨Hres.out, rfl⟩⟩
              · have hne : ((L.length : Int) == 10) = false := by rw [beq_eq_false_iff_ne]; omega
                have hne2 : ¬ (L.length : Int) = 10 := by omega
                have hL9 : L.length < 10 := by have := HL.out; omega
                clear h10
                go_wp2_with (at_builtin; refine wpList_app1_one _ elemS rfl (.tmp 48) (.tmp 53) rfl w.heap.size _ _ rfl Hown2.out (str X) _ rfl rfl (by simp; omega) (by simp; omega) hb02.size ?_; intro v2 w4 hown3 hg3 hat3)
                go_roundw
                case rel =>
                  refine ⟨L ++ [X], s.length + 1, s.length + 1, by go_num, by go_num, by omega, by omega, by simp; omega, fun Y hY => ?_, by rw [List.map_append]; exact hown3, hb02.trans (Hown2.out.below_of hg3 hb02.size (Nat.le_refl _)), ?_⟩
                  · rcases List.mem_append.1 hY with hY | hY
                    · exact Hparts.out Y hY
                    · rw [List.mem_singleton.1 hY]; exact HP.out.symm
                  · rcases HZc.out with ⟨h1, h2⟩ | ⟨h1, h2⟩
                    · exact .inl ⟨by omega, by rw [HZ.out, h2]; simp, fun j hj h3 h4 => by omega⟩
                    · exact .inr ⟨by omega, by rw [HZ.out, h2]⟩
                case measure => simp [intOf]
          · have hk2 : (k : Int) < (s.length : Int) := by omega
            go_wp2_with fail
            refine (Hpart.out _).mono ?_
            rintro e w2 ⟨rfl, hb2⟩
            have hb02 := below_call hbel hb2
            have Hown2 := Lib.hid (Hown.out.grow hb2)
            cases P with
            | false =>
              have hres := Hnone.out rfl
              have Hres := Lib.hid hres
              clear hres
              go_wp2_with fail
              go_ret2
              exact ⟨hb02, .inr ⟨Hres.out, rfl⟩⟩
            | true =>
              by_cases h10 : L.length = 10
              · have hres := Hlong2.out h10
                have Hres := Lib.hid hres
                have heq : ((L.length : Int) == 10) = true := by rw [beq_iff_eq]; omega
                clear hres
                go_wp2_with fail
                go_ret2
                exact ⟨hb02, .inr ⟨Hres.out, rfl⟩⟩
              · have hne : ((L.length : Int) == 10) = false := by rw [beq_eq_false_iff_ne]; omega
                have hne2 : ¬ (L.length : Int) = 10 := by omega
                have hL9 : L.length < 10 := by have := HL.out; omega
                clear h10
                go_wp2_with (at_builtin; refine wpList_app1_one _ elemS rfl (.tmp 48) (.tmp 53) rfl w.heap.size _ _ rfl Hown2.out (str X) _ rfl rfl (by simp; omega) (by simp; omega) hb02.size ?_; intro v2 w4 hown3 hg3 hat3)
                go_roundw
                case rel =>
                  refine ⟨L ++ [X], k + 1, k + 1, by go_num, by go_num, by omega, by omega, by simp; omega, fun Y hY => ?_, by rw [List.map_append]; exact hown3, hb02.trans (Hown2.out.below_of hg3 hb02.size (Nat.le_refl _)), ?_⟩
                  · rcases List.mem_append.1 hY with hY | hY
                    · exact Hparts.out Y hY
                    · rw [List.mem_singleton.1 hY]; exact HP.out.symm
                  · rcases HZc.out with ⟨h1, h2⟩ | ⟨h1, h2⟩
                    · exact .inl ⟨by omega, by rw [HZ.out, h2]; simp, fun j hj h3 h4 => by omega⟩
                    · exact .inr ⟨by omega, by rw [HZ.out, h2]⟩
                case measure => simp [intOf]; omega
      · have hres := Hgood.out L hspl hL Hparts.out
        obtain ⟨A, c, hv, hLc, hcm, hrd⟩ := hown.form
        rw [List.length_map] at hv hLc
        subst hv
        have Hres := Lib.hid hres
        have Hrd := Lib.hid (hrd.weaken (ok' := fun _ => True) fun _ _ => trivial)
        clear hres hown hspl hrd
        go_wp2_with fail
        go_ret2
        exact ⟨hbel, .inl ⟨L, A, c, Hres.out, hLc, hcm, rfl, Hrd.out⟩⟩
end Go.Proofs.YtgebodibamgipaaGreatDoor
