/-
  The walk of PathJoins.
-/
import Derived.Test.YtfnoaofjkadilaaDoorPaLives
import Derived.Test.YtfnoaofjkadilaaDoorKinds2
namespace Go.Proofs.YtfnoaofjkadilaaDoor
open Go.RowKit
set_option maxRecDepth 100000

theorem short_many {L : List (List UInt8)} (h : shortB L = true) : L.length ≤ 40 ∧ ∀ p, p ∈ L → p.length ≤ 200 := by
  unfold shortB at h
  simp at h
  exact h
set_option maxHeartbeats 4000000 in
theorem pathjoins_walk (v : Value) (L : List (List UInt8)) (w : World) (hv : IsL kStr w (fun _ => True) v L) (he : Env w) :
    Calls Tryd.prog 4 #[v] w fun e w' => e = .returned (.bool true) ∧ Below w.heap.size w w' := by
  obtain ⟨A, c, ds, rfl, hLc, hcm, hrd, hmany⟩ := hv
  obtain ⟨rfl, _⟩ := kStr_cells hmany
  have HL := Lib.hid hrd
  have He := Lib.hid he
  clear hrd hmany he
  go_enter Tryd.func4, Tryd.ntmps4
  go_wp2_with fail
  refine (lives_any w He.out).mono ?_
  rintro e w1 ⟨rfl, hb1⟩
  have hsh := short_any (fun _ => True) A c L w1 (HL.out.grow hb1)
  obtain ⟨B, hB⟩ : ∃ B, B = shortB L := ⟨_, rfl⟩
  rw [← hB] at hsh
  have Hsh := Lib.hid hsh
  clear hsh
  go_wp2_with fail
  refine Hsh.out.mono ?_
  rintro e w2 ⟨rfl, rfl⟩
  cases B with
  | false =>
    clear hB
    go_wp2_with fail
    refine (lives_any _ (He.out.grow hb1)).mono ?_
    rintro e w3 ⟨rfl, hb3⟩
    go_wp2_with fail
    go_ret
    exact ⟨rfl, below_call hb1 hb3⟩
  | true =>
    obtain ⟨hn, hpl⟩ := short_many hB.symm
    have hpl2 : ∀ p, p ∈ L → p.length ≤ 1000 := fun p hp => by have := hpl p hp; omega
    have Hpl := Lib.hid hpl
    have hj := pjoin_any (fun _ => True) A c L hLc (by omega) hpl2 w1 (HL.out.grow hb1)
    have hr := fun w3 (h : Below w1.heap.size w1 w3) => refjoin_any (fun _ => True) A c L (by omega) hpl2 w3 ((HL.out.grow hb1).grow h)
    have hSl : (pathT L).length ≤ 2000001 := by have := join_le (by omega) hpl2; show (47 :: Lib.join L [47]).length ≤ _; simp; omega
    have hJ : refJ L = pathT L := by
      by_cases h0 : L = []
      · rw [refJ_nil h0, h0]; rfl
      · exact refJ_more h0
    have hS0 : L = [] → pathT L = [47] := fun h => by rw [h]; rfl
    rw [hJ] at hr
    obtain ⟨S, hS⟩ : ∃ S, S = pathT L := ⟨_, rfl⟩
    rw [← hS] at hj hr hSl hS0
    have HS := Lib.hid hS
    have Hj := Lib.hid hj
    have Hr := Lib.hid hr
    have hss : (S != S) = false := by simp
    clear hB Hsh hj hr hpl hpl2 hS hJ
    go_wp2_with fail
    refine Hj.out.mono ?_
    rintro e w3 ⟨rfl, hb3⟩
    have hb03 := below_call hb1 hb3
    go_wp2_with fail
    refine (Hr.out _ hb3).mono ?_
    rintro e w4 ⟨rfl, rfl⟩
    have hzero : (L.length = 0 ∧ S = [47]) ∨ 0 < L.length := by
      rcases Nat.eq_zero_or_pos L.length with h | h
      · exact .inl ⟨h, hS0 (List.length_eq_zero_iff.1 h)⟩
      · exact .inr h
    clear hS0
    by_cases h10 : L.length ≤ 10
    · by_cases h120 : S.length ≤ 120
      · have q10 : (L.length : Int) ≤ 10 := by omega
        have q120 : (S.length : Int) ≤ 120 := by omega
        rcases hzero with ⟨hz, hz2⟩ | hz
        · have ez : ((L.length : Int) == 0) = true := by rw [beq_iff_eq]; omega
          have nz : ¬ (0 : Int) < (L.length : Int) := by omega
          have hs47 : (S == [47]) = true := by rw [hz2]; rfl
          have hs48 : (S != [47]) = false := by rw [hz2]; rfl
          clear hz hz2
          go_wp2_with fail
          go_loopw [4, 47] (fun f i wr => ∃ (k : Nat) (F : Bool), k ≤ L.length ∧ f = .bool F ∧ i = .int .i64 (k : Int) ∧ F = (true && (L.take k).all partB) ∧ Below w.heap.size w wr) (fun _ i _ => L.length - (intOf i).toNat)
          case atStart => exact ⟨0, true, by omega, by first | rfl | (rw [decide_eq_false (by omega)]), rfl, rfl, hb03⟩
          case round =>
            obtain ⟨k, F, hk, rfl, rfl, hF, hbw⟩ := hrel
            have HF := Lib.hid hF
            clear hF
            by_cases hlt : k < L.length
            · obtain ⟨b, off, rfl, hc⟩ := cells_at hbw HL.out (by intro e; subst e; simp at hlt)
              have hck := hc k hlt
              have hXl : L[k].length ≤ 400 := by have := Hpl.out _ (List.getElem_mem hlt); omega
              have hnx : ∀ P, P = partB L[k] → (F && P) = (true && (L.take (k + 1)).all partB) := fun P hP => by
                rw [HF.out, hP, List.take_succ_eq_append_getElem hlt, List.all_append, Bool.and_assoc]
                simp
              have hpart := fun z => refpart_any L[k] hXl z
              generalize L[k] = X at hck hXl hnx hpart
              obtain ⟨P, hP⟩ : ∃ P, P = partB X := ⟨_, rfl⟩
              rw [← hP] at hpart
              have hn := hnx P hP
              have Hn := Lib.hid hn
              have Hpart := Lib.hid hpart
              clear hc hnx hn hpart hP hXl
              cases F with
              | false =>
                go_wp2_with fail
                go_roundw
                case rel => exact ⟨k + 1, false, by omega, rfl, by go_num, Hn.out, hbw⟩
                case measure => simp [intOf]; omega
              | true =>
                go_wp2_with fail
                refine (Hpart.out _).mono ?_
                rintro e w5 ⟨rfl, hb5⟩
                go_wp2_with fail
                go_roundw
                case rel => exact ⟨k + 1, P, by omega, rfl, by go_num, Hn.out, below_call hbw hb5⟩
                case measure => simp [intOf]; omega
            · obtain rfl : k = L.length := by omega
              have hF := HF.out
              rw [List.take_length] at hF
              have hgood : F = true → splitV S = some L := fun h => by
                rw [h] at hF
                rw [HS.out]
                exact path_split (by omega) (by rw [← HS.out]; omega) (List.all_eq_true.1 (by simpa using hF.symm))
              have Hgood := Lib.hid hgood
              clear hF hgood HF
              go_wp2_with fail
              refine (psplit_any S _ (He.out.grow hbw)).mono ?_
              rintro e w6 ⟨hb6, hcase⟩
              have hb06 := below_call hbw hb6
              cases F with
              | false =>
                rcases hcase with ⟨X, A', c', hX, hXc, hcm', rfl, hrX⟩ | ⟨hX, rfl⟩
                · clear hX hrX
                  go_wp2_with fail
                  go_ret
                  exact ⟨rfl, hb06⟩
                · clear hX
                  go_wp2_with fail
                  go_ret
                  exact ⟨rfl, hb06⟩
              | true =>
                rcases hcase with ⟨X, A', c', hX, hXc, hcm', rfl, hrX⟩ | ⟨hX, rfl⟩
                · rw [Hgood.out rfl] at hX
                  obtain rfl := Option.some.inj hX
                  have hsame := same_any (fun _ => True) (fun _ => True) A' A c' c L L w6 hrX ((HL.out.weaken fun _ _ => trivial).grow hb06) (by omega)
                  have Hsame := Lib.hid hsame
                  have ht : (L == L) = true := beq_self_eq_true L
                  have Ht := Lib.hid ht
                  clear hX hrX hsame ht
                  go_wp2_with fail
                  refine Hsame.out.mono ?_
                  rintro e w7 ⟨rfl, hb7⟩
                  rw [Ht.out]
                  go_wp2_with fail
                  go_ret
                  exact ⟨rfl, below_call hb06 hb7⟩
                · rw [Hgood.out rfl] at hX
                  cases hX
        · have ez : ((L.length : Int) == 0) = false := by rw [beq_eq_false_iff_ne]; omega
          have nz : (0 : Int) < (L.length : Int) := by omega
          go_wp2_with fail
          go_loopw [4, 47] (fun f i wr => ∃ (k : Nat) (F : Bool), k ≤ L.length ∧ f = .bool F ∧ i = .int .i64 (k : Int) ∧ F = (true && (L.take k).all partB) ∧ Below w.heap.size w wr) (fun _ i _ => L.length - (intOf i).toNat)
          case atStart => exact ⟨0, true, by omega, by first | rfl | (rw [decide_eq_false (by omega)]), rfl, rfl, hb03⟩
          case round =>
            obtain ⟨k, F, hk, rfl, rfl, hF, hbw⟩ := hrel
            have HF := Lib.hid hF
            clear hF
            by_cases hlt : k < L.length
            · obtain ⟨b, off, rfl, hc⟩ := cells_at hbw HL.out (by intro e; subst e; simp at hlt)
              have hck := hc k hlt
              have hXl : L[k].length ≤ 400 := by have := Hpl.out _ (List.getElem_mem hlt); omega
              have hnx : ∀ P, P = partB L[k] → (F && P) = (true && (L.take (k + 1)).all partB) := fun P hP => by
                rw [HF.out, hP, List.take_succ_eq_append_getElem hlt, List.all_append, Bool.and_assoc]
                simp
              have hpart := fun z => refpart_any L[k] hXl z
              generalize L[k] = X at hck hXl hnx hpart
              obtain ⟨P, hP⟩ : ∃ P, P = partB X := ⟨_, rfl⟩
              rw [← hP] at hpart
              have hn := hnx P hP
              have Hn := Lib.hid hn
              have Hpart := Lib.hid hpart
              clear hc hnx hn hpart hP hXl
              cases F with
              | false =>
                go_wp2_with fail
                go_roundw
                case rel => exact ⟨k + 1, false, by omega, rfl, by go_num, Hn.out, hbw⟩
                case measure => simp [intOf]; omega
              | true =>
                go_wp2_with fail
                refine (Hpart.out _).mono ?_
                rintro e w5 ⟨rfl, hb5⟩
                go_wp2_with fail
                go_roundw
                case rel => exact ⟨k + 1, P, by omega, rfl, by go_num, Hn.out, below_call hbw hb5⟩
                case measure => simp [intOf]; omega
            · obtain rfl : k = L.length := by omega
              have hF := HF.out
              rw [List.take_length] at hF
              have hgood : F = true → splitV S = some L := fun h => by
                rw [h] at hF
                rw [HS.out]
                exact path_split (by omega) (by rw [← HS.out]; omega) (List.all_eq_true.1 (by simpa using hF.symm))
              have Hgood := Lib.hid hgood
              clear hF hgood HF
              go_wp2_with fail
              refine (psplit_any S _ (He.out.grow hbw)).mono ?_
              rintro e w6 ⟨hb6, hcase⟩
              have hb06 := below_call hbw hb6
              cases F with
              | false =>
                rcases hcase with ⟨X, A', c', hX, hXc, hcm', rfl, hrX⟩ | ⟨hX, rfl⟩
                · clear hX hrX
                  go_wp2_with fail
                  go_ret
                  exact ⟨rfl, hb06⟩
                · clear hX
                  go_wp2_with fail
                  go_ret
                  exact ⟨rfl, hb06⟩
              | true =>
                rcases hcase with ⟨X, A', c', hX, hXc, hcm', rfl, hrX⟩ | ⟨hX, rfl⟩
                · rw [Hgood.out rfl] at hX
                  obtain rfl := Option.some.inj hX
                  have hsame := same_any (fun _ => True) (fun _ => True) A' A c' c L L w6 hrX ((HL.out.weaken fun _ _ => trivial).grow hb06) (by omega)
                  have Hsame := Lib.hid hsame
                  have ht : (L == L) = true := beq_self_eq_true L
                  have Ht := Lib.hid ht
                  clear hX hrX hsame ht
                  go_wp2_with fail
                  refine Hsame.out.mono ?_
                  rintro e w7 ⟨rfl, hb7⟩
                  rw [Ht.out]
                  go_wp2_with fail
                  go_ret
                  exact ⟨rfl, below_call hb06 hb7⟩
                · rw [Hgood.out rfl] at hX
                  cases hX
      · have q10 : (L.length : Int) ≤ 10 := by omega
        have q120 : ¬ (S.length : Int) ≤ 120 := by omega
        rcases hzero with ⟨hz, hz2⟩ | hz
        · have ez : ((L.length : Int) == 0) = true := by rw [beq_iff_eq]; omega
          have nz : ¬ (0 : Int) < (L.length : Int) := by omega
          have hs47 : (S == [47]) = true := by rw [hz2]; rfl
          have hs48 : (S != [47]) = false := by rw [hz2]; rfl
          clear hz hz2
          go_wp2_with fail
          go_loopw [4, 47] (fun f i wr => ∃ (k : Nat) (F : Bool), k ≤ L.length ∧ f = .bool F ∧ i = .int .i64 (k : Int) ∧ F = (false && (L.take k).all partB) ∧ Below w.heap.size w wr) (fun _ i _ => L.length - (intOf i).toNat)
          case atStart => exact ⟨0, false, by omega, by first | rfl | (rw [decide_eq_false (by omega)]), rfl, rfl, hb03⟩
          case round =>
            obtain ⟨k, F, hk, rfl, rfl, hF, hbw⟩ := hrel
            have HF := Lib.hid hF
            clear hF
            by_cases hlt : k < L.length
            · obtain ⟨b, off, rfl, hc⟩ := cells_at hbw HL.out (by intro e; subst e; simp at hlt)
              have hck := hc k hlt
              have hXl : L[k].length ≤ 400 := by have := Hpl.out _ (List.getElem_mem hlt); omega
              have hnx : ∀ P, P = partB L[k] → (F && P) = (false && (L.take (k + 1)).all partB) := fun P hP => by
                rw [HF.out, hP, List.take_succ_eq_append_getElem hlt, List.all_append, Bool.and_assoc]
                simp
              have hpart := fun z => refpart_any L[k] hXl z
              generalize L[k] = X at hck hXl hnx hpart
              obtain ⟨P, hP⟩ : ∃ P, P = partB X := ⟨_, rfl⟩
              rw [← hP] at hpart
              have hn := hnx P hP
              have Hn := Lib.hid hn
              have Hpart := Lib.hid hpart
              clear hc hnx hn hpart hP hXl
              cases F with
              | false =>
                go_wp2_with fail
                go_roundw
                case rel => exact ⟨k + 1, false, by omega, rfl, by go_num, Hn.out, hbw⟩
                case measure => simp [intOf]; omega
              | true =>
                go_wp2_with fail
                refine (Hpart.out _).mono ?_
                rintro e w5 ⟨rfl, hb5⟩
                go_wp2_with fail
                go_roundw
                case rel => exact ⟨k + 1, P, by omega, rfl, by go_num, Hn.out, below_call hbw hb5⟩
                case measure => simp [intOf]; omega
            · obtain rfl : k = L.length := by omega
              have hF := HF.out
              rw [List.take_length] at hF
              have hgood : F = true → splitV S = some L := fun h => by
                rw [h] at hF
                exact absurd hF (by simp)
              have Hgood := Lib.hid hgood
              clear hF hgood HF
              go_wp2_with fail
              refine (psplit_any S _ (He.out.grow hbw)).mono ?_
              rintro e w6 ⟨hb6, hcase⟩
              have hb06 := below_call hbw hb6
              cases F with
              | false =>
                rcases hcase with ⟨X, A', c', hX, hXc, hcm', rfl, hrX⟩ | ⟨hX, rfl⟩
                · clear hX hrX
                  go_wp2_with fail
                  go_ret
                  exact ⟨rfl, hb06⟩
                · clear hX
                  go_wp2_with fail
                  go_ret
                  exact ⟨rfl, hb06⟩
              | true =>
                rcases hcase with ⟨X, A', c', hX, hXc, hcm', rfl, hrX⟩ | ⟨hX, rfl⟩
                · rw [Hgood.out rfl] at hX
                  obtain rfl := Option.some.inj hX
                  have hsame := same_any (fun _ => True) (fun _ => True) A' A c' c L L w6 hrX ((HL.out.weaken fun _ _ => trivial).grow hb06) (by omega)
                  have Hsame := Lib.hid hsame
                  have ht : (L == L) = true := beq_self_eq_true L
                  have Ht := Lib.hid ht
                  clear hX hrX hsame ht
                  go_wp2_with fail
                  refine Hsame.out.mono ?_
                  rintro e w7 ⟨rfl, hb7⟩
                  rw [Ht.out]
                  go_wp2_with fail
                  go_ret
                  exact ⟨rfl, below_call hb06 hb7⟩
                · rw [Hgood.out rfl] at hX
                  cases hX
        · have ez : ((L.length : Int) == 0) = false := by rw [beq_eq_false_iff_ne]; omega
          have nz : (0 : Int) < (L.length : Int) := by omega
          go_wp2_with fail
          go_loopw [4, 47] (fun f i wr => ∃ (k : Nat) (F : Bool), k ≤ L.length ∧ f = .bool F ∧ i = .int .i64 (k : Int) ∧ F = (false && (L.take k).all partB) ∧ Below w.heap.size w wr) (fun _ i _ => L.length - (intOf i).toNat)
          case atStart => exact ⟨0, false, by omega, by first | rfl | (rw [decide_eq_false (by omega)]), rfl, rfl, hb03⟩
          case round =>
            obtain ⟨k, F, hk, rfl, rfl, hF, hbw⟩ := hrel
            have HF := Lib.hid hF
            clear hF
            by_cases hlt : k < L.length
            · obtain ⟨b, off, rfl, hc⟩ := cells_at hbw HL.out (by intro e; subst e; simp at hlt)
              have hck := hc k hlt
              have hXl : L[k].length ≤ 400 := by have := Hpl.out _ (List.getElem_mem hlt); omega
              have hnx : ∀ P, P = partB L[k] → (F && P) = (false && (L.take (k + 1)).all partB) := fun P hP => by
                rw [HF.out, hP, List.take_succ_eq_append_getElem hlt, List.all_append, Bool.and_assoc]
                simp
              have hpart := fun z => refpart_any L[k] hXl z
              generalize L[k] = X at hck hXl hnx hpart
              obtain ⟨P, hP⟩ : ∃ P, P = partB X := ⟨_, rfl⟩
              rw [← hP] at hpart
              have hn := hnx P hP
              have Hn := Lib.hid hn
              have Hpart := Lib.hid hpart
              clear hc hnx hn hpart hP hXl
              cases F with
              | false =>
                go_wp2_with fail
                go_roundw
                case rel => exact ⟨k + 1, false, by omega, rfl, by go_num, Hn.out, hbw⟩
                case measure => simp [intOf]; omega
              | true =>
                go_wp2_with fail
                refine (Hpart.out _).mono ?_
                rintro e w5 ⟨rfl, hb5⟩
                go_wp2_with fail
                go_roundw
                case rel => exact ⟨k + 1, P, by omega, rfl, by go_num, Hn.out, below_call hbw hb5⟩
                case measure => simp [intOf]; omega
            · obtain rfl : k = L.length := by omega
              have hF := HF.out
              rw [List.take_length] at hF
              have hgood : F = true → splitV S = some L := fun h => by
                rw [h] at hF
                exact absurd hF (by simp)
              have Hgood := Lib.hid hgood
              clear hF hgood HF
              go_wp2_with fail
              refine (psplit_any S _ (He.out.grow hbw)).mono ?_
              rintro e w6 ⟨hb6, hcase⟩
              have hb06 := below_call hbw hb6
              cases F with
              | false =>
                rcases hcase with ⟨X, A', c', hX, hXc, hcm', rfl, hrX⟩ | ⟨hX, rfl⟩
                · clear hX hrX
                  go_wp2_with fail
                  go_ret
                  exact ⟨rfl, hb06⟩
                · clear hX
                  go_wp2_with fail
                  go_ret
                  exact ⟨rfl, hb06⟩
              | true =>
                rcases hcase with ⟨X, A', c', hX, hXc, hcm', rfl, hrX⟩ | ⟨hX, rfl⟩
                · rw [Hgood.out rfl] at hX
                  obtain rfl := Option.some.inj hX
                  have hsame := same_any (fun _ => True) (fun _ => True) A' A c' c L L w6 hrX ((HL.out.weaken fun _ _ => trivial).grow hb06) (by omega)
                  have Hsame := Lib.hid hsame
                  have ht : (L == L) = true := beq_self_eq_true L
                  have Ht := Lib.hid ht
                  clear hX hrX hsame ht
                  go_wp2_with fail
                  refine Hsame.out.mono ?_
                  rintro e w7 ⟨rfl, hb7⟩
                  rw [Ht.out]
                  go_wp2_with fail
                  go_ret
                  exact ⟨rfl, below_call hb06 hb7⟩
                · rw [Hgood.out rfl] at hX
                  cases hX
    · have q10 : ¬ (L.length : Int) ≤ 10 := by omega
      have hz : 0 < L.length := by omega
      clear hzero
      have ez : ((L.length : Int) == 0) = false := by rw [beq_eq_false_iff_ne]; omega
      have nz : (0 : Int) < (L.length : Int) := by omega
      go_wp2_with fail
      go_loopw [4, 47] (fun f i wr => ∃ (k : Nat) (F : Bool), k ≤ L.length ∧ f = .bool F ∧ i = .int .i64 (k : Int) ∧ F = (false && (L.take k).all partB) ∧ Below w.heap.size w wr) (fun _ i _ => L.length - (intOf i).toNat)
      case atStart => exact ⟨0, false, by omega, by first | rfl | (rw [decide_eq_false (by omega)]), rfl, rfl, hb03⟩
      case round =>
        obtain ⟨k, F, hk, rfl, rfl, hF, hbw⟩ := hrel
        have HF := Lib.hid hF
        clear hF
        by_cases hlt : k < L.length
        · obtain ⟨b, off, rfl, hc⟩ := cells_at hbw HL.out (by intro e; subst e; simp at hlt)
          have hck := hc k hlt
          have hXl : L[k].length ≤ 400 := by have := Hpl.out _ (List.getElem_mem hlt); omega
          have hnx : ∀ P, P = partB L[k] → (F && P) = (false && (L.take (k + 1)).all partB) := fun P hP => by
            rw [HF.out, hP, List.take_succ_eq_append_getElem hlt, List.all_append, Bool.and_assoc]
            simp
          have hpart := fun z => refpart_any L[k] hXl z
          generalize L[k] = X at hck hXl hnx hpart
          obtain ⟨P, hP⟩ : ∃ P, P = partB X := ⟨_, rfl⟩
          rw [← hP] at hpart
          have hn := hnx P hP
          have Hn := Lib.hid hn
          have Hpart := Lib.hid hpart
          clear hc hnx hn hpart hP hXl
          cases F with
          | false =>
            go_wp2_with fail
            go_roundw
            case rel => exact ⟨k + 1, false, by omega, rfl, by go_num, Hn.out, hbw⟩
            case measure => simp [intOf]; omega
          | true =>
            go_wp2_with fail
            refine (Hpart.out _).mono ?_
            rintro e w5 ⟨rfl, hb5⟩
            go_wp2_with fail
            go_roundw
            case rel => exact ⟨k + 1, P, by omega, rfl, by go_num, Hn.out, below_call hbw hb5⟩
            case measure => simp [intOf]; omega
        · obtain rfl : k = L.length := by omega
          have hF := HF.out
          rw [List.take_length] at hF
          have hgood : F = true → splitV S = some L := fun h => by
            rw [h] at hF
            exact absurd hF (by simp)
          have Hgood := Lib.hid hgood
          clear hF hgood HF
          go_wp2_with fail
          refine (psplit_any S _ (He.out.grow hbw)).mono ?_
          rintro e w6 ⟨hb6, hcase⟩
          have hb06 := below_call hbw hb6
          cases F with
          | false =>
            rcases hcase with ⟨X, A', c', hX, hXc, hcm', rfl, hrX⟩ | ⟨hX, rfl⟩
            · clear hX hrX
              go_wp2_with fail
              go_ret
              exact ⟨rfl, hb06⟩
            · clear hX
              go_wp2_with fail
              go_ret
              exact ⟨rfl, hb06⟩
          | true =>
            rcases hcase with ⟨X, A', c', hX, hXc, hcm', rfl, hrX⟩ | ⟨hX, rfl⟩
            · rw [Hgood.out rfl] at hX
              obtain rfl := Option.some.inj hX
              have hsame := same_any (fun _ => True) (fun _ => True) A' A c' c L L w6 hrX ((HL.out.weaken fun _ _ => trivial).grow hb06) (by omega)
              have Hsame := Lib.hid hsame
              have ht : (L == L) = true := beq_self_eq_true L
              have Ht := Lib.hid ht
              clear hX hrX hsame ht
              go_wp2_with fail
              refine Hsame.out.mono ?_
              rintro e w7 ⟨rfl, hb7⟩
              rw [Ht.out]
              go_wp2_with fail
              go_ret
              exact ⟨rfl, below_call hb06 hb7⟩
            · rw [Hgood.out rfl] at hX
              cases hX
end Go.Proofs.YtfnoaofjkadilaaDoor
