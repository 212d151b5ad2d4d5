/-
  The walk of CodecOwn.
-/
import Derived.Test.YtkhhihkcgpfmfaaOwnKit
import Derived.Test.YtkhhihkcgpfmfaaPack
namespace Go.Proofs.Ytkhhihkcgpfmfaa
open Go.RowKit
set_option maxRecDepth 100000

set_option maxHeartbeats 1000000 in
theorem codecown_few (L : List (List UInt8)) (v : Value) (ok : Nat → Prop) (w : World) (hv : IsBB w ok v L) (hf : fewV L = false) :
    Calls Try.prog 6 #[v] w fun e w' => e = .returned (.bool true) ∧ Below w.heap.size w w' := by
  have Hv := Lib.hid hv
  have Hf := Lib.hid hf
  clear hv hf
  go_enter Try.func6, Try.ntmps6
  go_wp2_with fail
  refine (lives_any _).mono ?_
  rintro e w1 ⟨rfl, hb1⟩
  go_wp2_with fail
  refine (few_any ok _ L _ (Hv.out.grow hb1)).mono ?_
  rintro e w2 ⟨rfl, hb2⟩
  rw [Hf.out]
  have hb12 := below_call hb1 hb2
  go_wp2_with fail
  refine (lives_any _).mono ?_
  rintro e w3 ⟨rfl, hb3⟩
  go_wp2_with fail
  go_ret
  exact ⟨rfl, below_call hb12 hb3⟩

set_option maxHeartbeats 1000000 in
theorem codecown_short (L : List (List UInt8)) (v : Value) (ok : Nat → Prop) (w : World) (hv : IsBB w ok v L) (hfew : fewV L = true) :
    Calls Try.prog 6 #[v] w fun e w' => e = .returned (.bool true) ∧ Below w.heap.size w w' := by
  have Hv := Lib.hid hv
  clear hv
  obtain ⟨hsum, hshort⟩ := fewV_le L hfew
  have hpl := packB_length_le L
  have hn : L.length ≤ 3000 := by omega
  have hpk : (packB L).length ≤ 12000 := by omega
  have hall : ∀ f ∈ L, f.length ≤ 65535 := fun f hf => by have := hshort f hf; omega
  have Hf := Lib.hid hfew
  have Hall := Lib.hid hall
  clear hfew hall hsum hshort hpl
  obtain ⟨A0, c0, hv0, hc0, hm0, _⟩ := Hv.out.elem
  subst hv0
  unfold maxLen at hm0
  go_enter Try.func6, Try.ntmps6
  go_wp2_with fail
  refine (lives_any _).mono ?_
  rintro e w1 ⟨rfl, hb1⟩
  go_wp2_with fail
  refine (few_any ok _ L _ (Hv.out.grow hb1)).mono ?_
  rintro e w2 ⟨rfl, hb2⟩
  rw [Hf.out]
  have hb12 := below_call hb1 hb2
  obtain ⟨A', c', _, _, _, hel⟩ := (Hv.out.grow hb12).elem
  have Hel := Lib.hid hel
  clear hel
  go_wp2_with fail
  go_loopw [3, 23] (fun x i wr => ∃ k : Nat, k ≤ L.length ∧ i = .int .i64 (k : Int) ∧ OwnRows wr w2.heap.size x (L.take k) ∧ Below w2.heap.size w2 wr) (fun _ i _ => L.length - (intOf i).toNat)
  case atStart => exact ⟨0, by omega, rfl, OwnRows.nil _ _, Below.refl _ _⟩
  case round =>
    obtain ⟨k, hk, rfl, hown, hbel⟩ := hrel
    by_cases hlt : k < L.length
    · obtain ⟨b, off, rfl, _, had, hel⟩ := Hel.out (by intro e; subst e; simp at hlt)
      obtain ⟨Ai, ci, hcell, hci, hcm, hrd⟩ := hel k hlt
      have hcell' : wr.cell? ⟨b, off + k, none⟩ = some (.slice Ai L[k].length ci) := (hbel.cell (p := ⟨b, off + k, none⟩) had).trans hcell
      clear hel
      have hfl := Hall.out _ (List.getElem_mem hlt)
      have hrd1 := (hrd.grow hbel).grow ((Below.refl _ wr).alloc (Nat.le_refl _) (.cells #[] 5))
      clear hcell hcm hrd
      obtain ⟨vs, ho, hl, he⟩ := hown
      have hle : w2.heap.size ≤ wr.heap.size := hbel.size
      have Ho := Lib.hid ho
      have Hl := Lib.hid hl
      have He := Lib.hid he
      have hvl : vs.length ≤ 3000 := by rw [hl, List.length_take]; omega
      clear ho hl he
      go_wp2_with (first | (at_builtin; refine wpList_app1 _ elemB rfl (.tmp 28) (.tmp 29) rfl wr.heap.size _ [] rfl (Own1.empty wr 5) ok Ai L[k].length ci (L[k].map u8) (List.length_map _) rfl hrd1 (u8_oneCell _) ?_ ?_ ?_ ?_; rotate_right; intro v4 w4 hown4 hg4 hat4; rw [List.nil_append] at hown4; have hb4 : Below wr.heap.size wr w4 := ((Below.refl _ wr).alloc (Nat.le_refl _) _).trans ((Own1.empty wr 5).below_of hg4 (by simp) (Nat.le_refl _)); have hownz := hown4.mono hle; obtain ⟨A4, c4, hv4, _, _, _⟩ := hown4.form; rw [List.length_map] at hv4; subst hv4) | (at_builtin; refine wpList_app1_one _ elemBB rfl (.tmp 27) (.tmp 31) rfl w2.heap.size _ vs rfl (Ho.out.grow hb4) (.slice A4 _ c4) _ rfl rfl ?_ ?_ ?_ ?_; rotate_right; intro v5 w5 hown5 hg5 hat5))
      case refine_1 => omega
      case refine_2 => omega
      case refine_3 => exact Nat.le_trans hle hb4.size
      case refine_1 => simp; omega
      case refine_2 => simp; omega
      case refine_3 => simp
      go_roundw
      case rel =>
        refine ⟨k + 1, by omega, by go_num, ?_, (hbel.trans (hb4.mono hle)).trans ((Ho.out.grow hb4).below_of hg5 (Nat.le_trans hle hb4.size) (Nat.le_refl _))⟩
        rw [List.take_succ_eq_append_getElem hlt]
        exact OwnRows.snoc Ho.out Hl.out He.out hb4 hownz hown5 hg5
      case measure => simp [intOf]; omega
    · obtain rfl : k = L.length := by omega
      rw [List.take_length] at hown
      obtain ⟨wa, rfl⟩ : ∃ x, x = wr := ⟨wr, rfl⟩
      have hb1r := below_call hb12 hbel
      have hownB := hown.isBB
      obtain ⟨Ao, co, hxo, hco, hmo, _⟩ := hownB.elem
      subst hxo
      have HownB := Lib.hid hownB
      clear hownB hown
      go_wp2_with fail
      refine (pack_ok _ _ L _ HownB.out (by omega) Hall.out).mono ?_
      rintro e w3 ⟨x, rfl, hx, hb3⟩
      have hb13 := below_call hb1r hb3
      obtain ⟨Ax, cx, rfl, hxc, hxm, _⟩ := hx.isB
      have Hx := Lib.hid hx
      have hxB := hx.isB
      clear hx
      go_wp2_with fail
      refine (unpack_ok _ _ L (L.length : Int) rfl _ hxB (by omega) Hall.out).mono ?_
      rintro e w4 ⟨z, rfl, hz, hb4⟩
      have hb14 := below_call hb13 hb4
      have Hz := Lib.hid hz
      clear hxB hz
      go_wp2_with fail
      generalize hpl : (packB L).length = n at *
      go_loopw [48] (fun i wq => ∃ (k : Nat) (l : List UInt8), k ≤ n ∧ i = .int .i64 (k : Int) ∧ l.length = n ∧ Own1 wq wa.heap.size 5 (.slice Ax n cx) (l.map u8) ∧ w4.grownBy wq (Value.slice Ax n cx).ownBlock) (fun i _ => n - (intOf i).toNat)
      case atStart => exact ⟨0, packB L, by omega, rfl, hpl, Hx.out.grow hb4, World.grownBy.refl _ _⟩
      case round =>
        obtain ⟨k, l, hk, rfl, hln, hol, hgq⟩ := hrel
        by_cases hlt : k < n
        · obtain ⟨g, cur, rfl, hgb, hblk, hcur⟩ := hol.addr (by intro e; have := congrArg List.length e; simp at this; subst this; simp at hln; omega)
          have hcell := hblk.cell k
          have hfz := hblk.frozen k
          rw [hcur k (by simpa [hln] using hlt), List.getElem_map] at hcell
          have hcell' : wr.cell? ⟨g, k, none⟩ = some (.int .u8 ((l[k]'(by omega)).toNat : Int)) := hcell
          clear hcell
          go_wp2
          go_roundw
          case rel =>
            refine ⟨k + 1, l.set k (l[k]'(by omega) + 1), by omega, by go_num, by simp [hln], ?_, hgq.trans (grownBy_cell _ _ _ _)⟩
            have hset := hol.set_ k (.int .u8 (((l[k]'(by omega)).toNat + 1 : Int) % 256))
            have he : (l.map u8).set k (.int .u8 (((l[k]'(by omega)).toNat + 1 : Int) % 256)) = (l.set k (l[k]'(by omega) + 1)).map u8 := by
              rw [List.map_set]
              congr 1
            rwa [he] at hset
          case measure => simp [intOf]; omega
        · obtain rfl : k = n := by omega
          obtain ⟨wb, rfl⟩ : ∃ x, x = wr := ⟨wr, rfl⟩
          have hb34 := hb3.trans (hb4.mono hb3.size)
          have hab : Below wa.heap.size wa wb := hb34.trans ((Hx.out.grow hb4).below_of hgq hb34.size (Nat.le_refl _))
          have hb1b := below_call hb1r hab
          have hownb := HownB.out.frame (w' := wb) fun j hj _ => hab.block j hj
          have hzb := Hz.out.keep (w' := wb) fun j h1 h2 => hgq.block j h2 fun e => by
            have := (Hx.out.lt j e.symm).2
            omega
          have Hzb := Lib.hid hzb
          have Hownb := Lib.hid hownb
          obtain ⟨Az, cz, hz', _, _, _⟩ := hzb.isBB.elem
          subst hz'
          clear hownb hzb
          go_wp2_with fail
          refine (texts_at _ _ L _ Hownb.out (by omega)).mono ?_
          rintro e w5 ⟨A5, c5, rfl, ho5, hr5, hb5⟩
          have hb15 := below_call hb1b hb5
          go_wp2_with fail
          refine (texts_at _ _ L _ (Hv.out.grow hb15) (by omega)).mono ?_
          rintro e w6 ⟨A6, c6, rfl, ho6, hr6, hb6⟩
          have hb16 := below_call hb15 hb6
          go_wp2_with fail
          refine (same_any _ _ A5 A6 c5 c6 L L _ (hr5.grow hb6) hr6 (by omega)).mono ?_
          rintro e w7 ⟨rfl, hb7⟩
          have hb17 := below_call hb16 hb7
          have hbb7 := below_call (below_call hb5 hb6) hb7
          rw [show (L == L) = true from by simp]
          go_wp2_with fail
          refine (texts_at _ _ L _ (Hzb.out.isBB.grow hbb7) (by omega)).mono ?_
          rintro e w8 ⟨A8, c8, rfl, ho8, hr8, hb8⟩
          have hb18 := below_call hb17 hb8
          go_wp2_with fail
          refine (texts_at _ _ L _ (Hv.out.grow hb18) (by omega)).mono ?_
          rintro e w9 ⟨A9, c9, rfl, ho9, hr9, hb9⟩
          have hb19 := below_call hb18 hb9
          go_wp2_with fail
          refine (same_any _ _ A8 A9 c8 c9 L L _ (hr8.grow hb9) hr9 (by omega)).mono ?_
          rintro e wc ⟨rfl, hbc⟩
          have hb1c := below_call hb19 hbc
          have hbbc := below_call (below_call (below_call hbb7 hb8) hb9) hbc
          rw [show (L == L) = true from by simp]
          go_wp2_with fail
          have hzc := Hzb.out.keep (w' := wc) fun j _ h2 => hbbc.block j h2
          have Hzc := Lib.hid hzc
          clear hzc
          go_loopw [78] (fun x wr => ∃ (k : Nat) (M : List (List UInt8)), k ≤ L.length ∧ x = .int .i64 (k : Int) ∧ M.map List.length = L.map List.length ∧ OwnBB wr w3.heap.size (.slice Az L.length cz) M ∧ Below w3.heap.size wc wr) (fun x _ => L.length - (intOf x).toNat)
          case atStart => exact ⟨0, L, by omega, rfl, rfl, Hzc.out, Below.refl _ _⟩
          case round =>
            obtain ⟨i, M, hi, rfl, hML, hM, hbM⟩ := hrel
            have hMl : M.length = L.length := by simpa using congrArg List.length hML
            by_cases hlt : i < L.length
            · have hiM : i < M.length := by omega
              obtain ⟨G, C, Ai, ci, hzz, hcell, hci, hcm, _⟩ := hM.at_ i hiM
              rw [hMl] at hzz
              cases hzz
              obtain ⟨n, hn'⟩ : ∃ n, n = M[i].length := ⟨_, rfl⟩
              rw [← hn'] at hcell hci
              have hcm' : ci ≤ 9223372036854775807 := by unfold maxLen at hcm; omega
              obtain ⟨wd, rfl⟩ : ∃ x, x = wr := ⟨wr, rfl⟩
              have HM := Lib.hid hM
              have HML := Lib.hid hML
              clear hM hML hcm
              go_wp2_with fail
              go_loopw [86] (fun x wr => ∃ (k : Nat) (M : List (List UInt8)), k ≤ n ∧ x = .int .i64 (k : Int) ∧ M.map List.length = L.map List.length ∧ (∀ h : i < M.length, M[i].length = n) ∧ OwnBB wr w3.heap.size (.slice (some ⟨G, 0, none⟩) L.length cz) M ∧ Below w3.heap.size wc wr) (fun x _ => n - (intOf x).toNat)
              case atStart => exact ⟨0, M, by omega, rfl, HML.out, fun _ => hn'.symm, HM.out, hbM⟩
              case round =>
                obtain ⟨k, N, hk, rfl, hNL, hNi, hN, hbN⟩ := hrel
                have hNl : N.length = L.length := by simpa using congrArg List.length hNL
                by_cases hkn : k < n
                · have hiN : i < N.length := by omega
                  obtain ⟨G', C', Bi, di, hzz, hcellN, hdi, hdm, hat⟩ := hN.at_ i hiN
                  rw [hNl] at hzz
                  cases hzz
                  have hNi' := hNi hiN
                  obtain ⟨g, rfl, hgb, hcb, hfz, hset⟩ := hat k (by omega)
                  rw [hNi'] at hcellN hdi
                  have hdm' : di ≤ 9223372036854775807 := by unfold maxLen at hdm; omega
                  have HN := Lib.hid hN
                  have HNL := Lib.hid hNL
                  have HNi := Lib.hid hNi
                  have Hset := Lib.hid hset
                  clear hN hNL hat hNi hset hdm
                  go_wp2
                  go_roundw
                  case rel =>
                    refine ⟨k + 1, N.set i (N[i].set k ((N[i]'hiN)[k]'(by omega) + 1)), by omega, by go_num, ?_, fun h => ?_, ?_, hbN.setCell hgb _⟩
                    · rw [lens_set]; exact HNL.out
                    · rw [List.getElem_set_self, List.length_set]; exact hNi'
                    · have := Hset.out ((N[i]'hiN)[k]'(by omega) + 1)
                      exact this
                  case measure => simp [intOf]; omega
                · obtain rfl : k = n := by omega
                  go_wp2
                  go_roundw
                  case rel => exact ⟨i + 1, N, by omega, by go_num, hNL, hN, hbN⟩
                  case measure => simp [intOf]; omega
            · obtain rfl : i = L.length := by omega
              obtain ⟨we, rfl⟩ : ∃ x, x = wr := ⟨wr, rfl⟩
              have hb1e := hb1c.trans (hbM.mono hb13.size)
              have hownr := (Hownb.out.grow hbbc).frame (w' := we) fun j hj _ => hbM.block j (Nat.lt_of_lt_of_le hj hb3.size)
              have Hownr := Lib.hid hownr
              clear hownr
              go_wp2_with fail
              refine (texts_at _ _ L _ Hownr.out (by omega)).mono ?_
              rintro e w10 ⟨A10, c10, rfl, ho10, hr10, hb10⟩
              have hb1f := below_call hb1e hb10
              go_wp2_with fail
              refine (texts_at _ _ L _ (Hv.out.grow hb1f) (by omega)).mono ?_
              rintro e w11 ⟨A11, c11, rfl, ho11, hr11, hb11⟩
              have hb1g := below_call hb1f hb11
              go_wp2_with fail
              refine (same_any _ _ A10 A11 c10 c11 L L _ (hr10.grow hb11) hr11 (by omega)).mono ?_
              rintro e wf ⟨rfl, hbf⟩
              go_wp2_with fail
              go_ret
              exact ⟨by simp, below_call hb1g hbf⟩

theorem codecown_walk (L : List (List UInt8)) (v : Value) (ok : Nat → Prop) (w : World) (hv : IsBB w ok v L) :
    Calls Try.prog 6 #[v] w fun e w' => e = .returned (.bool true) ∧ Below w.heap.size w w' := by
  by_cases hf : fewV L = true
  · exact codecown_short L v ok w hv hf
  · exact codecown_few L v ok w hv (by simpa using hf)
end Go.Proofs.Ytkhhihkcgpfmfaa
