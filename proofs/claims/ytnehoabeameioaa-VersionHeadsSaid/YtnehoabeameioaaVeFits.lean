/-
  wardshiplaw11.fits.
-/
import Derived.Test.YtnehoabeameioaaVeRef4
namespace Go.Proofs.Ytnehoabeameioaa
open Go.RowKit
set_option maxRecDepth 100000

def FitsV (L : List Ver) : Prop := SortedV L ∧ L.length ≤ 30 ∧ ∀ x ∈ L, x.data.length ≤ 300
set_option maxHeartbeats 1000000 in
theorem fits11_any (ok : Nat → Prop) (v : Value) (L : List Ver) (w : World) (hL : IsL kVer w ok v L) :
    Calls Try.prog 13 #[v] w fun e w' => (∃ q, e = .returned (.bool q) ∧ (q = true → FitsV L)) ∧ Below w.heap.size w w' := by
  by_cases hl : 30 < L.length
  · obtain ⟨A, c, rfl, hc1, hc2, _⟩ := ver_at hL
    have hl' : decide ((30 : Int) < (L.length : Int)) = true := decide_eq_true (by omega)
    clear hL
    go_enter Try.func13, Try.ntmps13
    go_wp2_with fail
    go_ret
    exact ⟨⟨_, rfl, fun h => by cases h⟩, Below.refl _ _⟩
  · have hfn := Lib.hid (reffine_any ok v L w hL (by omega))
    have HL := Lib.hid hL
    obtain ⟨A, c, rfl, hc1, hc2, hE⟩ := ver_at hL
    have Hel := Lib.hid hE
    have hl' : decide ((30 : Int) < (L.length : Int)) = false := decide_eq_false (by omega)
    obtain ⟨n, hn⟩ : ∃ n, n = L.length := ⟨_, rfl⟩
    rw [← hn] at hc1 hfn hl' ⊢
    have Hn := Lib.hid hn
    have Hl := Lib.hid hl
    have hm : maxLen ≤ 9223372036854775807 := by decide
    clear hL hE hl hn
    go_enter Try.func13, Try.ntmps13
    go_wp2_with (go_at_call 30; go_must (refine hfn.out.mono ?_; rintro e1 w1 ⟨⟨q, rfl, hq⟩, hb1⟩; have Hq := Lib.hid hq; have Hb1 := Lib.hid hb1; clear hq hb1; cases q))
    · go_ret
      exact ⟨⟨_, rfl, fun h => by cases h⟩, Hb1.out⟩
    · skip
      go_loopw [15] (fun i wr => ∃ k : Nat, k ≤ n ∧ i = .int .i64 (k : Int) ∧ Hid (∀ j (hj : j < L.length), j < k → L[j].data.length ≤ 300) ∧ Hid (Below w.heap.size w wr)) (fun i _ => n - (intOf i).toNat)
      case atStart => exact ⟨0, by omega, rfl, Lib.hid (fun j _ h => by omega), Hb1⟩
      case round =>
        obtain ⟨k, hk, rfl, Hall, Hbw⟩ := hrel
        by_cases hlt : k < n
        · have hkl : k < L.length := by rw [← Hn.out]; exact hlt
          obtain ⟨b, off, rfl, _, hxc⟩ := ver_here Hel.out hkl Hbw.out
          have hnx : L[k].data.length ≤ 300 → Hid (∀ j (hj : j < L.length), j < k + 1 → L[j].data.length ≤ 300) := fun h => Lib.hid fun j hj hjk => by
            by_cases e : j = k
            · subst e; exact h
            · exact Hall.out j hj (by omega)
          obtain ⟨x, hx⟩ : ∃ x, x = L[k] := ⟨_, rfl⟩
          rw [← hx] at hxc hnx
          have hra := hxc.all
          have Hnx := Lib.hid hnx
          obtain ⟨C, hC⟩ : ∃ C, C = verC x := ⟨_, rfl⟩
          have hsz : C.size = 11 := by rw [hC]; rfl
          have HinfL := Lib.hid (show (Try.prog.info? 39).map (·.size) = some C.toList.length by rw [hC]; exact ver_info)
          have Hinf := Lib.hid (show (Try.prog.info? 39).map (·.size) = some C.size by rw [hC]; exact ver_info)
          have Hone := Lib.hid (show C.all (·.oneCell') = true by rw [hC]; exact verC_one x)
          have hcell : (wr.alloc (.cells C 39)).cell? ⟨wr.heap.size, 2, none⟩ = some (str x.data) := by
            rw [(Blk.new wr 39 C).cell, hC]; rfl
          have Hbl := Lib.hid (Hbw.out.alloc Hbw.out.size (.cells C 39))
          rw [← hC] at hra
          have R := Lib.hid hra
          clear hxc hnx hx hra hC Hel
          by_cases h3 : 300 < x.data.length
          · have h3' : decide ((300 : Int) < (x.data.length : Int)) = true := decide_eq_true (by omega)
            go_upto_region 6 with (first | (refine wpList_load_mid (op := ⟨some 18, _, _, _, _, _⟩) rfl 39 (.tmp 17) rfl b (off + k * 11) rfl _ _ R.out Try.underlying39 rfl HinfL.out ?_) | (refine wpList_store_new (op := ⟨none, _, _, _, _, _⟩) rfl 39 (.tmp 4) (.tmp 18) rfl zeroC C rfl rfl Hinf.out (by rw [hsz]; rfl) Hone.out ?_))
            go_wp2_with fail
            go_ret
            exact ⟨⟨_, rfl, fun h => by cases h⟩, Hbl.out⟩
          · have h3' : decide ((300 : Int) < (x.data.length : Int)) = false := decide_eq_false (by omega)
            go_upto_region 6 with (first | (refine wpList_load_mid (op := ⟨some 18, _, _, _, _, _⟩) rfl 39 (.tmp 17) rfl b (off + k * 11) rfl _ _ R.out Try.underlying39 rfl HinfL.out ?_) | (refine wpList_store_new (op := ⟨none, _, _, _, _, _⟩) rfl 39 (.tmp 4) (.tmp 18) rfl zeroC C rfl rfl Hinf.out (by rw [hsz]; rfl) Hone.out ?_))
            go_wp2_with fail
            go_roundw
            case rel => exact ⟨k + 1, by omega, by go_num, Hnx.out (by omega), Hbl⟩
            case measure => simp [intOf]; omega
        · have Hend := Lib.hid (show FitsV L from ⟨Hq.out (by trivial), by have := Hl.out; omega, fun x hx => by
            obtain ⟨j, hj, rfl⟩ := List.getElem_of_mem hx
            exact Hall.out j hj (by rw [← Hn.out] at hj; omega)⟩)
          go_wp2_with fail
          go_ret
          exact ⟨⟨_, rfl, fun _ => Hend.out⟩, Hbw.out⟩
end Go.Proofs.Ytnehoabeameioaa
