/-
  The document's lists of versions: Heads, Sweep, Unseen, has, Data, Same, Fine; fits.
  The document's Sweep, Unseen, has, Data, Same at lists of versions; Fine; fits.
  The document's Same at equal lists of versions; Fine; fits.
  wardshiplaw10.fits.
-/
import Derived.Test.YtcpjgohclncbkaaDoorVeThose
import Derived.Test.YtcpjgohclncbkaaDoorEnThose
import Derived.Test.YtcpjgohclncbkaaDoorVeFind
import Derived.Test.YtcpjgohclncbkaaDoorEnFinds
import Derived.Test.YtcpjgohclncbkaaDoorVecAll
import Derived.Test.YtcpjgohclncbkaaDoorVeRef4
namespace Go.Proofs.YtcpjgohclncbkaaDoor
open Go.RowKit
set_option maxRecDepth 100000

/-- What is at hand of one version of a list, in whatever world has come of this one. -/
theorem ent_here {w : World} {A : Option Addr} {L : List Ent} {ok : Nat → Prop} (hL : L ≠ [] → ∃ b off, A = some ⟨b, off, none⟩ ∧ ok b ∧ b < w.heap.size ∧ ∀ (i : Nat) (hi : i < L.length), w.rangeAt b (off + i * 15) (entC L[i]).toList ∧ EntOk L[i]) {k : Nat} (hk : k < L.length) {wr : World} (hb : Below w.heap.size w wr) :
    ∃ b off, A = some ⟨b, off, none⟩ ∧ EntOk L[k] ∧ EntCells wr b (off + k * 15) L[k] := by
  obtain ⟨b, off, hA, _, _, hel⟩ := hL (by intro e; subst e; simp at hk)
  exact ⟨b, off, hA, (hel k hk).2, entCells (range_ext (hel k hk).1 hb)⟩

end Go.Proofs.YtcpjgohclncbkaaDoor

namespace Go.Proofs.YtcpjgohclncbkaaDoor
open Go.RowKit
set_option maxRecDepth 100000

end Go.Proofs.YtcpjgohclncbkaaDoor

namespace Go.Proofs.YtcpjgohclncbkaaDoor
open Go.RowKit
set_option maxRecDepth 100000

/-- '!=' of a version and itself. -/
theorem ent_neq_self (x : Ent) (w : World) : (binOp .neq 29 (.agg (entC x)) (.agg (entC x))).run Tryd.prog w = .ok (.bool false) w := by
  have u3 := Tryd.underlying3
  have a3 := Tryd.isAgg3
  have z3 := Tryd.sizeOf3
  have u4 := Tryd.underlying23
  have a4 := Tryd.isAgg23
  have z4 := Tryd.sizeOf23
  have u5 := Tryd.underlying9
  have a5 := Tryd.isAgg9
  have z5 := Tryd.sizeOf9
  have u6 := Tryd.underlying25
  have u7 := Tryd.underlying27
  have a6 := Tryd.isAgg25
  have z6 := Tryd.sizeOf25
  have a7 := Tryd.isAgg27
  have z7 := Tryd.sizeOf27
  have hS : Tryd.prog.underlying 29 = some (.struct (Tryd.prog.fieldsOf 29)) := by kernel_rfl
  have hp : Tryd.prog.stoodInHeld 29 = false := by kernel_rfl
  have hv := vec_in_self x.by_ w
  unfold av at hv
  have hS2 : Tryd.prog.underlying 25 = some (.struct (Tryd.prog.fieldsOf 25)) := by kernel_rfl
  have hp2 : Tryd.prog.stoodInHeld 25 = false := by kernel_rfl
  unfold entC
  rw [run_neq_struct, show (10000 : Nat) = 9999 + 1 from rfl, run_equalIn_agg w 9999 29 _ _ hS hp]
  simp only [Program.fieldsOf, Tryd.underlying29]
  go_simp

set_option maxHeartbeats 1000000 in
theorem erefsame_any (ok ok' : Nat → Prop) (v v' : Value) (L : List Ent) (w : World) (hL : IsL kEnt w ok v L) (hM : IsL kEnt w ok' v' L) :
    Calls Tryd.prog 12 #[v, v'] w fun e w' => e = .returned (.bool true) ∧ Below w.heap.size w w' := by
  obtain ⟨A, c, rfl, hc1, hc2, hL⟩ := ent_at hL
  obtain ⟨A', c', rfl, hc1', hc2', hM⟩ := ent_at hM
  have hm : maxLen ≤ 9223372036854775807 := by decide
  have Hel := Lib.hid hL
  have Hem := Lib.hid hM
  obtain ⟨n, hn⟩ : ∃ n, n = L.length := ⟨_, rfl⟩
  rw [← hn] at hc1 hc1' ⊢
  have Hn := Lib.hid hn
  clear hL hM hn
  go_enter Tryd.func12, Tryd.ntmps12
  go_wp2_with fail
  go_loopw [5] (fun i wr => ∃ k : Nat, k ≤ n ∧ i = .int .i64 (k : Int) ∧ Hid (Below w.heap.size w wr)) (fun i _ => n - (intOf i).toNat)
  case atStart => exact ⟨0, by omega, rfl, Lib.hid (Below.refl _ _)⟩
  case round =>
    obtain ⟨k, hk, rfl, Hbw⟩ := hrel
    by_cases hlt : k < n
    · have hkl : k < L.length := by rw [← Hn.out]; exact hlt
      obtain ⟨b, off, rfl, _, hxc⟩ := ent_here Hel.out hkl Hbw.out
      obtain ⟨b', off', rfl, _, hxc'⟩ := ent_here Hem.out hkl Hbw.out
      have hne := fun z => ent_neq_self L[k] z
      obtain ⟨C, hC⟩ : ∃ C, C = entC L[k] := ⟨_, rfl⟩
      have HinfL := Lib.hid (show (Tryd.prog.info? 29).map (·.size) = some C.toList.length by rw [hC]; exact ent_info)
      have h1 := hxc.all
      have h2 := hxc'.all
      rw [← hC] at h1 h2 hne
      have R1 := Lib.hid (range_exts h1)
      have R2 := Lib.hid (range_exts h2)
      clear hxc hxc' hC h1 h2 Hel Hem
      go_wp2_with fail
      refine wp_region_grow (by kernel_rfl) (by kernel_rfl) ?_
      repeat (first | (go_big_quiet_want; refine quiet_mid 29 (.tmp 19) rfl b (off + k * 15) rfl _ _ R1.out Tryd.underlying29 rfl HinfL.out ?_; go_simp; go_big_quiet_on) | (go_big_quiet_want; refine quiet_mid 29 (.tmp 23) rfl b' (off' + k * 15) rfl _ _ R2.out Tryd.underlying29 rfl HinfL.out ?_; go_simp; go_big_quiet_on) | go_big_quiet_step (fail) | quiet_step (fail))
      refine wpQuiet_nil ?_
      rintro w6 ⟨⟨_, hb6⟩, rfl⟩
      go_wp2_with fail
      go_roundw
      case rel => exact ⟨k + 1, by omega, by go_num, Lib.hid (Hbw.out.trans (hb6.mono Hbw.out.size))⟩
      case measure => simp [intOf]; omega
    · obtain rfl : k = n := by omega
      go_wp2_with fail
      go_ret
      exact ⟨rfl, Hbw.out⟩

set_option maxHeartbeats 1000000 in
theorem ereffine_any (ok : Nat → Prop) (v : Value) (L : List Ent) (w : World) (hL : IsL kEnt w ok v L) (hl : L.length ≤ 1000) :
    Calls Tryd.prog 33 #[v] w fun e w' => (∃ q, e = .returned (.bool q) ∧ (q = true → SortedE L)) ∧ Below w.heap.size w w' := by
  obtain ⟨A, c, rfl, hc1, hc2, hL⟩ := ent_at hL
  have hm : maxLen ≤ 9223372036854775807 := by decide
  have Hel := Lib.hid hL
  obtain ⟨n, hn⟩ : ∃ n, n = L.length := ⟨_, rfl⟩
  rw [← hn] at hc1 hl ⊢
  have Hn := Lib.hid hn
  clear hL hn
  go_enter Tryd.func33, Tryd.ntmps33
  go_wp2_with fail
  go_loopw [3] (fun i wr => ∃ k : Nat, 1 ≤ k ∧ k ≤ n + 1 ∧ i = .int .i64 (k : Int) ∧ Hid (∀ i j (hi : i < L.length) (hj : j < L.length), i < j → j < k → lessV L[i].rep L[i].seq L[j].rep L[j].seq = true) ∧ Hid (Below w.heap.size w wr)) (fun i _ => n + 1 - (intOf i).toNat)
  case atStart => exact ⟨1, by omega, by omega, rfl, Lib.hid (fun i j _ _ h h' => by omega), Lib.hid (Below.refl _ _)⟩
  case round =>
    obtain ⟨k, hk0, hk, rfl, Hall, Hbw⟩ := hrel
    by_cases hlt : k < n
    · obtain ⟨j, rfl⟩ : ∃ j, k = j + 1 := ⟨k - 1, by omega⟩
      have hkl : j + 1 < L.length := by rw [← Hn.out]; exact hlt
      have hjl : j < L.length := by omega
      obtain ⟨b, off, rfl, _, hxc⟩ := ent_here Hel.out hkl Hbw.out
      obtain ⟨b', off', he, _, hxc'⟩ := ent_here Hel.out hjl Hbw.out
      injection he with he
      injection he with he1 he2 _
      subst he1 he2
      have hls := fun z => refless_any L[j].rep L[j].seq L[j + 1].rep L[j + 1].seq z
      obtain ⟨q, hq⟩ : ∃ q, q = lessV L[j].rep L[j].seq L[j + 1].rep L[j + 1].seq := ⟨_, rfl⟩
      rw [← hq, idv_idC, idv_idC] at hls
      have Hq := Lib.hid hq
      obtain ⟨I1, hI1⟩ : ∃ I, I = idC L[j].rep L[j].seq := ⟨_, rfl⟩
      obtain ⟨I2, hI2⟩ : ∃ I, I = idC L[j + 1].rep L[j + 1].seq := ⟨_, rfl⟩
      have Hi1 := Lib.hid (show (Tryd.prog.info? 25).map (·.size) = some I1.toList.length by rw [hI1]; exact id_info)
      have Hi2 := Lib.hid (show (Tryd.prog.info? 25).map (·.size) = some I2.toList.length by rw [hI2]; exact id_info)
      have h1 := hxc'.id
      have h2 := hxc.id
      rw [← hI1] at h1 hls
      rw [← hI2] at h2 hls
      have R1 := Lib.hid (range_exts h1)
      have R2 := Lib.hid (range_exts h2)
      have Hls := Lib.hid hls
      have hnx : q = true → Hid (∀ i k (hi : i < L.length) (hk : k < L.length), i < k → k < j + 1 + 1 → lessV L[i].rep L[i].seq L[k].rep L[k].seq = true) := fun hqt => Lib.hid fun i k hi hk h h' => by
        by_cases e : k = j + 1
        · subst e
          by_cases e2 : i = j
          · subst e2; rw [← Hq.out]; exact hqt
          · exact lessV_trans (Hall.out i j hi hjl (by omega) (by omega)) (by rw [← Hq.out]; exact hqt)
        · exact Hall.out i k hi hk h (by omega)
      have Hnx := Lib.hid hnx
      have hsub : (((j + 1 : Nat) : Int) - 1) = (j : Int) := by omega
      clear hxc hxc' hI1 hI2 h1 h2 hls hq hnx
      cases q with
      | true =>
        go_wp2_with fail
        refine wp_region_grow (by kernel_rfl) (by kernel_rfl) ?_
        repeat (first | (go_big_quiet_want; refine quiet_mid 25 (.tmp 14) rfl b (off + j * 15) rfl _ _ R1.out Tryd.underlying25 rfl Hi1.out ?_; go_simp; go_big_quiet_on) | (go_big_quiet_want; refine quiet_mid 25 (.tmp 19) rfl b (off + (j + 1) * 15) rfl _ _ R2.out Tryd.underlying25 rfl Hi2.out ?_; go_simp; go_big_quiet_on) | go_big_quiet_step ((go_at_call 57; exact calls_grow (Hls.out _))) | quiet_step ((go_at_call 57; exact calls_grow (Hls.out _))))
        refine wpQuiet_nil ?_
        rintro w6 ⟨⟨_, hb6⟩, rfl⟩
        go_wp2_with fail
        go_roundw
        case rel => exact ⟨j + 1 + 1, by omega, by omega, by go_num, Hnx.out (by trivial), Lib.hid (Hbw.out.trans (hb6.mono Hbw.out.size))⟩
        case measure => simp [intOf]; omega
      | false =>
        go_wp2_with fail
        refine wp_region_grow (by kernel_rfl) (by kernel_rfl) ?_
        repeat (first | (go_big_quiet_want; refine quiet_mid 25 (.tmp 14) rfl b (off + j * 15) rfl _ _ R1.out Tryd.underlying25 rfl Hi1.out ?_; go_simp; go_big_quiet_on) | (go_big_quiet_want; refine quiet_mid 25 (.tmp 19) rfl b (off + (j + 1) * 15) rfl _ _ R2.out Tryd.underlying25 rfl Hi2.out ?_; go_simp; go_big_quiet_on) | go_big_quiet_step ((go_at_call 57; exact calls_grow (Hls.out _))) | quiet_step ((go_at_call 57; exact calls_grow (Hls.out _))))
        refine wpQuiet_nil ?_
        rintro w6 ⟨⟨_, hb6⟩, rfl⟩
        go_wp2_with fail
        go_ret
        exact ⟨⟨_, rfl, fun h => by cases h⟩, Hbw.out.trans (hb6.mono Hbw.out.size)⟩
    · have Hend := Lib.hid (show SortedE L from fun i j hi hj h => Hall.out i j hi hj h (by rw [← Hn.out] at hj; omega))
      go_wp2_with fail
      go_ret
      exact ⟨⟨_, rfl, fun _ => Hend.out⟩, Hbw.out⟩
end Go.Proofs.YtcpjgohclncbkaaDoor

namespace Go.Proofs.YtcpjgohclncbkaaDoor
open Go.RowKit
set_option maxRecDepth 100000

def FitsE (L : List Ent) : Prop := SortedE L ∧ L.length ≤ 40 ∧ ∀ x ∈ L, x.data.length ≤ 40
set_option maxHeartbeats 1000000 in
theorem fits10_any (ok : Nat → Prop) (v : Value) (L : List Ent) (w : World) (hL : IsL kEnt w ok v L) :
    Calls Tryd.prog 11 #[v] w fun e w' => (∃ q, e = .returned (.bool q) ∧ (q = true → FitsE L)) ∧ Below w.heap.size w w' := by
  by_cases hl : 40 < L.length
  · obtain ⟨A, c, rfl, hc1, hc2, _⟩ := ent_at hL
    have hl' : decide ((40 : Int) < (L.length : Int)) = true := decide_eq_true (by omega)
    clear hL
    go_enter Tryd.func11, Tryd.ntmps11
    go_wp2_with fail
    go_ret
    exact ⟨⟨_, rfl, fun h => by cases h⟩, Below.refl _ _⟩
  · have hfn := Lib.hid (ereffine_any ok v L w hL (by omega))
    have HL := Lib.hid hL
    obtain ⟨A, c, rfl, hc1, hc2, hE⟩ := ent_at hL
    have Hel := Lib.hid hE
    have hl' : decide ((40 : Int) < (L.length : Int)) = false := decide_eq_false (by omega)
    obtain ⟨n, hn⟩ : ∃ n, n = L.length := ⟨_, rfl⟩
    rw [← hn] at hc1 hfn hl' ⊢
    have Hn := Lib.hid hn
    have Hl := Lib.hid hl
    have hm : maxLen ≤ 9223372036854775807 := by decide
    clear hL hE hl hn
    go_enter Tryd.func11, Tryd.ntmps11
    go_wp2_with (go_at_call 33; go_must (refine hfn.out.mono ?_; rintro e1 w1 ⟨⟨q, rfl, hq⟩, hb1⟩; have Hq := Lib.hid hq; have Hb1 := Lib.hid hb1; clear hq hb1; cases q))
    · go_ret
      exact ⟨⟨_, rfl, fun h => by cases h⟩, Hb1.out⟩
    · skip
      go_loopw [15] (fun i wr => ∃ k : Nat, k ≤ n ∧ i = .int .i64 (k : Int) ∧ Hid (∀ j (hj : j < L.length), j < k → L[j].data.length ≤ 40) ∧ Hid (Below w.heap.size w wr)) (fun i _ => n - (intOf i).toNat)
      case atStart => exact ⟨0, by omega, rfl, Lib.hid (fun j _ h => by omega), Hb1⟩
      case round =>
        obtain ⟨k, hk, rfl, Hall, Hbw⟩ := hrel
        by_cases hlt : k < n
        · have hkl : k < L.length := by rw [← Hn.out]; exact hlt
          obtain ⟨b, off, rfl, _, hxc⟩ := ent_here Hel.out hkl Hbw.out
          have hnx : L[k].data.length ≤ 40 → Hid (∀ j (hj : j < L.length), j < k + 1 → L[j].data.length ≤ 40) := fun h => Lib.hid fun j hj hjk => by
            by_cases e : j = k
            · subst e; exact h
            · exact Hall.out j hj (by omega)
          obtain ⟨x, hx⟩ : ∃ x, x = L[k] := ⟨_, rfl⟩
          rw [← hx] at hxc hnx
          have hra := hxc.all
          have Hnx := Lib.hid hnx
          obtain ⟨C, hC⟩ : ∃ C, C = entC x := ⟨_, rfl⟩
          have hsz : C.size = 15 := by rw [hC]; rfl
          have HinfL := Lib.hid (show (Tryd.prog.info? 29).map (·.size) = some C.toList.length by rw [hC]; exact ent_info)
          have Hinf := Lib.hid (show (Tryd.prog.info? 29).map (·.size) = some C.size by rw [hC]; exact ent_info)
          have Hone := Lib.hid (show C.all (·.oneCell') = true by rw [hC]; exact entC_one x)
          have hcell : (wr.alloc (.cells C 29)).cell? ⟨wr.heap.size, 4, none⟩ = some (str x.data) := by
            rw [(Blk.new wr 29 C).cell, hC]; rfl
          have Hbl := Lib.hid (Hbw.out.alloc Hbw.out.size (.cells C 29))
          rw [← hC] at hra
          have R := Lib.hid hra
          clear hxc hnx hx hra hC Hel
          by_cases h3 : 40 < x.data.length
          · have h3' : decide ((40 : Int) < (x.data.length : Int)) = true := decide_eq_true (by omega)
            go_upto_region 6 with (first | (refine wpList_load_mid (op := ⟨some 18, _, _, _, _, _⟩) rfl 29 (.tmp 17) rfl b (off + k * 15) rfl _ _ R.out Tryd.underlying29 rfl HinfL.out ?_) | (refine wpList_store_new (op := ⟨none, _, _, _, _, _⟩) rfl 29 (.tmp 4) (.tmp 18) rfl zeroE C rfl rfl Hinf.out (by rw [hsz]; rfl) Hone.out ?_))
            go_wp2_with fail
            go_ret
            exact ⟨⟨_, rfl, fun h => by cases h⟩, Hbl.out⟩
          · have h3' : decide ((40 : Int) < (x.data.length : Int)) = false := decide_eq_false (by omega)
            go_upto_region 6 with (first | (refine wpList_load_mid (op := ⟨some 18, _, _, _, _, _⟩) rfl 29 (.tmp 17) rfl b (off + k * 15) rfl _ _ R.out Tryd.underlying29 rfl HinfL.out ?_) | (refine wpList_store_new (op := ⟨none, _, _, _, _, _⟩) rfl 29 (.tmp 4) (.tmp 18) rfl zeroE C rfl rfl Hinf.out (by rw [hsz]; rfl) Hone.out ?_))
            go_wp2_with fail
            go_roundw
            case rel => exact ⟨k + 1, by omega, by go_num, Hnx.out (by omega), Hbl⟩
            case measure => simp [intOf]; omega
        · have Hend := Lib.hid (show FitsE L from ⟨Hq.out (by trivial), by have := Hl.out; omega, fun x hx => by
            obtain ⟨j, hj, rfl⟩ := List.getElem_of_mem hx
            exact Hall.out j hj (by rw [← Hn.out] at hj; omega)⟩)
          go_wp2_with fail
          go_ret
          exact ⟨⟨_, rfl, fun _ => Hend.out⟩, Hbw.out⟩
end Go.Proofs.YtcpjgohclncbkaaDoor
