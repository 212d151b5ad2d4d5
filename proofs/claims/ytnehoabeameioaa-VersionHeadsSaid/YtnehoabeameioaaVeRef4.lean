/-
  The document's Same at equal lists of versions; Fine; fits.
-/
import Derived.Test.YtnehoabeameioaaVeRef
namespace Go.Proofs.Ytnehoabeameioaa
open Go.RowKit
set_option maxRecDepth 100000

theorem vec_in_self (A : Nat → Nat) (w : World) : (Op.equalIn 9999 37 (.agg (av A)) (.agg (av A))).run Try.prog w = .ok true w := by
  have hi : ∃ i, Try.prog.info? 33 = some i := by
    have : (Try.prog.info? 33).isSome = true := by kernel_rfl
    exact Option.isSome_iff_exists.1 this
  obtain ⟨i, hi⟩ := hi
  have hp : ∀ (V : Nat → Nat) (k : Nat), k < 8 → (part 33 (av V) (k * 1)).run Try.prog w = .ok (.int .u32 (V k : Int)) w := fun V k hk => by
    rcases lt8 hk with rfl | rfl | rfl | rfl | rfl | rfl | rfl | rfl <;> kernel_rfl
  rw [show (9999 : Nat) = 9998 + 1 from rfl, run_equalIn_array w 9998 (av A) (av A) Try.underlying37 hi, show Try.prog.cellsOf 33 = 1 by kernel_rfl]
  have key : ∀ (is : List Nat), (∀ k ∈ is, k < 8) → (Op.eqItems 9998 33 1 (av A) (av A) is).run Try.prog w = .ok true w := by
    intro is
    induction is with
    | nil => intro _; rfl
    | cons k is ih =>
      intro h
      have hk := h k (by simp)
      have h2 := ih fun j hj => h j (by simp [hj])
      simp only [Op.eqItems, Sem.run_bind, hp A k hk, Result.andThen_ok, run_equalIn_int w 9997 33 .u32 .u32 (A k : Int) (A k : Int) Try.underlying33]
      simp [h2]
  exact key _ (fun k hk => by simpa using hk)
/-- '!=' of a version and itself. -/
theorem ver_neq_self (x : Ver) (w : World) : (binOp .neq 39 (.agg (verC x)) (.agg (verC x))).run Try.prog w = .ok (.bool false) w := by
  have u3 := Try.underlying3
  have a3 := Try.isAgg3
  have z3 := Try.sizeOf3
  have u4 := Try.underlying33
  have a4 := Try.isAgg33
  have z4 := Try.sizeOf33
  have u5 := Try.underlying9
  have a5 := Try.isAgg9
  have z5 := Try.sizeOf9
  have u6 := Try.underlying35
  have u7 := Try.underlying37
  have a6 := Try.isAgg35
  have z6 := Try.sizeOf35
  have a7 := Try.isAgg37
  have z7 := Try.sizeOf37
  have hS : Try.prog.underlying 39 = some (.struct (Try.prog.fieldsOf 39)) := by kernel_rfl
  have hp : Try.prog.stoodInHeld 39 = false := by kernel_rfl
  have hv := vec_in_self x.by_ w
  unfold av at hv
  have hS2 : Try.prog.underlying 35 = some (.struct (Try.prog.fieldsOf 35)) := by kernel_rfl
  have hp2 : Try.prog.stoodInHeld 35 = false := by kernel_rfl
  unfold verC
  rw [run_neq_struct, show (10000 : Nat) = 9999 + 1 from rfl, run_equalIn_agg w 9999 39 _ _ hS hp]
  simp only [Program.fieldsOf, Try.underlying39]
  go_simp

set_option maxHeartbeats 1000000 in
theorem refsame_any (ok ok' : Nat → Prop) (v v' : Value) (L : List Ver) (w : World) (hL : IsL kVer w ok v L) (hM : IsL kVer w ok' v' L) :
    Calls Try.prog 18 #[v, v'] w fun e w' => e = .returned (.bool true) ∧ Below w.heap.size w w' := by
  obtain ⟨A, c, rfl, hc1, hc2, hL⟩ := ver_at hL
  obtain ⟨A', c', rfl, hc1', hc2', hM⟩ := ver_at hM
  have hm : maxLen ≤ 9223372036854775807 := by decide
  have Hel := Lib.hid hL
  have Hem := Lib.hid hM
  obtain ⟨n, hn⟩ : ∃ n, n = L.length := ⟨_, rfl⟩
  rw [← hn] at hc1 hc1' ⊢
  have Hn := Lib.hid hn
  clear hL hM hn
  go_enter Try.func18, Try.ntmps18
  go_wp2_with fail
  go_loopw [5] (fun i wr => ∃ k : Nat, k ≤ n ∧ i = .int .i64 (k : Int) ∧ Hid (Below w.heap.size w wr)) (fun i _ => n - (intOf i).toNat)
  case atStart => exact ⟨0, by omega, rfl, Lib.hid (Below.refl _ _)⟩
  case round =>
    obtain ⟨k, hk, rfl, Hbw⟩ := hrel
    by_cases hlt : k < n
    · have hkl : k < L.length := by rw [← Hn.out]; exact hlt
      obtain ⟨b, off, rfl, _, hxc⟩ := ver_here Hel.out hkl Hbw.out
      obtain ⟨b', off', rfl, _, hxc'⟩ := ver_here Hem.out hkl Hbw.out
      have hne := fun z => ver_neq_self L[k] z
      obtain ⟨C, hC⟩ : ∃ C, C = verC L[k] := ⟨_, rfl⟩
      have HinfL := Lib.hid (show (Try.prog.info? 39).map (·.size) = some C.toList.length by rw [hC]; exact ver_info)
      have h1 := hxc.all
      have h2 := hxc'.all
      rw [← hC] at h1 h2 hne
      have R1 := Lib.hid (range_exts h1)
      have R2 := Lib.hid (range_exts h2)
      clear hxc hxc' hC h1 h2 Hel Hem
      go_wp2_with fail
      refine wp_region_grow (by kernel_rfl) (by kernel_rfl) ?_
      repeat (first | (go_big_quiet_want; refine quiet_mid 39 (.tmp 19) rfl b (off + k * 11) rfl _ _ R1.out Try.underlying39 rfl HinfL.out ?_; go_simp; go_big_quiet_on) | (go_big_quiet_want; refine quiet_mid 39 (.tmp 23) rfl b' (off' + k * 11) rfl _ _ R2.out Try.underlying39 rfl HinfL.out ?_; go_simp; go_big_quiet_on) | go_big_quiet_step (fail) | quiet_step (fail))
      refine wpQuiet_nil ?_
      rintro w6 ⟨⟨_, hb6⟩, rfl⟩
      go_wp2_with fail
      go_roundw
      case rel => exact ⟨k + 1, by omega, by go_num, Lib.hid (Hbw.out.trans (hb6.mono Hbw.out.size))⟩
      case measure => simp [intOf]; omega
    · obtain rfl : k = n := by omega
      go_wp2_with fail
      go_ret
      exact ⟨rfl, Hbw.out⟩

set_option maxHeartbeats 1000000 in
theorem reffine_any (ok : Nat → Prop) (v : Value) (L : List Ver) (w : World) (hL : IsL kVer w ok v L) (hl : L.length ≤ 1000) :
    Calls Try.prog 30 #[v] w fun e w' => (∃ q, e = .returned (.bool q) ∧ (q = true → SortedV L)) ∧ Below w.heap.size w w' := by
  obtain ⟨A, c, rfl, hc1, hc2, hL⟩ := ver_at hL
  have hm : maxLen ≤ 9223372036854775807 := by decide
  have Hel := Lib.hid hL
  obtain ⟨n, hn⟩ : ∃ n, n = L.length := ⟨_, rfl⟩
  rw [← hn] at hc1 hl ⊢
  have Hn := Lib.hid hn
  clear hL hn
  go_enter Try.func30, Try.ntmps30
  go_wp2_with fail
  go_loopw [3] (fun i wr => ∃ k : Nat, 1 ≤ k ∧ k ≤ n + 1 ∧ i = .int .i64 (k : Int) ∧ Hid (∀ i j (hi : i < L.length) (hj : j < L.length), i < j → j < k → lessV L[i].rep L[i].seq L[j].rep L[j].seq = true) ∧ Hid (Below w.heap.size w wr)) (fun i _ => n + 1 - (intOf i).toNat)
  case atStart => exact ⟨1, by omega, by omega, rfl, Lib.hid (fun i j _ _ h h' => by omega), Lib.hid (Below.refl _ _)⟩
  case round =>
    obtain ⟨k, hk0, hk, rfl, Hall, Hbw⟩ := hrel
    by_cases hlt : k < n
    · obtain ⟨j, rfl⟩ : ∃ j, k = j + 1 := ⟨k - 1, by omega⟩
      have hkl : j + 1 < L.length := by rw [← Hn.out]; exact hlt
      have hjl : j < L.length := by omega
      obtain ⟨b, off, rfl, _, hxc⟩ := ver_here Hel.out hkl Hbw.out
      obtain ⟨b', off', he, _, hxc'⟩ := ver_here Hel.out hjl Hbw.out
      injection he with he
      injection he with he1 he2 _
      subst he1 he2
      have hls := fun z => refless_any L[j].rep L[j].seq L[j + 1].rep L[j + 1].seq z
      obtain ⟨q, hq⟩ : ∃ q, q = lessV L[j].rep L[j].seq L[j + 1].rep L[j + 1].seq := ⟨_, rfl⟩
      rw [← hq, idv_idC, idv_idC] at hls
      have Hq := Lib.hid hq
      obtain ⟨I1, hI1⟩ : ∃ I, I = idC L[j].rep L[j].seq := ⟨_, rfl⟩
      obtain ⟨I2, hI2⟩ : ∃ I, I = idC L[j + 1].rep L[j + 1].seq := ⟨_, rfl⟩
      have Hi1 := Lib.hid (show (Try.prog.info? 35).map (·.size) = some I1.toList.length by rw [hI1]; exact id_info)
      have Hi2 := Lib.hid (show (Try.prog.info? 35).map (·.size) = some I2.toList.length by rw [hI2]; exact id_info)
      have h1 := hxc'.id
      have h2 := hxc.id
      rw [← hI1] at h1 hls
      rw [← hI2] at h2 hls
      have R1 := Lib.hid (range_exts h1)
      have R2 := Lib.hid (range_exts h2)
      have Hls := Lib.hid hls
      have hnx : q = true → Hid (∀ i k (hi : i < L.length) (hk : k < L.length), i < k → k < j + 1 + 1 → lessV L[i].rep L[i].seq L[k].rep L[k].seq = true) := fun hqt => Lib.hid fun i k hi hk h h' => by
        by_cases e : k = j + 1
        · subst e
          by_cases e2 : i = j
          · subst e2; rw [← Hq.out]; exact hqt
          · exact lessV_trans (Hall.out i j hi hjl (by omega) (by omega)) (by rw [← Hq.out]; exact hqt)
        · exact Hall.out i k hi hk h (by omega)
      have Hnx := Lib.hid hnx
      have hsub : (((j + 1 : Nat) : Int) - 1) = (j : Int) := by omega
      clear hxc hxc' hI1 hI2 h1 h2 hls hq hnx
      cases q with
      | true =>
        go_wp2_with fail
        refine wp_region_grow (by kernel_rfl) (by kernel_rfl) ?_
        repeat (first | (go_big_quiet_want; refine quiet_mid 35 (.tmp 14) rfl b (off + j * 11) rfl _ _ R1.out Try.underlying35 rfl Hi1.out ?_; go_simp; go_big_quiet_on) | (go_big_quiet_want; refine quiet_mid 35 (.tmp 19) rfl b (off + (j + 1) * 11) rfl _ _ R2.out Try.underlying35 rfl Hi2.out ?_; go_simp; go_big_quiet_on) | go_big_quiet_step ((go_at_call 37; exact calls_grow (Hls.out _))) | quiet_step ((go_at_call 37; exact calls_grow (Hls.out _))))
        refine wpQuiet_nil ?_
        rintro w6 ⟨⟨_, hb6⟩, rfl⟩
        go_wp2_with fail
        go_roundw
        case rel => exact ⟨j + 1 + 1, by omega, by omega, by go_num, Hnx.out (by trivial), Lib.hid (Hbw.out.trans (hb6.mono Hbw.out.size))⟩
        case measure => simp [intOf]; omega
      | false =>
        go_wp2_with fail
        refine wp_region_grow (by kernel_rfl) (by kernel_rfl) ?_
        repeat (first | (go_big_quiet_want; refine quiet_mid 35 (.tmp 14) rfl b (off + j * 11) rfl _ _ R1.out Try.underlying35 rfl Hi1.out ?_; go_simp; go_big_quiet_on) | (go_big_quiet_want; refine quiet_mid 35 (.tmp 19) rfl b (off + (j + 1) * 11) rfl _ _ R2.out Try.underlying35 rfl Hi2.out ?_; go_simp; go_big_quiet_on) | go_big_quiet_step ((go_at_call 37; exact calls_grow (Hls.out _))) | quiet_step ((go_at_call 37; exact calls_grow (Hls.out _))))
        refine wpQuiet_nil ?_
        rintro w6 ⟨⟨_, hb6⟩, rfl⟩
        go_wp2_with fail
        go_ret
        exact ⟨⟨_, rfl, fun h => by cases h⟩, Hbw.out.trans (hb6.mono Hbw.out.size)⟩
    · have Hend := Lib.hid (show SortedV L from fun i j hi hj h => Hall.out i j hi hj h (by rw [← Hn.out] at hj; omega))
      go_wp2_with fail
      go_ret
      exact ⟨⟨_, rfl, fun _ => Hend.out⟩, Hbw.out⟩
end Go.Proofs.Ytnehoabeameioaa
