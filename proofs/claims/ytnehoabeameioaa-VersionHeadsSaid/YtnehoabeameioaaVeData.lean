/-
  The document's has and Data at lists of versions; version.Data.
-/
import Derived.Test.YtnehoabeameioaaVeRef
import Derived.Test.YtnehoabeameioaaVeAddMath
import Derived.Test.YtnehoabeameioaaVeBin
namespace Go.Proofs.Ytnehoabeameioaa
open Go.RowKit
set_option maxRecDepth 100000

def dataV (L : List Ver) (r : Int) (s : Nat) : List UInt8 × Int := if r = 0 ∧ s = 0 then ([], 0) else match L.find? (fun x => sameI x.rep x.seq r s) with | some x => (x.data, 0) | none => ([], 2)
theorem find_first {α : Type} (p : α → Bool) : ∀ (L : List α) (k : Nat) (hk : k < L.length), (∀ j (hj : j < L.length), j < k → p L[j] = false) → p L[k] = true → L.find? p = some L[k]
  | [], k, hk, _, _ => by simp at hk
  | a :: r, 0, _, _, h => by rw [List.find?_cons_of_pos (by exact h)]; rfl
  | a :: r, k + 1, hk, h0, h => by
    rw [List.find?_cons_of_neg (by have := h0 0 (by simp) (by omega); exact fun e => by rw [show p a = false from this] at e; cases e)]
    exact find_first p r k (by simpa using hk) (fun j hj hjk => h0 (j + 1) (by simpa using hj) (by omega)) h
theorem find_none {α : Type} (p : α → Bool) (L : List α) (h : ∀ j (hj : j < L.length), p L[j] = false) : L.find? p = none := by
  rw [List.find?_eq_none]
  intro x hx
  obtain ⟨j, hj, rfl⟩ := List.getElem_of_mem hx
  rw [h j hj]
  simp
theorem sameI_zero (r : Int) (s : Nat) : sameI r s 0 0 = decide (r = 0 ∧ s = 0) := rfl

set_option maxHeartbeats 1000000 in
theorem refhas11_any (ok : Nat → Prop) (v : Value) (L : List Ver) (r : Int) (s : Nat) (w : World) (hL : IsL kVer w ok v L) :
    Calls Try.prog 36 #[v, .agg (idC r s)] w fun e w' => e = .returned (.bool (thereV L r s)) ∧ Below w.heap.size w w' := by
  obtain ⟨A, c, rfl, hc1, hc2, hL⟩ := ver_at hL
  have hm : maxLen ≤ 9223372036854775807 := by decide
  have Hel := Lib.hid hL
  obtain ⟨I, hI⟩ : ∃ I, I = idC r s := ⟨_, rfl⟩
  have HinfI := Lib.hid (show (Try.prog.info? 35).map (·.size) = some I.toList.length by rw [hI]; exact id_info)
  have Heq := Lib.hid fun (x : Ver) (z : World) => ideq_run x.rep x.seq r s z
  rw [← hI] at Heq ⊢
  obtain ⟨T, hT⟩ : ∃ T, T = thereV L r s := ⟨_, rfl⟩
  rw [← hT]
  have HT := Lib.hid hT
  obtain ⟨wb, hwb⟩ : ∃ wb, wb = w.alloc (.cells I 35) := ⟨_, rfl⟩
  have Hbox := Lib.hid (show Blk wb w.heap.size 35 I by rw [hwb]; exact Blk.new w _ _)
  have Hbel := Lib.hid (show Below w.heap.size w wb by rw [hwb]; exact (Below.refl _ w).alloc (Nat.le_refl _) _)
  have HW := Lib.hid hwb
  obtain ⟨n, hn⟩ : ∃ n, n = L.length := ⟨_, rfl⟩
  rw [← hn] at hc1 ⊢
  have Hn := Lib.hid hn
  clear hL hn hI hT hwb
  go_enter Try.func36, Try.ntmps36
  go_upto_region 1 with fail
  rw [← HW.out]
  go_wp2_with fail
  go_loopw [5] (fun i wr => ∃ (k : Nat), k ≤ n ∧ i = .int .i64 (k : Int) ∧ Hid (∀ j (hj : j < L.length), j < k → sameI L[j].rep L[j].seq r s = false) ∧ Hid (Below wb.heap.size wb wr)) (fun i _ => n - (intOf i).toNat)
  case atStart => exact ⟨0, by omega, rfl, Lib.hid (fun j _ h => by omega), Lib.hid (Below.refl _ _)⟩
  case round =>
    obtain ⟨k, hk, rfl, Hnone, Hbw0⟩ := hrel
    have Hbw := Lib.hid (below_call Hbel.out Hbw0.out)
    by_cases hlt : k < n
    · have hkl : k < L.length := by rw [← Hn.out]; exact hlt
      obtain ⟨b, off, rfl, hxok, hxc⟩ := ver_here Hel.out hkl Hbw.out
      have heq := Heq.out L[k]
      obtain ⟨q, hq⟩ : ∃ q, q = sameI L[k].rep L[k].seq r s := ⟨_, rfl⟩
      rw [← hq] at heq
      have Hq := Lib.hid hq
      obtain ⟨IX, hIX⟩ : ∃ I, I = idC L[k].rep L[k].seq := ⟨_, rfl⟩
      have HinfX := Lib.hid (show (Try.prog.info? 35).map (·.size) = some IX.toList.length by rw [hIX]; exact id_info)
      have hri := hxc.id
      rw [← hIX] at hri heq
      have RX := Lib.hid (range_exts hri)
      have RB := Lib.hid (range_exts ((Hbox.out.grow Hbw0.out).range 0 I.toList fun j u hu => by rw [Nat.zero_add, ← Array.getElem?_toList]; exact hu))
      clear hxok hxc hri hIX hq
      cases q
      all_goals go_wp2_with fail
      all_goals refine wp_region_grow (by kernel_rfl) (by kernel_rfl) ?_
      all_goals repeat (first | (go_big_quiet_want; refine quiet_mid 35 (.tmp 15) rfl b (off + k * 11) rfl _ _ RX.out Try.underlying35 rfl HinfX.out ?_; go_simp; go_big_quiet_on) | (go_big_quiet_want; refine quiet_mid 35 (.tmp 3) rfl w.heap.size 0 rfl _ _ RB.out Try.underlying35 rfl HinfI.out ?_; go_simp; go_big_quiet_on) | go_big_quiet_step (fail) | quiet_step (fail))
      all_goals refine wpQuiet_nil ?_
      all_goals rintro w6 ⟨⟨_, hb6⟩, rfl⟩
      · go_wp2_with fail
        go_roundw
        case rel => exact ⟨k + 1, by omega, by go_num, Lib.hid (fun j hj hjk => by
          by_cases e : j = k
          · subst e; exact Hq.out.symm
          · exact Hnone.out j hj (by omega)), Lib.hid (Hbw0.out.trans (hb6.mono Hbw0.out.size))⟩
        case measure => simp [intOf]; omega
      · have Hyes := Lib.hid (show T = true by rw [HT.out]; unfold thereV; rw [List.any_eq_true]; exact ⟨L[k], List.getElem_mem hkl, Hq.out.symm⟩)
        go_wp2_with fail
        go_ret
        exact ⟨by rw [Hyes.out]; rfl, Hbw.out.trans (hb6.mono Hbw.out.size)⟩
    · have Hno := Lib.hid (show T = false by
        rw [HT.out]; unfold thereV; rw [List.any_eq_false]
        intro x hx
        obtain ⟨j, hj, rfl⟩ := List.getElem_of_mem hx
        rw [Hnone.out j hj (by rw [← Hn.out] at hj; omega)]
        simp)
      go_wp2_with fail
      go_ret
      exact ⟨by rw [Hno.out]; rfl, Hbw.out⟩

set_option maxHeartbeats 1000000 in
theorem refdata_any (ok : Nat → Prop) (v : Value) (L : List Ver) (r : Int) (s : Nat) (w : World) (hL : IsL kVer w ok v L) :
    Calls Try.prog 17 #[v, .agg (idC r s)] w fun e w' => e = .returned (.tuple #[str (dataV L r s).1, .int .i64 (dataV L r s).2]) ∧ Below w.heap.size w w' := by
  obtain ⟨A, c, rfl, hc1, hc2, hL⟩ := ver_at hL
  have hm : maxLen ≤ 9223372036854775807 := by decide
  have Hel := Lib.hid hL
  obtain ⟨D, hD⟩ : ∃ D, D = dataV L r s := ⟨_, rfl⟩
  rw [← hD]
  have HD := Lib.hid hD
  obtain ⟨I, hI⟩ : ∃ I, I = idC r s := ⟨_, rfl⟩
  have HinfI := Lib.hid (show (Try.prog.info? 35).map (·.size) = some I.toList.length by rw [hI]; exact id_info)
  have Heq := Lib.hid fun (x : Ver) (z : World) => ideq_run x.rep x.seq r s z
  obtain ⟨wb, hwb⟩ : ∃ wb, wb = w.alloc (.cells I 35) := ⟨_, rfl⟩
  have hbox : Blk wb w.heap.size 35 I := by rw [hwb]; exact Blk.new w _ _
  have z0 : wb.cell? ⟨w.heap.size, 0, none⟩ = some (.int .i64 r) := by rw [hbox.cell, hI]; rfl
  have z1 : wb.cell? ⟨w.heap.size, 1, none⟩ = some (.int .u32 (s : Int)) := by rw [hbox.cell, hI]; rfl
  rw [← hI] at Heq ⊢
  have Hbox := Lib.hid hbox
  have Hbel := Lib.hid (show Below w.heap.size w wb by rw [hwb]; exact (Below.refl _ w).alloc (Nat.le_refl _) _)
  have HW := Lib.hid hwb
  obtain ⟨n, hn⟩ : ∃ n, n = L.length := ⟨_, rfl⟩
  rw [← hn] at hc1 ⊢
  have Hn := Lib.hid hn
  clear hL hn hI hD hwb hbox
  go_enter Try.func17, Try.ntmps17
  go_upto_region 1 with fail
  rw [← HW.out]
  by_cases hz : r = 0 ∧ s = 0
  · have HD2 := Lib.hid (show D = ([], 0) by rw [HD.out]; unfold dataV; rw [if_pos hz])
    obtain ⟨rfl, rfl⟩ := hz
    clear Heq HD
    go_wp2_with fail
    go_ret2
    rw [HD2.out]
    exact ⟨rfl, Hbel.out⟩
  · have HD2 := Lib.hid (show D = match L.find? (fun x => sameI x.rep x.seq r s) with | some x => (x.data, 0) | none => ([], 2) by rw [HD.out]; unfold dataV; rw [if_neg hz])
    have Hyes := Lib.hid (show ∀ k (hk : k < L.length), (∀ j (hj : j < L.length), j < k → sameI L[j].rep L[j].seq r s = false) → sameI L[k].rep L[k].seq r s = true → D = (L[k].data, 0) from fun k hk h1 h2 => by
      rw [HD2.out, find_first _ L k hk h1 h2])
    have Hno := Lib.hid (show (∀ j (hj : j < L.length), sameI L[j].rep L[j].seq r s = false) → D = ([], 2) from fun h1 => by
      rw [HD2.out, find_none _ L h1])
    have hcond : (decide (r = 0) && decide (s = 0)) = false := by
      rw [Bool.and_eq_false_iff]; simp only [decide_eq_false_iff_not]; omega
    clear HD HD2
    by_cases hr : r = 0
    · have hs0 : ((s : Int) == 0) = false := by rw [beq_eq_false_iff_ne]; omega
      subst hr
      go_wp2_with fail
      go_loopw [6] (fun i wr => ∃ (k : Nat), k ≤ n ∧ i = .int .i64 (k : Int) ∧ Hid (∀ j (hj : j < L.length), j < k → sameI L[j].rep L[j].seq 0 s = false) ∧ Hid (Below wb.heap.size wb wr)) (fun i _ => n - (intOf i).toNat)
      case atStart => exact ⟨0, by omega, rfl, Lib.hid (fun j _ h => by omega), Lib.hid (Below.refl _ _)⟩
      case round =>
        obtain ⟨k, hk, rfl, Hnone, Hbw0⟩ := hrel
        have Hbw := Lib.hid (below_call Hbel.out Hbw0.out)
        by_cases hlt : k < n
        · have hkl : k < L.length := by rw [← Hn.out]; exact hlt
          obtain ⟨b, off, rfl, hxok, hxc⟩ := ver_here Hel.out hkl Hbw.out
          have heq := Heq.out L[k]
          obtain ⟨q, hq⟩ : ∃ q, q = sameI L[k].rep L[k].seq 0 s := ⟨_, rfl⟩
          rw [← hq] at heq
          have Hq := Lib.hid hq
          obtain ⟨IX, hIX⟩ : ∃ I, I = idC L[k].rep L[k].seq := ⟨_, rfl⟩
          have HinfX := Lib.hid (show (Try.prog.info? 35).map (·.size) = some IX.toList.length by rw [hIX]; exact id_info)
          have hri := hxc.id
          have Hdat := Lib.hid hxc.data
          rw [← hIX] at hri heq
          have RX := Lib.hid (range_exts hri)
          have RB := Lib.hid (range_exts ((Hbox.out.grow Hbw0.out).range 0 I.toList fun j u hu => by rw [Nat.zero_add, ← Array.getElem?_toList]; exact hu))
          clear hxok hxc hri hIX hq z0 z1
          cases q
          all_goals go_wp2_with fail
          all_goals refine wp_region_grow (by kernel_rfl) (by kernel_rfl) ?_
          all_goals repeat (first | (go_big_quiet_want; refine quiet_mid 35 (.tmp 24) rfl b (off + k * 11) rfl _ _ RX.out Try.underlying35 rfl HinfX.out ?_; go_simp; go_big_quiet_on) | (go_big_quiet_want; refine quiet_mid 35 (.tmp 3) rfl w.heap.size 0 rfl _ _ RB.out Try.underlying35 rfl HinfI.out ?_; go_simp; go_big_quiet_on) | go_big_quiet_step (fail) | quiet_step (fail))
          all_goals refine wpQuiet_nil ?_
          all_goals rintro w6 ⟨y6, rfl⟩
          all_goals have hb6 := y6.out
          all_goals obtain ⟨w7, hw7⟩ : ∃ w7, w7 = y6.now := ⟨_, rfl⟩
          all_goals rw [← hw7] at hb6 ⊢
          all_goals clear hw7
          · go_wp2_with fail
            go_roundw
            case rel => exact ⟨k + 1, by omega, by go_num, Lib.hid (fun j hj hjk => by
              by_cases e : j = k
              · subst e; exact Hq.out.symm
              · exact Hnone.out j hj (by omega)), Lib.hid (Hbw0.out.trans (hb6.mono Hbw0.out.size))⟩
            case measure => simp [intOf]; omega
          · have hD := Lib.hid (Hyes.out k hkl Hnone.out Hq.out.symm)
            have cd : w7.cell? ⟨b, off + k * 11 + 2, none⟩ = some (str L[k].data) := (hb6.cell (World.block_lt_of_cell? wr _ Hdat.out)).trans Hdat.out
            obtain ⟨DT, hDT⟩ : ∃ DT, DT = L[k].data := ⟨_, rfl⟩
            rw [← hDT] at hD cd
            clear hDT
            go_wp2_with fail
            go_ret2
            rw [hD.out]
            exact ⟨rfl, Hbw.out.trans (hb6.mono Hbw.out.size)⟩
        · have hD := Lib.hid (Hno.out (fun j hj => Hnone.out j hj (by rw [← Hn.out] at hj; omega)))
          go_wp2_with fail
          go_ret2
          rw [hD.out]
          exact ⟨rfl, Hbw.out⟩
    · have hr0 : (r == 0) = false := by rw [beq_eq_false_iff_ne]; exact hr
      go_wp2_with fail
      go_loopw [6] (fun i wr => ∃ (k : Nat), k ≤ n ∧ i = .int .i64 (k : Int) ∧ Hid (∀ j (hj : j < L.length), j < k → sameI L[j].rep L[j].seq r s = false) ∧ Hid (Below wb.heap.size wb wr)) (fun i _ => n - (intOf i).toNat)
      case atStart => exact ⟨0, by omega, rfl, Lib.hid (fun j _ h => by omega), Lib.hid (Below.refl _ _)⟩
      case round =>
        obtain ⟨k, hk, rfl, Hnone, Hbw0⟩ := hrel
        have Hbw := Lib.hid (below_call Hbel.out Hbw0.out)
        by_cases hlt : k < n
        · have hkl : k < L.length := by rw [← Hn.out]; exact hlt
          obtain ⟨b, off, rfl, hxok, hxc⟩ := ver_here Hel.out hkl Hbw.out
          have heq := Heq.out L[k]
          obtain ⟨q, hq⟩ : ∃ q, q = sameI L[k].rep L[k].seq r s := ⟨_, rfl⟩
          rw [← hq] at heq
          have Hq := Lib.hid hq
          obtain ⟨IX, hIX⟩ : ∃ I, I = idC L[k].rep L[k].seq := ⟨_, rfl⟩
          have HinfX := Lib.hid (show (Try.prog.info? 35).map (·.size) = some IX.toList.length by rw [hIX]; exact id_info)
          have hri := hxc.id
          have Hdat := Lib.hid hxc.data
          rw [← hIX] at hri heq
          have RX := Lib.hid (range_exts hri)
          have RB := Lib.hid (range_exts ((Hbox.out.grow Hbw0.out).range 0 I.toList fun j u hu => by rw [Nat.zero_add, ← Array.getElem?_toList]; exact hu))
          clear hxok hxc hri hIX hq z0 z1
          cases q
          all_goals go_wp2_with fail
          all_goals refine wp_region_grow (by kernel_rfl) (by kernel_rfl) ?_
          all_goals repeat (first | (go_big_quiet_want; refine quiet_mid 35 (.tmp 24) rfl b (off + k * 11) rfl _ _ RX.out Try.underlying35 rfl HinfX.out ?_; go_simp; go_big_quiet_on) | (go_big_quiet_want; refine quiet_mid 35 (.tmp 3) rfl w.heap.size 0 rfl _ _ RB.out Try.underlying35 rfl HinfI.out ?_; go_simp; go_big_quiet_on) | go_big_quiet_step (fail) | quiet_step (fail))
          all_goals refine wpQuiet_nil ?_
          all_goals rintro w6 ⟨y6, rfl⟩
          all_goals have hb6 := y6.out
          all_goals obtain ⟨w7, hw7⟩ : ∃ w7, w7 = y6.now := ⟨_, rfl⟩
          all_goals rw [← hw7] at hb6 ⊢
          all_goals clear hw7
          · go_wp2_with fail
            go_roundw
            case rel => exact ⟨k + 1, by omega, by go_num, Lib.hid (fun j hj hjk => by
              by_cases e : j = k
              · subst e; exact Hq.out.symm
              · exact Hnone.out j hj (by omega)), Lib.hid (Hbw0.out.trans (hb6.mono Hbw0.out.size))⟩
            case measure => simp [intOf]; omega
          · have hD := Lib.hid (Hyes.out k hkl Hnone.out Hq.out.symm)
            have cd : w7.cell? ⟨b, off + k * 11 + 2, none⟩ = some (str L[k].data) := (hb6.cell (World.block_lt_of_cell? wr _ Hdat.out)).trans Hdat.out
            obtain ⟨DT, hDT⟩ : ∃ DT, DT = L[k].data := ⟨_, rfl⟩
            rw [← hDT] at hD cd
            clear hDT
            go_wp2_with fail
            go_ret2
            rw [hD.out]
            exact ⟨rfl, Hbw.out.trans (hb6.mono Hbw.out.size)⟩
        · have hD := Lib.hid (Hno.out (fun j hj => Hnone.out j hj (by rw [← Hn.out] at hj; omega)))
          go_wp2_with fail
          go_ret2
          rw [hD.out]
          exact ⟨rfl, Hbw.out⟩

/-- Where a number that is there lies, its bytes. -/
theorem data_pos {L : List Ver} (hs : SortedV L) {r : Int} {s : Nat} (hz : ¬ (r = 0 ∧ s = 0)) : (thereV L r s = false → dataV L r s = ([], 2)) ∧ (thereV L r s = true → ∃ hk : posV L r s < L.length, dataV L r s = (L[posV L r s].data, 0)) := by
  refine ⟨fun h => ?_, fun h => ?_⟩
  · unfold dataV
    rw [if_neg hz, find_none _ L fun j hj => ?_]
    unfold thereV at h
    rw [List.any_eq_false] at h
    have := h L[j] (List.getElem_mem hj)
    simpa using this
  · obtain ⟨hk, h1, h2⟩ := there_pos hs h
    refine ⟨hk, ?_⟩
    unfold dataV
    rw [if_neg hz, find_first _ L (posV L r s) hk (fun j hj hlt => ?_) (sameI_eq.2 ⟨h1.symm, h2.symm⟩)]
    have := hs j _ hj hk hlt
    rw [← h1, ← h2] at this
    show sameI L[j].rep L[j].seq r s = false
    rw [lessV_same, this]
    rfl

set_option maxHeartbeats 1000000 in
theorem data_any (ok : Nat → Prop) (v : Value) (L : List Ver) (r : Int) (s : Nat) (w : World) (hL : IsL kVer w ok v L) (hl : L.length ≤ 1000) (hd : ∀ x ∈ L, x.data.length ≤ 1000) (hs : SortedV L) :
    Calls Try.prog 16 #[v, .agg (idC r s)] w fun e w' => e = .returned (.tuple #[str (dataV L r s).1, .int .i64 (dataV L r s).2]) ∧ Below w.heap.size w w' := by
  obtain ⟨D, hD⟩ : ∃ D, D = dataV L r s := ⟨_, rfl⟩
  rw [← hD]
  have HD := Lib.hid hD
  obtain ⟨I, hI⟩ : ∃ I, I = idC r s := ⟨_, rfl⟩
  have HinfI := Lib.hid (show (Try.prog.info? 35).map (·.size) = some I.toList.length by rw [hI]; exact id_info)
  have heq := fun z => ideq_run r s 0 0 z
  obtain ⟨wb, hwb⟩ : ∃ wb, wb = w.alloc (.cells I 35) := ⟨_, rfl⟩
  have hbox : Blk wb w.heap.size 35 I := by rw [hwb]; exact Blk.new w _ _
  have hbel : Below w.heap.size w wb := by rw [hwb]; exact (Below.refl _ w).alloc (Nat.le_refl _) _
  have RI := Lib.hid (hbox.range 0 I.toList fun j u hu => by rw [Nat.zero_add, ← Array.getElem?_toList]; exact hu)
  have hf := find_any ok v L r s wb (hL.grow hbel) hl hs
  rw [← hI] at heq hf ⊢
  rw [show idC 0 0 = #[.int .i64 0, .int .u32 0] from rfl, sameI_zero] at heq
  have Hbel := Lib.hid hbel
  have HW := Lib.hid hwb
  have HL := Lib.hid (hL.grow hbel)
  have Hs := Lib.hid hs
  have Hd := Lib.hid hd
  obtain ⟨q, hq⟩ : ∃ q, q = thereV L r s := ⟨_, rfl⟩
  obtain ⟨ps, hps⟩ : ∃ ps : Nat, ps = posV L r s := ⟨_, rfl⟩
  rw [← hq, ← hps] at hf
  have Hf := Lib.hid hf
  have Hq := Lib.hid hq
  have Hps := Lib.hid hps
  clear hL hI hD hwb hbox hbel hf hs hd hq hps
  go_enter Try.func16, Try.ntmps16
  go_upto_region 1 with fail
  rw [← HW.out]
  by_cases hz : r = 0 ∧ s = 0
  · have HD2 := Lib.hid (show D = ([], 0) by rw [HD.out]; unfold dataV; rw [if_pos hz])
    rw [decide_eq_true hz] at heq
    clear HD
    go_wp2_with (refine wpList_load_mid (op := ⟨some 8, _, _, _, _, _⟩) rfl 35 (.tmp 3) rfl w.heap.size 0 rfl _ _ RI.out Try.underlying35 rfl HinfI.out ?_)
    go_ret2
    rw [HD2.out]
    exact ⟨rfl, Hbel.out⟩
  · rw [decide_eq_false hz] at heq
    obtain ⟨hno, hyes⟩ := data_pos Hs.out hz
    cases q with
    | false =>
      have HD2 := Lib.hid (show D = ([], 2) by rw [HD.out]; exact hno Hq.out.symm)
      clear HD hno hyes
      go_wp2_with (first | (refine wpList_load_mid (op := ⟨some 8, _, _, _, _, _⟩) rfl 35 (.tmp 3) rfl w.heap.size 0 rfl _ _ RI.out Try.underlying35 rfl HinfI.out ?_) | (refine wpList_load_mid (op := ⟨some 13, _, _, _, _, _⟩) rfl 35 (.tmp 3) rfl w.heap.size 0 rfl _ _ RI.out Try.underlying35 rfl HinfI.out ?_) | (go_at_call 32; go_must (refine Hf.out.mono ?_; rintro e2 w2 ⟨rfl, hb2⟩)))
      go_ret2
      rw [HD2.out]
      exact ⟨rfl, below_call Hbel.out hb2⟩
    | true =>
      obtain ⟨hk, hdd⟩ := hyes Hq.out.symm
      have e1 : L[posV L r s] = L[ps]'(by rw [Hps.out]; exact hk) := by congr 1; exact Hps.out.symm
      rw [e1, ← HD.out] at hdd
      have hpl : ps < L.length := by rw [Hps.out]; exact hk
      have HD2 := Lib.hid hdd
      have hxd := Hd.out L[ps] (List.getElem_mem hpl)
      have Hcl := Lib.hid fun z => strclone_any L[ps].data hxd z
      obtain ⟨A, c, rfl, hc1, hc2, hE⟩ := ver_at HL.out
      have Hel := Lib.hid hE
      obtain ⟨n, hn⟩ : ∃ n, n = L.length := ⟨_, rfl⟩
      rw [← hn] at hc1 hpl Hf ⊢
      have hm : maxLen ≤ 9223372036854775807 := by decide
      have Hn := Lib.hid hn
      clear HD hno hyes hdd hxd hE hn
      go_upto_region 6 with (first | (refine wpList_load_mid (op := ⟨some 8, _, _, _, _, _⟩) rfl 35 (.tmp 3) rfl w.heap.size 0 rfl _ _ RI.out Try.underlying35 rfl HinfI.out ?_) | (refine wpList_load_mid (op := ⟨some 13, _, _, _, _, _⟩) rfl 35 (.tmp 3) rfl w.heap.size 0 rfl _ _ RI.out Try.underlying35 rfl HinfI.out ?_) | (go_at_call 32; go_must (refine Hf.out.mono ?_; rintro e2 w2 ⟨rfl, hb2⟩)))
      obtain ⟨b, off, rfl, _, hxc⟩ := ver_here Hel.out (by rw [← Hn.out]; exact hpl) hb2
      have cd := hxc.data
      obtain ⟨DT, hDT⟩ : ∃ DT, DT = L[ps].data := ⟨_, rfl⟩
      rw [← hDT] at cd Hcl HD2
      have Hb2 := Lib.hid hb2
      clear hxc hDT hb2
      go_wp2_with (go_at_call 39; go_must (refine (Hcl.out _).mono ?_; rintro e3 w3 ⟨rfl, hb3⟩))
      go_ret2
      rw [HD2.out]
      exact ⟨rfl, below_call (below_call Hbel.out Hb2.out) hb3⟩
end Go.Proofs.Ytnehoabeameioaa
