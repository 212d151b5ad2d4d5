/-
  wardshipref03: the document's device: in, with, Why, Now.
-/
import Derived.Test.YtiaabgmmmekpnaaKinds2
import Derived.Test.YtiaabgmmmekpnaaDevMath
import Derived.Lib.Hide
import Derived.WalkSpells
namespace Go.Proofs.Ytiaabgmmmekpnaa
open Go.RowKit
set_option maxRecDepth 100000

theorem elemS : ElemK Try.prog 30 9 1 16 := ElemK.mk_ (z := .string ⟨#[]⟩) Try.underlying30 (by kernel_rfl) rfl (by decide)

def kWrite : Kind (Nat × List UInt8) := (kPair (kInt .i64) kStr).of fun x => ((x.1 : Int), x.2)

theorem in_any (ok : Nat → Prop) (v : Value) (L : List Int) (n : Int) (w : World) (hv : IsL (kInt .i64) w ok v L) :
    Calls Try.prog 48 #[v, .int .i64 n] w fun e w' => e = .returned (.bool (decide (n ∈ L))) ∧ w = w' := by
  obtain ⟨A, c, rfl, hc, hm, hel⟩ := int_at hv
  unfold maxLen at hm
  have Hel := Lib.hid hel
  have Hm : L.length ≤ 9223372036854775807 := by omega
  clear hel hm hc hv
  go_enter Try.func48, Try.ntmps48
  go_wp2
  go_loop [5] (fun i => ∃ k : Nat, k ≤ L.length ∧ i = .int .i64 (k : Int) ∧ n ∉ L.take k) (fun i => L.length - (intOf i).toNat)
  case atStart => exact ⟨0, by omega, rfl, by simp⟩
  case round =>
    obtain ⟨k, hk, rfl, hno⟩ := hrel
    have Hno := Lib.hid hno
    clear hno
    by_cases hlt : k < L.length
    · obtain ⟨b, off, rfl, _, _, hcells⟩ := Hel.out (by intro e; subst e; simp at hlt)
      obtain ⟨hcell, _⟩ := hcells k hlt
      clear hcells
      by_cases he : L[k] = n
      · have he1 : (L[k] == n) = true := by simpa using he
        have hin : decide (n ∈ L) = true := by rw [← he]; simp
        have Hin := Lib.hid hin
        clear he hin
        go_wp2
        go_ret
        exact ⟨by rw [Hin.out]; rfl, rfl⟩
      · have he1 : (L[k] == n) = false := by simpa using he
        have He := Lib.hid he
        clear he
        go_wp2
        go_round
        case rel =>
          refine ⟨k + 1, by omega, by go_num, ?_⟩
          rw [List.take_succ_eq_append_getElem hlt]
          intro h
          rcases List.mem_append.1 h with h | h
          · exact Hno.out h
          · simp at h; exact He.out h.symm
        case measure => simp [intOf]; omega
    · obtain rfl : k = L.length := by omega
      have hin : decide (n ∈ L) = false := by have := Hno.out; rw [List.take_length] at this; simpa using this
      have Hin := Lib.hid hin
      clear hin
      go_wp2
      go_ret
      exact ⟨by rw [Hin.out]; rfl, rfl⟩

set_option maxHeartbeats 400000 in
theorem with_any (ok : Nat → Prop) (v : Value) (L : List (List UInt8)) (i : Nat) (s : List UInt8) (w : World) (hv : IsL kStr w ok v L) (hi : i < L.length) (hl : L.length ≤ 1099511627776) (hs : s.length ≤ maxLen) :
    Calls Try.prog 49 #[v, .int .i64 (i : Int), str s] w fun e w' => ∃ v', e = .returned v' ∧ OwnL kStr w' w.heap.size 9 v' (L.set i s) ∧ Below w.heap.size w w' := by
  obtain ⟨A, c, ds, rfl, hc, hm, hr, hmany⟩ := hv
  obtain ⟨rfl, hall⟩ := kStr_cells hmany
  have hba : Below w.heap.size w (w.alloc (.cells #[] 9)) := (Below.refl _ _).alloc (Nat.le_refl _) _
  have Hr := Lib.hid hr
  have Hall := Lib.hid hall
  have Hs := Lib.hid hs
  clear hr hall hmany hs hm hc
  go_enter Try.func49, Try.ntmps49
  go_wp2_with (at_builtin; refine wpList_appK _ elemS rfl (.tmp 8) (.tmp 9) rfl w.heap.size 0 _ [] rfl (OwnK.empty w _ _) ok A L.length c (L.map str) (by simp) rfl (Hr.out.grow hba) (str_oneCell _) (by omega) (by omega) hba.size ?_; intro v1 w1 hown1 hg1 _; have hb1 := hba.trans ((OwnK.empty w 9 1).below_of hg1 hba.size (Nat.le_refl _)); clear hg1; simp only [Nat.zero_add, List.nil_append] at hown1; obtain ⟨g, cap, cur, rfl, hg, hblk, hcap, hcm, hcur⟩ := hown1.addr (by omega); have hown2 := hown1.set_ i (str s); have hc1 : w1.cell? ⟨g, i, none⟩ = some (str L[i]) := by { rw [hblk.cell, hcur i (by simpa using hi)]; simp }; have hf1 : w1.frozen? ⟨g, i, none⟩ = false := hblk.frozen i; have Hown2 := Lib.hid hown2; have Hg := Lib.hid hg; clear hown1 hown2 hblk hcur hg; unfold maxLen at hcm)
  go_ret
  refine ⟨_, rfl, ⟨(L.set i s).map str, ?_, kStr_many fun l hl => ?_⟩, hb1.setCell Hg.out _⟩
  · rw [List.length_set, List.map_set]
    exact Hown2.out
  · rcases List.mem_or_eq_of_mem_set hl with h | h
    · exact Hall.out l h
    · rw [h]; exact Hs.out

/-- A device's value. -/
def IsDev (w : World) (ok : Nat → Prop) (v : Value) (D : Dev) : Prop :=
  ∃ A1 c1 A2 c2 A3 c3, v = .agg #[.slice A1 D.sure.length c1, .slice A2 D.loose.length c2, .int .i64 D.left, .slice A3 D.choice.kept.length c3, .int .i64 D.choice.torn, .int .i64 D.choice.half, .int .i64 (D.changes : Int), .bool D.off] ∧
    IsL kStr w ok (.slice A1 D.sure.length c1) D.sure ∧ IsL kWrite w ok (.slice A2 D.loose.length c2) D.loose ∧ IsL (kInt .i64) w ok (.slice A3 D.choice.kept.length c3) D.choice.kept
theorem IsDev.move {w w' : World} {ok ok' : Nat → Prop} {v : Value} {D : Dev} (h : IsDev w ok v D) (hk : ∀ k, ok k → k < w.heap.size → ok' k ∧ w'.heap[k]? = w.heap[k]?) : IsDev w' ok' v D := by
  obtain ⟨A1, c1, A2, c2, A3, c3, e, h1, h2, h3⟩ := h
  exact ⟨A1, c1, A2, c2, A3, c3, e, h1.move hk, h2.move hk, h3.move hk⟩
theorem IsDev.frame {w w' : World} {ok : Nat → Prop} {v : Value} {D : Dev} (h : IsDev w ok v D) (hk : ∀ k, ok k → k < w.heap.size → w'.heap[k]? = w.heap[k]?) : IsDev w' ok v D := by
  obtain ⟨A1, c1, A2, c2, A3, c3, e, h1, h2, h3⟩ := h
  exact ⟨A1, c1, A2, c2, A3, c3, e, h1.frame hk, h2.frame hk, h3.frame hk⟩
theorem IsDev.grow {w w' : World} {ok : Nat → Prop} {v : Value} {D : Dev} (h : IsDev w ok v D) (hb : Below w.heap.size w w') : IsDev w' ok v D := h.frame fun k _ hk => hb.block k hk
theorem IsDev.weaken {w : World} {ok ok' : Nat → Prop} {v : Value} {D : Dev} (h : IsDev w ok v D) (hk : ∀ k, ok k → ok' k) : IsDev w ok' v D := by
  obtain ⟨A1, c1, A2, c2, A3, c3, e, h1, h2, h3⟩ := h
  exact ⟨A1, c1, A2, c2, A3, c3, e, h1.weaken hk, h2.weaken hk, h3.weaken hk⟩

theorem why_any (ok : Nat → Prop) (v : Value) (D : Dev) (i : Int) (w : World) (hv : IsDev w ok v D) :
    Calls Try.prog 82 #[v, .int .i64 i] w fun e w' => e = .returned (.int .i64 (D.why i)) ∧ Below w.heap.size w w' := by
  obtain ⟨A1, c1, A2, c2, A3, c3, rfl, h1, h2, h3⟩ := hv
  clear h1 h2 h3
  have hwhy : D.why i = if D.off then 6 else if i < 0 ∨ (D.sure.length : Int) ≤ i then 2 else 0 := rfl
  have Hwhy := Lib.hid hwhy
  clear hwhy
  cases hoff : D.off with
  | true =>
    rw [hoff] at Hwhy
    go_enter Try.func82, Try.ntmps82
    go_wp2
    go_ret
    exact ⟨by rw [Hwhy.out]; rfl, (Below.refl _ _).alloc (Nat.le_refl _) _⟩
  | false =>
    rw [hoff] at Hwhy
    go_enter Try.func82, Try.ntmps82
    go_wp2
    all_goals go_ret
    all_goals refine ⟨?_, (Below.refl _ _).alloc (Nat.le_refl _) _⟩
    all_goals rw [Hwhy.out, if_neg (by decide)]
    all_goals first | (rw [if_pos (by omega)]; rfl) | (rw [if_neg (by omega)]; rfl)

theorem write_at {w : World} {ok : Nat → Prop} {v : Value} {L : List (Nat × List UInt8)} (h : IsL kWrite w ok v L) :
    ∃ A c, v = .slice A L.length c ∧ L.length ≤ c ∧ c ≤ maxLen ∧ (L ≠ [] → ∃ b off, A = some ⟨b, off, none⟩ ∧ ok b ∧ b < w.heap.size ∧ ∀ (i : Nat) (hi : i < L.length), w.cell? ⟨b, off + i * 2, none⟩ = some (.int .i64 (L[i].1 : Int)) ∧ w.cell? ⟨b, off + i * 2 + 1, none⟩ = some (str L[i].2) ∧ (L[i].1 : Int) ≤ 9223372036854775807 ∧ L[i].2.length ≤ maxLen) := by
  obtain ⟨A, c, hv, h1, h2, h3⟩ := h.elem (by decide)
  refine ⟨A, c, hv, h1, h2, fun hn => ?_⟩
  obtain ⟨b, off, hA, ho, hlt, hc⟩ := h3 hn
  refine ⟨b, off, hA, ho, hlt, fun i hi => ?_⟩
  obtain ⟨cs, ⟨c1, c2, rfl, ⟨rfl, hw⟩, rfl, hl⟩, hcs⟩ := hc i hi
  have e0 := hcs 0 (by simp)
  have e1 := hcs 1 (by simp)
  have hw' : -9223372036854775808 ≤ (L[i].1 : Int) ∧ (L[i].1 : Int) ≤ 9223372036854775807 := by simpa [Lit.wf, IntKind.min, IntKind.max, IntKind.signed, IntKind.bits] using hw
  have hsz : kWrite.size = 2 := rfl
  rw [hsz] at e0 e1
  exact ⟨by simpa using e0, by simpa [Nat.add_assoc] using e1, hw'.2, hl⟩

theorem lastW_take (i : Nat) (s : List UInt8) (l : List (Nat × List UInt8)) (m : Nat) (h : m < l.length) : lastW i s (l.take (m + 1)) = if l[m].1 = i then l[m].2 else lastW i s (l.take m) := by
  rw [List.take_succ_eq_append_getElem h, lastW_snoc]

set_option maxHeartbeats 400000 in
theorem now_any (ok : Nat → Prop) (v : Value) (D : Dev) (i : Nat) (w : World) (hv : IsDev w ok v D) (hi : i < D.sure.length) :
    Calls Try.prog 12 #[v, .int .i64 (i : Int)] w fun e w' => e = .returned (str (D.now i)) ∧ Below w.heap.size w w' := by
  obtain ⟨A1, c1, A2, c2, A3, c3, rfl, h1, h2, h3⟩ := hv
  clear h3
  have hb : Below w.heap.size w (w.alloc (.cells #[.slice A1 D.sure.length c1, .slice A2 D.loose.length c2, .int .i64 D.left, .slice A3 D.choice.kept.length c3, .int .i64 D.choice.torn, .int .i64 D.choice.half, .int .i64 (D.changes : Int), .bool D.off] 36)) := (Below.refl _ _).alloc (Nat.le_refl _) _
  obtain ⟨_, _, e1, hs1, hm1, hel1⟩ := str_at (h1.grow hb)
  cases e1
  obtain ⟨_, _, e2, hs2, hm2, hel2⟩ := write_at (h2.grow hb)
  cases e2
  obtain ⟨b1, o1, rfl, _, _, hc1⟩ := hel1 (by intro e; rw [e] at hi; simp at hi)
  obtain ⟨hc1, hl1⟩ := hc1 i hi
  have hnow : D.now i = lastW i D.sure[i] D.loose := by unfold Dev.now; rw [List.getD_eq_getElem?_getD, List.getElem?_eq_getElem hi]; rfl
  have Hnow := Lib.hid hnow
  have Hel2 := Lib.hid hel2
  unfold maxLen at hm1 hm2 hl1
  have hmm : D.loose.length ≤ 9223372036854775807 := by omega
  clear hel1 hel2 hnow h1 h2 hb
  go_enter Try.func12, Try.ntmps12
  go_wp2
  go_loop [5] (fun x => ∃ m : Nat, m ≤ D.loose.length ∧ x = .int .i64 ((m : Int) - 1) ∧ D.now i = lastW i D.sure[i] (D.loose.take m)) (fun x => (intOf x + 1).toNat)
  case atStart => exact ⟨D.loose.length, Nat.le_refl _, rfl, by rw [List.take_length]; exact Hnow.out⟩
  case round =>
    obtain ⟨m, hm, rfl, hno⟩ := hrel
    have Hno := Lib.hid hno
    clear hno Hnow
    by_cases hlt : 0 < m
    · obtain ⟨k, rfl⟩ : ∃ k, m = k + 1 := ⟨m - 1, by omega⟩
      obtain ⟨b2, o2, rfl, _, _, hcells⟩ := Hel2.out (by intro e; rw [e] at hm; simp at hm)
      obtain ⟨hca, hcb, hat, hsl⟩ := hcells k (by omega)
      have hst := lastW_take i D.sure[i] D.loose k (by omega)
      have Hst := Lib.hid hst
      clear hcells hst
      by_cases he : D.loose[k].1 = i
      · have he1 : ((D.loose[k].1 : Int) == (i : Int)) = true := by rw [he]; simp
        have hf : D.now i = D.loose[k].2 := by rw [Hno.out, Hst.out, if_pos he]
        have Hf := Lib.hid hf
        clear he hf
        go_wp2
        go_ret
        exact ⟨by rw [Hf.out]; rfl, (Below.refl _ _).alloc (Nat.le_refl _) _⟩
      · have he1 : ((D.loose[k].1 : Int) == (i : Int)) = false := by rw [beq_eq_false_iff_ne]; omega
        have hf : D.now i = lastW i D.sure[i] (D.loose.take k) := by rw [Hno.out, Hst.out, if_neg he]
        have Hf := Lib.hid hf
        clear he hf
        go_wp2
        go_round
        case rel => exact ⟨k, by omega, by go_num, Hf.out⟩
        case measure => simp [intOf]
    · obtain rfl : m = 0 := by omega
      have hf : D.now i = D.sure[i] := by rw [Hno.out]; rfl
      have Hf := Lib.hid hf
      clear hf
      go_wp2
      go_ret
      exact ⟨by rw [Hf.out]; rfl, (Below.refl _ _).alloc (Nat.le_refl _) _⟩
end Go.Proofs.Ytiaabgmmmekpnaa
