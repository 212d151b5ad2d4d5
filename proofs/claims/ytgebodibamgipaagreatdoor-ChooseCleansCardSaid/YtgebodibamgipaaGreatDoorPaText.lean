/-
  Parts: the library's environment, numbers, tags, path.Part.
-/
import Derived.Test.YtgebodibamgipaaGreatDoorPaMath
import Derived.Test.YtgebodibamgipaaGreatDoorFmtUint
import Derived.Test.YtgebodibamgipaaGreatDoorEvNames
import Derived.Lib.AtoiErrMem
namespace Go.Proofs.YtgebodibamgipaaGreatDoor
open Go.RowKit
set_option maxRecDepth 100000

theorem var_grow {w w' : World} {nm : String} {x : Array Value} (h : w.var? Tryz.prog nm = some x) (hb : Below w.heap.size w w') : w'.var? Tryz.prog nm = some x := by
  unfold World.var? at *
  cases hg : Tryz.prog.globalNamed nm with
  | none => simp [hg] at h
  | some g =>
    simp only [hg, Option.bind_some] at h ⊢
    have hlt : g < w.heap.size := by
      rcases Nat.lt_or_ge g w.heap.size with h' | h'
      · exact h'
      · rw [Array.getElem?_eq_none h'] at h; simp at h
    rw [hb.block g hlt]
    exact h
theorem cell_grow {w w' : World} {a : Addr} {x : Value} (h : w.cell? a = some x) (hb : Below w.heap.size w w') : w'.cell? a = some x := by
  have hlt : a.block < w.heap.size := by
    rcases Nat.lt_or_ge a.block w.heap.size with h' | h'
    · exact h'
    · unfold World.cell? at h; rw [Array.getElem?_eq_none h'] at h; simp at h
  unfold World.cell? at *
  rw [hb.block _ hlt]
  exact h
/-- What the library reads of its own variables. -/
structure Env (w : World) : Prop where
  pow : Pow w
  len : ∃ m, w.cell? ⟨0, 0, none⟩ = some (.int .i64 m)
  syn : ∃ t p, w.var? Tryz.prog "strconv.ErrSyntax" = some #[.iface t p]
  rng : ∃ t p, w.var? Tryz.prog "strconv.ErrRange" = some #[.iface t p]
theorem Env.grow {w w' : World} (h : Env w) (hb : Below w.heap.size w w') : Env w' := by
  obtain ⟨h1, ⟨m, h2⟩, ⟨t, p, h3⟩, ⟨t', p', h4⟩⟩ := h
  exact ⟨h1.grow hb, ⟨m, cell_grow h2 hb⟩, ⟨t, p, var_grow h3 hb⟩, ⟨t', p', var_grow h4 hb⟩⟩
theorem cut_any (c : UInt8) (l : List UInt8) (hl : l.length ≤ 400) (w : World) (he : Env w) :
    Calls Tryz.prog 44 #[.string ⟨l.toArray⟩, .string ⟨#[c]⟩] w fun e w' => e = .returned (.tuple #[.string ⟨(Lib.cut l [c]).1.toArray⟩, .string ⟨(Lib.cut l [c]).2.1.toArray⟩, .bool (Lib.cut l [c]).2.2]) ∧ ∃ n, w' = w.drewN n := by
  obtain ⟨m, hm⟩ := he.len
  exact Tryz.strings_Cut ⟨l.toArray⟩ ⟨#[c]⟩ m w (by show l.toArray.size < _; simp; omega) hm
theorem puint_end (l : List UInt8) (hl : l.length ≤ 400) (w : World) (he : Env w) :
    Calls Tryz.prog 76 #[.string ⟨l.toArray⟩, .int .i64 10, .int .i64 32] w fun e w' => Below w.heap.size w w' ∧ ((∃ u : Nat, Lib.parseUintB 32 l = .ok u ∧ e = .returned (.tuple #[.int .u64 u, .nilIface])) ∨ ((∀ v, Lib.parseUintB 32 l ≠ .ok v) ∧ ∃ x N, e = .returned (.tuple #[.int .u64 x, .iface 101 (.pointer (some ⟨N, 0, none⟩))]))) := by
  have hsz : (⟨l.toArray⟩ : ByteArray).size ≤ 400 := by show l.toArray.size ≤ _; simp; omega
  rcases h : Lib.parseUintB 32 l with v | _ | _
  · refine (Tryz.strconv_ParseUint_10_at32_ok ⟨l.toArray⟩ (by omega) v h w).mono ?_
    rintro e w' ⟨rfl, hw⟩
    refine ⟨?_, Or.inl ⟨v, rfl, rfl⟩⟩
    rcases hw with rfl | rfl
    · exact Below.refl _ _
    · exact Lib.bytesWorld_below _ _ _
  · obtain ⟨t, p, hv⟩ := he.syn
    refine (Tryz.strconv_ParseUint_10_at32_syntax_var ⟨l.toArray⟩ (by omega) h t p w hv).mono ?_
    rintro e w' ⟨N, rfl, _, _, hb⟩
    exact ⟨hb, Or.inr ⟨(fun v hx => by cases hx), _, _, rfl⟩⟩
  · obtain ⟨t, p, hv⟩ := he.rng
    refine (Tryz.strconv_ParseUint_10_at32_range_var ⟨l.toArray⟩ (by omega) h t p w hv).mono ?_
    rintro e w' ⟨N, rfl, _, _, hb⟩
    exact ⟨hb, Or.inr ⟨(fun v hx => by cases hx), _, _, rfl⟩⟩

theorem strclone_any (s : List UInt8) (hs : s.length ≤ 400) (w : World) : Calls Tryz.prog 17 #[.string ⟨s.toArray⟩] w fun e w' => e = .returned (.string ⟨s.toArray⟩) ∧ Below w.heap.size w w' := by
  have hsz : (⟨s.toArray⟩ : ByteArray).size ≤ 400 := by show s.toArray.size ≤ _; simp; omega
  have hc := fun z => Tryz.stringslite_Clone ⟨s.toArray⟩ z (by omega)
  have Hc := Lib.hid hc
  clear hc hsz
  go_enter Tryz.func17, Tryz.ntmps17
  go_wp2_with fail
  refine (Hc.out _).mono ?_
  rintro e w1 ⟨rfl, hb1⟩
  go_wp2_with fail
  go_ret
  exact ⟨rfl, hb1⟩
theorem numOk_some {s : List UInt8} {u : Nat} (h : Lib.parseUintB 32 s = .ok u) : numOk s = (Lib.decDigits u == s) := by unfold numOk; rw [h]
theorem numOk_none {s : List UInt8} (h : ∀ u, Lib.parseUintB 32 s ≠ .ok u) : numOk s = false := by
  unfold numOk
  rcases hp : Lib.parseUintB 32 s with u | _ | _
  · exact absurd hp (h u)
  · rfl
  · rfl
theorem isnumber_any (s : List UInt8) (hs : s.length ≤ 400) (w : World) (he : Env w) : Calls Tryz.prog 65 #[.string ⟨s.toArray⟩] w fun e w' => e = .returned (.bool (numOk s)) ∧ Below w.heap.size w w' := by
  have hpu := puint_end s hs w he
  have hsome := fun u => numOk_some (s := s) (u := u)
  have hnone := numOk_none (s := s)
  generalize numOk s = B at hsome hnone ⊢
  have Hpu := Lib.hid hpu
  have Hs := Lib.hid hsome
  have Hn := Lib.hid hnone
  have He := Lib.hid he
  clear hpu hsome hnone he
  go_enter Tryz.func65, Tryz.ntmps65
  go_wp2_with fail
  refine Hpu.out.mono ?_
  rintro e w1 ⟨hb1, hcase⟩
  rcases hcase with ⟨u, hu, rfl⟩ | ⟨hu, x, N, rfl⟩
  · have hlt : u < 18446744073709551616 := by have := Lib.parseUintB_le hu; omega
    have hB := Hs.out u hu
    have HB := Lib.hid hB
    have hf := fun z hz => fmtuint_any u hlt z hz
    have Hf := Lib.hid hf
    clear hu hB hlt hf
    go_wp2_with fail
    refine (Hf.out _ (He.out.grow hb1).pow).mono ?_
    rintro e w2 ⟨rfl, hb2⟩
    unfold str
    go_wp2_with fail
    go_ret
    refine ⟨?_, below_call hb1 hb2⟩
    rw [HB.out]
    rfl
  · have hB := Hn.out hu
    subst hB
    clear hu
    go_wp2_with fail
    go_ret
    exact ⟨rfl, hb1⟩
theorem isnumbers_any (s : List UInt8) (hs : s.length ≤ 400) (w : World) (he : Env w) : Calls Tryz.prog 46 #[.string ⟨s.toArray⟩] w fun e w' => e = .returned (.bool (numsOk s)) ∧ Below w.heap.size w w' := by
  have hcut := cut_any 46 s hs w he
  have hl1 : (Lib.cut s [46]).1.length ≤ 400 := by have := cut_left_le (c := 46) s; omega
  have hl2 : (Lib.cut s [46]).2.1.length ≤ 400 := by have := cut_right_le (c := 46) s; omega
  unfold numsOk
  generalize (Lib.cut s [46]).1 = L1 at hcut hl1 ⊢
  generalize (Lib.cut s [46]).2.1 = L2 at hcut hl2 ⊢
  generalize (Lib.cut s [46]).2.2 = L3 at hcut ⊢
  have h1 := fun z hz => isnumber_any L1 hl1 z hz
  have h2 := fun z hz => isnumber_any L2 hl2 z hz
  generalize numOk L1 = B1 at h1 ⊢
  generalize numOk L2 = B2 at h2 ⊢
  have H1 := Lib.hid h1
  have H2 := Lib.hid h2
  have Hcut := Lib.hid hcut
  have He := Lib.hid he
  clear h1 h2 hcut he hl1 hl2
  go_enter Tryz.func46, Tryz.ntmps46
  go_wp2_with fail
  refine Hcut.out.mono ?_
  rintro e w1 ⟨rfl, n1, rfl⟩
  have hb1 : Below w.heap.size w (w.drewN n1) := below_drewN (Below.refl _ _) n1
  cases L3 with
  | false =>
    go_wp2_with fail
    go_ret
    exact ⟨rfl, hb1⟩
  | true =>
    go_wp2_with fail
    refine (H1.out _ (He.out.grow hb1)).mono ?_
    rintro e w2 ⟨rfl, hb2⟩
    have hb02 := below_call hb1 hb2
    cases B1 with
    | false =>
      go_wp2_with fail
      go_ret
      exact ⟨rfl, hb02⟩
    | true =>
      go_wp2_with fail
      refine (H2.out _ (He.out.grow hb02)).mono ?_
      rintro e w3 ⟨rfl, hb3⟩
      go_wp2_with fail
      go_ret
      exact ⟨rfl, below_call hb02 hb3⟩
theorem part_any (s : List UInt8) (hs : s.length ≤ 400) (w : World) (he : Env w) : Calls Tryz.prog 36 #[.string ⟨s.toArray⟩] w fun e w' => e = .returned (.bool (partB s)) ∧ Below w.heap.size w w' := by
  by_cases h0 : s = lostT
  · subst h0
    have hB : partB lostT = true := by unfold partB; simp
    rw [hB]
    unfold lostT
    go_enter Tryz.func36, Tryz.ntmps36
    go_wp2
    go_ret
    exact ⟨rfl, Below.refl _ _⟩
  · have hlost : (s == lostT) = false := beq_eq_false_iff_ne.2 h0
    have hB : partB s = (nameB (Lib.cut s [126]).1 && (!(Lib.cut s [126]).2.2 || numsOk (Lib.cut s [126]).2.1)) := by unfold partB; rw [hlost]; rfl
    rw [hB]
    have hcut := fun z hz => cut_any 126 s hs z hz
    have hl2 : (Lib.cut s [126]).2.1.length ≤ 400 := by have := cut_right_le (c := 126) s; omega
    generalize (Lib.cut s [126]).1 = L1 at hcut ⊢
    generalize (Lib.cut s [126]).2.1 = L2 at hcut hl2 ⊢
    generalize (Lib.cut s [126]).2.2 = L3 at hcut ⊢
    have h1 := fun z => name_any L1 z
    have h2 := fun z hz => isnumbers_any L2 hl2 z hz
    generalize nameB L1 = B1 at h1 ⊢
    generalize numsOk L2 = B2 at h2 ⊢
    have H1 := Lib.hid h1
    have H2 := Lib.hid h2
    have Hcut := Lib.hid hcut
    have He := Lib.hid he
    clear h1 h2 hcut he hl2 hB h0
    unfold lostT at hlost
    unfold str at H1
    go_enter Tryz.func36, Tryz.ntmps36
    go_wp2_with fail
    refine (Hcut.out _ He.out).mono ?_
    rintro e w1 ⟨rfl, n1, rfl⟩
    have hb1 : Below w.heap.size w (w.drewN n1) := below_drewN (Below.refl _ _) n1
    go_wp2_with fail
    refine (H1.out _).mono ?_
    rintro e w2 ⟨rfl, hb2⟩
    have hb02 := below_call hb1 hb2
    cases B1 with
    | false =>
      go_wp2_with fail
      go_ret
      exact ⟨rfl, hb02⟩
    | true =>
      cases L3 with
      | false =>
        go_wp2_with fail
        go_ret
        exact ⟨rfl, hb02⟩
      | true =>
        go_wp2_with fail
        refine (H2.out _ (He.out.grow hb02)).mono ?_
        rintro e w3 ⟨rfl, hb3⟩
        go_wp2_with fail
        go_ret
        exact ⟨rfl, below_call hb02 hb3⟩
end Go.Proofs.YtgebodibamgipaaGreatDoor
