/-
  Arguments of layer 4's laws: scripts of things that are done; wardshiplaw04.fits.
-/
import Derived.Test.YtiaabgmmmekpnaaDevChoice
import Derived.Test.YtiaabgmmmekpnaaQuiet
import Derived.Test.YtiaabgmmmekpnaaJBase
import Derived.WalkSpells
namespace Go.Proofs.Ytiaabgmmmekpnaa
open Go.RowKit Go.WideShapes
set_option maxRecDepth 100000

theorem IsB.move {w w' : World} {ok ok' : Nat → Prop} {v : Value} {l : List UInt8} (h : IsB w ok v l) (hk : ∀ k, ok k → k < w.heap.size → ok' k ∧ w'.heap[k]? = w.heap[k]?) : IsB w' ok' v l := by
  obtain ⟨A, c, e, h1, h2, h3⟩ := h
  exact ⟨A, c, e, h1, h2, h3.move hk⟩
theorem IsBB.move {w w' : World} {ok ok' : Nat → Prop} {v : Value} {L : List (List UInt8)} (h : IsBB w ok v L) (hk : ∀ k, ok k → k < w.heap.size → ok' k ∧ w'.heap[k]? = w.heap[k]?) : IsBB w' ok' v L := by
  obtain ⟨A, c, vs, e, h0, h1, h2, h3, h4⟩ := h
  exact ⟨A, c, vs, e, h0, h1, h2, h3.move hk, fun i hi hi' => (h4 i hi hi').move hk⟩
theorem isBB_none (w : World) : IsBB w (fun _ => True) (.slice none 0 0) [] := ⟨none, 0, [], rfl, rfl, Nat.le_refl _, Nat.zero_le _, Rd.nil, fun i h => by simp at h⟩
/-- Slices of slices of bytes. -/
def kBB : Kind (List (List UInt8)) where
  size := 1
  R w ok cs L := ∃ v, cs = [v] ∧ IsBB w ok v L
  len := fun ⟨v, e, _⟩ => by rw [e]; rfl
  move := fun ⟨v, e, h⟩ hk => ⟨v, e, h.move hk⟩
theorem kU8_many {w : World} {ok : Nat → Prop} {ds : List Value} {l : List UInt8} (h : kMany kU8 w ok ds l) : ds = l.map u8 := by
  obtain ⟨css, rfl, hl, hr⟩ := h
  induction css generalizing l with
  | nil => rw [List.eq_nil_of_length_eq_zero hl.symm]; rfl
  | cons c css ih =>
    cases l with
    | nil => simp at hl
    | cons a l =>
      have h0 : c = [u8 a] := hr 0 (by simp) (by simp)
      have h1 := ih (by simpa using hl) (fun i hi hi' => hr (i + 1) (by simpa using hi) (by simpa using hi'))
      rw [List.flatten_cons, h1, h0]
      rfl
theorem kBB_of {w : World} {ok : Nat → Prop} {cs : List Value} {L : List (List UInt8)} (h : (kSlice (kSlice kU8)).R w ok cs L) : kBB.R w ok cs L := by
  obtain ⟨A, c, ds, rfl, h1, h2, h3, h4⟩ := h
  refine ⟨_, rfl, A, c, ds, rfl, by rw [h4.length]; exact Nat.mul_one _, h1, h2, h3, fun i hi hi' => ?_⟩
  obtain ⟨cs', hr, hc⟩ := h4.at_ i hi
  obtain ⟨A', c', ds', rfl, g1, g2, g3, g4⟩ := hr
  have h0 := hc 0 (by simp)
  rw [show (kSlice kU8).size = 1 from rfl, Nat.mul_one, Nat.add_zero, List.getElem?_eq_getElem hi'] at h0
  have e : ds[i] = .slice A' L[i].length c' := by simpa using h0
  rw [e]
  rw [kU8_many g4] at g3
  exact ⟨A', c', rfl, g1, g2, g3⟩
theorem opens_bb : Opens Try.prog 44 kBB := fun h => by
  obtain ⟨a, ha⟩ := (Opens.slice Try.underlying44 (Opens.slice Try.underlying48 (Opens.u8 Try.underlying5) (by kernel_rfl)) (by kernel_rfl)) h
  exact ⟨a, kBB_of ha⟩

/-- Something that is done. -/
structure OpJ where
  kind : Int
  texts : List (List UInt8)
  after : Int
  choice : Choice
def kOpJ : Kind OpJ := (kPair (kInt .i64) (kPair kBB (kPair (kInt .i64) kChoice))).of fun o => (o.kind, o.texts, o.after, o.choice)
theorem opens_opj : Opens Try.prog 46 kOpJ := by
  refine Opens.of (K := kPair (kInt .i64) (kPair kBB (kPair (kInt .i64) kChoice))) (Opens.struct Try.underlying46 (by kernel_rfl) ?_) (fun o : OpJ => (o.kind, o.texts, o.after, o.choice)) (fun x => ⟨x.1, x.2.1, x.2.2.1, x.2.2.2⟩) (fun _ => rfl)
  exact OpenFs.cons rfl (by kernel_rfl) (Opens.int Try.underlying3) (OpenFs.cons rfl (by kernel_rfl) opens_bb (OpenFs.cons rfl (by kernel_rfl) (Opens.int Try.underlying3) (OpenFs.one rfl (by kernel_rfl) opens_choice)))
theorem opens_scriptj : Opens Try.prog 22 (kSlice kOpJ) := Opens.slice Try.underlying22 opens_opj (by kernel_rfl)
theorem kOpJ_cells {w : World} {ok : Nat → Prop} {cs : List Value} {o : OpJ} (h : kOpJ.R w ok cs o) : ∃ vt vk, cs = [.int .i64 o.kind, vt, .int .i64 o.after, vk, .int .i64 o.choice.torn, .int .i64 o.choice.half] ∧ IsBB w ok vt o.texts ∧ IsL (kInt .i64) w ok vk o.choice.kept ∧
    (-9223372036854775808 ≤ o.kind ∧ o.kind ≤ 9223372036854775807) ∧ (-9223372036854775808 ≤ o.after ∧ o.after ≤ 9223372036854775807) := by
  obtain ⟨a, b, rfl, ⟨ha, hka⟩, p, q, rfl, ⟨vt, hp, hbb⟩, p2, q2, rfl, ⟨hp2, hk2⟩, hc⟩ := h
  obtain ⟨vk, hq2, hL, _, _⟩ := kChoice_cells hc
  have ha' : a = [.int .i64 o.kind] := ha
  have hp' : p = [vt] := hp
  have hp2' : p2 = [.int .i64 o.after] := hp2
  have hq2' : q2 = [vk, .int .i64 o.choice.torn, .int .i64 o.choice.half] := hq2
  subst ha' hp' hp2' hq2'
  exact ⟨vt, vk, rfl, hbb, hL, by simpa [Lit.wf, IntKind.min, IntKind.max, IntKind.signed, IntKind.bits] using hka, by simpa [Lit.wf, IntKind.min, IntKind.max, IntKind.signed, IntKind.bits] using hk2⟩
section
variable {H : Type} {enc : TypeId × Value → H} {w : World} {r : Reach} {b0 base : Nat} {sp : Nat → Bool} {held : Bool} {v : Value} {d : DataW H} {ps : List MemPlace}
/-- The argument is a script. -/
theorem open_scriptj (hval : Value.okWide Try.prog w r b0 22 v) (hd : DataW.Trod enc Try.prog w base sp held 22 v d ps) : ∃ L, IsL kOpJ w (fun _ => True) v L := by
  obtain ⟨fuel, hf⟩ := hd
  obtain ⟨a, len, cap, rfl⟩ := okWide_slice Try.underlying22 hval
  obtain ⟨L, hL⟩ := opens_scriptj hf
  exact ⟨L, kSlice_iff.1 hL⟩
end
theorem opj_at {w : World} {ok : Nat → Prop} {v : Value} {L : List OpJ} (h : IsL kOpJ w ok v L) :
    ∃ A c, v = .slice A L.length c ∧ L.length ≤ c ∧ c ≤ maxLen ∧ (L ≠ [] → ∃ b off, A = some ⟨b, off, none⟩ ∧ ok b ∧ b < w.heap.size ∧ ∀ (i : Nat) (hi : i < L.length), ∃ At nt Ak nk,
      w.cell? ⟨b, off + i * 6, none⟩ = some (.int .i64 L[i].kind) ∧ w.cell? ⟨b, off + i * 6 + 1, none⟩ = some (.slice At L[i].texts.length nt) ∧ w.cell? ⟨b, off + i * 6 + 2, none⟩ = some (.int .i64 L[i].after) ∧ w.cell? ⟨b, off + i * 6 + 3, none⟩ = some (.slice Ak L[i].choice.kept.length nk) ∧
      w.cell? ⟨b, off + i * 6 + 4, none⟩ = some (.int .i64 L[i].choice.torn) ∧ w.cell? ⟨b, off + i * 6 + 5, none⟩ = some (.int .i64 L[i].choice.half) ∧
      IsBB w ok (.slice At L[i].texts.length nt) L[i].texts ∧ IsL (kInt .i64) w ok (.slice Ak L[i].choice.kept.length nk) L[i].choice.kept ∧
      (-9223372036854775808 ≤ L[i].kind ∧ L[i].kind ≤ 9223372036854775807) ∧ (-9223372036854775808 ≤ L[i].after ∧ L[i].after ≤ 9223372036854775807)) := by
  obtain ⟨A, c, hv, h1, h2, h3⟩ := h.elem (by decide)
  refine ⟨A, c, hv, h1, h2, fun hn => ?_⟩
  obtain ⟨b, off, hA, ho, hlt, hc⟩ := h3 hn
  refine ⟨b, off, hA, ho, hlt, fun i hi => ?_⟩
  obtain ⟨cs, hr, hcs⟩ := hc i hi
  obtain ⟨vt, vk, rfl, hT, hL, hk, ha⟩ := kOpJ_cells hr
  have hsz : kOpJ.size = 6 := rfl
  rw [hsz] at hcs
  have hL' := hL
  have hT' := hT
  obtain ⟨Ak, nk, ds, rfl, _⟩ := hL
  obtain ⟨At, nt, vs, rfl, _⟩ := hT
  have e0 := hcs 0 (by simp)
  have e1 := hcs 1 (by simp)
  have e2 := hcs 2 (by simp)
  have e3 := hcs 3 (by simp)
  have e4 := hcs 4 (by simp)
  have e5 := hcs 5 (by simp)
  exact ⟨At, nt, Ak, nk, by simpa [Nat.add_assoc] using e0, by simpa [Nat.add_assoc] using e1, by simpa [Nat.add_assoc] using e2, by simpa [Nat.add_assoc] using e3, by simpa [Nat.add_assoc] using e4, by simpa [Nat.add_assoc] using e5, hT', hL', hk, ha⟩

/-- A script of a size with which this is tried. -/
def opjFits (o : OpJ) : Bool := decide (o.texts.length ≤ 6) && decide (o.choice.kept.length ≤ 70) && o.texts.all fun s => decide (s.length ≤ 2000)
def fitsJ (n : Int) (L : List OpJ) : Bool := decide (6 ≤ n) && decide (n ≤ 14) && decide (L.length ≤ 30) && L.all opjFits
theorem allj_take_succ {L : List OpJ} {k : Nat} (h : k < L.length) : (L.take (k + 1)).all opjFits = ((L.take k).all opjFits && opjFits L[k]) := by
  rw [List.take_succ_eq_append_getElem h, List.all_append]
  simp

set_option maxHeartbeats 1000000 in
theorem fitsj_any (ok : Nat → Prop) (v : Value) (n : Int) (L : List OpJ) (w : World) (hv : IsL kOpJ w ok v L) :
    Calls Try.prog 5 #[.int .i64 n, v] w fun e w' => e = .returned (.bool (fitsJ n L)) ∧ Below w.heap.size w w' := by
  obtain ⟨A, c, rfl, hc, hm, hel⟩ := opj_at hv
  have Hel := Lib.hid hel
  unfold maxLen at hm
  have hLm : L.length ≤ 9223372036854775807 := by omega
  clear hel hv
  by_cases h1 : n < 6
  · have hf : fitsJ n L = false := by unfold fitsJ; rw [show decide (6 ≤ n) = false by simp; omega]; rfl
    have Hf := Lib.hid hf
    clear hf
    go_enter Try.func5, Try.ntmps5
    go_wp2
    go_ret
    exact ⟨by rw [Hf.out]; rfl, Below.refl _ _⟩
  · by_cases h2 : 14 < n
    · have hf : fitsJ n L = false := by unfold fitsJ; rw [show decide (n ≤ 14) = false by simp; omega, Bool.and_false]; rfl
      have Hf := Lib.hid hf
      clear hf
      go_enter Try.func5, Try.ntmps5
      go_wp2
      go_ret
      exact ⟨by rw [Hf.out]; rfl, Below.refl _ _⟩
    · by_cases h3 : (30 : Int) < (L.length : Int)
      · have hf : fitsJ n L = false := by unfold fitsJ; rw [show decide (L.length ≤ 30) = false by simp; omega, Bool.and_false]; rfl
        have Hf := Lib.hid hf
        clear hf
        go_enter Try.func5, Try.ntmps5
        go_wp2
        go_ret
        exact ⟨by rw [Hf.out]; rfl, Below.refl _ _⟩
      · have hf : fitsJ n L = L.all opjFits := by
          unfold fitsJ
          rw [show decide (6 ≤ n) = true by simp; omega, show decide (n ≤ 14) = true by simp; omega, show decide (L.length ≤ 30) = true by simp; omega]
          rfl
        have Hf := Lib.hid hf
        clear hf
        go_enter Try.func5, Try.ntmps5
        go_wp2_with fail
        go_loopw [22] (fun i wr => ∃ k : Nat, k ≤ L.length ∧ i = .int .i64 (k : Int) ∧ (L.take k).all opjFits = true ∧ Below w.heap.size w wr) (fun i _ => L.length - (intOf i).toNat)
        case atStart => exact ⟨0, by omega, rfl, rfl, Below.refl _ _⟩
        case round =>
          obtain ⟨k, hk, rfl, hall, hb⟩ := hrel
          by_cases hlt : k < L.length
          · obtain ⟨b, off, rfl, _, hbw, hcells⟩ := Hel.out (by intro e; rw [e] at hlt; simp at hlt)
            obtain ⟨At, nt, Ak, nk, c0, c1, c2, c3, c4, c5, hT, hkL, _, _⟩ := hcells k hlt
            have d0 := (hb.cell (p := ⟨b, off + k * 6, none⟩) hbw).trans c0
            have d1 := (hb.cell (p := ⟨b, off + k * 6 + 1, none⟩) hbw).trans c1
            have d2 := (hb.cell (p := ⟨b, off + k * 6 + 2, none⟩) hbw).trans c2
            have d3 := (hb.cell (p := ⟨b, off + k * 6 + 3, none⟩) hbw).trans c3
            have d4 := (hb.cell (p := ⟨b, off + k * 6 + 4, none⟩) hbw).trans c4
            have d5 := (hb.cell (p := ⟨b, off + k * 6 + 5, none⟩) hbw).trans c5
            have hstep := allj_take_succ hlt
            have hhs : w.heap.size ≤ wr.heap.size := hb.size
            obtain ⟨_, _, e', hct, hmt, helt⟩ := hT.elem
            cases e'
            unfold maxLen at hmt
            have Hstep := Lib.hid hstep
            have Hall := Lib.hid hall
            have Hb := Lib.hid hb
            have Helt := Lib.hid helt
            have hmem := List.getElem_mem hlt
            obtain ⟨O, hO⟩ : ∃ O, O = L[k] := ⟨_, rfl⟩
            rw [← hO] at d0 d1 d2 d3 d4 d5 Hstep Helt hmem hct
            have Hmem := Lib.hid hmem
            clear hcells c0 c1 c2 c3 c4 c5 hkL hT hstep hall hb helt hmem hO
            by_cases g1 : O.texts.length ≤ 6
            · by_cases g2 : O.choice.kept.length ≤ 70
              · have g1' : ¬ (6 : Int) < (O.texts.length : Int) := by omega
                have g2' : ¬ (70 : Int) < (O.choice.kept.length : Int) := by omega
                obtain ⟨wo, hwo⟩ : ∃ wo, wo = wr := ⟨_, rfl⟩
                have hhs2 : w.heap.size ≤ wo.heap.size := by rw [hwo]; exact hhs
                go_wp2_with fail
                rw [← hwo] at Hb d0 d1 d2 d3 d4 d5 ⊢
                clear hwo hhs d0 d1 d2 d3 d4 d5
                go_loopw [40] (fun i wr => ∃ q : Nat, q ≤ O.texts.length ∧ i = .int .i64 (q : Int) ∧ (O.texts.take q).all (fun s => decide (s.length ≤ 2000)) = true ∧ Below w.heap.size w wr) (fun i _ => O.texts.length - (intOf i).toNat)
                case atStart => exact ⟨0, by omega, rfl, rfl, Hb.out.alloc hhs2 _⟩
                case round =>
                  obtain ⟨q, hq, rfl, hall2, hb2⟩ := hrel
                  by_cases hlt2 : q < O.texts.length
                  · obtain ⟨b2, off2, rfl, _, hbl2, hcells2⟩ := Helt.out (by intro e; rw [e] at hlt2; simp at hlt2)
                    obtain ⟨Ai, ci, hcell, _, _, _⟩ := hcells2 q hlt2
                    have hcell2 := (hb2.cell (p := ⟨b2, off2 + q, none⟩) hbl2).trans hcell
                    have hst2 : (O.texts.take (q + 1)).all (fun s => decide (s.length ≤ 2000)) = ((O.texts.take q).all (fun s => decide (s.length ≤ 2000)) && decide (O.texts[q].length ≤ 2000)) := by
                      rw [List.take_succ_eq_append_getElem hlt2, List.all_append]
                      simp
                    have Hst2 := Lib.hid hst2
                    have Hall2 := Lib.hid hall2
                    have hmem2 := List.getElem_mem hlt2
                    have Hmem2 := Lib.hid hmem2
                    clear hcells2 hcell hst2 hall2 hmem2
                    by_cases g3 : O.texts[q].length ≤ 2000
                    · have g3' : ¬ (2000 : Int) < (O.texts[q].length : Int) := by omega
                      go_wp2
                      go_roundw
                      case rel => exact ⟨q + 1, by omega, by go_num, by rw [Hst2.out, Hall2.out, decide_eq_true g3]; rfl, hb2⟩
                      case measure => simp [intOf]; omega
                    · have hbad : L.all opjFits = false := by
                        rw [List.all_eq_false]
                        refine ⟨O, Hmem.out, ?_⟩
                        unfold opjFits
                        rw [show O.texts.all (fun s => decide (s.length ≤ 2000)) = false from List.all_eq_false.2 ⟨_, Hmem2.out, by simpa using g3⟩, Bool.and_false]
                        decide
                      have Hbad := Lib.hid hbad
                      have g3' : (2000 : Int) < (O.texts[q].length : Int) := by omega
                      clear hbad
                      go_wp2
                      go_ret
                      exact ⟨by rw [Hf.out, Hbad.out]; rfl, hb2⟩
                  · obtain rfl : q = O.texts.length := by omega
                    rw [List.take_length] at hall2
                    have hok : opjFits O = true := by unfold opjFits; rw [hall2]; simp [g1, g2]
                    have Hok := Lib.hid hok
                    clear hok hall2
                    go_wp2
                    go_roundw
                    case rel => exact ⟨k + 1, by omega, by go_num, by rw [Hstep.out, Hall.out, Hok.out]; rfl, hb2⟩
                    case measure => simp [intOf]; omega
              · have hbad : L.all opjFits = false := by
                  rw [List.all_eq_false]
                  exact ⟨O, Hmem.out, by unfold opjFits; simp [g1, g2]⟩
                have Hbad := Lib.hid hbad
                have g1' : ¬ (6 : Int) < (O.texts.length : Int) := by omega
                have g2' : (70 : Int) < (O.choice.kept.length : Int) := by omega
                clear hbad
                go_wp2
                go_ret
                exact ⟨by rw [Hf.out, Hbad.out]; rfl, Hb.out.alloc hhs _⟩
            · have hbad : L.all opjFits = false := by
                rw [List.all_eq_false]
                exact ⟨O, Hmem.out, by unfold opjFits; simp [g1]⟩
              have Hbad := Lib.hid hbad
              have g1' : (6 : Int) < (O.texts.length : Int) := by omega
              clear hbad
              go_wp2
              go_ret
              exact ⟨by rw [Hf.out, Hbad.out]; rfl, Hb.out.alloc hhs _⟩
          · obtain rfl : k = L.length := by omega
            rw [List.take_length] at hall
            have Hall := Lib.hid hall
            clear hall
            go_wp2
            go_ret
            exact ⟨by rw [Hf.out, Hall.out]; rfl, hb⟩
end Go.Proofs.Ytiaabgmmmekpnaa
