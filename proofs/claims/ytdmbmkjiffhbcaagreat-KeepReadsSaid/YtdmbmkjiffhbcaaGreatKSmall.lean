/-
  keep's Room, Broken, tooLong, asChange.
  keep's asChange.
-/
import Derived.Test.YtdmbmkjiffhbcaaGreatPuts
import Derived.Test.YtdmbmkjiffhbcaaGreatJRead
import Derived.Test.YtdmbmkjiffhbcaaGreatNums
namespace Go.Proofs.YtdmbmkjiffhbcaaGreat
open Go.RowKit
set_option maxRecDepth 100000

theorem kbroken_nil (w : World) : Calls Tryz.prog 24 #[.pointer none] w fun e w' => e = .returned (.bool true) ∧ w = w' := by
  go_enter Tryz.func24, Tryz.ntmps24
  go_wp2
  go_ret
  exact ⟨rfl, rfl⟩
theorem kbroken_any (w : World) (kb j g : Nat) (J : JM) (hk : w.cell? ⟨kb, 0, none⟩ = some (.pointer (some ⟨j, 0, none⟩))) (h : JAt w j g J) : Calls Tryz.prog 24 #[.pointer (some ⟨kb, 0, none⟩)] w fun e w' => e = .returned (.bool J.broken) ∧ w = w' := by
  have Hj := Lib.hid (jbroken_any w j g J h)
  clear h
  go_enter Tryz.func24, Tryz.ntmps24
  go_wp2_with fail
  refine Hj.out.mono ?_
  rintro e w' ⟨rfl, rfl⟩
  go_wp2_with fail
  go_ret
  exact ⟨rfl, rfl⟩
def long60 (p : PutM) : Bool := decide (60000 < p.val.length)
theorem toolong_any (ok : Nat → Prop) (v : Value) (L : List PutM) (w : World) (hL : IsL kPut w ok v L) :
    Calls Tryz.prog 25 #[v] w fun e w' => e = .returned (.bool (L.any long60)) ∧ Below w.heap.size w w' := by
  obtain ⟨A, c, rfl, hLc, hcm, hcells⟩ := put_at hL
  have Hc := Lib.hid hcells
  have hLm : L.length ≤ 9223372036854775807 := by unfold maxLen at hcm; omega
  clear hL hcells
  generalize hR : L.any long60 = R
  have HR := Lib.hid hR
  clear hR
  go_enter Tryz.func25, Tryz.ntmps25
  go_wp2_with fail
  go_loopw [7] (fun i wr => ∃ k : Nat, k ≤ L.length ∧ i = .int .i64 (k : Int) ∧ (L.drop k).any long60 = R ∧ Below w.heap.size w wr) (fun i _ => L.length - (intOf i).toNat)
  case atStart => exact ⟨0, by omega, rfl, HR.out, Below.refl _ _⟩
  case round =>
    obtain ⟨k, hk, rfl, hrec, hbel⟩ := hrel
    have Hbel := Lib.hid hbel
    have Hrec := Lib.hid hrec
    clear hbel hrec
    by_cases hlt : k < L.length
    · obtain ⟨b, off, rfl, hokb, hbl, hcell⟩ := Hc.out (by intro e; subst e; simp at hlt)
      obtain ⟨Ai, ci, c0, c1, c2, hkey, hval⟩ := hcell k hlt
      have c0' := (Hbel.out.cell (p := ⟨b, off + k * 3, none⟩) hbl).trans c0
      have c1' := (Hbel.out.cell (p := ⟨b, off + k * 3 + 1, none⟩) hbl).trans c1
      have c2' := (Hbel.out.cell (p := ⟨b, off + k * 3 + 2, none⟩) hbl).trans c2
      have hrec := Hrec.out
      rw [List.drop_eq_getElem_cons hlt, List.any_cons] at hrec
      have hvm : L[k].val.length ≤ 9223372036854775807 := by
        obtain ⟨A', c', h1, h2, h3, _⟩ := hval
        unfold maxLen at h3
        omega
      generalize L[k] = p at c0' c1' c2' hrec hvm
      obtain ⟨pk, pv, pg⟩ := p
      dsimp only at c0' c1' c2' hvm
      have Hrec2 := Lib.hid hrec
      clear hcell c0 c1 c2 hkey hval hrec Hrec
      by_cases hbig : 60000 < pv.length
      · go_wp2_with fail
        go_ret
        have h := Hrec2.out
        simp [long60, hbig] at h
        subst h
        exact ⟨rfl, Hbel.out.alloc Hbel.out.size _⟩
      · go_wp2_with fail
        go_roundw
        case rel =>
          have h := Hrec2.out
          simp [long60, hbig] at h
          exact ⟨k + 1, by omega, by go_num, by simpa using h, Hbel.out.alloc Hbel.out.size _⟩
        case measure => simp [intOf]; omega
    · obtain rfl : k = L.length := by omega
      have h := Hrec.out
      rw [List.drop_length] at h
      simp at h
      subst h
      go_wp2_with fail
      go_ret
      exact ⟨rfl, Hbel.out⟩
end Go.Proofs.YtdmbmkjiffhbcaaGreat

namespace Go.Proofs.YtdmbmkjiffhbcaaGreat
open Go.RowKit
set_option maxRecDepth 100000

theorem results_ct {P : Program} {fn : Func} {p q : Tmp} {ty : TypeId} (h : fn.results = #[.cell p ty, .tmp q]) (tmps : Array Value) (w : World) (g : Nat) (t : TypeId) (cs : Array Value) (fr : Nat × Nat) (d : TypeDesc) (v : Value)
    (hp : tmps.getD p undef = .pointer (some ⟨g, 0, none⟩)) (hq : tmps.getD q undef = v) (hg : w.heap[g]? = some (.cells cs t fr))
    (hu : P.underlying ty = some d) (hd : (match d with | .struct _ | .array _ _ => true | _ => false) = true) (hi : (P.info? ty).map (·.size) = some cs.size) :
    (results fn tmps).run P w = .ok (.tuple #[.agg cs, v]) w := by
  have hp' : tmps[p]?.getD undef = .pointer (some ⟨g, 0, none⟩) := by simpa using hp
  have hq' : tmps[q]?.getD undef = v := by simpa using hq
  simp [results, h, hp', hq', asAddr, run_loadVar_row w g t ty cs fr d hg hu hd hi]
theorem put_info : (Tryz.prog.info? 49).map (·.size) = some 3 := by kernel_rfl
/-- The change that two fields tell, and the error. -/
def chgM (f g : List UInt8) : PutM × Nat :=
  if (asNumV f).2 ≠ 0 then (⟨0, [], false⟩, 7) else if g = [] then (⟨(asNumV f).1, [], true⟩, 0) else if g.head? ≠ some 1 then (⟨0, [], false⟩, 7) else (⟨(asNumV f).1, g.tail, false⟩, 0)
theorem chgM_key (f g : List UInt8) : (chgM f g).1.key < 18446744073709551616 := by
  have h : (asNumV f).1 < 18446744073709551616 := by
    unfold asNumV
    split
    · decide
    · split
      · decide
      · exact asNum_lt64 f (by omega)
  unfold chgM
  split
  · exact (by decide : 0 < 18446744073709551616)
  · split
    · exact h
    · split
      · exact (by decide : 0 < 18446744073709551616)
      · exact h
theorem chgM_val (f g : List UInt8) : (chgM f g).1.val.length ≤ g.length := by
  unfold chgM
  split
  · simp
  · split
    · simp
    · split
      · simp
      · simp
/-- What asChange answers. -/
def ChgPost (ok : Nat → Prop) (f g : List UInt8) (w : World) (e : Ending) (w' : World) : Prop :=
  ∃ A c, e = .returned (.tuple #[.agg #[.int .u64 ((chgM f g).1.key : Int), .slice A (chgM f g).1.val.length c, .bool (chgM f g).1.gone], .int .i64 ((chgM f g).2 : Int)]) ∧
    IsB w' ok (.slice A (chgM f g).1.val.length c) (chgM f g).1.val ∧ Below w.heap.size w w'
set_option maxHeartbeats 1000000 in
theorem aschange_any (ok : Nat → Prop) (A B : Option Addr) (c d : Nat) (f g : List UInt8) (w : World) (hf : IsB w ok (.slice A f.length c) f) (hg : IsB w ok (.slice B g.length d) g) :
    Calls Tryz.prog 45 #[.slice A f.length c, .slice B g.length d] w (ChgPost ok f g w) := by
  have hn : ∀ z, Below w.heap.size w z → Calls Tryz.prog 70 #[.slice A f.length c] z fun e w' => e = .returned (.tuple #[.int .u64 ((asNumV f).1 : Int), .int .i64 ((asNumV f).2 : Int)]) ∧ w' = z := fun z hz => by
    obtain ⟨A', c', h1, h2, h3, h4⟩ := hf.grow hz
    cases h1
    exact asnum_any ok A c f z (by omega) h4
  have hb1 : Below w.heap.size w (w.alloc (.cells #[.int .u64 0, .slice none 0 0, .bool false] 49)) := (Below.refl _ _).alloc (Nat.le_refl _) _
  have hg1 := hg.grow hb1
  have hblk := Blk.new w 49 #[.int .u64 0, .slice none 0 0, .bool false]
  have Hn := Lib.hid (hn _ hb1)
  have hgl : g.length ≤ 9223372036854775807 := by
    obtain ⟨_, _, _, _, h, _⟩ := hg
    unfold maxLen at h
    omega
  have hgd : d ≤ 9223372036854775807 ∧ g.length ≤ d := by
    obtain ⟨_, _, h0, h1, h, _⟩ := hg
    cases h0
    unfold maxLen at h
    omega
  have he2 : (asNumV f).2 = 0 ∨ (asNumV f).2 = 4 ∨ (asNumV f).2 = 7 := by
    unfold asNumV
    split
    · simp
    · split <;> simp
  unfold ChgPost
  have hcm : chgM f g = if (asNumV f).2 ≠ 0 then (⟨0, [], false⟩, 7) else if g = [] then (⟨(asNumV f).1, [], true⟩, 0) else if g.head? ≠ some 1 then (⟨0, [], false⟩, 7) else (⟨(asNumV f).1, g.tail, false⟩, 0) := rfl
  generalize chgM f g = R at hcm ⊢
  generalize asNumV f = N at hcm Hn he2
  obtain ⟨n, e⟩ := N
  dsimp only at hcm Hn he2
  have Hg1 := Lib.hid hg1
  have Hg := Lib.hid hg
  have Hblk := Lib.hid hblk
  have Hb1 := Lib.hid hb1
  have Hcm := Lib.hid hcm
  have nilB : ∀ z : World, IsB z ok (.slice none 0 0) [] := fun z => ⟨none, 0, rfl, Nat.le_refl _, Nat.zero_le _, Rd.nil⟩
  have NilB := Lib.hid nilB
  clear hf hg hn hg1 hblk hb1 hcm nilB
  rcases he2 with rfl | he2
  · cases g with
    | nil =>
      have h := Hcm.out
      rw [if_neg (by omega), if_pos rfl] at h
      subst h
      go_enter Tryz.func45, Tryz.ntmps45
      go_wp2_with fail
      refine Hn.out.mono ?_
      rintro x w1 ⟨rfl, rfl⟩
      go_wp2_with fail
      refine bodyPost_ret (results_ct rfl _ _ w.heap.size _ _ _ _ _ rfl rfl (Blk.new w _ _) Tryz.underlying49 rfl put_info) rfl ?_
      exact ⟨none, 0, rfl, NilB.out _, (Below.refl _ _).alloc (Nat.le_refl _) _⟩
    | cons b t =>
      have h := Hcm.out
      rw [if_neg (by omega), if_neg (by simp)] at h
      obtain ⟨_, _, h0, _, _, hrd⟩ := Hg1.out
      cases h0
      obtain ⟨Bg, off, rfl, hokb, hbl, hcell⟩ := hrd.at' (by simp)
      have hc0 := hcell 0 (by simp)
      simp only [List.map_cons, List.getElem_cons_zero, Nat.add_zero] at hc0
      have hdrop := hrd
      by_cases hb : b = 1
      · subst hb
        rw [if_neg (by simp)] at h
        subst h
        have htl : ∀ o : Obj, IsB (w.alloc o) ok (if d = 1 then .slice (some ⟨Bg, off, none⟩) t.length 0 else .slice (some ⟨Bg, off + 1, none⟩) t.length (d - 1)) t := fun o => by
          have hbo : Below w.heap.size w (w.alloc o) := (Below.refl _ _).alloc (Nat.le_refl _) _
          obtain ⟨_, _, h0, h1, h2, hr⟩ := Hg.out.grow hbo
          cases h0
          simp only [List.length_cons] at h1
          split
          · have ht0 : t = [] := List.eq_nil_of_length_eq_zero (by omega)
            subst ht0
            exact ⟨_, 0, rfl, Nat.le_refl _, Nat.zero_le _, Rd.nil⟩
          · refine ⟨_, d - 1, rfl, by omega, by unfold maxLen at h2 ⊢; omega, ?_⟩
            have := hr.drop' (k := 1)
            simpa using this
        have Htl := Lib.hid htl
        unfold u8 at hc0
        clear hcell hrd hdrop htl
        go_enter Tryz.func45, Tryz.ntmps45
        go_wp2_with fail
        refine Hn.out.mono ?_
        rintro x w1 ⟨rfl, rfl⟩
        go_wp2_with fail
        all_goals refine bodyPost_ret (results_ct rfl _ _ w.heap.size _ _ _ _ _ rfl rfl (Blk.new w _ _) Tryz.underlying49 rfl put_info) rfl ?_
        all_goals
          have hT := fun o => Htl.out o
          first | simp only [if_pos (show d = 1 from by assumption)] at hT | simp only [if_neg (show ¬ d = 1 from by assumption)] at hT
          exact ⟨_, _, rfl, hT _, (Below.refl _ _).alloc (Nat.le_refl _) _⟩
      · rw [if_pos (by simp; exact hb)] at h
        subst h
        have hne : ((b.toNat : Int) != 1) = true := by
          rw [bne_iff_ne]
          intro h
          have h2 : b.toNat = 1 := by omega
          exact hb (UInt8.toNat_inj.1 h2)
        unfold u8 at hc0
        clear hcell hrd hdrop
        go_enter Tryz.func45, Tryz.ntmps45
        go_wp2_with fail
        refine Hn.out.mono ?_
        rintro x w1 ⟨rfl, rfl⟩
        go_wp2_with fail
        refine bodyPost_ret (results_ct rfl _ _ w.heap.size _ _ _ _ _ rfl rfl (Blk.new w _ _) Tryz.underlying49 rfl put_info) rfl ?_
        exact ⟨none, 0, rfl, NilB.out _, (Below.refl _ _).alloc (Nat.le_refl _) _⟩
  · have h := Hcm.out
    rw [if_pos (by omega)] at h
    subst h
    have hne : ((e : Int) != 0) = true := by
      rw [bne_iff_ne]
      omega
    go_enter Tryz.func45, Tryz.ntmps45
    go_wp2_with fail
    refine Hn.out.mono ?_
    rintro x w1 ⟨rfl, rfl⟩
    go_wp2_with fail
    refine bodyPost_ret (results_ct rfl _ _ w.heap.size _ _ _ _ _ rfl rfl (Blk.new w _ _) Tryz.underlying49 rfl put_info) rfl ?_
    exact ⟨none, 0, rfl, NilB.out _, (Below.refl _ _).alloc (Nat.le_refl _) _⟩
end Go.Proofs.YtdmbmkjiffhbcaaGreat
