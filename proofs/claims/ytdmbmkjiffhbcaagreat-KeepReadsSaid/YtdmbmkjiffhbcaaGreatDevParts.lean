/-
  device.sizes, and slices.Clone of numbers.
  Cut.
  On, change, Plan.
-/
import Derived.Test.YtdmbmkjiffhbcaaGreatDevAll
import Derived.Lib.BufferMore
import Derived.Deep.DeepCutAuto
import Derived.Test.YtdmbmkjiffhbcaaGreatPlainKit
namespace Go.Proofs.YtdmbmkjiffhbcaaGreat
open Go.RowKit
set_option maxRecDepth 100000

/-- How much stays of each loose write by the first m numbers of Kept. -/
def Choice.stayP (c : Choice) (m k : Nat) : Nat := if (k : Int) ∈ c.kept.take m then 256 else if c.torn = (k : Int) then (max 0 (min c.half 256)).toNat else 0
theorem stayP_all (c : Choice) (k : Nat) : c.stayP c.kept.length k = c.stay k := by unfold Choice.stayP Choice.stay; rw [List.take_length]
def stays (c : Choice) (m n : Nat) : List Int := (List.range n).map fun k => (c.stayP m k : Int)
theorem stays_length (c : Choice) (m n : Nat) : (stays c m n).length = n := by simp [stays]
theorem stays_zero (c : Choice) (n : Nat) (h : ¬ (0 ≤ c.torn ∧ c.torn < n)) : stays c 0 n = List.replicate n 0 := by
  apply List.ext_getElem
  · simp [stays]
  · intro i h1 h2
    simp only [stays_length] at h1
    simp only [stays, List.getElem_map, List.getElem_range, List.getElem_replicate, Choice.stayP, List.take_zero, List.not_mem_nil, if_false]
    rw [if_neg (by omega)]
    rfl
theorem stays_torn (c : Choice) (n k : Nat) (h : c.torn = (k : Int)) : stays c 0 n = (List.replicate n 0).set k (max 0 (min c.half 256)) := by
  apply List.ext_getElem
  · simp [stays]
  · intro i h1 h2
    simp only [stays_length] at h1
    simp only [stays, List.getElem_map, List.getElem_range, Choice.stayP, List.take_zero, List.not_mem_nil, if_false, List.getElem_set, List.getElem_replicate]
    by_cases e : k = i
    · subst e; rw [if_pos h, if_pos rfl]; omega
    · rw [if_neg (by omega), if_neg e]; rfl
theorem stays_step (c : Choice) (n m : Nat) (hm : m < c.kept.length) (h : ¬ (0 ≤ c.kept[m] ∧ c.kept[m] < n)) : stays c (m + 1) n = stays c m n := by
  apply List.ext_getElem
  · simp [stays]
  · intro i h1 h2
    simp only [stays_length] at h1
    simp only [stays, List.getElem_map, List.getElem_range, Choice.stayP]
    rw [List.take_succ_eq_append_getElem hm]
    have : ((i : Int) ∈ c.kept.take m ++ [c.kept[m]]) = ((i : Int) ∈ c.kept.take m) := by
      rw [List.mem_append, List.mem_singleton]
      apply propext
      constructor
      · rintro (h | h)
        · exact h
        · omega
      · exact .inl
    simp only [this]
theorem stays_set (c : Choice) (n m k : Nat) (hm : m < c.kept.length) (h : c.kept[m] = (k : Int)) : stays c (m + 1) n = (stays c m n).set k 256 := by
  apply List.ext_getElem
  · simp [stays]
  · intro i h1 h2
    simp only [stays_length] at h1
    simp only [stays, List.getElem_map, List.getElem_range, Choice.stayP, List.getElem_set]
    rw [List.take_succ_eq_append_getElem hm]
    by_cases e : k = i
    · subst e
      rw [if_pos (by rw [List.mem_append, h]; simp), if_pos rfl]
      rfl
    · rw [if_neg e]
      have : ((i : Int) ∈ c.kept.take m ++ [c.kept[m]]) = ((i : Int) ∈ c.kept.take m) := by
        rw [List.mem_append, List.mem_singleton]
        apply propext
        constructor
        · rintro (h | h)
          · exact h
          · omega
        · exact .inl
      simp only [this]

theorem Blk.setInts {w : World} {g : Nat} {t : TypeId} {l : List Int} (h : Blk w g t (l.map (Value.int .i64)).toArray) (k : Nat) (x : Int) : Blk (w.setCell ⟨g, k, none⟩ (.int .i64 x)) g t ((l.set k x).map (Value.int .i64)).toArray := by
  have := h.set_ k (.int .i64 x)
  rwa [List.setIfInBounds_toArray, ← List.map_set] at this

set_option maxHeartbeats 1000000 in
theorem sizes_any (ok : Nat → Prop) (vk : Value) (c : Choice) (n : Nat) (w : World) (hv : IsL (kInt .i64) w ok vk c.kept) (hn : n ≤ 1099511627776) :
    Calls Tryz.prog 31 #[.int .i64 (n : Int), .agg #[vk, .int .i64 c.torn, .int .i64 c.half]] w fun e w' => ∃ g, e = .returned (.slice (some ⟨g, 0, none⟩) n n) ∧ w.heap.size ≤ g ∧ Blk w' g 3 ((stays c c.kept.length n).map (Value.int .i64)).toArray ∧ Below w.heap.size w w' := by
  obtain ⟨A, cc, rfl, hc, hm, hel⟩ := int_at hv
  unfold maxLen at hm
  have Hel := Lib.hid hel
  have Hm : c.kept.length ≤ 9223372036854775807 := by omega
  have hmk := run_ints n hn
  clear hel hm hc hv
  go_enter Tryz.func31, Tryz.ntmps31
  have hb0 : Below w.heap.size w (w.alloc (.cells #[.slice A c.kept.length cc, .int .i64 c.torn, .int .i64 c.half] 25)) := (Below.refl _ _).alloc (Nat.le_refl _) _
  have Hb0 := Lib.hid hb0
  clear hb0
  by_cases h0 : 0 ≤ c.torn
  rotate_left
  · have Hst := Lib.hid (stays_zero c n (fun h => h0 h.1))
    have hd : decide (0 ≤ c.torn) = false := by simpa using h0
    go_wp2
    clear hmk
    go_loopw [30] (fun i wr => ∃ m : Nat, m ≤ c.kept.length ∧ i = .int .i64 (m : Int) ∧ Blk wr (w.heap.size + 1) 3 ((stays c m n).map (Value.int .i64)).toArray ∧ Below w.heap.size w wr) (fun i _ => c.kept.length - (intOf i).toNat)
    case atStart =>
      refine ⟨0, by omega, rfl, ?_, Hb0.out.alloc (by simp) _⟩
      rw [Hst.out, List.map_replicate]
      have := Blk.new (w.alloc (.cells #[.slice A c.kept.length cc, .int .i64 c.torn, .int .i64 c.half] 25)) 3 (Array.replicate n (.int .i64 0))
      simpa using this
    case round =>
      obtain ⟨m, hm, rfl, hblk, hb⟩ := hrel
      by_cases hlt : m < c.kept.length
      · obtain ⟨b, off, rfl, _, hbw, hcells⟩ := Hel.out (by intro e; rw [e] at hlt; simp at hlt)
        obtain ⟨hcell, _⟩ := hcells m hlt
        have hcell' : wr.cell? ⟨b, off + m, none⟩ = some (.int .i64 c.kept[m]) := (hb.cell (p := ⟨b, off + m, none⟩) hbw).trans hcell
        clear hcells hcell
        by_cases hin : 0 ≤ c.kept[m] ∧ c.kept[m] < (n : Int)
        · obtain ⟨k1, hk1⟩ := Int.eq_ofNat_of_zero_le hin.1
          have hk1n : k1 < n := by omega
          have hset := stays_set c n m k1 hlt hk1
          have hblk' := hblk.setInts k1 256
          rw [← hset] at hblk'
          have hcw := hblk.cell k1
          have hfz := hblk.frozen k1
          have hsz : k1 < ((stays c m n).map (Value.int .i64)).toArray.size := by simpa [stays_length] using hk1n
          rw [Array.getElem?_eq_getElem hsz] at hcw
          rw [hk1] at hcell'
          have Hblk' := Lib.hid hblk'
          have Hb := Lib.hid hb
          clear hset hblk' hk1 hin hblk hb
          go_wp2
          go_roundw
          case rel => exact ⟨m + 1, by omega, by go_num, Hblk'.out, Hb.out.setCell (by simp) _⟩
          case measure => simp [intOf]; omega
        · have hstep := stays_step c n m hlt hin
          have hblk' := hblk
          rw [← hstep] at hblk'
          have Hblk' := Lib.hid hblk'
          have Hb := Lib.hid hb
          clear hstep hblk' hblk hb
          by_cases hz : 0 ≤ c.kept[m]
          · have hd2 : decide (c.kept[m] < (n : Int)) = false := by simp; omega
            have hz2 : ¬ c.kept[m] < (n : Int) := by omega
            clear hin
            go_wp2
            go_roundw
            case rel => exact ⟨m + 1, by omega, by go_num, Hblk'.out, Hb.out⟩
            case measure => simp [intOf]; omega
          · have hd2 : decide (0 ≤ c.kept[m]) = false := by simpa using hz
            clear hin
            go_wp2
            go_roundw
            case rel => exact ⟨m + 1, by omega, by go_num, Hblk'.out, Hb.out⟩
            case measure => simp [intOf]; omega
      · obtain rfl : m = c.kept.length := by omega
        go_wp2
        go_ret
        exact ⟨_, rfl, by omega, hblk, hb⟩
  · by_cases h1 : c.torn < (n : Int)
    · obtain ⟨k, hk⟩ := Int.eq_ofNat_of_zero_le h0
      have Hst := Lib.hid (stays_torn c n k hk)
      have Hk := Lib.hid hk
      clear hk
      go_wp2
      clear hmk
      go_loopw [30] (fun i wr => ∃ m : Nat, m ≤ c.kept.length ∧ i = .int .i64 (m : Int) ∧ Blk wr (w.heap.size + 1) 3 ((stays c m n).map (Value.int .i64)).toArray ∧ Below w.heap.size w wr) (fun i _ => c.kept.length - (intOf i).toNat)
      case atStart =>
        refine ⟨0, by omega, rfl, ?_, Hb0.out.alloc (by simp) _⟩
        rw [Hst.out, List.map_set, List.map_replicate]
        have := Blk.new (w.alloc (.cells #[.slice A c.kept.length cc, .int .i64 c.torn, .int .i64 c.half] 25)) 3 ((Array.replicate n (.int .i64 0)).setIfInBounds c.torn.toNat (.int .i64 (min (max c.half 0) 256)))
        have e1 : c.torn.toNat = k := by rw [Hk.out]; rfl
        have e2 : max 0 (min c.half 256) = min (max c.half 0) 256 := by omega
        rw [e2]
        have e3 : (Array.replicate n (Value.int .i64 0)).setIfInBounds c.torn.toNat (.int .i64 (min (max c.half 0) 256)) = ((List.replicate n (Value.int .i64 0)).set k (.int .i64 (min (max c.half 0) 256))).toArray := by
          rw [e1, ← List.setIfInBounds_toArray]; simp
        rw [← e3]
        have e4 : (w.alloc (.cells #[.slice A c.kept.length cc, .int .i64 c.torn, .int .i64 c.half] 25)).heap.size = w.heap.size + 1 := by simp
        rw [e4] at this
        exact this
      case round =>
        obtain ⟨m, hm, rfl, hblk, hb⟩ := hrel
        by_cases hlt : m < c.kept.length
        · obtain ⟨b, off, rfl, _, hbw, hcells⟩ := Hel.out (by intro e; rw [e] at hlt; simp at hlt)
          obtain ⟨hcell, _⟩ := hcells m hlt
          have hcell' : wr.cell? ⟨b, off + m, none⟩ = some (.int .i64 c.kept[m]) := (hb.cell (p := ⟨b, off + m, none⟩) hbw).trans hcell
          clear hcells hcell
          by_cases hin : 0 ≤ c.kept[m] ∧ c.kept[m] < (n : Int)
          · obtain ⟨k1, hk1⟩ := Int.eq_ofNat_of_zero_le hin.1
            have hk1n : k1 < n := by omega
            have hset := stays_set c n m k1 hlt hk1
            have hblk' := hblk.setInts k1 256
            rw [← hset] at hblk'
            have hcw := hblk.cell k1
            have hfz := hblk.frozen k1
            have hsz : k1 < ((stays c m n).map (Value.int .i64)).toArray.size := by simpa [stays_length] using hk1n
            rw [Array.getElem?_eq_getElem hsz] at hcw
            rw [hk1] at hcell'
            have Hblk' := Lib.hid hblk'
            have Hb := Lib.hid hb
            clear hset hblk' hk1 hin hblk hb
            go_wp2
            go_roundw
            case rel => exact ⟨m + 1, by omega, by go_num, Hblk'.out, Hb.out.setCell (by simp) _⟩
            case measure => simp [intOf]; omega
          · have hstep := stays_step c n m hlt hin
            have hblk' := hblk
            rw [← hstep] at hblk'
            have Hblk' := Lib.hid hblk'
            have Hb := Lib.hid hb
            clear hstep hblk' hblk hb
            by_cases hz : 0 ≤ c.kept[m]
            · have hd2 : decide (c.kept[m] < (n : Int)) = false := by simp; omega
              have hz2 : ¬ c.kept[m] < (n : Int) := by omega
              clear hin
              go_wp2
              go_roundw
              case rel => exact ⟨m + 1, by omega, by go_num, Hblk'.out, Hb.out⟩
              case measure => simp [intOf]; omega
            · have hd2 : decide (0 ≤ c.kept[m]) = false := by simpa using hz
              clear hin
              go_wp2
              go_roundw
              case rel => exact ⟨m + 1, by omega, by go_num, Hblk'.out, Hb.out⟩
              case measure => simp [intOf]; omega
        · obtain rfl : m = c.kept.length := by omega
          go_wp2
          go_ret
          exact ⟨_, rfl, by omega, hblk, hb⟩
    · have Hst := Lib.hid (stays_zero c n (fun h => h1 h.2))
      have hd : decide (c.torn < (n : Int)) = false := by simpa using h1
      go_wp2
      clear hmk
      go_loopw [30] (fun i wr => ∃ m : Nat, m ≤ c.kept.length ∧ i = .int .i64 (m : Int) ∧ Blk wr (w.heap.size + 1) 3 ((stays c m n).map (Value.int .i64)).toArray ∧ Below w.heap.size w wr) (fun i _ => c.kept.length - (intOf i).toNat)
      case atStart =>
        refine ⟨0, by omega, rfl, ?_, Hb0.out.alloc (by simp) _⟩
        rw [Hst.out, List.map_replicate]
        have := Blk.new (w.alloc (.cells #[.slice A c.kept.length cc, .int .i64 c.torn, .int .i64 c.half] 25)) 3 (Array.replicate n (.int .i64 0))
        simpa using this
      case round =>
        obtain ⟨m, hm, rfl, hblk, hb⟩ := hrel
        by_cases hlt : m < c.kept.length
        · obtain ⟨b, off, rfl, _, hbw, hcells⟩ := Hel.out (by intro e; rw [e] at hlt; simp at hlt)
          obtain ⟨hcell, _⟩ := hcells m hlt
          have hcell' : wr.cell? ⟨b, off + m, none⟩ = some (.int .i64 c.kept[m]) := (hb.cell (p := ⟨b, off + m, none⟩) hbw).trans hcell
          clear hcells hcell
          by_cases hin : 0 ≤ c.kept[m] ∧ c.kept[m] < (n : Int)
          · obtain ⟨k1, hk1⟩ := Int.eq_ofNat_of_zero_le hin.1
            have hk1n : k1 < n := by omega
            have hset := stays_set c n m k1 hlt hk1
            have hblk' := hblk.setInts k1 256
            rw [← hset] at hblk'
            have hcw := hblk.cell k1
            have hfz := hblk.frozen k1
            have hsz : k1 < ((stays c m n).map (Value.int .i64)).toArray.size := by simpa [stays_length] using hk1n
            rw [Array.getElem?_eq_getElem hsz] at hcw
            rw [hk1] at hcell'
            have Hblk' := Lib.hid hblk'
            have Hb := Lib.hid hb
            clear hset hblk' hk1 hin hblk hb
            go_wp2
            go_roundw
            case rel => exact ⟨m + 1, by omega, by go_num, Hblk'.out, Hb.out.setCell (by simp) _⟩
            case measure => simp [intOf]; omega
          · have hstep := stays_step c n m hlt hin
            have hblk' := hblk
            rw [← hstep] at hblk'
            have Hblk' := Lib.hid hblk'
            have Hb := Lib.hid hb
            clear hstep hblk' hblk hb
            by_cases hz : 0 ≤ c.kept[m]
            · have hd2 : decide (c.kept[m] < (n : Int)) = false := by simp; omega
              have hz2 : ¬ c.kept[m] < (n : Int) := by omega
              clear hin
              go_wp2
              go_roundw
              case rel => exact ⟨m + 1, by omega, by go_num, Hblk'.out, Hb.out⟩
              case measure => simp [intOf]; omega
            · have hd2 : decide (0 ≤ c.kept[m]) = false := by simpa using hz
              clear hin
              go_wp2
              go_roundw
              case rel => exact ⟨m + 1, by omega, by go_num, Hblk'.out, Hb.out⟩
              case measure => simp [intOf]; omega
        · obtain rfl : m = c.kept.length := by omega
          go_wp2
          go_ret
          exact ⟨_, rfl, by omega, hblk, hb⟩

/-- slices.Clone of numbers. -/
theorem clonei_any (ok : Nat → Prop) (v : Value) (L : List Int) (w : World) (hv : IsL (kInt .i64) w ok v L) (hl : L.length ≤ 1099511627776) :
    Calls Tryz.prog 29 #[v] w fun e w' => ∃ v', e = .returned v' ∧ OwnL (kInt .i64) w' w.heap.size 3 v' L ∧ Below w.heap.size w w' := by
  obtain ⟨A, c, ds, rfl, hc, hm, hr, hmany⟩ := hv
  have hml := hmany.length
  rw [show (kInt .i64).size = 1 from rfl, Nat.mul_one] at hml
  have h1c : ∀ u ∈ ds, u.oneCell' = true := by
    intro u hu
    obtain ⟨css, rfl, hcl, hcr⟩ := hmany
    obtain ⟨l, hl, hu⟩ := List.mem_flatten.1 hu
    obtain ⟨i, hi, rfl⟩ := List.mem_iff_getElem.1 hl
    have := (hcr i hi (by omega)).1
    rw [this] at hu
    simp at hu
    rw [hu]; rfl
  have Hr := Lib.hid hr
  have Hml := Lib.hid hml
  have Hmany := Lib.hid (hmany.flat (kInt_flat _) (w' := w) (ok' := fun _ => False))
  unfold maxLen at hm
  clear hr hml hmany hm
  have hba : Below w.heap.size w (w.alloc (.cells #[] 3)) := (Below.refl _ _).alloc (Nat.le_refl _) _
  cases A with
  | none =>
    have hl0 : L = [] := by
      rcases Classical.em (ds = []) with h | h
      · have := Hml.out; rw [h] at this; exact List.eq_nil_of_length_eq_zero (by simpa using this.symm)
      · obtain ⟨ad, e, _⟩ := Hr.out h
        cases e
    subst hl0
    have hnil : ∀ W : World, (binOp .eql 23 (.slice none 0 c) (.slice none 0 0)).run Tryz.prog W = .ok (.bool true) W := fun W => Lib.run_eql_slice_nil_nil W _ _ Tryz.underlying23
    go_enter Tryz.func29, Tryz.ntmps29
    go_wp2
    go_ret
    exact ⟨_, rfl, ⟨[], OwnK.nil _ _ _ _, kMany.nil⟩, Below.refl _ _⟩
  | some ad =>
    have hnil : ∀ W : World, (binOp .eql 23 (.slice (some ad) L.length c) (.slice none 0 0)).run Tryz.prog W = .ok (.bool false) W := fun W => Lib.run_eql_slice_some_nil W _ _ _ Tryz.underlying23
    go_enter Tryz.func29, Tryz.ntmps29
    go_wp2_with (at_builtin; refine wpList_appK _ elemI rfl (.tmp 5) (.tmp 6) rfl w.heap.size 0 _ [] rfl (OwnK.empty w _ _) ok (some ad) L.length c ds (by rw [Hml.out, Nat.mul_one]) rfl (Hr.out.grow hba) h1c (by omega) (by omega) hba.size ?_; intro v1 w1 hown1 hg1 _; have hb1 := hba.trans ((OwnK.empty w 3 1).below_of hg1 hba.size (Nat.le_refl _)); clear hg1; simp only [Nat.zero_add, List.nil_append] at hown1; obtain ⟨A1, c1, rfl, _, _, _⟩ := hown1.form)
    go_ret
    exact ⟨_, rfl, ⟨ds, hown1, Hmany.out.flat (kInt_flat _)⟩, hb1⟩
end Go.Proofs.YtdmbmkjiffhbcaaGreat

namespace Go.Proofs.YtdmbmkjiffhbcaaGreat
open Go.RowKit
set_option maxRecDepth 100000

theorem cut_nil (a b d : Value) (w : World) : Calls Tryz.prog 14 #[.pointer none, .agg #[a, b, d]] w fun e w' => e = .returned (.tuple #[]) ∧ Below w.heap.size w w' := by
  go_enter Tryz.func14, Tryz.ntmps14
  go_wp2_with fail
  refine (off_nil _).mono ?_
  rintro e w' ⟨rfl, rfl⟩
  go_wp2
  refine bodyPost_ret (results_none rfl _ _ _) rfl ?_
  exact ⟨rfl, (Below.refl _ _).alloc (Nat.le_refl _) _⟩

set_option maxHeartbeats 1000000 in
theorem cut_on (base : Nat) (F : Nat → Prop) (g : Nat) (D : Dev) (ok : Nat → Prop) (vk : Value) (c : Choice) (w : World) (h : DevAt w base F g D) (hv : IsL (kInt .i64) w ok vk c.kept) (hl : D.loose.length ≤ 1099511627776) (hoff : D.off = false) :
    Calls Tryz.prog 14 #[.pointer (some ⟨g, 0, none⟩), .agg #[vk, .int .i64 c.torn, .int .i64 c.half]] w fun e w' => e = .returned (.tuple #[]) ∧ DevAt w' base F g (D.cut c) ∧ Fr F F w w' := by
  have hba : Below w.heap.size w (w.alloc (.cells #[vk, .int .i64 c.torn, .int .i64 c.half] 25)) := (Below.refl _ _).alloc (Nat.le_refl _) _
  have hblkb := Blk.new w 25 #[vk, .int .i64 c.torn, .int .i64 c.half]
  have hv1 := hv.grow hba
  have H1 := h.grow hba
  obtain ⟨W, hW⟩ : ∃ W, W = w.alloc (.cells #[vk, .int .i64 c.torn, .int .i64 c.half] 25) := ⟨_, rfl⟩
  rw [← hW] at hba hblkb hv1 H1
  have HW := Lib.hid hW
  have Hv1 := Lib.hid hv1
  have HH := Lib.hid H1
  obtain ⟨gs, gl, vl, vp, n, hin, hn⟩ := H1
  obtain ⟨hc0, hc1, hc2, hc3, hc4, hc5⟩ := hin.cells
  obtain ⟨A, cl, rfl, hcl, hcm, hrd⟩ := hin.loose.form
  have hb0 := hblkb.cell 0
  have hb1 := hblkb.cell 1
  have hb2 := hblkb.cell 2
  simp at hb0 hb1 hb2
  have Hin := Lib.hid hin
  have Hrd := Lib.hid hrd
  have Hblkb := Lib.hid hblkb
  have Hoff := Lib.hid hoff
  unfold maxLen at hcm
  clear hW hv hv1 h hoff hin hrd hblkb
  go_enter Tryz.func14, Tryz.ntmps14
  go_wp2_with fail
  rw [← HW.out]
  refine (off_any _ _ _ D _ HH.out).mono ?_
  rintro e w' ⟨rfl, rfl⟩
  rw [Hoff.out]
  go_upto_region 2 with (fail)
  go_cut [17, 18, 19] (fun a b d wx => ∃ g2, a = .slice (some ⟨g2, 0, none⟩) D.loose.length D.loose.length ∧ b = .int .i64 (D.loose.length : Int) ∧ d = .int .i64 0 ∧ W.heap.size ≤ g2 ∧ Blk wx g2 3 ((stays c c.kept.length D.loose.length).map (Value.int .i64)).toArray ∧ Below W.heap.size W wx)
  case first =>
    go_region_held3 (fun u => Below W.heap.size W u ∧ u.cell? ⟨g, 2, none⟩ = some (.slice A D.loose.length cl) ∧ u.cell? ⟨w.heap.size, 0, none⟩ = some vk ∧ u.cell? ⟨w.heap.size, 1, none⟩ = some (.int .i64 c.torn) ∧ u.cell? ⟨w.heap.size, 2, none⟩ = some (.int .i64 c.half))
      (first | exact ⟨(Below.refl _ _).drew, hc2, hb0, hb1, hb2⟩ | (go_split_ands; exact ⟨below_on (by assumption) hb2', cell_then hb2' (by assumption), cell_then hb2' (by assumption), cell_then hb2' (by assumption), cell_then hb2' (by assumption)⟩) | assumption)
      ((go_at_call 31; refine (sizes_any _ _ c _ _ (Hv1.out.grow ((Below.refl _ _).drew)) hl).mono ?_; rintro e w2 ⟨g2, rfl, hg2, hblk2, hb2'⟩))
    all_goals (go_wp2_with fail; go_meet; exact ⟨g2, rfl, rfl, rfl, hg2, hblk2, below_drew_then hb2'⟩)
  case rest =>
  obtain ⟨g2, rfl, rfl, rfl, hg2, hblk2, hw2⟩ := hcut
  obtain ⟨w2, rfl⟩ : ∃ x, x = wc := ⟨wc, rfl⟩
  have hgW : g < W.heap.size := Hin.out.blk.lt
  have hsW : gs < W.heap.size := Hin.out.sure.lt
  have hlW : gl < W.heap.size := Hin.out.last.lt
  have hgs : g ≠ gs := Hin.out.blk.ne_ Hin.out.sure (by decide)
  go_wp2_with fail
  go_loopw [19] (fun i wr => ∃ m : Nat, m ≤ D.loose.length ∧ i = .int .i64 (m : Int) ∧ Blk wr gs 83 (many secC (cutS c D.sure 0 (D.loose.take m))).toArray ∧ Fr (· = gs) (· = gs) w2 wr) (fun i _ => D.loose.length - (intOf i).toNat)
  case atStart => exact ⟨0, by omega, rfl, Hin.out.sure.grow hw2, Fr.refl _ _⟩
  case round =>
    obtain ⟨m, hm, rfl, hblk, hfr⟩ := hrel
    by_cases hlt : m < D.loose.length
    · obtain ⟨gw, cap, cur, hv, hbw, hblkw, hcap, hrange⟩ := wr_range Hin.out.loose Hin.out.wrs m hlt
      cases hv
      have hw2' := hw2
      have hwS : gw ≠ gs := hblkw.ne_ Hin.out.sure (by decide)
      have hwl := Hin.out.wrs _ (List.getElem_mem hlt)
      have hst : c.stayP c.kept.length m = c.stay m := stayP_all c m
      have hstl := stay_le c m
      have hcg0 := hfr.cell (cell_then hw2 hc0) hgs
      have hcg2 := hfr.cell (cell_then hw2 hc2) hgs
      have hcn : w2.cell? ⟨g2, m, none⟩ = some (.int .i64 (c.stay m : Int)) := by
        rw [hblk2.cell]
        simp [stays, hlt, hst]
      have hcn' := hfr.cell hcn (by show g2 ≠ gs; omega)
      have hrg' := hfr.range (range_same hrange (hw2.block _ hblkw.lt)) (by have := hblkw.lt; have := hw2.size; omega) hwS
      have hz := zero_wr
      have Hrg' := Lib.hid hrg'
      have Hwl := Lib.hid hwl
      have Hhyp := Lib.hid (And.intro hfr (And.intro hblk (And.intro hrange (And.intro hcn hwl))))
      have Hblkw := Lib.hid hblkw
      have Hblk2 := Lib.hid hblk2
      have Hw2 := Lib.hid hw2
      have Hst := Lib.hid hst
      clear hfr hblk hrange hcn hwl hrg' hblkw hw2' hblk2 hw2 hst
      go_upto_region 6 with (first
        | (with_reducible refine wpList_load_mid (op := ⟨some 30, _, _, _, _, _⟩) rfl _ _ rfl gw (m * 257) rfl (wrC D.loose[m]) _ Hrg'.out Tryz.underlying85 rfl (by rw [size_wr, Hwl.out]) ?_)
        | (with_reducible refine wpList_store_new rfl _ _ _ rfl _ (wrC D.loose[m]).toArray rfl rfl (by rw [size_wr]; simp [Hwl.out]) (by rw [zeroWr_size]; simp [Hwl.out]) (all_oneCell_toArray (wrC_oneCell _)) ?_))
      obtain ⟨wa, hwa⟩ : ∃ x, x = wr.alloc (.cells (wrC D.loose[m]).toArray 85) := ⟨_, rfl⟩
      obtain ⟨hfr, hblk, hrange, hcn, hwl⟩ := Hhyp.out
      have hfa : Fr (· = gs) (· = gs) wr wa := by rw [hwa]; exact (Fr.refl _ _).alloc _
      have hblkA : Blk wa wr.heap.size 85 (wrC D.loose[m]).toArray := by rw [hwa]; exact Blk.new _ _ _
      have hblka : Blk wa gs 83 (many secC (cutS c D.sure 0 (D.loose.take m))).toArray := by rw [hwa]; exact hblk.alloc _
      have hwrs : wr.heap.size ≠ gs := by have := hblk.lt; omega
      have hgr : g < wr.heap.size := World.block_lt_of_cell? _ _ hcg0
      have hca0 := hfa.cell hcg0 hgs
      have hca1 : wa.cell? ⟨wr.heap.size, 0, none⟩ = some (.int .i64 (D.loose[m].1 : Int)) := by rw [hblkA.cell]; rfl
      have hrga : wa.rangeAt wr.heap.size 1 (D.loose[m].2.map u8) := hblkA.range 1 _ (by unfold wrC; rw [List.drop_succ_cons, List.drop_zero, List.take_length])
      obtain ⟨hat, hdl⟩ := Hin.out.wf.loose _ (List.getElem_mem hlt)
      have hsl : ∀ x ∈ cutS c D.sure 0 (D.loose.take m), (secC x).length = 256 := fun x hx => by
        unfold secC
        rw [List.length_map]
        exact cutS_wf c _ 0 _ Hin.out.wf.sure (fun y hy => Hin.out.wf.loose y (List.mem_of_mem_take hy)) x hx
      have hatn : (D.loose[m].1 : Int) < (n : Int) := by have := Hin.out.len; omega
      have hat' : D.loose[m].1 < (cutS c D.sure 0 (D.loose.take m)).length := by rw [cutS_length]; exact hat
      have hsi : (c.stay m : Int) ≤ 256 := by omega
      have hstep := cutS_take c D.sure D.loose m hlt
      have hcsl : ((D.loose[m].2.take (c.stay m)).map u8).length = c.stay m := by rw [List.length_map, List.length_take]; omega
      have hfit := many_fits secC 256 _ hsl _ hat'
      have hspl := many_splice secC 256 _ hsl _ hat' (D.loose[m].2.take (c.stay m) ++ ((cutS c D.sure 0 (D.loose.take m)).getD D.loose[m].1 []).drop (c.stay m)) ((D.loose[m].2.take (c.stay m)).map u8) (by omega) (by
        unfold secC
        rw [List.map_append, hcsl, List.getD_eq_getElem?_getD, List.getElem?_eq_getElem hat', List.map_drop]; rfl)
      rw [← hstep] at hspl
      have hn1 : ((D.loose[m].2.take (c.stay m)).map u8).length = Nat.min 256 (c.stay m) := by rw [hcsl]; exact (Nat.min_eq_right hstl).symm
      have hpos : 0 < ((D.loose[m].2.take (c.stay m)).map u8).length → (some (⟨gs, D.loose[m].1 * 256, none⟩ : Addr)) = some ⟨gs, D.loose[m].1 * 256, none⟩ ∧ ∃ ad, (some (⟨wr.heap.size, 1, none⟩ : Addr)) = some ad ∧ ∀ j v, ((D.loose[m].2.take (c.stay m)).map u8)[j]? = some v → wa.drew.cell? (ad.add j) = some v := fun _ => ⟨rfl, _, rfl, fun j v hj => by
        rw [Addr.add_mid]
        refine hrga j v ?_
        rw [List.map_take, List.getElem?_take] at hj
        split at hj
        · exact hj
        · cases hj⟩
      have hfit1 : D.loose[m].1 * 256 + ((D.loose[m].2.take (c.stay m)).map u8).length ≤ (many secC (cutS c D.sure 0 (D.loose.take m))).length := by rw [hcsl]; omega
      have Hn1 := Lib.hid hn1
      have Hpos := Lib.hid hpos
      have Hfit1 := Lib.hid hfit1
      have Hspl := Lib.hid hspl
      have Hrga := Lib.hid hrga
      have Hblka := Lib.hid hblka
      have Hfit := Lib.hid hfit
      have Hcsl := Lib.hid hcsl
      have Hfra := Lib.hid (hfr.trans hfa)
      have Hdl := Lib.hid hdl
      have Hwa := Lib.hid hwa
      rw [← hwa]
      clear hn1 hpos hfit1 hspl hstep hrga hblka hfit hcsl hfa hfr hblk hblkA hrange hcn hwl hdl hsl hat hat' hwa hcg0 hcg2 hcn' hz
      go_region_held3 (fun u => u.cell? ⟨g, 0, none⟩ = some (.slice (some ⟨gs, 0, none⟩) n n) ∧ u.cell? ⟨wr.heap.size, 0, none⟩ = some (.int .i64 (D.loose[m].1 : Int)))
        (first | exact ⟨hca0, hca1⟩ | exact ⟨Fr.cell hfr5 hca0 hgs, Fr.cell hfr5 hca1 hwrs⟩ | assumption)
        ((refine step_copy_fr rfl (.tmp 39) (.tmp 41) 47 47 rfl 5 Tryz.underlying47 size_u8 (some ⟨gs, D.loose[m].1 * 256, none⟩) (some ⟨wr.heap.size, 1, none⟩) (c.stay m) 256 256 256 rfl rfl gs (D.loose[m].1 * 256) _ 83 Hblka.out.drew ((D.loose[m].2.take (c.stay m)).map u8) Hn1.out Hpos.out Hfit1.out (u8_oneCell _) ?_; intro w5 hblk5 hfr5))
      all_goals go_wp2_with fail
      all_goals go_roundw
      case rel => exact ⟨m + 1, by omega, by go_num, by rw [← Hspl.out]; exact hblk5, Hfra.out.trans (Fr.trans ((Fr.refl _ _).drew) hfr5)⟩
      case measure => simp [intOf]; omega
    · obtain rfl : m = D.loose.length := by omega
      rw [List.take_length] at hblk
      obtain ⟨wb, rfl⟩ : ∃ x, x = wr := ⟨wr, rfl⟩
      have hls : gl ≠ gs := fun e => Hin.out.ne e.symm
      have hgl : g ≠ gl := Hin.out.blk.ne_ Hin.out.last (by decide)
      have hcg0 := hfr.cell (cell_then hw2 hc0) hgs
      have hcg1 := hfr.cell (cell_then hw2 hc1) hgs
      have hcg2 := hfr.cell (cell_then hw2 hc2) hgs
      have hlast := (hfr.blk (Hin.out.last.grow hw2) hls).2
      have hblkg := (hfr.blk (Hin.out.blk.grow hw2) hgs).2
      obtain ⟨S, hS⟩ : ∃ S, S = cutS c D.sure 0 D.loose := ⟨_, rfl⟩
      have hSl : S.length = n := by rw [hS, cutS_length]; exact Hin.out.len
      have hSw : ∀ x ∈ S, x.length = 256 := by rw [hS]; exact cutS_wf c _ 0 _ Hin.out.wf.sure Hin.out.wf.loose
      rw [← hS] at hblk
      have Hfr := Lib.hid hfr
      have Hblk := Lib.hid hblk
      have HS := Lib.hid hS
      have HSl := Lib.hid hSl
      have Hlast := Lib.hid hlast
      have Hw2 := Lib.hid hw2
      have Hblkg := Lib.hid hblkg
      clear hfr hblk hS hSl hlast hw2 hblk2 hblkg
      go_wp2_with fail
      go_loopw [49] (fun i wr => ∃ m : Nat, m ≤ D.loose.length ∧ i = .int .i64 (m : Int) ∧ Blk wr gl 83 (many secC (copyS S (applyW D.sure D.loose) (D.loose.take m))).toArray ∧ Fr (· = gl) (· = gl) wb wr) (fun i _ => D.loose.length - (intOf i).toNat)
      case atStart => exact ⟨0, by omega, rfl, Hlast.out, Fr.refl _ _⟩
      case round =>
        obtain ⟨m, hm, rfl, hblk, hfr⟩ := hrel
        by_cases hlt : m < D.loose.length
        · obtain ⟨gw, cap, cur, hv, hbw, hblkw, hcap, hrange⟩ := wr_range Hin.out.loose Hin.out.wrs m hlt
          cases hv
          have hwS : gw ≠ gs := hblkw.ne_ Hin.out.sure (by decide)
          have hwL : gw ≠ gl := hblkw.ne_ Hin.out.last (by decide)
          have hwl := Hin.out.wrs _ (List.getElem_mem hlt)
          have hd0 := hfr.cell hcg0 hgl
          have hd1 := hfr.cell hcg1 hgl
          have hrb := Hfr.out.range (range_same hrange (Hw2.out.block _ hblkw.lt)) (by have := hblkw.lt; have := Hw2.out.size; omega) hwS
          have hbb := Hfr.out.size
          have hrg' := hfr.range hrb (by have := hblkw.lt; have := Hw2.out.size; omega) hwL
          have hblks := (hfr.blk Hblk.out (fun e => hls e.symm)).2
          have hz := zero_wr
          have Hrg' := Lib.hid hrg'
          have Hwl := Lib.hid hwl
          have Hblks := Lib.hid hblks
          have Hblkm := Lib.hid hblk
          have Hfrm := Lib.hid hfr
          clear hrange hrb hrg' hwl hblkw hblks hblk hfr
          go_upto_region 11 with (first
            | (with_reducible refine wpList_load_mid (op := ⟨some 52, _, _, _, _, _⟩) rfl _ _ rfl gw (m * 257) rfl (wrC D.loose[m]) _ Hrg'.out Tryz.underlying85 rfl (by rw [size_wr, Hwl.out]) ?_)
            | (with_reducible refine wpList_store_new rfl _ _ _ rfl _ (wrC D.loose[m]).toArray rfl rfl (by rw [size_wr]; simp [Hwl.out]) (by rw [zeroWr_size]; simp [Hwl.out]) (all_oneCell_toArray (wrC_oneCell _)) ?_))
          obtain ⟨wa, hwa⟩ : ∃ x, x = wr.alloc (.cells (wrC D.loose[m]).toArray 85) := ⟨_, rfl⟩
          have hfa : Fr (· = gl) (· = gl) wr wa := by rw [hwa]; exact (Fr.refl _ _).alloc _
          have hblkA : Blk wa wr.heap.size 85 (wrC D.loose[m]).toArray := by rw [hwa]; exact Blk.new _ _ _
          have hblkl : Blk wa gl 83 (many secC (copyS S (applyW D.sure D.loose) (D.loose.take m))).toArray := by rw [hwa]; exact Hblkm.out.alloc _
          have hblks : Blk wa gs 83 (many secC S).toArray := by rw [hwa]; exact Hblks.out.alloc _
          have hca0 := hfa.cell hd0 hgl
          have hca1 := hfa.cell hd1 hgl
          have hca2 : wa.cell? ⟨wr.heap.size, 0, none⟩ = some (.int .i64 (D.loose[m].1 : Int)) := by rw [hblkA.cell]; rfl
          obtain ⟨hat, hdl⟩ := Hin.out.wf.loose _ (List.getElem_mem hlt)
          have hatS : D.loose[m].1 < S.length := by rw [HSl.out, ← Hin.out.len]; exact hat
          have hatL : D.loose[m].1 < (copyS S (applyW D.sure D.loose) (D.loose.take m)).length := by rw [copyS_length, applyW_length]; exact hat
          have hatn : (D.loose[m].1 : Int) < (n : Int) := by have := HSl.out; omega
          have hsS : ∀ x ∈ S, (secC x).length = 256 := fun x hx => by unfold secC; rw [List.length_map]; exact hSw x hx
          have hsl : ∀ x ∈ copyS S (applyW D.sure D.loose) (D.loose.take m), (secC x).length = 256 := fun x hx => by
            unfold secC
            rw [List.length_map]
            exact copyS_wf S _ _ hSw (applied Hin.out.wf) (fun y hy => by rw [HSl.out, ← Hin.out.len]; exact (Hin.out.wf.loose y (List.mem_of_mem_take hy)).1) x hx
          have hrs : wa.rangeAt gs (D.loose[m].1 * 256) (secC S[D.loose[m].1]) := hblks.range _ _ (many_at secC 256 S hsS _ hatS)
          have hth : wa.there gl (D.loose[m].1 * 256) 256 := hblkl.there _ _ (many_fits secC 256 _ hsl _ hatL)
          have hcl := hsS _ (List.getElem_mem hatS)
          have hspl := many_splice secC 256 _ hsl _ hatL (S.getD D.loose[m].1 []) (secC S[D.loose[m].1]) (by omega) (by
            rw [List.drop_eq_nil_of_le (by rw [hsl _ (List.getElem_mem hatL), hcl]; exact Nat.le_refl _), List.append_nil, List.getD_eq_getElem?_getD, List.getElem?_eq_getElem hatS]; rfl)
          rw [← copyS_take S _ _ m hlt] at hspl
          have hst := Blk.setCells (secC S[D.loose[m].1]) (D.loose[m].1 * 256) wa.drew _ hblkl.drew (by rw [hcl]; exact many_fits secC 256 _ hsl _ hatL)
          rw [hspl] at hst
          obtain ⟨cs, hcs⟩ : ∃ cs, cs = secC S[D.loose[m].1] := ⟨_, rfl⟩
          rw [← hcs] at hrs hcl hst
          have hth : wa.there gl (D.loose[m].1 * 256) cs.length := by rw [hcl]; exact hth
          have h1c : ∀ v ∈ cs, v.oneCell' = true := by rw [hcs]; exact secC_oneCell _
          have hi : (Tryz.prog.info? 83).map (·.size) = some cs.length := by rw [size_sec, hcl]
          have hu := Tryz.underlying83
          have Hst := Lib.hid hst
          have Hcl := Lib.hid hcl
          have Hfra := Lib.hid (Hfrm.out.trans hfa)
          have Hrs := Lib.hid hrs
          have hwrl : wr.heap.size ≠ gl := by have := Hblkm.out.lt; omega
          rw [← hwa]
          clear hspl hst hrs hcl hsl hsS hatS hatL hat hdl hcs hblkA hblkl hblks hfa hwa hd0 hd1 hcg0 hcg1 hcg2
          have hfrx : Fr (· = gl) (· = gl) wa (wa.drew.setCells gl (D.loose[m].1 * 256) cs) := Fr.setCells (F' := (· = gl)) ((Fr.refl (· = gl) wa).drew) rfl _ _
          have hk0 := hfrx.cell hca0 hgl
          have hk1 := hfrx.cell hca1 hgl
          have hk2 := hfrx.cell hca2 hwrl
          have hk3 := World.rangeAt_setCells_apart (w := wa.drew) Hrs.out gl (D.loose[m].1 * 256) cs (.inl (fun e => hls e.symm))
          have hk4 := World.there_setCells (w := wa.drew) hth gl (D.loose[m].1 * 256) cs
          have Hk0 := Lib.hid hk0
          have Hk1 := Lib.hid hk1
          have Hk2 := Lib.hid hk2
          have Hk3 := Lib.hid hk3
          have Hk4 := Lib.hid hk4
          have Hfrx := Lib.hid hfrx
          clear hk0 hk1 hk2 hk3 hk4 hfrx
          go_region_held3 (fun u => u.cell? ⟨g, 0, none⟩ = some (.slice (some ⟨gs, 0, none⟩) n n) ∧ u.cell? ⟨g, 1, none⟩ = some (.slice (some ⟨gl, 0, none⟩) n n) ∧ u.cell? ⟨wr.heap.size, 0, none⟩ = some (.int .i64 (D.loose[m].1 : Int)) ∧ u.rangeAt gs (D.loose[m].1 * 256) cs ∧ u.there gl (D.loose[m].1 * 256) cs.length)
            (first | exact ⟨hca0, hca1, hca2, Hrs.out, hth⟩ | exact ⟨Hk0.out, Hk1.out, Hk2.out, Hk3.out, Hk4.out⟩ | assumption)
            (fail)
          all_goals obtain ⟨we, hwe⟩ : ∃ x, x = wa.drew.setCells gl (D.loose[m].1 * 256) cs := ⟨_, rfl⟩
          all_goals rw [← hwe] at Hst Hfrx ⊢
          all_goals clear hwe
          all_goals go_wp2_with fail
          all_goals go_roundw
          case rel => exact ⟨m + 1, by omega, by go_num, Hst.out, Hfra.out.trans Hfrx.out⟩
          case measure => simp [intOf]; omega
        · obtain rfl : m = D.loose.length := by omega
          rw [List.take_length, HS.out, copyS_all] at hblk
          obtain ⟨wd, rfl⟩ : ∃ x, x = wr := ⟨wr, rfl⟩
          have hblks := (hfr.blk Hblk.out (fun e => hls e.symm)).2
          have hblkg := (hfr.blk Hblkg.out hgl).2
          have hsz := hfr.size
          have hsz2 := Hfr.out.size
          have hsz3 := Hw2.out.size
          have hfrw : Fr F F W wd := by
            have h1 : Fr F F W w2 := Fr.of_below Hw2.out F
            have h2 : Fr F F w2 wb := Hfr.out.less (fun k (hk : k = gs) => hk ▸ Hin.out.fs)
            have h3 : Fr F F wb wd := hfr.less (fun k (hk : k = gl) => hk ▸ Hin.out.fl)
            exact (h1.trans h2).trans h3
          have hd0 := hblkg.cell 2
          have hd1 := hblkg.cell 3
          have hd2 := hblkg.cell 4
          have hf0 := hblkg.frozen 2
          have hf1 := hblkg.frozen 3
          have hf2 := hblkg.frozen 4
          simp at hd0 hd1 hd2
          have Hblks' := Lib.hid hblks
          have Hblkl := Lib.hid hblk
          have Hblkg' := Lib.hid hblkg
          have Hfrw := Lib.hid hfrw
          clear hblks hblk hblkg hfrw hfr
          go_wp2
          go_end0
          have hcut : D.cut c = ⟨S, [], -1, noChoice, D.changes, true⟩ := by unfold Dev.cut; rw [Hoff.out, HS.out]; rfl
          have hB := (((Hblkg'.out.set_ 2 (.slice none 0 0)).set_ 3 (.pointer none)).set_ 4 (.bool true))
          have hFin : Fr F F W (((wd.setCell ⟨g, 2, none⟩ (.slice none 0 0)).setCell ⟨g, 3, none⟩ (.pointer none)).setCell ⟨g, 4, none⟩ (.bool true)) := ((Hfrw.out.setCell Hin.out.fg _).setCell Hin.out.fg _).setCell Hin.out.fg _
          have hba2 : Fr F F w W := Fr.of_below hba F
          refine ⟨rfl, ⟨gs, gl, .slice none 0 0, .pointer none, n, ?_, hn⟩, hba2.trans hFin⟩
          rw [hcut]
          refine ⟨?_, ?_, ?_, Hin.out.ne, OwnK.nil _ _ _ _, .inl ⟨rfl, rfl⟩, Hin.out.fg, Hin.out.fs, Hin.out.fl, fun k hk => (by cases hk), fun k hk => ⟨(Hin.out.low k hk).1, Nat.lt_of_lt_of_le (Hin.out.low k hk).2 hFin.size⟩, HSl.out, ⟨hSw, fun _ h => (by cases h), by show (-1 : Int) ≤ -1; omega⟩⟩
          · simpa using hB
          · exact ((Hblks'.out.far (fun e => hgs e.symm) _).far (fun e => hgs e.symm) _).far (fun e => hgs e.symm) _
          · show Blk _ gl _ (many secC S).toArray
            rw [HS.out]
            exact ((Hblkl.out.far (fun e => hgl e.symm) _).far (fun e => hgl e.symm) _).far (fun e => hgl e.symm) _

theorem cut_any (base : Nat) (F : Nat → Prop) (g : Nat) (D : Dev) (ok : Nat → Prop) (vk : Value) (c : Choice) (w : World) (h : DevAt w base F g D) (hv : IsL (kInt .i64) w ok vk c.kept) (hl : D.loose.length ≤ 1099511627776) :
    Calls Tryz.prog 14 #[.pointer (some ⟨g, 0, none⟩), .agg #[vk, .int .i64 c.torn, .int .i64 c.half]] w fun e w' => e = .returned (.tuple #[]) ∧ DevAt w' base F g (D.cut c) ∧ Fr F F w w' := by
  cases hoff : D.off with
  | false => exact cut_on base F g D ok vk c w h hv hl hoff
  | true =>
    have hba : Below w.heap.size w (w.alloc (.cells #[vk, .int .i64 c.torn, .int .i64 c.half] 25)) := (Below.refl _ _).alloc (Nat.le_refl _) _
    have H1 := Lib.hid (h.grow hba)
    have hcut : D.cut c = D := by unfold Dev.cut; rw [hoff]; rfl
    have Hcut := Lib.hid hcut
    have Hoff := Lib.hid hoff
    clear h hv hoff hcut
    go_enter Tryz.func14, Tryz.ntmps14
    go_wp2_with fail
    refine (off_any _ _ _ D _ H1.out).mono ?_
    rintro e w' ⟨rfl, rfl⟩
    rw [Hoff.out]
    go_wp2
    refine bodyPost_ret (results_none rfl _ _ _) rfl ?_
    exact ⟨rfl, by rw [Hcut.out]; exact H1.out, Fr.of_below hba F⟩
end Go.Proofs.YtdmbmkjiffhbcaaGreat

namespace Go.Proofs.YtdmbmkjiffhbcaaGreat
open Go.RowKit
set_option maxRecDepth 100000

theorem on_nil (w : World) : Calls Tryz.prog 15 #[.pointer none] w fun e w' => e = .returned (.bool false) ∧ w = w' := by
  go_enter Tryz.func15, Tryz.ntmps15
  go_wp2
  go_ret
  exact ⟨rfl, rfl⟩

section
variable {w w' : World} {base : Nat} {F : Nat → Prop} {g gs gl n : Nat} {vl vp : Value} {D : Dev}
/-- The head block is written anew: off and changes. -/
theorem DevIn.head (h : DevIn w base F g gs gl vl vp n D) (o : Bool) (ch : Nat) (hb : Blk w' g 67 #[.slice (some ⟨gs, 0, none⟩) n n, .slice (some ⟨gl, 0, none⟩) n n, vl, vp, .bool o, .int .i64 (ch : Int)])
    (hk : ∀ k, k ≠ g → w'.heap[k]? = w.heap[k]?) (hs : w.heap.size ≤ w'.heap.size) : DevIn w' base F g gs gl vl vp n { D with off := o, changes := ch } := by
  have hgs : gs ≠ g := h.sure.ne_ h.blk (by decide)
  have hgl : gl ≠ g := h.last.ne_ h.blk (by decide)
  refine ⟨hb, h.sure.keep (hk _ hgs), h.last.keep (hk _ hgl), h.ne, h.loose.keep fun k hk' => hk _ ?_, ?_, h.fg, h.fs, h.fl, h.fv, fun k hk' => ⟨(h.low k hk').1, Nat.lt_of_lt_of_le (h.low k hk').2 hs⟩, h.len, ⟨h.wf.sure, h.wf.loose, h.wf.left⟩⟩
  · intro e
    rw [e] at hk'
    rcases h.loose.2 with ⟨h1, _⟩ | ⟨g', cap, cur, h1, _, h2, _⟩
    · rw [h1] at hk'; cases hk'
    · rw [h1] at hk'
      cases hk'
      exact Blk.ne_ (t := 85) (t' := 67) h2 h.blk (by decide) rfl
  · rcases h.plan with h1 | ⟨h0, h1, gp, vk, e, hf, hb', hfk, hblk, xs, ho, hm⟩
    · exact .inl h1
    · refine .inr ⟨h0, h1, gp, vk, e, hf, hb', hfk, hblk.keep (hk _ (hblk.ne_ h.blk (by decide))), xs, ho.keep fun k hk' => hk _ ?_, hm.flat (kInt_flat _)⟩
      intro e
      rw [e] at hk'
      rcases ho.2 with ⟨h1, _⟩ | ⟨g', cap, cur, h1, _, h2, _⟩
      · rw [h1] at hk'; cases hk'
      · rw [h1] at hk'
        cases hk'
        exact Blk.ne_ (t := 3) (t' := 67) h2 h.blk (by decide) rfl
/-- The plan is written anew, in its block. -/
theorem DevIn.replan {gp : Nat} {cs : Array Value} (h : DevIn w base F g gs gl vl vp n D) (hb : Blk w gp 80 cs) (left : Int) (c : Choice) (hp : PlanAt w' base F vp left c) (hl : -1 ≤ left) (hk : ∀ k, k ≠ gp → w'.heap[k]? = w.heap[k]?) (hs : w.heap.size ≤ w'.heap.size) :
    DevIn w' base F g gs gl vl vp n { D with left := left, choice := c } := by
  have hgp : g ≠ gp := h.blk.ne_ hb (by decide)
  have hgs : gs ≠ gp := h.sure.ne_ hb (by decide)
  have hgl : gl ≠ gp := h.last.ne_ hb (by decide)
  refine ⟨h.blk.keep (hk _ hgp), h.sure.keep (hk _ hgs), h.last.keep (hk _ hgl), h.ne, h.loose.keep fun k hk' => hk _ ?_, hp, h.fg, h.fs, h.fl, h.fv, fun k hk' => ⟨(h.low k hk').1, Nat.lt_of_lt_of_le (h.low k hk').2 hs⟩, h.len, ⟨h.wf.sure, h.wf.loose, hl⟩⟩
  intro e
  rw [e] at hk'
  rcases h.loose.2 with ⟨h1, _⟩ | ⟨g', cap, cur, h1, _, h2, _⟩
  · rw [h1] at hk'; cases hk'
  · rw [h1] at hk'
    cases hk'
    exact Blk.ne_ (t := 85) (t' := 80) h2 hb (by decide) rfl
end

/-- Only rows of plans and of numbers matter to a plan. -/
theorem PlanAt.types {w w' : World} {base : Nat} {F : Nat → Prop} {vp : Value} {left : Int} {c : Choice} (h : PlanAt w base F vp left c) (hk : ∀ k t cs, Blk w k t cs → t = 80 ∨ t = 3 → w'.heap[k]? = w.heap[k]?) : PlanAt w' base F vp left c := by
  rcases h with h1 | ⟨h0, h1, gp, vk, e, hf, hb', hfk, hblk, xs, ho, hm⟩
  · exact .inl h1
  · refine .inr ⟨h0, h1, gp, vk, e, hf, hb', hfk, hblk.keep (hk _ _ _ hblk (.inl rfl)), xs, ho.keep fun k hk' => ?_, hm.flat (kInt_flat _)⟩
    rcases ho.2 with ⟨h1, _⟩ | ⟨g', cap, cur, h1, _, h2, _⟩
    · rw [h1] at hk'; cases hk'
    · rw [h1] at hk'
      cases hk'
      exact hk _ _ _ h2 (.inr rfl)
theorem OwnK.types {w w' : World} {base : Nat} {e : TypeId} {k n : Nat} {v : Value} {xs : List Value} (h : OwnK w base e k v n xs) (hk : ∀ j cs, Blk w j e cs → w'.heap[j]? = w.heap[j]?) : OwnK w' base e k v n xs := h.keep fun j hj => by
  rcases h.2 with ⟨h1, _⟩ | ⟨g', cap, cur, h1, _, h2, _⟩
  · rw [h1] at hj; cases hj
  · rw [h1] at hj
    cases hj
    exact hk _ _ h2

theorem on_any (base : Nat) (F : Nat → Prop) (g : Nat) (D : Dev) (w : World) (h : DevAt w base F g D) : Calls Tryz.prog 15 #[.pointer (some ⟨g, 0, none⟩)] w fun e w' => e = .returned (.bool D.off) ∧ DevAt w' base F g { D with off := false } ∧ Fr F F w w' := by
  obtain ⟨gs, gl, vl, vp, n, hin, hn⟩ := h
  obtain ⟨_, _, _, _, hc4, _⟩ := hin.cells
  have hf4 := hin.blk.frozen 4
  have Hin := Lib.hid hin
  clear hin
  cases hoff : D.off with
  | true =>
    rw [hoff] at hc4
    have Hoff := Lib.hid hoff
    clear hoff
    go_enter Tryz.func15, Tryz.ntmps15
    go_wp2
    go_ret
    refine ⟨rfl, ⟨gs, gl, vl, vp, n, ?_, hn⟩, (Fr.refl _ _).setCell Hin.out.fg _⟩
    refine Hin.out.head false D.changes ?_ (fun k hk => Below.heap_setCell _ _ _ _ hk) (by simp [World.setCell])
    simpa using Hin.out.blk.set_ 4 (.bool false)
  | false =>
    rw [hoff] at hc4
    have Hoff := Lib.hid hoff
    clear hoff
    go_enter Tryz.func15, Tryz.ntmps15
    go_wp2
    go_ret
    refine ⟨rfl, ⟨gs, gl, vl, vp, n, ?_, hn⟩, Fr.refl _ _⟩
    have : ({ D with off := false } : Dev) = D := by rw [← Hoff.out]
    rw [this]
    exact Hin.out

set_option maxHeartbeats 400000 in
theorem change_any (base : Nat) (F : Nat → Prop) (g : Nat) (D : Dev) (w : World) (h : DevAt w base F g D) (hc : D.changes ≤ 1099511627776) (hl : D.loose.length ≤ 1099511627776) :
    Calls Tryz.prog 79 #[.pointer (some ⟨g, 0, none⟩)] w fun e w' => e = .returned (.int .i64 D.change.2) ∧ DevAt w' base F g D.change.1 ∧ Fr F F w w' := by
  obtain ⟨gs, gl, vl, vp, n, hin, hn⟩ := h
  obtain ⟨hc0, hc1, hc2, hc3, hc4, hc5⟩ := hin.cells
  have hf5 := hin.blk.frozen 5
  have hf3 := hin.blk.frozen 3
  obtain ⟨D1, hD1⟩ : ∃ D1 : Dev, D1 = { D with changes := D.changes + 1 } := ⟨_, rfl⟩
  obtain ⟨W, hW⟩ : ∃ W, W = w.setCell ⟨g, 5, none⟩ (.int .i64 ((D.changes : Int) + 1)) := ⟨_, rfl⟩
  have hin1 : DevIn W base F g gs gl vl vp n D1 := by
    rw [hW, hD1]
    refine hin.head D.off (D.changes + 1) ?_ (fun k hk => Below.heap_setCell _ _ _ _ hk) (by simp [World.setCell])
    simpa using hin.blk.set_ 5 (.int .i64 ((D.changes : Int) + 1))
  have hfr1 : Fr F F w W := by rw [hW]; exact (Fr.refl _ _).setCell hin.fg _
  rcases hin1.plan with ⟨hleft, hvp⟩ | ⟨hl0, hl1, gp, vk, hvp, hfp, hbp, hfk, hblkp, hown⟩
  · have hch : D.change = ({ D with changes := D.changes + 1, left := if 0 < D.left then D.left - 1 else D.left }, 0) := by
      unfold Dev.change
      rw [hD1] at hleft
      rw [if_neg (by have : D.left = -1 := hleft; omega)]
    have hch2 : D.change = (D1, 0) := by
      rw [hch, hD1]
      rw [hD1] at hleft
      have : D.left = -1 := hleft
      rw [if_neg (by omega)]
    have Hch := Lib.hid hch2
    have Hin1 := Lib.hid hin1
    have HW := Lib.hid hW
    have Hfr1 := Lib.hid hfr1
    subst hvp
    clear hch hch2 hin hin1 hleft hD1 hW hfr1
    go_enter Tryz.func79, Tryz.ntmps79
    go_wp2
    go_ret
    rw [Hch.out, ← HW.out]
    exact ⟨rfl, ⟨gs, gl, vl, _, n, Hin1.out, hn⟩, Hfr1.out⟩
  · subst hvp
    have hpg : gp ≠ g := hblkp.ne_ hin1.blk (by decide)
    have hp0 := hblkp.cell 0
    have hp1 := hblkp.cell 1
    have hp2 := hblkp.cell 2
    have hp3 := hblkp.cell 3
    have hpf := hblkp.frozen 0
    simp at hp0 hp1 hp2 hp3
    have hD1l : D1.left = D.left := by rw [hD1]
    have hD1c : D1.choice = D.choice := by rw [hD1]
    have hD1o : D1.loose = D.loose := by rw [hD1]
    obtain ⟨hc0', hc1', hc2', hc3', hc4', hc5'⟩ := hin1.cells
    have Hin1 := Lib.hid hin1
    have HW := Lib.hid hW
    have Hfr1 := Lib.hid hfr1
    have Hblkp := Lib.hid hblkp
    have Hown := Lib.hid hown
    have HD1 := Lib.hid hD1
    have HD1o := Lib.hid hD1o
    have HD1c := Lib.hid hD1c
    have HD1l := Lib.hid hD1l
    have hpre : ∀ u : World, u.cell? ⟨gp, 0, none⟩ = W.cell? ⟨gp, 0, none⟩ → True := fun _ _ => trivial
    clear hin hin1 hD1 hfr1 hD1l hD1c hD1o hblkp hown hpre
    by_cases hz : 0 < D1.left
    · have hch : D.change = ({ D1 with left := D1.left - 1 }, 0) := by
        have h1 := HD1.out
        have h2 := HD1l.out
        unfold Dev.change
        rw [if_neg (by omega), if_pos (by omega), h1]
      have Hch := Lib.hid hch
      rw [hW] at hp0 hp1 hp2 hp3 hpf
      clear hch hW hc0' hc1' hc2' hc3' hc4' hc5'
      go_enter Tryz.func79, Tryz.ntmps79
      go_wp2
      go_ret
      rw [Hch.out, ← HW.out]
      refine ⟨rfl, ⟨gs, gl, vl, .pointer (some ⟨gp, 0, none⟩), n, ?_, hn⟩, Hfr1.out.setCell hfp _⟩
      have hb' : Blk (W.setCell ⟨gp, 0, none⟩ (.int .i64 (D1.left - 1))) gp 80 #[.int .i64 (D1.left - 1), vk, .int .i64 D1.choice.torn, .int .i64 D1.choice.half] := by simpa using Hblkp.out.set_ 0 (.int .i64 (D1.left - 1))
      refine Hin1.out.replan Hblkp.out (D1.left - 1) D1.choice (.inr ⟨by omega, by omega, gp, vk, rfl, hfp, hbp, hfk, hb', ?_⟩) (by omega) (fun k hk => Below.heap_setCell _ _ _ _ hk) (by simp [World.setCell])
      obtain ⟨xs, ho, hm⟩ := Hown.out
      refine ⟨xs, ho.keep fun k hk => Below.heap_setCell _ _ _ _ ?_, hm.flat (kInt_flat _)⟩
      intro e
      have e' : k = gp := e
      rw [e'] at hk
      rcases ho.2 with ⟨h1, _⟩ | ⟨g', cap, cur, h1, _, h2, _⟩
      · rw [h1] at hk; cases hk
      · rw [h1] at hk
        cases hk
        exact Blk.ne_ (t := 3) (t' := 80) h2 Hblkp.out (by decide) rfl
    · have hz0 : D1.left = 0 := by omega
      have hch : D.change = (D1.cut D1.choice, 6) := by
        have h1 := HD1.out
        have h2 := HD1l.out
        have h3 := HD1c.out
        unfold Dev.change
        rw [if_pos (by omega), h3, h1]
      have Hch := Lib.hid hch
      have HDev := Lib.hid (show DevAt W base F g D1 from ⟨gs, gl, vl, _, n, Hin1.out, hn⟩)
      have hl2 : D1.loose.length ≤ 1099511627776 := by rw [HD1o.out]; exact hl
      have hvk := Hown.out.isL
      have Hvk := Lib.hid hvk
      rw [hz0] at hp0
      have Hz0 := Lib.hid hz0
      rw [hW] at hp0 hp1 hp2 hp3 hpf
      clear hch hW hc0' hc1' hc2' hc3' hc4' hc5' hvk hz0 hz
      go_enter Tryz.func79, Tryz.ntmps79
      go_wp2_with fail
      rw [← HW.out]
      refine (cut_any base F g D1 _ vk D1.choice _ HDev.out Hvk.out hl2).mono ?_
      rintro e w2 ⟨rfl, hdev, hfr⟩
      go_wp2
      go_ret
      rw [Hch.out]
      exact ⟨rfl, hdev, Hfr1.out.trans hfr⟩

theorem plan_nil (a : Int) (x y z : Value) (w : World) : Calls Tryz.prog 13 #[.pointer none, .int .i64 a, .agg #[x, y, z]] w fun e w' => e = .returned (.tuple #[]) ∧ Below w.heap.size w w' := by
  go_enter Tryz.func13, Tryz.ntmps13
  go_wp2
  refine bodyPost_ret (results_none rfl _ _ _) rfl ?_
  exact ⟨rfl, (Below.refl _ _).alloc (Nat.le_refl _) _⟩

/-- F and all that is new. -/
def Up (F : Nat → Prop) (w w' : World) : Nat → Prop := fun k => F k ∨ (w.heap.size ≤ k ∧ k < w'.heap.size)
theorem Fr.up {F : Nat → Prop} {w w' : World} (h : Fr F F w w') : Fr F (Up F w w') w w' := h.more fun k hk => by rcases hk with h | h; exact .inl h; exact .inr h.1
section
variable {w w' : World} {base : Nat} {F F' : Nat → Prop} {g gs gl n : Nat} {vl vp : Value} {D : Dev}
/-- Its set may be greater. -/
theorem DevIn.wide (h : DevIn w base F g gs gl vl vp n D) (hF : ∀ k, F k → F' k) (hl : ∀ k, F' k → base ≤ k ∧ k < w.heap.size) : DevIn w base F' g gs gl vl vp n D :=
  ⟨h.blk, h.sure, h.last, h.ne, h.loose, h.plan.keep hF (fun _ _ => rfl), hF _ h.fg, hF _ h.fs, hF _ h.fl, fun k hk => hF _ (h.fv k hk), hl, h.len, h.wf⟩
end
theorem Up.low {w w' : World} {base : Nat} {F : Nat → Prop} (hF : ∀ k, F k → base ≤ k ∧ k < w.heap.size) (hb : base ≤ w.heap.size) (hs : w.heap.size ≤ w'.heap.size) : ∀ k, Up F w w' k → base ≤ k ∧ k < w'.heap.size := fun k hk => by
  rcases hk with h | h
  · have := hF k h; omega
  · omega

set_option maxHeartbeats 400000 in
theorem plan_any (base : Nat) (F : Nat → Prop) (g : Nat) (D : Dev) (ok : Nat → Prop) (a : Int) (vk : Value) (c : Choice) (w : World) (h : DevAt w base F g D) (hv : IsL (kInt .i64) w ok vk c.kept) (hok : ∀ k, ok k → k ≠ g) (hl : c.kept.length ≤ 1099511627776) (hb : base ≤ w.heap.size) (ha : -9223372036854775808 ≤ a ∧ a ≤ 9223372036854775807) :
    Calls Tryz.prog 13 #[.pointer (some ⟨g, 0, none⟩), .int .i64 a, .agg #[vk, .int .i64 c.torn, .int .i64 c.half]] w fun e w' => e = .returned (.tuple #[]) ∧ ∃ F', DevAt w' base F' g (D.plan a c) ∧ Fr F F' w w' := by
  obtain ⟨gs, gl, vl, vp, n, hin, hn⟩ := h
  obtain ⟨hc0, hc1, hc2, hc3, hc4, hc5⟩ := hin.cells
  have hf3 := hin.blk.frozen 3
  have hgw : g < w.heap.size := hin.blk.lt
  obtain ⟨W, hW⟩ : ∃ W, W = w.setCell ⟨g, 3, none⟩ (.pointer none) := ⟨_, rfl⟩
  have hB1 : Blk W g 67 #[.slice (some ⟨gs, 0, none⟩) n n, .slice (some ⟨gl, 0, none⟩) n n, vl, .pointer none, .bool D.off, .int .i64 (D.changes : Int)] := by
    rw [hW]; simpa using hin.blk.set_ 3 (.pointer none)
  have hk1 : ∀ k, k ≠ g → W.heap[k]? = w.heap[k]? := fun k hk => by rw [hW]; exact Below.heap_setCell _ _ _ _ hk
  have hs1 : W.heap.size = w.heap.size := by rw [hW]; simp [World.setCell]
  have hin1 : DevIn W base F g gs gl vl (.pointer none) n { D with left := -1, choice := c } := by
    have hgs : gs ≠ g := hin.sure.ne_ hin.blk (by decide)
    have hgl : gl ≠ g := hin.last.ne_ hin.blk (by decide)
    refine ⟨hB1, hin.sure.keep (hk1 _ hgs), hin.last.keep (hk1 _ hgl), hin.ne, hin.loose.keep fun k hk' => hk1 _ ?_, .inl ⟨rfl, rfl⟩, hin.fg, hin.fs, hin.fl, hin.fv, fun k hk' => ⟨(hin.low k hk').1, by rw [hs1]; exact (hin.low k hk').2⟩, hin.len, ⟨hin.wf.sure, hin.wf.loose, by show (-1 : Int) ≤ -1; omega⟩⟩
    intro e
    rw [e] at hk'
    rcases hin.loose.2 with ⟨h1, _⟩ | ⟨g', cap, cur, h1, _, h2, _⟩
    · rw [h1] at hk'; cases hk'
    · rw [h1] at hk'
      cases hk'
      exact Blk.ne_ (t := 85) (t' := 67) h2 hin.blk (by decide) rfl
  obtain ⟨W1, hW1⟩ : ∃ W1, W1 = W.alloc (.cells #[vk, .int .i64 c.torn, .int .i64 c.half] 25) := ⟨_, rfl⟩
  have hba : Below W.heap.size W W1 := by rw [hW1]; exact (Below.refl _ _).alloc (Nat.le_refl _) _
  have hin2 := hin1.keep (w' := W1) (fun k hk => hba.block k (hin1.low k hk).2) hba.size
  have hfr2 : Fr F F w W1 := (show Fr F F w W by rw [hW]; exact (Fr.refl _ _).setCell hin.fg _).trans (Fr.of_below hba F)
  have hv2 : IsL (kInt .i64) W1 ok vk c.kept := (hv.frame fun k hk _ => hk1 k (hok k hk)).grow hba
  have hbox2 : Blk W1 w.heap.size 25 #[vk, .int .i64 c.torn, .int .i64 c.half] := by rw [hW1, ← hs1]; exact Blk.new _ _ _
  have hWs : W1.heap.size = w.heap.size + 1 := by rw [hW1, ← hs1]; simp
  have Hin2 := Lib.hid hin2
  have Hfr2 := Lib.hid hfr2
  have Hv2 := Lib.hid hv2
  have Hbox2 := Lib.hid hbox2
  have HW1 := Lib.hid hW1
  by_cases h0 : 0 ≤ a
  · have Hs1 := Lib.hid hWs
    have HW := Lib.hid hW
    have HIN := Lib.hid hin
    clear hin hin1 hin2 hfr2 hv2 hv hbox2 hW1 hB1 hk1 hs1 hWs hba hW
    go_enter Tryz.func13, Tryz.ntmps13
    go_wp2_with fail
    rw [← HW.out, ← HW1.out]
    refine (clonei_any _ _ _ _ Hv2.out hl).mono ?_
    rintro e w2 ⟨v', rfl, hov, hb2⟩
    have hsz2 := hb2.size
    have hin3 := Hin2.out.keep (w' := w2) (fun k hk => hb2.block k (Hin2.out.low k hk).2) hb2.size
    obtain ⟨hd0, hd1, hd2, hd3, hd4, hd5⟩ := hin3.cells
    have hdf := hin3.blk.frozen 3
    have hbox3 := Hbox2.out.grow hb2
    have he0 := hbox3.cell 0
    have he1 := hbox3.cell 1
    have he2 := hbox3.cell 2
    have hef := hbox3.frozen 0
    simp at he0 he1 he2
    have hgb : g ≠ w.heap.size := by omega
    have Hin3 := Lib.hid hin3
    have Hov := Lib.hid hov
    have Hb2 := Lib.hid hb2
    have Hbox3 := Lib.hid hbox3
    obtain ⟨A', c', _, rfl, _, _, _⟩ := hov.isL
    have hg2 : g < w2.heap.size := hin3.blk.lt
    obtain ⟨X, hX⟩ : ∃ X, X = w2.setCell ⟨w.heap.size, 0, none⟩ (.slice A' c.kept.length c') := ⟨_, rfl⟩
    have hkX : ∀ k, k ≠ w.heap.size → X.heap[k]? = w2.heap[k]? := fun k hk => by rw [hX]; exact Below.heap_setCell _ _ _ _ hk
    have hsX : X.heap.size = w2.heap.size := by rw [hX]; simp [World.setCell]
    have hblkX : Blk X g 67 #[.slice (some ⟨gs, 0, none⟩) n n, .slice (some ⟨gl, 0, none⟩) n n, vl, .pointer none, .bool D.off, .int .i64 (D.changes : Int)] := hin3.blk.keep (hkX _ hgb)
    obtain ⟨Y, hY⟩ : ∃ Y, Y = X.alloc (.cells #[.int .i64 a, .slice A' c.kept.length c', .int .i64 c.torn, .int .i64 c.half] 80) := ⟨_, rfl⟩
    have hblkY : Blk Y g 67 #[.slice (some ⟨gs, 0, none⟩) n n, .slice (some ⟨gl, 0, none⟩) n n, vl, .pointer none, .bool D.off, .int .i64 (D.changes : Int)] := by rw [hY]; exact hblkX.alloc _
    have hcy : Y.cell? ⟨g, 3, none⟩ = some (.pointer none) := by rw [hblkY.cell]; rfl
    have hfy := hblkY.frozen 3
    have hblkP : Blk Y w2.heap.size 80 #[.int .i64 a, .slice A' c.kept.length c', .int .i64 c.torn, .int .i64 c.half] := by rw [hY, ← hsX]; exact Blk.new _ _ _
    have hXY := (Below.refl X.heap.size X).alloc (Nat.le_refl _) (.cells #[.int .i64 a, .slice A' c.kept.length c', .int .i64 c.torn, .int .i64 c.half] 80)
    rw [← hY] at hXY
    have HXY := Lib.hid hXY
    have HsX := Lib.hid hsX
    have HkX := Lib.hid hkX
    have HblkY := Lib.hid hblkY
    have HblkP := Lib.hid hblkP
    have HX := Lib.hid hX
    have HY := Lib.hid hY
    rw [hY, hX] at hcy hfy
    have hgb' : ¬ w.heap.size = g := fun e => hgb e.symm
    clear hin3 hov hb2 hbox3 hc0 hc1 hc2 hc3 hc4 hc5 hf3 hX hkX hsX hblkX hY hblkY hblkP hXY
    go_wp2
    go_end0
    have hplan : D.plan a c = { D with left := a, choice := c } := by
      unfold Dev.plan
      rw [show max a (-1) = a by omega]
    rw [hplan]
    obtain ⟨Z, hZ⟩ : ∃ Z, Z = (w2.setCell ⟨w.heap.size, 0, none⟩ (.slice A' c.kept.length c')).setCell ⟨g, 3, none⟩ (.pointer (some ⟨w2.heap.size, 0, none⟩)) := ⟨_, rfl⟩
    obtain ⟨V, hV⟩ : ∃ V, V = Z.alloc (.cells #[.int .i64 a, .slice A' c.kept.length c', .int .i64 c.torn, .int .i64 c.half] 80) := ⟨_, rfl⟩
    rw [← hZ, ← hV]
    have hZs : Z.heap.size = w2.heap.size := by rw [hZ]; simp [World.setCell]
    have hVs : V.heap.size = w2.heap.size + 1 := by rw [hV, ← hZs]; simp
    have hk : ∀ k, k ≠ g → k ≠ w.heap.size → k < w2.heap.size → V.heap[k]? = w2.heap[k]? := fun k h1 h2 h3 => by
      rw [hV, Below.heap_alloc _ _ _ (by omega), hZ, Below.heap_setCell _ _ _ _ h1, Below.heap_setCell _ _ _ _ h2]
    have hin := HIN.out
    have hin3 := Hin3.out
    have hs1 := Hs1.out
    have hb2 := Hb2.out
    have hVblk : Blk V g 67 #[.slice (some ⟨gs, 0, none⟩) n n, .slice (some ⟨gl, 0, none⟩) n n, vl, .pointer (some ⟨w2.heap.size, 0, none⟩), .bool D.off, .int .i64 (D.changes : Int)] := by
      rw [hV, hZ]
      refine Blk.alloc ?_ _
      have := (hin3.blk.far (p := ⟨w.heap.size, 0, none⟩) hgb (.slice A' c.kept.length c')).set_ 3 (.pointer (some ⟨w2.heap.size, 0, none⟩))
      simpa using this
    have hVp : Blk V w2.heap.size 80 #[.int .i64 a, .slice A' c.kept.length c', .int .i64 c.torn, .int .i64 c.half] := by rw [hV, ← hZs]; exact Blk.new _ _ _
    have hold : ∀ k, F k → k ≠ g → V.heap[k]? = w2.heap[k]? := fun k hF hne => by
      have := (hin.low k hF).2
      exact hk k hne (by omega) (by omega)
    have hfr : Fr F F w V := by
      have h1 := Hfr2.out.trans (Fr.of_below hb2 F)
      refine ⟨?_, ?_, ?_, by omega, fun k hk1 hk2 => ⟨hk2, ?_⟩⟩
      · rw [hV, hZ]; exact h1.os
      · rw [hV, hZ]; exact h1.tape
      · rw [hV, hZ]; exact h1.output
      · rw [hk k (fun e => hk2 (e ▸ hin.fg)) (by omega) (by omega)]
        exact (h1.block k hk1 hk2).2
    have hgs : gs ≠ g := hin.sure.ne_ hin.blk (by decide)
    have hgl : gl ≠ g := hin.last.ne_ hin.blk (by decide)
    have hov := Hov.out
    have hovl := hov.lt
    refine ⟨rfl, Up F w V, ⟨gs, gl, vl, _, n, ⟨hVblk, hin3.sure.keep (hold _ hin.fs hgs), hin3.last.keep (hold _ hin.fl hgl), hin.ne, hin3.loose.keep fun k hk' => hold k (hin.fv k hk') ?_, .inr ⟨h0, ha.2, w2.heap.size, _, rfl, .inr ⟨by omega, by omega⟩, by omega, fun k hk' => .inr ⟨by have := (hovl k hk').1; omega, by have := (hovl k hk').2; omega⟩, hVp, ?_⟩, .inl hin.fg, .inl hin.fs, .inl hin.fl, fun k hk' => .inl (hin.fv k hk'), Up.low hin.low hb (by omega), hin.len, ⟨hin.wf.sure, hin.wf.loose, ?_⟩⟩, hn⟩, hfr.up⟩
    · intro e
      rw [e] at hk'
      rcases hin.loose.2 with ⟨h1, _⟩ | ⟨g', cap, cur, h1, _, h2, _⟩
      · rw [h1] at hk'; cases hk'
      · rw [h1] at hk'
        cases hk'
        exact Blk.ne_ (t := 85) (t' := 67) h2 hin.blk (by decide) rfl
    · obtain ⟨xs, ho, hm⟩ := hov
      refine ⟨xs, (ho.keep fun k hk' => ?_).mono (by omega), hm.flat (kInt_flat _)⟩
      have := hovl k hk'
      exact hk k (by omega) (by omega) (by omega)
    · show (-1 : Int) ≤ a
      omega
  · have hplan : D.plan a c = { D with left := -1, choice := c } := by
      unfold Dev.plan
      rw [show max a (-1) = -1 by omega]
    have Hplan := Lib.hid hplan
    have HW := Lib.hid hW
    clear hin hin1 hin2 hfr2 hv2 hv hbox2 hW1 hB1 hk1 hs1 hWs hba hW hplan
    go_enter Tryz.func13, Tryz.ntmps13
    go_wp2
    go_end0
    rw [← HW.out, ← HW1.out, Hplan.out]
    exact ⟨rfl, F, ⟨gs, gl, vl, _, n, Hin2.out, hn⟩, Hfr2.out⟩
end Go.Proofs.YtdmbmkjiffhbcaaGreat
