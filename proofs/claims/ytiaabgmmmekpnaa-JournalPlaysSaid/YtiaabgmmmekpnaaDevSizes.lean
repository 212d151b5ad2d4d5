/-
  device.sizes, and slices.Clone of numbers.
-/
import Derived.Test.YtiaabgmmmekpnaaDevAll
import Derived.Lib.BufferMore
namespace Go.Proofs.Ytiaabgmmmekpnaa
open Go.RowKit
set_option maxRecDepth 100000

/-- How much stays of each loose write by the first m numbers of Kept. -/
def Choice.stayP (c : Choice) (m k : Nat) : Nat := if (k : Int) ∈ c.kept.take m then 256 else if c.torn = (k : Int) then (max 0 (min c.half 256)).toNat else 0
theorem stayP_all (c : Choice) (k : Nat) : c.stayP c.kept.length k = c.stay k := by unfold Choice.stayP Choice.stay; rw [List.take_length]
def stays (c : Choice) (m n : Nat) : List Int := (List.range n).map fun k => (c.stayP m k : Int)
theorem stays_length (c : Choice) (m n : Nat) : (stays c m n).length = n := by simp [stays]
theorem stays_zero (c : Choice) (n : Nat) (h : ¬ (0 ≤ c.torn ∧ c.torn < n)) : stays c 0 n = List.replicate n 0 := by
  apply List.ext_getElem
  · simp [stays]
  · intro i h1 h2
    simp only [stays_length] at h1
    simp only [stays, List.getElem_map, List.getElem_range, List.getElem_replicate, Choice.stayP, List.take_zero, List.not_mem_nil, if_false]
    rw [if_neg (by omega)]
    rfl
theorem stays_torn (c : Choice) (n k : Nat) (h : c.torn = (k : Int)) : stays c 0 n = (List.replicate n 0).set k (max 0 (min c.half 256)) := by
  apply List.ext_getElem
  · simp [stays]
  · intro i h1 h2
    simp only [stays_length] at h1
    simp only [stays, List.getElem_map, List.getElem_range, Choice.stayP, List.take_zero, List.not_mem_nil, if_false, List.getElem_set, List.getElem_replicate]
    by_cases e : k = i
    · subst e; rw [if_pos h, if_pos rfl]; omega
    · rw [if_neg (by omega), if_neg e]; rfl
theorem stays_step (c : Choice) (n m : Nat) (hm : m < c.kept.length) (h : ¬ (0 ≤ c.kept[m] ∧ c.kept[m] < n)) : stays c (m + 1) n = stays c m n := by
  apply List.ext_getElem
  · simp [stays]
  · intro i h1 h2
    simp only [stays_length] at h1
    simp only [stays, List.getElem_map, List.getElem_range, Choice.stayP]
    rw [List.take_succ_eq_append_getElem hm]
    have : ((i : Int) ∈ c.kept.take m ++ [c.kept[m]]) = ((i : Int) ∈ c.kept.take m) := by
      rw [List.mem_append, List.mem_singleton]
      apply propext
      constructor
      · rintro (h | h)
        · exact h
        · omega
      · exact .inl
    simp only [this]
theorem stays_set (c : Choice) (n m k : Nat) (hm : m < c.kept.length) (h : c.kept[m] = (k : Int)) : stays c (m + 1) n = (stays c m n).set k 256 := by
  apply List.ext_getElem
  · simp [stays]
  · intro i h1 h2
    simp only [stays_length] at h1
    simp only [stays, List.getElem_map, List.getElem_range, Choice.stayP, List.getElem_set]
    rw [List.take_succ_eq_append_getElem hm]
    by_cases e : k = i
    · subst e
      rw [if_pos (by rw [List.mem_append, h]; simp), if_pos rfl]
      rfl
    · rw [if_neg e]
      have : ((i : Int) ∈ c.kept.take m ++ [c.kept[m]]) = ((i : Int) ∈ c.kept.take m) := by
        rw [List.mem_append, List.mem_singleton]
        apply propext
        constructor
        · rintro (h | h)
          · exact h
          · omega
        · exact .inl
      simp only [this]

theorem Blk.setInts {w : World} {g : Nat} {t : TypeId} {l : List Int} (h : Blk w g t (l.map (Value.int .i64)).toArray) (k : Nat) (x : Int) : Blk (w.setCell ⟨g, k, none⟩ (.int .i64 x)) g t ((l.set k x).map (Value.int .i64)).toArray := by
  have := h.set_ k (.int .i64 x)
  rwa [List.setIfInBounds_toArray, ← List.map_set] at this

set_option maxHeartbeats 1000000 in
theorem sizes_any (ok : Nat → Prop) (vk : Value) (c : Choice) (n : Nat) (w : World) (hv : IsL (kInt .i64) w ok vk c.kept) (hn : n ≤ 1099511627776) :
    Calls Try.prog 47 #[.int .i64 (n : Int), .agg #[vk, .int .i64 c.torn, .int .i64 c.half]] w fun e w' => ∃ g, e = .returned (.slice (some ⟨g, 0, none⟩) n n) ∧ w.heap.size ≤ g ∧ Blk w' g 3 ((stays c c.kept.length n).map (Value.int .i64)).toArray ∧ Below w.heap.size w w' := by
  obtain ⟨A, cc, rfl, hc, hm, hel⟩ := int_at hv
  unfold maxLen at hm
  have Hel := Lib.hid hel
  have Hm : c.kept.length ≤ 9223372036854775807 := by omega
  have hmk := run_ints n hn
  clear hel hm hc hv
  go_enter Try.func47, Try.ntmps47
  have hb0 : Below w.heap.size w (w.alloc (.cells #[.slice A c.kept.length cc, .int .i64 c.torn, .int .i64 c.half] 34)) := (Below.refl _ _).alloc (Nat.le_refl _) _
  have Hb0 := Lib.hid hb0
  clear hb0
  by_cases h0 : 0 ≤ c.torn
  rotate_left
  · have Hst := Lib.hid (stays_zero c n (fun h => h0 h.1))
    have hd : decide (0 ≤ c.torn) = false := by simpa using h0
    go_wp2
    clear hmk
    go_loopw [30] (fun i wr => ∃ m : Nat, m ≤ c.kept.length ∧ i = .int .i64 (m : Int) ∧ Blk wr (w.heap.size + 1) 3 ((stays c m n).map (Value.int .i64)).toArray ∧ Below w.heap.size w wr) (fun i _ => c.kept.length - (intOf i).toNat)
    case atStart =>
      refine ⟨0, by omega, rfl, ?_, Hb0.out.alloc (by simp) _⟩
      rw [Hst.out, List.map_replicate]
      have := Blk.new (w.alloc (.cells #[.slice A c.kept.length cc, .int .i64 c.torn, .int .i64 c.half] 34)) 3 (Array.replicate n (.int .i64 0))
      simpa using this
    case round =>
      obtain ⟨m, hm, rfl, hblk, hb⟩ := hrel
      by_cases hlt : m < c.kept.length
      · obtain ⟨b, off, rfl, _, hbw, hcells⟩ := Hel.out (by intro e; rw [e] at hlt; simp at hlt)
        obtain ⟨hcell, _⟩ := hcells m hlt
        have hcell' : wr.cell? ⟨b, off + m, none⟩ = some (.int .i64 c.kept[m]) := (hb.cell (p := ⟨b, off + m, none⟩) hbw).trans hcell
        clear hcells hcell
        by_cases hin : 0 ≤ c.kept[m] ∧ c.kept[m] < (n : Int)
        · obtain ⟨k1, hk1⟩ := Int.eq_ofNat_of_zero_le hin.1
          have hk1n : k1 < n := by omega
          have hset := stays_set c n m k1 hlt hk1
          have hblk' := hblk.setInts k1 256
          rw [← hset] at hblk'
          have hcw := hblk.cell k1
          have hfz := hblk.frozen k1
          have hsz : k1 < ((stays c m n).map (Value.int .i64)).toArray.size := by simpa [stays_length] using hk1n
          rw [Array.getElem?_eq_getElem hsz] at hcw
          rw [hk1] at hcell'
          have Hblk' := Lib.hid hblk'
          have Hb := Lib.hid hb
          clear hset hblk' hk1 hin hblk hb
          go_wp2
          go_roundw
          case rel => exact ⟨m + 1, by omega, by go_num, Hblk'.out, Hb.out.setCell (by simp) _⟩
          case measure => simp [intOf]; omega
        · have hstep := stays_step c n m hlt hin
          have hblk' := hblk
          rw [← hstep] at hblk'
          have Hblk' := Lib.hid hblk'
          have Hb := Lib.hid hb
          clear hstep hblk' hblk hb
          by_cases hz : 0 ≤ c.kept[m]
          · have hd2 : decide (c.kept[m] < (n : Int)) = false := by simp; omega
            have hz2 : ¬ c.kept[m] < (n : Int) := by omega
            clear hin
            go_wp2
            go_roundw
            case rel => exact ⟨m + 1, by omega, by go_num, Hblk'.out, Hb.out⟩
            case measure => simp [intOf]; omega
          · have hd2 : decide (0 ≤ c.kept[m]) = false := by simpa using hz
            clear hin
            go_wp2
            go_roundw
            case rel => exact ⟨m + 1, by omega, by go_num, Hblk'.out, Hb.out⟩
            case measure => simp [intOf]; omega
      · obtain rfl : m = c.kept.length := by omega
        go_wp2
        go_ret
        exact ⟨_, rfl, by omega, hblk, hb⟩
  · by_cases h1 : c.torn < (n : Int)
    · obtain ⟨k, hk⟩ := Int.eq_ofNat_of_zero_le h0
      have Hst := Lib.hid (stays_torn c n k hk)
      have Hk := Lib.hid hk
      clear hk
      go_wp2
      clear hmk
      go_loopw [30] (fun i wr => ∃ m : Nat, m ≤ c.kept.length ∧ i = .int .i64 (m : Int) ∧ Blk wr (w.heap.size + 1) 3 ((stays c m n).map (Value.int .i64)).toArray ∧ Below w.heap.size w wr) (fun i _ => c.kept.length - (intOf i).toNat)
      case atStart =>
        refine ⟨0, by omega, rfl, ?_, Hb0.out.alloc (by simp) _⟩
        rw [Hst.out, List.map_set, List.map_replicate]
        have := Blk.new (w.alloc (.cells #[.slice A c.kept.length cc, .int .i64 c.torn, .int .i64 c.half] 34)) 3 ((Array.replicate n (.int .i64 0)).setIfInBounds c.torn.toNat (.int .i64 (min (max c.half 0) 256)))
        have e1 : c.torn.toNat = k := by rw [Hk.out]; rfl
        have e2 : max 0 (min c.half 256) = min (max c.half 0) 256 := by omega
        rw [e2]
        have e3 : (Array.replicate n (Value.int .i64 0)).setIfInBounds c.torn.toNat (.int .i64 (min (max c.half 0) 256)) = ((List.replicate n (Value.int .i64 0)).set k (.int .i64 (min (max c.half 0) 256))).toArray := by
          rw [e1, ← List.setIfInBounds_toArray]; simp
        rw [← e3]
        have e4 : (w.alloc (.cells #[.slice A c.kept.length cc, .int .i64 c.torn, .int .i64 c.half] 34)).heap.size = w.heap.size + 1 := by simp
        rw [e4] at this
        exact this
      case round =>
        obtain ⟨m, hm, rfl, hblk, hb⟩ := hrel
        by_cases hlt : m < c.kept.length
        · obtain ⟨b, off, rfl, _, hbw, hcells⟩ := Hel.out (by intro e; rw [e] at hlt; simp at hlt)
          obtain ⟨hcell, _⟩ := hcells m hlt
          have hcell' : wr.cell? ⟨b, off + m, none⟩ = some (.int .i64 c.kept[m]) := (hb.cell (p := ⟨b, off + m, none⟩) hbw).trans hcell
          clear hcells hcell
          by_cases hin : 0 ≤ c.kept[m] ∧ c.kept[m] < (n : Int)
          · obtain ⟨k1, hk1⟩ := Int.eq_ofNat_of_zero_le hin.1
            have hk1n : k1 < n := by omega
            have hset := stays_set c n m k1 hlt hk1
            have hblk' := hblk.setInts k1 256
            rw [← hset] at hblk'
            have hcw := hblk.cell k1
            have hfz := hblk.frozen k1
            have hsz : k1 < ((stays c m n).map (Value.int .i64)).toArray.size := by simpa [stays_length] using hk1n
            rw [Array.getElem?_eq_getElem hsz] at hcw
            rw [hk1] at hcell'
            have Hblk' := Lib.hid hblk'
            have Hb := Lib.hid hb
            clear hset hblk' hk1 hin hblk hb
            go_wp2
            go_roundw
            case rel => exact ⟨m + 1, by omega, by go_num, Hblk'.out, Hb.out.setCell (by simp) _⟩
            case measure => simp [intOf]; omega
          · have hstep := stays_step c n m hlt hin
            have hblk' := hblk
            rw [← hstep] at hblk'
            have Hblk' := Lib.hid hblk'
            have Hb := Lib.hid hb
            clear hstep hblk' hblk hb
            by_cases hz : 0 ≤ c.kept[m]
            · have hd2 : decide (c.kept[m] < (n : Int)) = false := by simp; omega
              have hz2 : ¬ c.kept[m] < (n : Int) := by omega
              clear hin
              go_wp2
              go_roundw
              case rel => exact ⟨m + 1, by omega, by go_num, Hblk'.out, Hb.out⟩
              case measure => simp [intOf]; omega
            · have hd2 : decide (0 ≤ c.kept[m]) = false := by simpa using hz
              clear hin
              go_wp2
              go_roundw
              case rel => exact ⟨m + 1, by omega, by go_num, Hblk'.out, Hb.out⟩
              case measure => simp [intOf]; omega
        · obtain rfl : m = c.kept.length := by omega
          go_wp2
          go_ret
          exact ⟨_, rfl, by omega, hblk, hb⟩
    · have Hst := Lib.hid (stays_zero c n (fun h => h1 h.2))
      have hd : decide (c.torn < (n : Int)) = false := by simpa using h1
      go_wp2
      clear hmk
      go_loopw [30] (fun i wr => ∃ m : Nat, m ≤ c.kept.length ∧ i = .int .i64 (m : Int) ∧ Blk wr (w.heap.size + 1) 3 ((stays c m n).map (Value.int .i64)).toArray ∧ Below w.heap.size w wr) (fun i _ => c.kept.length - (intOf i).toNat)
      case atStart =>
        refine ⟨0, by omega, rfl, ?_, Hb0.out.alloc (by simp) _⟩
        rw [Hst.out, List.map_replicate]
        have := Blk.new (w.alloc (.cells #[.slice A c.kept.length cc, .int .i64 c.torn, .int .i64 c.half] 34)) 3 (Array.replicate n (.int .i64 0))
        simpa using this
      case round =>
        obtain ⟨m, hm, rfl, hblk, hb⟩ := hrel
        by_cases hlt : m < c.kept.length
        · obtain ⟨b, off, rfl, _, hbw, hcells⟩ := Hel.out (by intro e; rw [e] at hlt; simp at hlt)
          obtain ⟨hcell, _⟩ := hcells m hlt
          have hcell' : wr.cell? ⟨b, off + m, none⟩ = some (.int .i64 c.kept[m]) := (hb.cell (p := ⟨b, off + m, none⟩) hbw).trans hcell
          clear hcells hcell
          by_cases hin : 0 ≤ c.kept[m] ∧ c.kept[m] < (n : Int)
          · obtain ⟨k1, hk1⟩ := Int.eq_ofNat_of_zero_le hin.1
            have hk1n : k1 < n := by omega
            have hset := stays_set c n m k1 hlt hk1
            have hblk' := hblk.setInts k1 256
            rw [← hset] at hblk'
            have hcw := hblk.cell k1
            have hfz := hblk.frozen k1
            have hsz : k1 < ((stays c m n).map (Value.int .i64)).toArray.size := by simpa [stays_length] using hk1n
            rw [Array.getElem?_eq_getElem hsz] at hcw
            rw [hk1] at hcell'
            have Hblk' := Lib.hid hblk'
            have Hb := Lib.hid hb
            clear hset hblk' hk1 hin hblk hb
            go_wp2
            go_roundw
            case rel => exact ⟨m + 1, by omega, by go_num, Hblk'.out, Hb.out.setCell (by simp) _⟩
            case measure => simp [intOf]; omega
          · have hstep := stays_step c n m hlt hin
            have hblk' := hblk
            rw [← hstep] at hblk'
            have Hblk' := Lib.hid hblk'
            have Hb := Lib.hid hb
            clear hstep hblk' hblk hb
            by_cases hz : 0 ≤ c.kept[m]
            · have hd2 : decide (c.kept[m] < (n : Int)) = false := by simp; omega
              have hz2 : ¬ c.kept[m] < (n : Int) := by omega
              clear hin
              go_wp2
              go_roundw
              case rel => exact ⟨m + 1, by omega, by go_num, Hblk'.out, Hb.out⟩
              case measure => simp [intOf]; omega
            · have hd2 : decide (0 ≤ c.kept[m]) = false := by simpa using hz
              clear hin
              go_wp2
              go_roundw
              case rel => exact ⟨m + 1, by omega, by go_num, Hblk'.out, Hb.out⟩
              case measure => simp [intOf]; omega
        · obtain rfl : m = c.kept.length := by omega
          go_wp2
          go_ret
          exact ⟨_, rfl, by omega, hblk, hb⟩

/-- slices.Clone of numbers. -/
theorem clonei_any (ok : Nat → Prop) (v : Value) (L : List Int) (w : World) (hv : IsL (kInt .i64) w ok v L) (hl : L.length ≤ 1099511627776) :
    Calls Try.prog 50 #[v] w fun e w' => ∃ v', e = .returned v' ∧ OwnL (kInt .i64) w' w.heap.size 3 v' L ∧ Below w.heap.size w w' := by
  obtain ⟨A, c, ds, rfl, hc, hm, hr, hmany⟩ := hv
  have hml := hmany.length
  rw [show (kInt .i64).size = 1 from rfl, Nat.mul_one] at hml
  have h1c : ∀ u ∈ ds, u.oneCell' = true := by
    intro u hu
    obtain ⟨css, rfl, hcl, hcr⟩ := hmany
    obtain ⟨l, hl, hu⟩ := List.mem_flatten.1 hu
    obtain ⟨i, hi, rfl⟩ := List.mem_iff_getElem.1 hl
    have := (hcr i hi (by omega)).1
    rw [this] at hu
    simp at hu
    rw [hu]; rfl
  have Hr := Lib.hid hr
  have Hml := Lib.hid hml
  have Hmany := Lib.hid (hmany.flat (kInt_flat _) (w' := w) (ok' := fun _ => False))
  unfold maxLen at hm
  clear hr hml hmany hm
  have hba : Below w.heap.size w (w.alloc (.cells #[] 3)) := (Below.refl _ _).alloc (Nat.le_refl _) _
  cases A with
  | none =>
    have hl0 : L = [] := by
      rcases Classical.em (ds = []) with h | h
      · have := Hml.out; rw [h] at this; exact List.eq_nil_of_length_eq_zero (by simpa using this.symm)
      · obtain ⟨ad, e, _⟩ := Hr.out h
        cases e
    subst hl0
    have hnil : ∀ W : World, (binOp .eql 32 (.slice none 0 c) (.slice none 0 0)).run Try.prog W = .ok (.bool true) W := fun W => Lib.run_eql_slice_nil_nil W _ _ Try.underlying32
    go_enter Try.func50, Try.ntmps50
    go_wp2
    go_ret
    exact ⟨_, rfl, ⟨[], OwnK.nil _ _ _ _, kMany.nil⟩, Below.refl _ _⟩
  | some ad =>
    have hnil : ∀ W : World, (binOp .eql 32 (.slice (some ad) L.length c) (.slice none 0 0)).run Try.prog W = .ok (.bool false) W := fun W => Lib.run_eql_slice_some_nil W _ _ _ Try.underlying32
    go_enter Try.func50, Try.ntmps50
    go_wp2_with (at_builtin; refine wpList_appK _ elemI rfl (.tmp 5) (.tmp 6) rfl w.heap.size 0 _ [] rfl (OwnK.empty w _ _) ok (some ad) L.length c ds (by rw [Hml.out, Nat.mul_one]) rfl (Hr.out.grow hba) h1c (by omega) (by omega) hba.size ?_; intro v1 w1 hown1 hg1 _; have hb1 := hba.trans ((OwnK.empty w 3 1).below_of hg1 hba.size (Nat.le_refl _)); clear hg1; simp only [Nat.zero_add, List.nil_append] at hown1; obtain ⟨A1, c1, rfl, _, _, _⟩ := hown1.form)
    go_ret
    exact ⟨_, rfl, ⟨ds, hown1, Hmany.out.flat (kInt_flat _)⟩, hb1⟩
end Go.Proofs.Ytiaabgmmmekpnaa
