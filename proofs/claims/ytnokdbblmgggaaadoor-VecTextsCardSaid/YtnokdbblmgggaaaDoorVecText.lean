/-
  A vector as a text: vec.Write, and the document's.
-/
import Derived.Test.YtnokdbblmgggaaaDoorVecLives
import Derived.Test.YtnokdbblmgggaaaDoorFmtUint
import Derived.Test.YtnokdbblmgggaaaDoorRegions
namespace Go.Proofs.YtnokdbblmgggaaaDoor
open Go.RowKit
set_option maxRecDepth 100000

/-- One replica's part. -/
def partT (V : Nat → Nat) (i : Nat) : List UInt8 := Lib.decDigits (i + 1) ++ [58] ++ Lib.decDigits (V i)
/-- The parts of the first replicas. -/
def partsT (V : Nat → Nat) : Nat → List (List UInt8)
  | 0 => []
  | k + 1 => if V k = 0 then partsT V k else partsT V k ++ [partT V k]
def writeK (V : Nat → Nat) (k : Nat) : List UInt8 := Lib.join (partsT V k) [32]
def writeT (V : Nat → Nat) : List UInt8 := writeK V 8
theorem partT_ne (V : Nat → Nat) (i : Nat) : partT V i ≠ [] := by unfold partT; simp
theorem partsT_len (V : Nat → Nat) (k : Nat) : (partsT V k).length ≤ k := by
  induction k with
  | zero => exact Nat.le_refl _
  | succ k ih =>
    show (if V k = 0 then partsT V k else partsT V k ++ [partT V k]).length ≤ k + 1
    split
    · omega
    · rw [List.length_append, List.length_singleton]; omega
theorem join_snoc (l : List (List UInt8)) (p sep : List UInt8) : Lib.join (l ++ [p]) sep = if l = [] then p else Lib.join l sep ++ sep ++ p := by
  cases l with
  | nil => simp [Lib.join_one]
  | cons x r =>
    rw [if_neg (by simp), List.cons_append, Lib.join_cons, Lib.join_cons]
    unfold Lib.joinTail
    simp
theorem writeK_zero {V : Nat → Nat} {k : Nat} (h : V k = 0) : writeK V (k + 1) = writeK V k := by
  unfold writeK
  show Lib.join (if V k = 0 then partsT V k else _) _ = _
  rw [if_pos h]
theorem writeK_empty (V : Nat → Nat) (k : Nat) : writeK V k = [] ↔ partsT V k = [] := by
  constructor
  · intro h
    induction k with
    | zero => rfl
    | succ k ih =>
      show (if V k = 0 then partsT V k else partsT V k ++ [partT V k]) = []
      by_cases h0 : V k = 0
      · rw [writeK_zero h0] at h
        rw [if_pos h0]
        exact ih h
      · exfalso
        unfold writeK at h
        have e : partsT V (k + 1) = partsT V k ++ [partT V k] := by
          show (if V k = 0 then partsT V k else partsT V k ++ [partT V k]) = _
          rw [if_neg h0]
        rw [e, join_snoc] at h
        split at h
        · exact partT_ne V k h
        · exact partT_ne V k (List.append_eq_nil_iff.1 h).2
  · intro h
    unfold writeK
    rw [h]
    rfl
theorem writeK_more {V : Nat → Nat} {k : Nat} (h : V k ≠ 0) : writeK V (k + 1) = if writeK V k = [] then partT V k else writeK V k ++ [32] ++ partT V k := by
  have e : partsT V (k + 1) = partsT V k ++ [partT V k] := by
    show (if V k = 0 then partsT V k else partsT V k ++ [partT V k]) = _
    rw [if_neg h]
  have e2 : writeK V (k + 1) = if partsT V k = [] then partT V k else writeK V k ++ [32] ++ partT V k := by
    show Lib.join (partsT V (k + 1)) [32] = _
    rw [e, join_snoc]
    rfl
  rw [e2]
  by_cases h0 : partsT V k = []
  · rw [if_pos h0, if_pos ((writeK_empty V k).2 h0)]
  · rw [if_neg h0, if_neg (fun h1 => h0 ((writeK_empty V k).1 h1))]
theorem decDigits_le (n : Nat) (h : n < 4294967296) : (Lib.decDigits n).length ≤ 20 := by
  rw [Lib.decDigits_length]
  by_cases h1 : 1 ≤ n
  · have := Lib.numDigits_eq n h1 (by omega)
    split at this <;> omega
  · obtain rfl : n = 0 := by omega
    rw [Lib.nDigits_small (by omega)]
    omega
theorem partT_len {V : Nat → Nat} (hV : okV V) {i : Nat} (h : i < 8) : (partT V i).length ≤ 41 := by
  unfold partT
  have h1 := decDigits_le (i + 1) (by omega)
  have h2 := decDigits_le (V i) (hV i h)
  rw [List.length_append, List.length_append, List.length_singleton]
  omega
theorem writeK_len {V : Nat → Nat} (hV : okV V) {k : Nat} (h : k ≤ 8) : (writeK V k).length ≤ 42 * k := by
  induction k with
  | zero => simp [writeK, partsT, Lib.join_nil]
  | succ k ih =>
    have h1 := ih (by omega)
    have h2 := partT_len hV (i := k) (by omega)
    by_cases h0 : V k = 0
    · rw [writeK_zero h0]; omega
    · rw [writeK_more h0]
      split
      · omega
      · rw [List.length_append, List.length_append, List.length_singleton]; omega

set_option maxHeartbeats 1000000 in
theorem write_any (V : Nat → Nat) (hV : okV V) (w : World) (hp : Pow w) :
    Calls Tryd.prog 5 #[vv V] w fun e w' => e = .returned (str (writeT V)) ∧ Below w.heap.size w w' := by
  have hA0 : Blk (w.alloc (.cells (av V) 24)) w.heap.size 24 (av V) := Blk.new w _ _
  have hbel : Below w.heap.size w (w.alloc (.cells (av V) 24)) := (Below.refl _ _).alloc (Nat.le_refl _) _
  have HA := Lib.hid hA0
  have HV := Lib.hid hV
  have Hp := Lib.hid hp
  clear hA0 hV hp
  unfold vv
  go_enter Tryd.func5, Tryd.ntmps5
  go_wp2_with (refine wpList_load_row rfl 24 (.tmp 1) rfl w.heap.size rfl 24 (av V) (0, 0) _ HA.out Tryd.underlying24 rfl vec_info ?_)
  go_loopw [3, 7] (fun v i wr => ∃ k : Nat, k ≤ 8 ∧ i = .int .i64 (k : Int) ∧ Own1 wr w.heap.size 9 v ((partsT V k).map str) ∧ Below w.heap.size w wr) (fun _ i _ => 8 - (intOf i).toNat)
  case atStart => exact ⟨0, by omega, rfl, Own1.nil _ _ _, hbel⟩
  case round =>
    obtain ⟨k, hk, rfl, hown, hbw⟩ := hrel
    by_cases hlt : k < 8
    · have hi := fun w => index_run V k hlt w
      unfold vv at hi
      have hVk := HV.out k hlt
      have hln := partsT_len V k
      by_cases h0 : V k = 0
      · have e : partsT V (k + 1) = partsT V k := by
          show (if V k = 0 then partsT V k else _) = _
          rw [if_pos h0]
        rw [h0] at hi
        rw [← e] at hown
        have Hown := Lib.hid hown
        clear hown h0 e hVk
        go_wp2
        go_roundw
        case rel => exact ⟨k + 1, by omega, by go_num, Hown.out, hbw⟩
        case measure => simp [intOf]; omega
      · have e : partsT V (k + 1) = partsT V k ++ [partT V k] := by
          show (if V k = 0 then partsT V k else partsT V k ++ [partT V k]) = _
          rw [if_neg h0]
        have hgt : decide ((0 : Int) < (V k : Int)) = true := by rw [decide_eq_true_iff]; omega
        have hgt2 : 0 < V k := by omega
        have hk1 : (k : Int) + 1 = ((k + 1 : Nat) : Int) := by omega
        have Hown := Lib.hid hown
        have He := Lib.hid e
        have Hk1 := Lib.hid hk1
        clear hown e h0 hk1
        have hit := fun z hz => itoa_any (k + 1) (by omega) z hz
        have hfu := fun z hz => fmtuint_any (V k) (by omega) z hz
        have hd1 := decDigits_le (k + 1) (by omega)
        have hd2 := decDigits_le (V k) hVk
        have hpt : partT V k = Lib.decDigits (k + 1) ++ [58] ++ Lib.decDigits (V k) := rfl
        generalize Lib.decDigits (k + 1) = D1 at hit hd1 hpt
        generalize Lib.decDigits (V k) = D2 at hfu hd2 hpt
        have add1 : ∀ u : World, (Op.stringOp .add ⟨D1.toArray⟩ ⟨#[58]⟩).run Tryd.prog u = .ok (str (D1 ++ [58])) u := fun u => run_str_add u D1 [58] (by simp; omega)
        have add2 : ∀ u : World, (Op.stringOp .add ⟨(D1 ++ [58]).toArray⟩ ⟨D2.toArray⟩).run Tryd.prog u = .ok (str (partT V k)) u := fun u => by
          rw [hpt]; exact run_str_add u (D1 ++ [58]) D2 (by simp; omega)
        have Hit := Lib.hid hit
        have Hfu := Lib.hid hfu
        obtain ⟨PT, hPT⟩ : ∃ PT, PT = partT V k := ⟨_, rfl⟩
        rw [← hPT] at add2 He
        have hwr : IntKind.u64.wrap (V k : Int) = (V k : Int) := by rw [IntKind.wrap_u64]; omega
        clear hit hfu hpt hPT hVk hd1 hd2
        go_wp2_with fail
        rw [Hk1.out]
        refine (Hit.out _ (Hp.out.grow hbw)).mono ?_
        rintro e w2 ⟨rfl, hb2⟩
        have hb02 := below_call hbw hb2
        go_wp2_with fail
        refine (Hfu.out _ (Hp.out.grow hb02)).mono ?_
        rintro e w3 ⟨rfl, hb3⟩
        have hb03 := below_call hb02 hb3
        have hown3 := (Hown.out.grow hb2).grow hb3
        have Hown3 := Lib.hid hown3
        clear hown3
        have hlm : ((partsT V k).map str).length ≤ 8 := by rw [List.length_map]; omega
        go_wp2_with (at_builtin; refine wpList_app1_one _ elemS rfl (.tmp 13) (.tmp 22) rfl w.heap.size _ _ rfl Hown3.out (str PT) _ rfl rfl (by omega) (by omega) hb03.size ?_; intro v2 w4 hown4 hg4 hat4)
        go_roundw
        case rel => exact ⟨k + 1, by omega, by go_num, by rw [He.out, List.map_append]; exact hown4, hb03.trans (Hown3.out.below_of hg4 hb03.size (Nat.le_refl _))⟩
        case measure => simp [intOf]; omega
    · obtain rfl : k = 8 := by omega
      obtain ⟨A, c, hv, hc, hm, hr⟩ := hown.form
      subst hv
      have hln := partsT_len V 8
      have hwl := writeK_len HV.out (Nat.le_refl 8)
      rw [List.length_map]
      by_cases h0 : partsT V 8 = []
      · have hz : writeT V = [] := (writeK_empty V 8).2 h0
        rw [h0]
        clear hown hr hc hm hwl hln
        go_wp2_with (go_at_call 14; refine (Tryd.strings_Join_none A c _ _).mono ?_; rintro e w5 ⟨rfl, rfl⟩)
        go_ret
        exact ⟨by rw [hz]; rfl, hbw⟩
      · obtain ⟨b, off, rfl, _, hlt, hcell⟩ := hr.at' (by simpa using h0)
        have hj := Tryd.strings_Join b off c ((partsT V 8).map fun l => (⟨l.toArray⟩ : ByteArray)) ⟨#[32]⟩ wr (fun j x hx => by
          rw [List.getElem?_map] at hx
          obtain ⟨l, hl, rfl⟩ := Option.map_eq_some_iff.1 hx
          obtain ⟨hjl, rfl⟩ := List.getElem?_eq_some_iff.1 hl
          have := hcell j (by simpa using hjl)
          rw [this]; simp) hlt (by rw [List.length_map]; omega) (by rw [List.length_map]; simpa using hc) (by
            have e : (((partsT V 8).map fun l => (⟨l.toArray⟩ : ByteArray)).map (·.data.toList)) = partsT V 8 := by rw [List.map_map]; simp [Function.comp_def]
            rw [e]
            have : (Lib.join (partsT V 8) [32]).length ≤ 42 * 8 := hwl
            show (Lib.join (partsT V 8) [32]).length ≤ _
            omega)
        have e : (((partsT V 8).map fun l => (⟨l.toArray⟩ : ByteArray)).map (·.data.toList)) = partsT V 8 := by rw [List.map_map]; simp [Function.comp_def]
        rw [e, List.length_map] at hj
        have Hj := Lib.hid hj
        clear hown hr hc hm hcell hj e hwl hln h0
        go_wp2_with fail
        refine Hj.out.mono ?_
        rintro e w5 ⟨rfl, hb5⟩
        go_wp2_with fail
        go_ret
        exact ⟨rfl, below_call hbw hb5⟩
end Go.Proofs.YtnokdbblmgggaaaDoor
