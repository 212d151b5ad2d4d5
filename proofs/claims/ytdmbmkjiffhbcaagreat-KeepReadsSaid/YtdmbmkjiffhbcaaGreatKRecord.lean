/-
  codec.Pack and appendLength: fields as they lie.
  keep's records: valueField, tooLong.
  keep's asRecord.
-/
import Derived.Test.YtdmbmkjiffhbcaaGreatWordsB
import Derived.Test.YtdmbmkjiffhbcaaGreatCodNumMath
import Derived.Lib.Hide
import Derived.Test.YtdmbmkjiffhbcaaGreatPuts
import Derived.Test.YtdmbmkjiffhbcaaGreatJBase
import Derived.Test.YtdmbmkjiffhbcaaGreatNums
import Derived.Test.YtdmbmkjiffhbcaaGreatRegions
namespace Go.Proofs.YtdmbmkjiffhbcaaGreat
open Go.RowKit

set_option maxHeartbeats 400000 in
set_option maxRecDepth 100000 in
theorem applen_any (base : Nat) (v : Value) (l : List UInt8) (n : Nat) (w : World) (hown : Own1 w base 5 v (l.map u8)) (hn : n ≤ 65535) (hl : l.length ≤ 1099511627776) (hb : base ≤ w.heap.size) :
    Calls Tryz.prog 71 #[v, .int .i64 (n : Int)] w fun e w' => ∃ v', e = .returned v' ∧ Own1 w' base 5 v' ((l ++ lenB n).map u8) ∧ w.grownBy w' v.ownBlock := by
  by_cases h : n < 255
  · have hl2 : lenB n = [UInt8.ofNat (n % 256)] := by rw [lenB, if_pos h, Nat.mod_eq_of_lt (by omega)]
    rw [hl2]
    clear hl2
    have Hl := Lib.hid hl
    clear hl
    go_enter Tryz.func71, Tryz.ntmps71
    go_wp2_with (at_builtin; refine wpList_app1_one _ elemB rfl (.tmp 7) (.tmp 10) rfl base v (l.map u8) rfl hown (.int .u8 (n : Int)) _ rfl rfl (by have := Hl.out; simp; omega) (by have := Hl.out; simp; omega) hb ?_; intro v1 w1 hown1 hg1 hat1)
    go_ret
    refine ⟨_, rfl, ?_, hg1⟩
    rw [List.map_append, List.map_singleton, u8_ofNat, Int.emod_eq_of_lt (by omega) (by omega)]
    exact hown1
  · have hl2 : lenB n = [255, UInt8.ofNat (n / 256 % 256), UInt8.ofNat (n % 256)] := by rw [lenB, if_neg h]
    rw [hl2]
    clear hl2
    have Hl := Lib.hid hl
    clear hl
    go_enter Tryz.func71, Tryz.ntmps71
    go_wp2_with (at_builtin; refine wpList_app1_new _ elemB rfl (.tmp 12) (.tmp 18) rfl base v (l.map u8) rfl hown [.int .u8 255, .int .u8 ((n : Int) / 256), .int .u8 ((n : Int) % 256)] 3 rfl _ rfl (fun y hy => by simp at hy; rcases hy with rfl | rfl | rfl <;> rfl) (by have := Hl.out; simp; omega) (by have := Hl.out; simp; omega) hb ?_; intro v1 w1 hown1 hg1 hat1)
    go_ret
    refine ⟨_, rfl, ?_, hg1⟩
    rw [List.map_append, List.map_cons, List.map_cons, List.map_singleton, u8_ofNat, u8_ofNat, show ((n / 256 : Nat) : Int) % 256 = (n : Int) / 256 from by omega]
    exact hown1

/-- What Pack answers. -/
def PackPost (L : List (List UInt8)) (w : World) (e : Ending) (w' : World) : Prop :=
  (if ∀ f ∈ L, f.length ≤ 65535 then ∃ v, e = .returned (.tuple #[v, .int .i64 0]) ∧ Own1 w' w.heap.size 5 v ((packB L).map u8)
    else e = .returned (.tuple #[.slice none 0 0, .int .i64 4])) ∧ Below w.heap.size w w'
theorem PackPost.no {L : List (List UInt8)} {w w' : World} {f : List UInt8} (hf : f ∈ L) (hl : 65535 < f.length) (hb : Below w.heap.size w w') : PackPost L w (.returned (.tuple #[.slice none 0 0, .int .i64 4])) w' := by
  refine ⟨?_, hb⟩
  rw [if_neg]
  intro h
  have := h f hf
  omega
theorem PackPost.yes {L : List (List UInt8)} {w w' : World} {v : Value} (hf : ∀ f ∈ L, f.length ≤ 65535) (ho : Own1 w' w.heap.size 5 v ((packB L).map u8)) (hb : Below w.heap.size w w') : PackPost L w (.returned (.tuple #[v, .int .i64 0])) w' := by
  refine ⟨?_, hb⟩
  rw [if_pos hf]
  exact ⟨v, rfl, ho⟩

set_option maxRecDepth 100000 in
theorem pack_any (ok : Nat → Prop) (v0 : Value) (L : List (List UInt8)) (w : World) (hL : IsBB w ok v0 L) (hsum : (packB L).length ≤ 1099511627776) :
    Calls Tryz.prog 47 #[v0] w (PackPost L w) := by
  obtain ⟨A, c, rfl, hc, hm, hel⟩ := hL.elem
  unfold maxLen at hm
  have Hsum := Lib.hid hsum
  have Hel := Lib.hid hel
  have Hm : L.length ≤ 9223372036854775807 := by omega
  clear hsum hel hm
  go_enter Tryz.func47, Tryz.ntmps47
  go_wp2
  go_loopw [4, 9] (fun v i wr => ∃ k : Nat, k ≤ L.length ∧ i = .int .i64 (k : Int) ∧ Own1 wr w.heap.size 5 v ((packB (L.take k)).map u8) ∧ (∀ f ∈ L.take k, f.length ≤ 65535) ∧ Below w.heap.size w wr) (fun _ i _ => L.length - (intOf i).toNat)
  case atStart => exact ⟨0, by omega, rfl, Own1.nil _ _ _, by simp, Below.refl _ _⟩
  case round =>
    obtain ⟨k, hk, rfl, hown, hall, hbel⟩ := hrel
    by_cases hlt : k < L.length
    · obtain ⟨b, off, rfl, _, had, hel⟩ := Hel.out (by intro e; subst e; simp at hlt)
      obtain ⟨Ai, ci, hcell, hci, hcm, hrd⟩ := hel k hlt
      have hcell' : wr.cell? ⟨b, off + k, none⟩ = some (.slice Ai L[k].length ci) := (hbel.cell (p := ⟨b, off + k, none⟩) had).trans hcell
      clear hel
      have hcm' : L[k].length ≤ 9223372036854775807 := by unfold maxLen at hcm; omega
      clear hcell hcm
      by_cases hlong : 65535 < L[k].length
      · go_wp2
        go_ret2
        exact PackPost.no (List.getElem_mem hlt) hlong hbel
      · have Hall := Lib.hid hall
        clear hall
        go_wp2_with (first | (go_at_call 71; refine (applen_any w.heap.size _ (packB (L.take k)) _ _ hown (by omega) (by have := packB_take_le L k; have := Hsum.out; omega) hbel.size).mono ?_; rintro e w1 ⟨v1, rfl, hown1, hg1⟩; have hb1 := hbel.trans (hown.below_of hg1 hbel.size (Nat.le_refl _))) | (at_builtin; refine wpList_app1 _ elemB rfl (.tmp 20) (.tmp 21) rfl w.heap.size v1 _ rfl hown1 ok Ai L[k].length ci (L[k].map u8) (List.length_map _) rfl (hrd.grow hb1) (u8_oneCell _) ?_ ?_ hb1.size ?_; rotate_right; intro v2 w2 hown2 hg2 hat2))
        case refine_1 => have := packB_take_le L k; have := Hsum.out; have := (lenB_le L[k].length).2; simp; omega
        case refine_2 => have := packB_take_le L k; have := Hsum.out; have := (lenB_le L[k].length).2; simp; omega
        go_roundw
        case rel =>
          refine ⟨k + 1, by omega, by go_num, ?_, ?_, hb1.trans (hown1.below_of hg2 hb1.size (Nat.le_refl _))⟩
          · rw [packB_take_succ L k hlt, fieldB, ← List.append_assoc, List.map_append]
            exact hown2
          · intro f hf
            rw [List.take_succ_eq_append_getElem hlt] at hf
            rcases List.mem_append.1 hf with hf | hf
            · exact Hall.out f hf
            · simp at hf
              subst hf
              omega
        case measure => simp [intOf]; omega
    · obtain rfl : k = L.length := by omega
      rw [List.take_length] at hown hall
      go_wp2
      go_ret2
      exact PackPost.yes hall hown hbel
end Go.Proofs.YtdmbmkjiffhbcaaGreat

namespace Go.Proofs.YtdmbmkjiffhbcaaGreat
open Go.RowKit
set_option maxRecDepth 100000

/-- The field that tells a change's value, and its record. -/
def valB (p : PutM) : List UInt8 := if p.gone then [] else 1 :: p.val
theorem valfield_any (ok : Nat → Prop) (A : Option Addr) (c : Nat) (p : PutM) (w : World) (hv : IsB w ok (.slice A p.val.length c) p.val) (hl : p.val.length ≤ 1099511627000) :
    Calls Tryz.prog 49 #[.agg #[.int .u64 (p.key : Int), .slice A p.val.length c, .bool p.gone]] w fun e w' => ∃ x, e = .returned x ∧ Own1 w' w.heap.size 5 x ((valB p).map u8) ∧ Below w.heap.size w w' := by
  obtain ⟨k, l, gn⟩ := p
  dsimp only at hv hl ⊢
  cases gn with
  | true =>
    have e : valB ⟨k, l, true⟩ = [] := rfl
    rw [e]
    clear hv
    go_enter Tryz.func49, Tryz.ntmps49
    go_wp2_with fail
    go_ret
    exact ⟨_, rfl, Own1.nil _ _ _, (Below.refl _ _).alloc (Nat.le_refl _) _⟩
  | false =>
    have e : valB ⟨k, l, false⟩ = [[1], l].flatten := by simp [valB]
    rw [e]
    have hb1 : Below w.heap.size w (w.alloc (.cells #[.int .u64 (k : Int), .slice A l.length c, .bool false] 49)) := (Below.refl _ _).alloc (Nat.le_refl _) _
    have hs1 : (w.alloc (.cells #[.int .u64 (k : Int), .slice A l.length c, .bool false] 49)).heap.size = w.heap.size + 1 := by simp
    have hcat : ∀ z : World, Below w.heap.size w z → Calls Tryz.prog 73 #[.slice (some ⟨z.heap.size + 1, 0, none⟩) 2 2] ((z.alloc (.cells #[.int .u8 1] 5)).alloc (.cells #[.slice (some ⟨z.heap.size, 0, none⟩) 1 1, .slice A l.length c] 47)) fun e w' => ∃ x, e = .returned x ∧ Own1 w' w.heap.size 5 x (([[1], l].flatten).map u8) ∧ Below w.heap.size w w' := fun z hz => by
      have hsz := hz.size
      have hz1 : Below z.heap.size z (z.alloc (.cells #[.int .u8 1] 5)) := (Below.refl _ _).alloc (Nat.le_refl _) _
      have hz2 : Below (z.alloc (.cells #[.int .u8 1] 5)).heap.size (z.alloc (.cells #[.int .u8 1] 5)) ((z.alloc (.cells #[.int .u8 1] 5)).alloc (.cells #[.slice (some ⟨z.heap.size, 0, none⟩) 1 1, .slice A l.length c] 47)) := (Below.refl _ _).alloc (Nat.le_refl _) _
      have hblk := Blk.new (z.alloc (.cells #[.int .u8 1] 5)) 47 #[.slice (some ⟨z.heap.size, 0, none⟩) 1 1, .slice A l.length c]
      rw [World.size_alloc] at hblk
      have h1 : IsB (z.alloc (.cells #[.int .u8 1] 5)) (fun _ => True) (.slice (some ⟨z.heap.size, 0, none⟩) 1 1) [1] := ⟨_, 1, rfl, Nat.le_refl _, by unfold maxLen; omega, (Blk.new z 5 #[.int .u8 1]).rd _ trivial⟩
      have h2 : IsB (z.alloc (.cells #[.int .u8 1] 5)) (fun _ => True) (.slice A l.length c) l := ((hv.grow hz).grow hz1).weaken fun _ _ => trivial
      have hbb : IsBB ((z.alloc (.cells #[.int .u8 1] 5)).alloc (.cells #[.slice (some ⟨z.heap.size, 0, none⟩) 1 1, .slice A l.length c] 47)) (fun _ => True) (.slice (some ⟨z.heap.size + 1, 0, none⟩) 2 2) [[1], l] := by
        refine isBB_of [(.slice (some ⟨z.heap.size, 0, none⟩) 1 1, [1]), (.slice A l.length c, l)] (by simp) (by unfold maxLen; omega) (hblk.rd _ trivial) ?_
        intro q hq
        simp only [List.mem_cons, List.not_mem_nil, or_false] at hq
        rcases hq with rfl | rfl
        · exact h1.grow hz2
        · exact h2.grow hz2
      refine (concat_any (fun _ => True) _ [[1], l] _ hbb (by simp; omega)).mono ?_
      rintro e w' ⟨x, rfl, hown, hb⟩
      have hb02 : Below w.heap.size w ((z.alloc (.cells #[.int .u8 1] 5)).alloc (.cells #[.slice (some ⟨z.heap.size, 0, none⟩) 1 1, .slice A l.length c] 47)) := (hz.trans (hz1.mono hsz)).trans (hz2.mono (by simp; omega))
      exact ⟨x, rfl, hown.mono (by simp; omega), hb02.trans (hb.mono (by simp; omega))⟩
    have hc := hcat _ hb1
    rw [hs1] at hc
    have Hc := Lib.hid hc
    clear hv hcat hc hb1 e hs1
    generalize ([[1], l].flatten : List UInt8) = M at Hc ⊢
    go_enter Tryz.func49, Tryz.ntmps49
    go_wp2_with fail
    refine Hc.out.mono ?_
    rintro e w1 ⟨x, rfl, hown, hb⟩
    obtain ⟨A1, c1, hx, _⟩ := hown.form
    rw [List.length_map] at hx
    subst hx
    have Hown := Lib.hid hown
    clear hown
    go_wp2_with fail
    go_ret
    exact ⟨_, rfl, Hown.out, hb⟩
end Go.Proofs.YtdmbmkjiffhbcaaGreat

namespace Go.Proofs.YtdmbmkjiffhbcaaGreat
open Go.RowKit
set_option maxRecDepth 100000

def putB (p : PutM) : List UInt8 := packB [numB p.key, valB p]
theorem packB_two (a b : List UInt8) : (packB [a, b]).length = (lenB a.length).length + a.length + ((lenB b.length).length + b.length) := by
  rw [packB_cons, packB_cons, packB_nil, List.append_nil, List.length_append, fieldB_length, fieldB_length]
/-- The record of changes, and the error. -/
def precM : List PutM → List UInt8 → List UInt8 × Nat
  | [], r => (r, 0)
  | p :: L, r => if 65535 < (valB p).length then ([], 4) else if 65531 < r.length + (putB p).length then ([], 4) else precM L (r ++ putB p)
theorem packpair {ok : Nat → Prop} {z : World} {v1 v2 : Value} {l1 l2 : List UInt8} (h1 : IsB z ok v1 l1) (h2 : IsB z ok v2 l2) (hs : (packB [l1, l2]).length ≤ 1099511627776) :
    Calls Tryz.prog 47 #[.slice (some ⟨z.heap.size, 0, none⟩) 2 2] (z.alloc (.cells #[v1, v2] 47)) fun e w' =>
      (if l1.length ≤ 65535 ∧ l2.length ≤ 65535 then ∃ v, e = .returned (.tuple #[v, .int .i64 0]) ∧ Own1 w' z.heap.size 5 v ((packB [l1, l2]).map u8) else e = .returned (.tuple #[.slice none 0 0, .int .i64 4])) ∧ Below z.heap.size z w' := by
  have hz : Below z.heap.size z (z.alloc (.cells #[v1, v2] 47)) := (Below.refl _ _).alloc (Nat.le_refl _) _
  have hbb : IsBB (z.alloc (.cells #[v1, v2] 47)) (fun _ => True) (.slice (some ⟨z.heap.size, 0, none⟩) 2 2) [l1, l2] := by
    refine isBB_of [(v1, l1), (v2, l2)] (by simp) (by unfold maxLen; omega) ((Blk.new z 47 #[v1, v2]).rd _ trivial) ?_
    intro q hq
    simp only [List.mem_cons, List.not_mem_nil, or_false] at hq
    rcases hq with rfl | rfl
    · exact (h1.grow hz).weaken fun _ _ => trivial
    · exact (h2.grow hz).weaken fun _ _ => trivial
  refine (pack_any _ _ [l1, l2] _ hbb hs).mono ?_
  rintro e w' ⟨h, hb⟩
  have hb2 := below_call hz hb
  refine ⟨?_, hb2⟩
  have he : (∀ f ∈ [l1, l2], f.length ≤ 65535) ↔ (l1.length ≤ 65535 ∧ l2.length ≤ 65535) := by simp
  simp only [he] at h
  split
  · rename_i hc
    rw [if_pos hc] at h
    obtain ⟨v, rfl, ho⟩ := h
    exact ⟨v, rfl, ho.mono (by simp)⟩
  · rename_i hc
    rw [if_neg hc] at h
    exact h

set_option maxHeartbeats 2000000 in
theorem asrecord_any (ok : Nat → Prop) (v : Value) (L : List PutM) (w : World) (hL : IsL kPut w ok v L) (hvl : ∀ p, p ∈ L → p.val.length ≤ 1099511600000) :
    Calls Tryz.prog 26 #[v] w fun e w' => (∃ x, e = .returned (.tuple #[x, .int .i64 ((precM L []).2 : Int)]) ∧ Own1 w' w.heap.size 5 x ((precM L []).1.map u8)) ∧ Below w.heap.size w w' := by
  obtain ⟨A, c, rfl, hLc, hcm, hcells⟩ := put_at hL
  have Hc := Lib.hid hcells
  have Hvl := Lib.hid hvl
  have hLm : L.length ≤ 9223372036854775807 := by unfold maxLen at hcm; omega
  clear hL hcells hvl
  generalize hR : precM L [] = R
  have HR := Lib.hid hR
  clear hR
  go_enter Tryz.func26, Tryz.ntmps26
  go_wp2_with fail
  go_loopw [4, 11] (fun x i wr => ∃ (k : Nat) (r : List UInt8), k ≤ L.length ∧ i = .int .i64 (k : Int) ∧ Own1 wr w.heap.size 5 x (r.map u8) ∧ r.length ≤ 65531 ∧ precM (L.drop k) r = R ∧ Below w.heap.size w wr) (fun _ i _ => L.length - (intOf i).toNat)
  case atStart => exact ⟨0, [], by omega, rfl, Own1.nil _ _ _, by simp, HR.out, Below.refl _ _⟩
  case round =>
    obtain ⟨k, r, hk, rfl, hown, hrl, hrec, hbel⟩ := hrel
    obtain ⟨Ar, cr, hrv, hrc, hrm, _⟩ := hown.form
    rw [List.length_map] at hrv hrc
    subst hrv
    have Hown := Lib.hid hown
    have Hbel := Lib.hid hbel
    have Hrec := Lib.hid hrec
    clear hown hbel hrec
    by_cases hlt : k < L.length
    · obtain ⟨b, off, rfl, hokb, hbl, hcell⟩ := Hc.out (by intro e; subst e; simp at hlt)
      obtain ⟨Ai, ci, c0, c1, c2, hkey, hval⟩ := hcell k hlt
      have c0' := (Hbel.out.cell (p := ⟨b, off + k * 3, none⟩) hbl).trans c0
      have c1' := (Hbel.out.cell (p := ⟨b, off + k * 3 + 1, none⟩) hbl).trans c1
      have c2' := (Hbel.out.cell (p := ⟨b, off + k * 3 + 2, none⟩) hbl).trans c2
      have hval' := hval.grow Hbel.out
      have hvlk := Hvl.out L[k] (List.getElem_mem hlt)
      have hdk : L.drop k = L[k] :: L.drop (k + 1) := List.drop_eq_getElem_cons hlt
      have hrec := Hrec.out
      rw [hdk] at hrec
      unfold precM at hrec
      generalize L[k] = p at c0' c1' c2' hkey hval' hvlk hrec
      clear hcell c0 c1 c2 hval hdk Hrec
      have Hval := Lib.hid hval'
      have Hkey := Lib.hid hkey
      have Hrec := Lib.hid hrec
      clear hval' hkey hrec
      obtain ⟨pk, pv, pg⟩ := p
      dsimp only at c0' c1' c2' hvlk
      have hkey := Hkey.out
      dsimp only at hkey
      have hnl : (numB pk).length ≤ 8 := by rw [numB_length]; exact numLen_le pk (by omega)
      have hvb : (valB ⟨pk, pv, pg⟩).length ≤ 1099511600001 := by unfold valB; dsimp only; split <;> simp; omega
      have hpl : (putB ⟨pk, pv, pg⟩).length ≤ 1099511600100 := by
        unfold putB
        rw [packB_two]
        have := (lenB_le (numB pk).length).2
        have := (lenB_le (valB ⟨pk, pv, pg⟩).length).2
        dsimp only
        omega
      go_upto_region 5 with (fail)
      have hblk1 : Blk (wr.alloc (.cells #[.int .u64 (pk : Int), .slice Ai pv.length ci, .bool pg] 49)) wr.heap.size 49 #[.int .u64 (pk : Int), .slice Ai pv.length ci, .bool pg] := Blk.new wr _ _
      have hb1 : Below wr.heap.size wr (wr.alloc (.cells #[.int .u64 (pk : Int), .slice Ai pv.length ci, .bool pg] 49)) := (Below.refl _ _).alloc (Nat.le_refl _) _
      obtain ⟨W1, hW1⟩ : ∃ W1, W1 = wr.alloc (.cells #[.int .u64 (pk : Int), .slice Ai pv.length ci, .bool pg] 49) := ⟨_, rfl⟩
      rw [← hW1] at hblk1 hb1 ⊢
      clear hW1
      have hv1 := Hval.out.grow hb1
      have e0 := hblk1.cell 0
      have e1 := hblk1.cell 1
      have e2 := hblk1.cell 2
      simp only [List.getElem?_toArray, List.getElem?_cons_zero, List.getElem?_cons_succ] at e0 e1 e2
      have hn : ∀ z, Below W1.heap.size W1 z → Calls Tryz.prog 48 #[.int .u64 (pk : Int)] z fun e w' => ∃ A' c', e = .returned (.slice A' (numB pk).length c') ∧ IsB w' (fun _ => True) (.slice A' (numB pk).length c') (numB pk) ∧ Below W1.heap.size W1 w' ∧ w'.cell? ⟨wr.heap.size, 0, none⟩ = some (.int .u64 (pk : Int)) ∧ w'.cell? ⟨wr.heap.size, 1, none⟩ = some (.slice Ai pv.length ci) ∧ w'.cell? ⟨wr.heap.size, 2, none⟩ = some (.bool pg) := fun z hz => by
        refine (num_any pk Hkey.out z).mono ?_
        rintro e w2 ⟨v', rfl, hown, hb2⟩
        have hB := hown.isB
        obtain ⟨A', c', hv', _⟩ := hB
        subst hv'
        have hbz := below_call hz hb2
        exact ⟨A', c', rfl, hown.isB.weaken fun _ _ => trivial, hbz, (hblk1.grow hbz).cell 0, (hblk1.grow hbz).cell 1, (hblk1.grow hbz).cell 2⟩
      have hv : ∀ z, Below W1.heap.size W1 z → Calls Tryz.prog 49 #[.agg #[.int .u64 (pk : Int), .slice Ai pv.length ci, .bool pg]] z fun e w' => ∃ A' c', e = .returned (.slice A' (valB ⟨pk, pv, pg⟩).length c') ∧ IsB w' (fun _ => True) (.slice A' (valB ⟨pk, pv, pg⟩).length c') (valB ⟨pk, pv, pg⟩) ∧ Below z.heap.size z w' ∧ Below W1.heap.size W1 w' := fun z hz => by
        refine (valfield_any ok Ai ci ⟨pk, pv, pg⟩ z (hv1.grow hz) (by dsimp only; omega)).mono ?_
        rintro e w2 ⟨v', rfl, hown, hb2⟩
        have hB := hown.isB
        obtain ⟨A', c', hv', _⟩ := hB
        subst hv'
        exact ⟨A', c', rfl, hown.isB.weaken fun _ _ => trivial, hb2, below_call hz hb2⟩
      have Hn := Lib.hid hn
      have Hv := Lib.hid hv
      have Hb1 := Lib.hid hb1
      clear hn hv hblk1 hv1 hb1 c0' c1' c2' Hval
      have hrec := Hrec.out
      unfold putB at hpl hrec
      dsimp only at hpl hrec
      generalize valB ⟨pk, pv, pg⟩ = vb at hvb hpl hrec Hv
      generalize numB pk = nb at hnl hpl hrec Hn
      have Hrec2 := Lib.hid hrec
      clear hrec Hrec
      by_cases hbig : 65535 < vb.length
      · go_region_with (first
          | (go_at_call 48; refine (Hn.out _ ((Below.refl _ _).drew)).mono ?_; rintro e w2 ⟨An, cn, rfl, hn2, hb2, d0, d1, d2⟩)
          | (go_at_call 49; refine (Hv.out _ hb2).mono ?_; rintro e w3 ⟨Av, cv, rfl, hv3, hb23, hb3⟩)
          | (go_at_call 47; refine (packpair (hn2.grow hb23) hv3 (by omega)).mono ?_; rintro e w4 ⟨hpk, hb4⟩; rw [if_neg (by omega)] at hpk; subst hpk))
        all_goals go_wp2_with fail
        all_goals go_ret2
        all_goals
          rw [if_pos hbig] at Hrec2
          have hb05 : Below w.heap.size w w4 := (Hbel.out.trans (Hb1.out.mono Hbel.out.size)).trans ((below_call hb3 hb4).mono (Nat.le_trans Hbel.out.size Hb1.out.size))
          rw [← Hrec2.out]
          exact ⟨⟨_, rfl, Own1.nil _ _ _⟩, hb05⟩
      · have hrec := Hrec2.out
        rw [if_neg hbig] at hrec
        have Hrec3 := Lib.hid hrec
        clear hrec Hrec2
        have hgrow : ∀ z, Below W1.heap.size W1 z → Below w.heap.size w z := fun z hz => (Hbel.out.trans (Hb1.out.mono Hbel.out.size)).trans (hz.mono (Nat.le_trans Hbel.out.size Hb1.out.size))
        have Hgrow := Lib.hid hgrow
        clear hgrow
        go_region_with (first
          | (go_at_call 48; refine (Hn.out _ ((Below.refl _ _).drew)).mono ?_; rintro e w2 ⟨An, cn, rfl, hn2, hb2, d0, d1, d2⟩)
          | (go_at_call 49; refine (Hv.out _ hb2).mono ?_; rintro e w3 ⟨Av, cv, rfl, hv3, hb23, hb3⟩)
          | (go_at_call 47; refine (packpair (hn2.grow hb23) hv3 (by omega)).mono ?_; rintro e w4 ⟨hpk, hb4⟩; rw [if_pos (by omega)] at hpk; obtain ⟨x, rfl, hownp⟩ := hpk; obtain ⟨Ap, cp, hx, hpc, hpm, hprd⟩ := hownp.form; rw [List.length_map] at hx hpc; subst hx; have Hownp := Lib.hid hownp; have Hprd := Lib.hid hprd; have Hb14 := Lib.hid (below_call hb3 hb4); clear hownp hprd hn2 hv3))
        all_goals
          unfold maxLen at hpm
          have hpm2 : (packB [nb, vb]).length ≤ 9223372036854775807 := by omega
          have hrc2 : r.length ≤ 9223372036854775807 := by omega
          have hb05 := Hgrow.out _ Hb14.out
          have hown5 := Hown.out.keep fun j hj => ((Hb1.out.trans (Hb14.out.mono Hb1.out.size)).block j (Hown.out.lt j hj).2)
          clear d0 d1 d2 hb2 hb3 hb23 hb4
        all_goals
          obtain ⟨f, hf⟩ : ∃ f, f = packB [nb, vb] := ⟨_, rfl⟩
          rw [← hf] at hpl Hrec3 Hownp Hprd hpc hpm2 ⊢
          clear hf
        all_goals by_cases hfit : 65531 < r.length + f.length
        all_goals first
          | (have hrec := Hrec3.out
             rw [if_pos hfit] at hrec
             have Hrec4 := Lib.hid hrec
             clear hrec Hrec3
             go_wp2_with fail
             go_ret2
             rw [← Hrec4.out]
             exact ⟨⟨_, rfl, Own1.nil _ _ _⟩, hb05⟩)
          | (have hrec := Hrec3.out
             rw [if_neg hfit] at hrec
             have Hrec4 := Lib.hid hrec
             clear hrec Hrec3
             have Hown5 := Lib.hid hown5
             have Hb05 := Lib.hid hb05
             clear hown5 hb05
             go_wp2_with (at_builtin; refine wpList_app1 _ elemB rfl (.tmp 34) (.tmp 35) rfl w.heap.size (.slice Ar r.length cr) _ rfl Hown5.out _ Ap f.length cp _ (List.length_map _) rfl Hprd.out (u8_oneCell _) (by simp; omega) (by simp; omega) Hb05.out.size ?_; intro v6 w6 hown6 hg6 hat6)
             have hb6 := Hb05.out.trans (Hown5.out.below_of hg6 Hb05.out.size (Nat.le_refl _))
             go_roundw
             all_goals first
               | (refine ⟨k + 1, r ++ f, by omega, by go_num, ?_, by rw [List.length_append]; omega, Hrec4.out, hb6⟩
                  rw [List.map_append]
                  exact hown6)
               | (simp [intOf]; omega))
    · obtain rfl : k = L.length := by omega
      have hfin := Hrec.out
      rw [List.drop_length] at hfin
      unfold precM at hfin
      subst hfin
      have Hfin := Lib.hid hlt
      clear hlt
      go_wp2_with fail
      go_ret2
      exact ⟨⟨_, rfl, Hown.out⟩, Hbel.out⟩
end Go.Proofs.YtdmbmkjiffhbcaaGreat
