/-
  codec.firstLength and firstField: the first field of bytes.
  bytes.Clone, codec.Fields and the iterator that it answers.
  Rows of rows of bytes that are owned; what stays when a block is turned that is none of cells.
  codec.Unpack: all fields of bytes.
-/
import Derived.Test.YtdmbmkjiffhbcaaGreatPlainKit
import Derived.Test.YtdmbmkjiffhbcaaGreatWordsB
import Derived.Test.YtdmbmkjiffhbcaaGreatCodNumMath
import Derived.Deep.QuietTactic
import Derived.BigQuiet
import Derived.Lib.Hide
import Derived.Test.YtdmbmkjiffhbcaaGreatRange
import Derived.Test.YtdmbmkjiffhbcaaGreatShelf
import Derived.RangeFuncNested
import Derived.RangeFuncBound
import Derived.RangeFuncCalls
import Derived.RangeFuncLeaves
import Derived.Shelf.Abstract
import Derived.Shelf.RegionOpen
import Derived.OwnWalkIn
import Derived.TacticsInMore
import Derived.LoopNIn
import Derived.LoopIn
namespace Go.Proofs.YtdmbmkjiffhbcaaGreat
open Go.RowKit
set_option maxRecDepth 100000


theorem i64_join (x y : Nat) (hx : x < 256) (hy : y < 256) : bits .or .i64 ((x : Int) * 256) (y : Int) = ((x * 256 + y : Nat) : Int) := by
  have h : bits .or .i64 ((x * 256 : Nat) : Int) (y : Int) = ((x * 256 ||| y : Nat) : Int) := by
    have hlt : x * 256 ||| y < 2 ^ 63 := Nat.or_lt_two_pow (by omega) (by omega)
    show IntKind.i64.wrap ((BitVec.ofInt 64 ((x * 256 : Nat) : Int) ||| BitVec.ofInt 64 (y : Int)).toNat : Int) = _
    have e1 : (BitVec.ofInt 64 ((x * 256 : Nat) : Int)).toNat = x * 256 := by rw [BitVec.ofInt_natCast, BitVec.toNat_ofNat]; exact Nat.mod_eq_of_lt (by omega)
    have e2 : (BitVec.ofInt 64 (y : Int)).toNat = y := by rw [BitVec.ofInt_natCast, BitVec.toNat_ofNat]; exact Nat.mod_eq_of_lt (by omega)
    rw [BitVec.toNat_or, e1, e2, IntKind.wrap_i64]
    omega
  rw [nat_join 8 (x * 256) y (by omega) (by omega)] at h
  simpa using h

theorem getD_get (l : List UInt8) (k : Nat) (h : k < l.length) : l.getD k 0 = l[k] := by simp [List.getD, h]

set_option maxHeartbeats 400000 in
theorem firstlen_any (ok : Nat → Prop) (A : Option Addr) (c : Nat) (l : List UInt8) (w : World) (hl : l.length ≤ maxLen) (h0 : l ≠ []) (hr : Rd w ok A (l.map u8)) :
    Calls Tryz.prog 92 #[.slice A l.length c] w fun e w' => e = .returned (.tuple #[.int .i64 ((firstLen l).1 : Int), .int .i64 ((firstLen l).2.1 : Int), .int .i64 ((firstLen l).2.2 : Int)]) ∧ Below w.heap.size w w' := by
  unfold maxLen at hl
  have hl0 : 0 < l.length := List.length_pos_iff.2 h0
  obtain ⟨b, off, rfl, _, _, hc⟩ := hr.byte hl0
  have hc0 := hc 0 hl0
  rw [Nat.add_zero, ← getD_get l 0 hl0] at hc0
  have hb0 := (l.getD 0 0).toNat_lt
  have Hc := Lib.hid hc
  clear hc hr h0
  generalize hx0 : l.getD 0 0 = x0 at *
  have Hx0 := Lib.hid hx0
  clear hx0
  by_cases h1 : x0.toNat = 255
  · by_cases h3 : l.length < 3
    · have hv : firstLen l = (0, 0, 8) := by unfold firstLen; rw [Hx0.out, if_neg (by simpa using h1), if_pos h3]
      rw [hv]
      rw [h1] at hc0
      clear hv h1 hb0
      go_enter Tryz.func92, Tryz.ntmps92
      go_wp2
      go_ret3
      exact ⟨rfl, Below.refl _ _⟩
    · have hc1 := Hc.out 1 (by omega)
      have hc2 := Hc.out 2 (by omega)
      rw [← getD_get l 1 (by omega)] at hc1
      rw [← getD_get l 2 (by omega)] at hc2
      generalize hx1 : l.getD 1 0 = x1 at *
      generalize hx2 : l.getD 2 0 = x2 at *
      have hb1 := x1.toNat_lt
      have hb2 := x2.toNat_lt
      have hv : firstLen l = if x1.toNat * 256 + x2.toNat < 255 then (0, 0, 7) else (x1.toNat * 256 + x2.toNat, 3, 0) := by
        unfold firstLen; rw [Hx0.out, hx1, hx2, if_neg (by simpa using h1), if_neg h3]
      rw [h1] at hc0
      have e1 : IntKind.i64.wrap (x1.toNat : Int) = (x1.toNat : Int) := IntWalk.i64_in _ (by omega)
      have e2 : IntKind.i64.wrap (x2.toNat : Int) = (x2.toNat : Int) := IntWalk.i64_in _ (by omega)
      have e3 : IntKind.i64.wrap ((x1.toNat : Int) * 256) = (x1.toNat : Int) * 256 := IntWalk.i64_in _ (by omega)
      have hi1 : (1 : Int) < (l.length : Int) := by omega
      have hi2 : (2 : Int) < (l.length : Int) := by omega
      have e4 := i64_join x1.toNat x2.toNat hb1 hb2
      clear hx1 hx2 h1
      by_cases h255 : x1.toNat * 256 + x2.toNat < 255
      · rw [if_pos h255] at hv
        rw [hv]
        clear hv
        go_enter Tryz.func92, Tryz.ntmps92
        go_wp2_with fail
        go_quiet (fail)
        go_wp2
        go_ret3
        exact ⟨rfl, below_drewN (Below.refl _ _) _⟩
      · rw [if_neg h255] at hv
        rw [hv]
        clear hv
        go_enter Tryz.func92, Tryz.ntmps92
        go_wp2_with fail
        go_quiet (fail)
        go_wp2
        go_ret3
        exact ⟨rfl, below_drewN (Below.refl _ _) _⟩
  · have hv : firstLen l = (x0.toNat, 1, 0) := by unfold firstLen; rw [Hx0.out, if_pos (by simpa using h1)]
    rw [hv]
    clear hv
    have hne : ((x0.toNat : Int) != 255) = true := by rw [bne_iff_ne]; omega
    clear h1
    go_enter Tryz.func92, Tryz.ntmps92
    go_wp2
    go_ret3
    exact ⟨rfl, Below.refl _ _⟩

theorem firstF_eq (l : List UInt8) : firstF l = if (firstLen l).2.2 ≠ 0 then ([], [], (firstLen l).2.2) else if l.length < (firstLen l).2.1 + (firstLen l).1 then ([], [], 8)
    else ((l.drop (firstLen l).2.1).take (firstLen l).1, l.drop ((firstLen l).2.1 + (firstLen l).1), 0) := rfl

/-- What firstField answers: parts of the bytes. -/
def FirstPost (ok : Nat → Prop) (l : List UInt8) (w : World) (e : Ending) (w' : World) : Prop :=
  (∃ x y, e = .returned (.tuple #[x, y, .int .i64 ((firstF l).2.2 : Int)]) ∧ IsB w' ok x (firstF l).1 ∧ IsB w' ok y (firstF l).2.1) ∧ Below w.heap.size w w'
theorem IsB.none_ {w : World} {ok : Nat → Prop} : IsB w ok (.slice none 0 0) [] := ⟨none, 0, rfl, Nat.le_refl _, Nat.zero_le _, Rd.nil⟩
theorem IsB.of {w : World} {ok : Nat → Prop} {A : Option Addr} {n c : Nat} {l : List UInt8} (hn : n = l.length) (hc : l.length ≤ c) (hm : c ≤ maxLen) (hr : Rd w ok A (l.map u8)) : IsB w ok (.slice A n c) l := ⟨A, c, by rw [hn], hc, hm, hr⟩
theorem IsB.nil_any {w : World} {ok : Nat → Prop} {A : Option Addr} {c : Nat} (h : c ≤ maxLen) : IsB w ok (.slice A 0 c) [] := ⟨A, c, rfl, Nat.zero_le _, h, Rd.nil⟩
theorem FirstPost.err {ok : Nat → Prop} {l : List UInt8} {w w' : World} {k : Nat} (h : firstF l = ([], [], k)) (hb : Below w.heap.size w w') : FirstPost ok l w (.returned (.tuple #[.slice none 0 0, .slice none 0 0, .int .i64 (k : Int)])) w' := by
  refine ⟨⟨.slice none 0 0, .slice none 0 0, ?_, ?_, ?_⟩, hb⟩ <;> rw [h]
  · exact IsB.none_
  · exact IsB.none_
theorem FirstPost.fine {ok : Nat → Prop} {l f r : List UInt8} {w w' : World} {x y : Value} (h : firstF l = (f, r, 0)) (hx : IsB w' ok x f) (hy : IsB w' ok y r) (hb : Below w.heap.size w w') : FirstPost ok l w (.returned (.tuple #[x, y, .int .i64 0])) w' := by
  refine ⟨⟨x, y, ?_, ?_, ?_⟩, hb⟩ <;> rw [h]
  · rfl
  · exact hx
  · exact hy

theorem firstfield_any (ok : Nat → Prop) (A : Option Addr) (c : Nat) (l : List UInt8) (w : World) (hlc : l.length ≤ c) (hcm : c ≤ maxLen) (h0 : l ≠ []) (hr : Rd w ok A (l.map u8)) :
    Calls Tryz.prog 83 #[.slice A l.length c] w (FirstPost ok l w) := by
  have hsz := firstLen_size l h0
  have hll := firstlen_any ok A c l w (Nat.le_trans hlc hcm) h0 hr
  have hfo := firstF_eq l
  unfold maxLen at hcm
  obtain ⟨n, hn⟩ : ∃ n, n = (firstLen l).1 := ⟨_, rfl⟩
  obtain ⟨s, hs⟩ : ∃ n, n = (firstLen l).2.1 := ⟨_, rfl⟩
  obtain ⟨e, he⟩ : ∃ n, n = (firstLen l).2.2 := ⟨_, rfl⟩
  rw [← hn, ← hs, ← he] at hll hfo
  rw [← hn, ← hs, ← he] at hsz
  have Hll := Lib.hid hll
  have Hr := Lib.hid hr
  have Hsz := Lib.hid hsz
  have Hfo := Lib.hid hfo
  clear hll hr hfo hn hs he hsz
  by_cases hee : e = 0
  · subst hee
    obtain ⟨hs1, hs2, hn1⟩ := Hsz.out rfl
    by_cases hcut : l.length < s + n
    · have hf : firstF l = ([], [], 8) := by rw [Hfo.out, if_neg (by simp), if_pos hcut]
      have Hf := Lib.hid hf
      clear hf
      go_enter Tryz.func83, Tryz.ntmps83
      go_wp2_with (go_at_call 92; refine Hll.out.mono ?_; rintro e1 w1 ⟨rfl, hb1⟩)
      all_goals go_ret3
      all_goals exact FirstPost.err Hf.out hb1
    · have hf : firstF l = ((l.drop s).take n, l.drop (s + n), 0) := by rw [Hfo.out, if_neg (by simp), if_neg hcut]
      have Hf := Lib.hid hf
      clear hf
      have hsl : s + n ≤ l.length := by omega
      have hR := Hr.out
      obtain ⟨b, off, rfl, ho, hlt, hc⟩ := hR.at' (by simpa using h0)
      clear hR hc hlt hcut
      by_cases hcs : c = s
      · subst hcs
        obtain rfl : n = 0 := by omega
        go_enter Tryz.func83, Tryz.ntmps83
        go_wp2_with (go_at_call 92; refine Hll.out.mono ?_; rintro e1 w1 ⟨rfl, hb1⟩)
        go_quiet (fail)
        go_wp2
        go_ret3
        have hlc' : l.length = c := by omega
        have Hf' : firstF l = ([], [], 0) := by rw [Hf.out, List.take_zero, List.drop_eq_nil_of_le (by omega)]
        exact FirstPost.fine Hf' (IsB.nil_any (Nat.zero_le _)) (IsB.nil_any (Nat.zero_le _)) (below_drewN hb1 _)
      · have Hr1 : Hid (Rd w ok (some ⟨b, off + s, none⟩) ((l.drop s).map u8)) := Lib.hid (by rw [List.map_drop]; exact Hr.out.drop')
        by_cases hcn : c - s = n
        · have hcn' := Lib.hid hcn
          obtain rfl : n = c - s := hcn.symm
          clear hcn
          go_enter Tryz.func83, Tryz.ntmps83
          go_wp2_with (go_at_call 92; refine Hll.out.mono ?_; rintro e1 w1 ⟨rfl, hb1⟩)
          go_quiet (fail)
          go_wp2
          go_ret3
          refine FirstPost.fine Hf.out ?_ ?_ (below_drewN hb1 _)
          · exact IsB.of (by rw [List.length_take, List.length_drop]; omega) (by rw [List.length_take]; omega) (by unfold maxLen; omega) (by rw [List.map_take]; exact ((Hr1.out.grow hb1).take).drewN _)
          · have e : l.drop (s + (c - s)) = [] := List.drop_eq_nil_of_le (by omega)
            rw [e]
            exact IsB.of (by simp; omega) (Nat.zero_le _) (Nat.zero_le _) Rd.nil
        · go_enter Tryz.func83, Tryz.ntmps83
          go_wp2_with (go_at_call 92; refine Hll.out.mono ?_; rintro e1 w1 ⟨rfl, hb1⟩)
          go_quiet (fail)
          go_wp2
          go_ret3
          refine FirstPost.fine Hf.out ?_ ?_ (below_drewN hb1 _)
          · exact IsB.of (by rw [List.length_take, List.length_drop]; omega) (by rw [List.length_take]; omega) (by unfold maxLen; omega) (by rw [List.map_take]; exact ((Hr1.out.grow hb1).take).drewN _)
          · refine IsB.of (by rw [List.length_drop]; omega) (by rw [List.length_drop]; omega) (by unfold maxLen; omega) ?_
            rw [← List.drop_drop, List.map_drop]
            exact ((Hr1.out.grow hb1).drop').drewN _
  · have hf : firstF l = ([], [], e) := by rw [Hfo.out, if_pos hee]
    have Hf := Lib.hid hf
    have hne : ((e : Int) != 0) = true := by rw [bne_iff_ne]; omega
    clear hf
    go_enter Tryz.func83, Tryz.ntmps83
    go_wp2_with (go_at_call 92; refine Hll.out.mono ?_; rintro e1 w1 ⟨rfl, hb1⟩)
    go_ret3
    exact FirstPost.err Hf.out hb1
end Go.Proofs.YtdmbmkjiffhbcaaGreat

namespace Go.Proofs.YtdmbmkjiffhbcaaGreat
open Go.RowKit Go.Shelf
set_option maxRecDepth 100000
attribute [local go_sem] Oper.semAt_some

/-- What is known of a field as it is yielded. -/
def fieldX (l : List UInt8) (pre : List (Value × Nat)) (x : Value × Nat) (W0 W : World) : Prop :=
  ∃ f, (steps l)[pre.length]? = some (f, x.2) ∧ Own1 W W0.heap.size 5 x.1 (f.map u8)

def lenOf : Value → Nat
  | .slice _ n _ => n
  | _ => 0

theorem steps_at {l r : List UInt8} {k : Nat} {f : List UInt8} {e : Nat} {t : List (List UInt8 × Nat)} (hd : (steps l).drop k = steps r) (hs : steps r = (f, e) :: t) : (steps l)[k]? = some (f, e) ∧ (steps l).drop (k + 1) = t := by
  constructor
  · have := congrArg (fun x => x[0]?) hd
    simp only [List.getElem?_drop, hs] at this
    simpa using this
  · rw [← List.drop_drop, hd, hs]
    rfl

set_option maxHeartbeats 1000000 in
theorem fields_iter (n : Nat) (ok keep : Nat → Prop) (hok : ∀ k, ok k → keep k) (l : List UInt8) (Bx : Nat) (hBx : keep Bx) (v0 : Value) (w : World) (hbox : w.cell? ⟨Bx, 0, none⟩ = some v0) (hv0 : IsB w ok v0 l) (hlen : l.length ≤ 1099511627776) :
    Iter n Tryz.prog 82 #[.pointer (some ⟨Bx, 0, none⟩)] (fun x : Value × Nat => #[x.1, .int .i64 (x.2 : Int)]) keep (fieldX l) (fun xs => xs.length = (steps l).length) (fun _ => True) w := by
  intro L J Jx W hk hsz hY h0
  have hbx : W.cell? ⟨Bx, 0, none⟩ = some v0 := (World.cell?_of_block (w := w) (hk Bx hBx)).trans hbox
  have hv1 := hv0.frame (w' := W) fun k hk' _ => hk k (hok k hk')
  obtain ⟨A0, c0, rfl, hlc0, hcm0, hr0⟩ := hv1
  refine callsIn_of_wp Tryz.func82 rfl trivial ?_ rfl
  simp only [Tryz.ntmps82, List.size_toArray, List.length_cons, List.length_nil, Nat.reduceAdd, Nat.reduceSub, Array.replicate_succ, Array.replicate_zero, List.push_toArray, List.append_toArray, List.nil_append, List.cons_append]
  gi_wp2
  gi_loopw [3] (fun y wr => ∃ (pre : List (Value × Nat)) (W0 : World) (r : List UInt8) (A : Option Addr) (c : Nat), y = .slice A r.length c ∧ r.length ≤ c ∧ c ≤ maxLen ∧ Rd wr ok A (r.map u8) ∧
      J pre W0 ∧ Below W0.heap.size W0 wr ∧ (steps l).drop pre.length = steps r ∧ r.length ≤ l.length ∧ pre.length + (steps r).length = (steps l).length)
    (fun y _ => lenOf y)
  case atStart =>
    exact ⟨[], W, l, A0, c0, rfl, hlc0, hcm0, hr0, h0, Below.refl _ _, rfl, Nat.le_refl _, by simp⟩
  case round =>
    obtain ⟨pre, W0, r, A, c, rfl, hlc, hcm, hr, hJ, hbel, hdrop, hrl, hcnt⟩ := hrel
    by_cases hr0 : r = []
    · subst hr0
      simp only [List.length_nil]
      gi_wp2
      go_end0
      exact ⟨⟨_, rfl⟩, .inl ⟨pre, W0, by simpa [steps_nil] using hcnt, hJ, hbel⟩⟩
    · have hpos : 0 < r.length := List.length_pos_iff.2 hr0
      have hff := Lib.hid ((callsIn_wide (n := n - 1)).2 (firstfield_any ok A c r wr hlc hcm hr0 hr))
      by_cases he : (firstF r).2.2 = 0
      · have hst := steps_ok r hr0 he
        obtain ⟨hat, hdr⟩ := steps_at hdrop hst
        have hrest := firstF_rest r hr0
        have Hat := Lib.hid hat
        have Hcnt := Lib.hid hcnt
        have Hdr := Lib.hid hdr
        have Hst := Lib.hid hst
        have HY := Lib.hid hY
        have Hrest := Lib.hid hrest
        have hz : (((firstF r).2.2 : Int) != 0) = false := by rw [bne_eq_false_iff_eq]; omega
        have Hfl : Hid ((firstF r).1.length ≤ 1099511627776) := Lib.hid (by
          have : (firstF r).1.length ≤ r.length := firstF_part r
          omega)
        clear hY hat hst hdrop hcnt hr hcm hk hdr hrest he
        gi_wp2_with (first | (refine ⟨trivial, Bool.noConfusion, ?_⟩; gi_at_call 83; refine hff.out.mono ?_; rintro e1 w1 ⟨⟨x, y, rfl, hx, hy⟩, hb1⟩; obtain ⟨Ay, cy, rfl, hyc, hym, hyr⟩ := hy) | (refine ⟨trivial, Bool.noConfusion, ?_⟩; gi_at_call 41; refine ((callsIn_wide (n := n - 1)).2 (clone_any ok x (firstF r).1 w1 hx Hfl.out)).mono ?_; rintro e2 w2 ⟨v', rfl, hv', hb2⟩; obtain ⟨fn, tmps, assign, body, hy', hR⟩ := HY.out pre (v', 0) W0 w2 hJ ((hbel.trans (hb1.mono hbel.size)).trans (hb2.mono (Nat.le_trans hbel.size hb1.size))) ⟨(firstF r).1, Hat.out, hv'.mono (Nat.le_trans hbel.size hb1.size)⟩; replace hy' : (Instr.yield L #[v', .int .i64 0]).run Tryz.prog w2 = .ok (.round L fn tmps assign body) w2 := hy'))
        refine ⟨Bool.noConfusion, hR.mono ?_⟩
        rintro e3 w3 (⟨rfl, hJ3, hs3, hk3⟩ | ⟨rfl, hJ3⟩)
        · have hyr3 := ((hyr.grow hb2).frame (w' := w3) fun k hk' _ => hk3 k (hok k hk'))
          gi_wp2
          go_roundw
          case rel =>
            refine ⟨pre ++ [(v', 0)], w3, (firstF r).2.1, Ay, cy, rfl, hyc, hym, hyr3, hJ3, Below.refl _ _, ?_, ?_, ?_⟩
            · rw [List.length_append, List.length_singleton]; exact Hdr.out
            · have := Hrest.out; omega
            · have h1 := Hcnt.out; rw [Hst.out] at h1; simp at h1 ⊢; omega
          case measure => have := Hrest.out; simp only [lenOf]; omega
        · gi_wp2
          refine bodyPost_ret (results_none rfl _ _ _) rfl ?_
          exact ⟨⟨_, rfl⟩, .inr ⟨_, w3, trivial, hJ3, Below.refl _ _⟩⟩
      · have hst := steps_err r hr0 he
        obtain ⟨hat, _⟩ := steps_at hdrop hst
        have Hat := Lib.hid hat
        have Hcnt := Lib.hid hcnt
        have hne : (((firstF r).2.2 : Int) != 0) = true := by rw [bne_iff_ne]; omega
        have HY := Lib.hid hY
        have Hst := Lib.hid hst
        clear hY hat hst hdrop hcnt hr hcm hk
        gi_wp2_with (refine ⟨trivial, Bool.noConfusion, ?_⟩; gi_at_call 83; refine hff.out.mono ?_; rintro e1 w1 ⟨⟨x, y, rfl, hx, hy⟩, hb1⟩; obtain ⟨fn, tmps, assign, body, hy', hR⟩ := HY.out pre (.slice none 0 0, (firstF r).2.2) W0 w1 hJ (hbel.trans (hb1.mono hbel.size)) ⟨[], Hat.out, Own1.nil _ _ _⟩; dsimp only at hy'; clear hx hy)
        refine ⟨Bool.noConfusion, hR.mono ?_⟩
        rintro e2 w2 (⟨rfl, hJ2, _, _⟩ | ⟨rfl, hJ2⟩)
        · gi_wp2
          refine bodyPost_ret (results_none rfl _ _ _) rfl ?_
          exact ⟨⟨_, rfl⟩, .inl ⟨_, w2, by have h1 := Hcnt.out; rw [Hst.out] at h1; simpa using h1, hJ2, Below.refl _ _⟩⟩
        · gi_wp2
          refine bodyPost_ret (results_none rfl _ _ _) rfl ?_
          exact ⟨⟨_, rfl⟩, .inr ⟨_, w2, trivial, hJ2, Below.refl _ _⟩⟩
theorem fields_any (ok : Nat → Prop) (v : Value) (l : List UInt8) (w : World) (hv : IsB w ok v l) (hl : l.length ≤ 1099511627776) :
    Calls Tryz.prog 60 #[v] w fun e w' => ∃ Bx v', e = .returned (.func (.func 82) #[] #[.pointer (some ⟨Bx, 0, none⟩)]) ∧ w.heap.size ≤ Bx ∧ Bx < w'.heap.size ∧ w'.cell? ⟨Bx, 0, none⟩ = some v' ∧ IsB w' (fun k => w.heap.size ≤ k ∧ k < w'.heap.size) v' l ∧ Below w.heap.size w w' := by
  go_enter Tryz.func60, Tryz.ntmps60
  go_wp2_with (go_at_call 41; refine (clone_any ok v l _ hv hl).mono ?_; rintro e1 w1 ⟨v1, rfl, hv1, hb1⟩; have hlt1 := hv1.lt; obtain ⟨Av, cv, rfl, hvc, hvm, hvr⟩ := hv1.isB)
  go_ret
  refine ⟨w1.heap.size, .slice Av l.length cv, rfl, hb1.size, by simp, by go_simp, ⟨Av, cv, rfl, hvc, hvm, ?_⟩, hb1.alloc hb1.size _⟩
  refine (hvr.weaken fun k hk => ?_).grow ((Below.refl _ _).alloc (Nat.le_refl _) _)
  have := hlt1 k hk
  exact ⟨this.1, by simp; omega⟩
end Go.Proofs.YtdmbmkjiffhbcaaGreat

namespace Go.Proofs.YtdmbmkjiffhbcaaGreat
open Go.RowKit Go.Shelf
set_option maxRecDepth 100000
attribute [local go_sem] Oper.semAt_some

theorem elemBB : ElemT Tryz.prog 51 47 24 := ElemT.mk_ (z := .slice none 0 0) Tryz.underlying51 (by kernel_rfl) rfl

/-- Fresh fields: the row that is owned, and each field's own row, one behind the other. -/
def OwnBB (w : World) (base : Nat) (v : Value) (L : List (List UInt8)) : Prop :=
  ∃ vs, Own1 w base 47 v vs ∧ vs.length = L.length ∧ (∀ (i : Nat) (h : i < vs.length) (h' : i < L.length), Own1 w base 5 vs[i] (L[i].map u8)) ∧
    ∀ (i j : Nat) (hi : i < vs.length) (hj : j < vs.length) (k k' : Nat), i < j → vs[i].ownBlock = some k → vs[j].ownBlock = some k' → k < k'

section
variable {w w' : World} {row : Option Nat}
/-- A block of cells abides the turn of a block that is none. -/
theorem Blk.other {g : Nat} {t : TypeId} {cs : Array Value} (h : Blk w g t cs) (hg : w.grownBy w' row) (hr : ∀ r, row = some r → ∃ o : Obj, w.heap[r]? = some o ∧ o.isCells = false) : Blk w' g t cs :=
  h.grown hg fun e => by
    obtain ⟨o, ho, hc⟩ := hr g e
    unfold Blk at h
    rw [h] at ho
    cases ho
    cases hc
theorem Own1.other {base : Nat} {e : TypeId} {v : Value} {xs : List Value} (h : Own1 w base e v xs) (hg : w.grownBy w' row) (hr : ∀ r, row = some r → ∃ o : Obj, w.heap[r]? = some o ∧ o.isCells = false) : Own1 w' base e v xs := by
  cases xs with
  | nil =>
    refine h.keep fun k hk => ?_
    unfold Own1 World.ownsRow at h
    rcases h.2 with ⟨rfl, _⟩ | ⟨g, cap, cur, rfl, _, hh, _⟩
    · simp [Value.ownBlock] at hk
    · simp [Value.ownBlock] at hk
      subst hk
      exact (Blk.other (w := w) (t := e) hh hg hr).trans hh.symm
  | cons x r =>
    obtain ⟨g, cap, cur, rfl, _, hb, _⟩ := h.cons_form
    refine h.keep fun k hk => ?_
    simp [Value.ownBlock] at hk
    subst hk
    exact (hb.other hg hr).trans hb.symm
theorem Own1.apart {base : Nat} {e t : TypeId} {v : Value} {xs : List Value} {g : Nat} {cs : Array Value} (h : Own1 w base e v xs) (hb : Blk w g t cs) (hne : e ≠ t) : v.ownBlock ≠ some g := by
  unfold Own1 World.ownsRow at h
  rcases h.2 with ⟨rfl, _⟩ | ⟨g', cap, cur, rfl, _, hh, _⟩
  · simp [Value.ownBlock]
  · intro he
    simp [Value.ownBlock] at he
    subst he
    unfold Blk at hb
    rw [hh] at hb
    cases hb
    exact hne rfl
theorem Own1.apart' {base base' : Nat} {e e' : TypeId} {v v' : Value} {xs xs' : List Value} (h : Own1 w base e v xs) (h' : Own1 w base' e' v' xs') (hne : e ≠ e') : v.ownBlock = none ∨ v.ownBlock ≠ v'.ownBlock := by
  unfold Own1 World.ownsRow at h'
  rcases h'.2 with ⟨rfl, _⟩ | ⟨g', cap, cur, rfl, _, hh, _⟩
  · cases hv : v.ownBlock with
    | none => exact .inl rfl
    | some k => exact .inr (by simp [Value.ownBlock])
  · exact .inr (h.apart (show Blk w g' e' cur from hh) hne)
theorem Own1.cells_at {base : Nat} {e : TypeId} {v : Value} {xs : List Value} (h : Own1 w base e v xs) : ∀ k, v.ownBlock = some k → ∃ c t fz, w.heap[k]? = some (.cells c t fz) := fun k hk => by
  unfold Own1 World.ownsRow at h
  rcases h.2 with ⟨rfl, _⟩ | ⟨g, cap, cur, rfl, _, hh, _⟩
  · simp [Value.ownBlock] at hk
  · simp [Value.ownBlock] at hk
    subst hk
    exact ⟨_, _, _, hh⟩
theorem keepsFrom_grown {B : Nat} (hg : w.grownBy w' row) (hr : ∀ k, row = some k → ∃ c t fz, w.heap[k]? = some (.cells c t fz)) : KeepsFrom B w w' :=
  ⟨hg.size, fun k o _ hk ho => (hg.block k (Array.getElem?_eq_some_iff.1 hk).1 fun e => by
    obtain ⟨c, t, fz, h⟩ := hr k e.symm
    rw [h] at hk
    cases hk
    cases ho).trans hk⟩
theorem keepsFrom_set {B : Nat} (g i : Nat) (u : Value) : KeepsFrom B w (w.setCell ⟨g, i, none⟩ u) := (KeepsOthers.setCell w _ u).from B
end
end Go.Proofs.YtdmbmkjiffhbcaaGreat

namespace Go.Proofs.YtdmbmkjiffhbcaaGreat
open Go.RowKit Go.Shelf
set_option maxRecDepth 100000
attribute [local go_sem] Oper.semAt_some

/-- The boxes of Unpack's variables. -/
def upBox (b : Nat) (most : Int) (x4 x5 x6 : Value) (W : World) : Prop :=
  Blk W b 3 #[.int .i64 most] ∧ Blk W (b + 1) 51 #[x4] ∧ Blk W (b + 1 + 1) 31 #[x5] ∧ Blk W (b + 1 + 1 + 1) 51 #[x6]
/-- What has been gathered. -/
def upGot (b B1 : Nat) (l : List UInt8) (most : Int) (pre : List (Value × Nat)) (x6 : Value) (W : World) : Prop :=
  Own1 W B1 47 x6 (pre.map (·.1)) ∧
  (∀ (i : Nat) (h : i < pre.length), ∃ f e, (steps l)[i]? = some (f, e) ∧ Own1 W (b + 1 + 1 + 1 + 1) 5 pre[i].1 (f.map u8)) ∧
  (∀ (i j : Nat) (hi : i < pre.length) (hj : j < pre.length) (k k' : Nat), i < j → pre[i].1.ownBlock = some k → pre[j].1.ownBlock = some k' → k < k') ∧
  pre.length ≤ (steps l).length ∧ unpackV most [] (steps l) = unpackV most (((steps l).take pre.length).map (·.1)) ((steps l).drop pre.length)
def upI (w : World) (B1 : Nat) (l : List UInt8) (most : Int) (pre : List (Value × Nat)) (W : World) : Prop :=
  ∃ x6, upBox w.heap.size most (.slice none 0 0) (.int .i64 0) x6 W ∧ upGot w.heap.size B1 l most pre x6 W ∧ Below w.heap.size w W
def upX (w : World) (l : List UInt8) (most : Int) (c : Code) (_ : List (Value × Nat)) (W : World) : Prop :=
  c = .ret ∧ ∃ (e : Nat) (x6 : Value), unpackV most [] (steps l) = ([], e) ∧ upBox w.heap.size most (.slice none 0 0) (.int .i64 (e : Int)) x6 W ∧ Below w.heap.size w W

section
variable {w W W' : World} {row : Option Nat}
theorem upBox.other {b : Nat} {most : Int} {x4 x5 x6 : Value} (h : upBox b most x4 x5 x6 W) (hg : W.grownBy W' row) (hr : ∀ r, row = some r → ∃ o : Obj, W.heap[r]? = some o ∧ o.isCells = false) : upBox b most x4 x5 x6 W' :=
  ⟨h.1.other hg hr, h.2.1.other hg hr, h.2.2.1.other hg hr, h.2.2.2.other hg hr⟩
theorem upGot.other {b B1 : Nat} {l : List UInt8} {most : Int} {pre : List (Value × Nat)} {x6 : Value} (h : upGot b B1 l most pre x6 W) (hg : W.grownBy W' row) (hr : ∀ r, row = some r → ∃ o : Obj, W.heap[r]? = some o ∧ o.isCells = false) : upGot b B1 l most pre x6 W' :=
  ⟨h.1.other hg hr, fun i hi => let ⟨f, e, h1, h2⟩ := h.2.1 i hi; ⟨f, e, h1, h2.other hg hr⟩, h.2.2⟩
theorem upI_own (B1 : Nat) (l : List UInt8) (most : Int) (B : Nat) (hB : w.heap.size ≤ B) : OwnFrom B (upI w B1 l most) := fun _ _ _ _ ⟨x6, h1, h2, h3⟩ hg hr =>
  ⟨x6, h1.other hg fun r e => (hr r e).2, h2.other hg fun r e => (hr r e).2, h3.trans (below_of_grown hg h3.size fun k e => Nat.le_trans hB (hr k e).1)⟩
theorem upX_own (l : List UInt8) (most : Int) (B : Nat) (hB : w.heap.size ≤ B) (c : Code) : OwnFrom B (upX w l most c) := fun _ _ _ _ ⟨h0, e, x6, h1, h2, h3⟩ hg hr =>
  ⟨h0, e, x6, h1, h2.other hg fun r e => (hr r e).2, h3.trans (below_of_grown hg h3.size fun k e => Nat.le_trans hB (hr k e).1)⟩
theorem fieldX_own (l : List UInt8) (B : Nat) (pre : List (Value × Nat)) (x : Value × Nat) (W0 : World) : OwnFrom B (fun (_ : Unit) W => fieldX l pre x W0 W) := fun _ _ _ _ ⟨f, h1, h2⟩ hg hr =>
  ⟨f, h1, h2.other hg fun r e => (hr r e).2⟩
end

theorem unpack_any (ok : Nat → Prop) (v : Value) (l : List UInt8) (most : Int) (w : World) (hv : IsB w ok v l) (hl : l.length ≤ 1099511627776) :
    Calls Tryz.prog 43 #[v, .int .i64 most] w fun e w' => ∃ x, e = .returned (.tuple #[x, .int .i64 ((unpackV most [] (steps l)).2 : Int)]) ∧ OwnBB w' w.heap.size x (unpackV most [] (steps l)).1 ∧ Below w.heap.size w w' := by
  rw [← callsIn_wide (n := 9)]
  refine callsIn_of_wp_marks Tryz.func43 rfl trivial ?_ rfl
  simp only [Tryz.ntmps43, List.size_toArray, List.length_cons, List.length_nil, Nat.reduceAdd, Nat.reduceSub, Array.replicate_succ, Array.replicate_zero, List.push_toArray, List.append_toArray, List.nil_append, List.cons_append]
  have hv3 := hv.grow ((((((Below.refl w.heap.size w).alloc (Nat.le_refl _) (.cells #[.int .i64 most] 3)).alloc (by simp) (.cells #[.slice none 0 0] 51)).alloc (by simp; omega) (.cells #[.int .i64 0] 31)).alloc (by simp; omega) (.cells #[.slice none 0 0] 51)))
  gi_wp2_with (refine ⟨trivial, ?_⟩; gi_at_call 60; refine ((callsIn_wide (n := 8)).2 (fields_any ok v l _ hv3 hl)).mono ?_; rintro e1 w1 ⟨Bx, v', rfl, hx1, hx2, hx3, hx4, hb1⟩)
  have hsz1 : w.heap.size + 1 + 1 + 1 + 1 ≤ w1.heap.size := by have := hb1.size; simpa using this
  have hI0 : upI w w1.heap.size l most [] w1 := by
    refine ⟨.slice none 0 0, ⟨?_, ?_, ?_, ?_⟩, ⟨Own1.nil _ _ _, ?_, ?_, Nat.zero_le _, by simp⟩, ?_⟩
    · exact ((((Blk.new w 3 #[.int .i64 most]).alloc _).alloc _).alloc _).grow hb1
    · exact Blk.grow (g := w.heap.size + 1) (by have := (((Blk.new (w.alloc (.cells #[.int .i64 most] 3)) 51 #[.slice none 0 0]).alloc (.cells #[.int .i64 0] 31)).alloc (.cells #[.slice none 0 0] 51)); rwa [World.size_alloc] at this) hb1
    · exact Blk.grow (g := w.heap.size + 1 + 1) (by have := ((Blk.new ((w.alloc (.cells #[.int .i64 most] 3)).alloc (.cells #[.slice none 0 0] 51)) 31 #[.int .i64 0]).alloc (.cells #[.slice none 0 0] 51)); rwa [World.size_alloc, World.size_alloc] at this) hb1
    · exact Blk.grow (g := w.heap.size + 1 + 1 + 1) (by have := (Blk.new (((w.alloc (.cells #[.int .i64 most] 3)).alloc (.cells #[.slice none 0 0] 51)).alloc (.cells #[.int .i64 0] 31)) 51 #[.slice none 0 0]); rwa [World.size_alloc, World.size_alloc, World.size_alloc] at this) hb1
    · intro i hi; simp at hi
    · intro i j hi; simp at hi
    · exact ((((((Below.refl w.heap.size w).alloc (Nat.le_refl _) _).alloc (by simp) _).alloc (by simp; omega) _).alloc (by simp; omega) _)).trans (hb1.mono (by simp; omega))
  refine wp_range (gf := 82) (lb := #[.pointer (some ⟨Bx, 0, none⟩)]) rfl (enters_of Tryz.func82 (by kernel_rfl) rfl)
    (fields_iter 8 _ (fun k => w.heap.size + 1 + 1 + 1 + 1 ≤ k ∧ k < w1.heap.size) ?hok l Bx ?hbx v' w1 hx3 hx4 hl) (fun k hk => hk.2) (fun pre x W0 => fieldX_own l _ pre x W0) (fun _ => rfl)
    (upI w w1.heap.size l most) (upX w l most) (upI_own _ l most _ (by omega)) (upX_own l most _ (by omega)) hI0
    (fun x => { tmps := #[v, .int .i64 most, undef, .pointer (some ⟨w.heap.size, 0, none⟩), .pointer (some ⟨w.heap.size + 1, 0, none⟩), .pointer (some ⟨w.heap.size + 1 + 1, 0, none⟩), .pointer (some ⟨w.heap.size + 1 + 1 + 1, 0, none⟩), x.1, .int .i64 (x.2 : Int), v, .func (.func 82) #[] #[.pointer (some ⟨Bx, 0, none⟩)], x.1, .int .i64 (x.2 : Int), undef, undef, undef, undef, undef, undef, undef, undef, undef, undef, undef, undef], defers := [] }) ?assign ?body ?done ?stop
  case hok => intro k hk; simpa using hk
  case hbx => exact ⟨by simpa using hx1, hx2⟩
  case assign =>
    intro L x W K hK
    gi_wp2
    exact hK
  case body =>
    rintro L pre x W0 W hI1 hs01 hX ⟨x6, hbox, hgot, hbel⟩ hs2
    obtain ⟨f, hf, hxo⟩ := hX
    obtain ⟨hg1, hg2, hg3, hg4, hg5⟩ := hgot
    obtain ⟨hlt, hs1, hs2', hs3⟩ := unpackV_step hg5 hf
    obtain ⟨b3, b4, b5, b6⟩ := hbox
    have c3 := b3.cell 0
    have c4 := b4.cell 0
    have c5 := b5.cell 0
    have c6 := b6.cell 0
    have z4 := b4.frozen 0
    have z5 := b5.frozen 0
    have z6 := b6.frozen 0
    simp only [List.getElem?_toArray, List.getElem?_cons_zero] at c3 c4 c5 c6
    obtain ⟨A6, n6, hx6, hn6, hm6, hr6⟩ := hg1.form
    rw [List.length_map] at hx6
    subst hx6
    have HF := Lib.hid hf
    have Hs1 := Lib.hid hs1
    have Hs2 := Lib.hid hs2'
    have Hs3 := Lib.hid hs3
    have H3 := Lib.hid hg3
    have Hg2 := Lib.hid hg2
    have Hlt := Lib.hid hlt
    have hsl := steps_length l
    have hpl : pre.length ≤ 1099511627776 := by omega
    have Hpl := Lib.hid hpl
    have hI1' := Lib.hid hI1
    clear hf hs1 hs2' hs3 hg2 hg5 hr6 hI1 hI0 hg4 hlt hg3 hsl hpl
    obtain ⟨xv, xe⟩ := x
    obtain ⟨Ax, cx, hxv, hcx, hcm, hrx⟩ := hxo.form
    simp only [List.length_map] at hxv hcx
    subst hxv
    clear hrx
    by_cases he : xe = 0
    · subst he
      by_cases hm : most ≤ pre.length
      · gi_wp2
        refine ⟨((keepsFrom_set _ _ _).trans (keepsFrom_set _ _ _)), rfl, 4, .slice A6 pre.length n6, Hs2.out (by trivial) hm, ⟨?_, ?_, ?_, ?_⟩, (hbel.setCell (p := ⟨w.heap.size + 1, 0, none⟩) (by dsimp only; omega) _).setCell (p := ⟨w.heap.size + 1 + 1, 0, none⟩) (by dsimp only; omega) _⟩
        · exact (b3.far (by dsimp only; omega) _).far (by dsimp only; omega) _
        · exact (b4.set_ 0 _).far (by dsimp only; omega) _
        · exact (b5.far (by dsimp only; omega) _).set_ 0 _
        · exact (b6.far (by dsimp only; omega) _).far (by dsimp only; omega) _
      · gi_wp2_with (gi_at_builtin; refine wpListIn_app1_one _ elemBB rfl (.tmp 20) (.tmp 22) rfl w1.heap.size _ (pre.map (·.1)) rfl hg1 (.slice Ax f.length cx) _ rfl rfl ?_ ?_ ?_ ?_; rotate_right; intro v2 w2 hown2 hgr2 hat2; have b6' := (b6.alloc (.cells #[.slice Ax f.length cx] 47)).grown hgr2 (hg1.apart b6 (by decide)); have c6' := b6'.cell 0; have z6' := b6'.frozen 0; simp only [List.getElem?_toArray, List.getElem?_cons_zero] at c6'; obtain ⟨A2, n2, hv2, hn2, hm2, hr2⟩ := hown2.form; simp only [List.length_append, List.length_map, List.length_singleton] at hv2; subst hv2)
        case refine_1 => have := Hpl.out; omega
        case refine_2 => have := Hpl.out; omega
        case refine_3 => have := hs01; omega
        have hrow : ∀ k, Value.ownBlock (.slice A6 pre.length n6) = some k → w1.heap.size ≤ k ∧ ∃ c t fz, (W.alloc (.cells #[.slice Ax f.length cx] 47)).heap[k]? = some (.cells c t fz) := fun k hk => ⟨(hg1.lt k hk).1, (hg1.alloc _).cells_at k hk⟩
        have hbox2 : upBox w.heap.size most (.slice none 0 0) (.int .i64 0) (Value.slice A2 (pre.length + 1) n2) (w2.setCell ⟨w.heap.size + 1 + 1 + 1, 0, none⟩ (Value.slice A2 (pre.length + 1) n2)) :=
          ⟨((b3.alloc _).grown hgr2 (hg1.apart b3 (by decide))).far (by dsimp only; omega) _, ((b4.alloc _).grown hgr2 (hg1.apart b4 (by decide))).far (by dsimp only; omega) _,
            ((b5.alloc _).grown hgr2 (hg1.apart b5 (by decide))).far (by dsimp only; omega) _, b6'.set_ 0 _⟩
        have hbel2 : Below w.heap.size w w2 := (hbel.alloc hbel.size _).grown hgr2 (by simp; have := hbel.size; omega) (fun k hk => by have := (hrow k hk).1; omega)
        have hfar : ∀ {base : Nat} {e : TypeId} {u : Value} {xs : List Value}, Own1 w2 base e u xs → e ≠ 51 → Own1 (w2.setCell ⟨w.heap.size + 1 + 1 + 1, 0, none⟩ (Value.slice A2 (pre.length + 1) n2)) base e u xs := fun ho hne =>
          ho.keep fun k hk => Below.heap_setCell _ _ _ k fun e => by have := ho.apart b6' hne; dsimp only at e; subst e; exact this hk
        have helem : ∀ {base : Nat} {u : Value} {xs : List Value}, Own1 W base 5 u xs → Own1 (w2.setCell ⟨w.heap.size + 1 + 1 + 1, 0, none⟩ (Value.slice A2 (pre.length + 1) n2)) base 5 u xs := fun ho =>
          hfar ((ho.alloc _).kept hgr2 (ho.apart' hg1 (by decide))) (by decide)
        refine ⟨?_, ?_, _, hbox2, ⟨?_, ?_, ?_, ?_, ?_⟩, hbel2.setCell (by dsimp only; omega) _⟩
        · exact (((KeepsOthers.alloc W _).from _).trans (keepsFrom_grown hgr2 fun k hk => (hrow k hk).2)).trans (keepsFrom_set _ _ _)
        · intro k hk
          rw [Below.heap_setCell _ _ _ k (by dsimp only; omega), hgr2.block k (by simp; omega) (fun e => by have := (hrow k e.symm).1; omega), Below.heap_alloc _ _ _ (by omega)]
        · rw [List.map_append, List.map_singleton]
          exact hfar hown2 (by decide)
        · intro i hi
          rw [List.length_append, List.length_singleton] at hi
          by_cases hip : i < pre.length
          · obtain ⟨g, e, h1, h2⟩ := Hg2.out i hip
            refine ⟨g, e, h1, ?_⟩
            rw [List.getElem_append_left hip]
            exact helem h2
          · obtain rfl : i = pre.length := by omega
            refine ⟨f, 0, HF.out, ?_⟩
            simp only [List.getElem_append_right (Nat.le_refl _), Nat.sub_self, List.getElem_cons_zero]
            exact helem (hxo.mono (by omega))
        · intro i j hi hj k k' hij hk hk'
          rw [List.length_append, List.length_singleton] at hi hj
          have hip : i < pre.length := by omega
          rw [List.getElem_append_left hip] at hk
          by_cases hjp : j < pre.length
          · rw [List.getElem_append_left hjp] at hk'
            exact H3.out i j hip hjp k k' hij hk hk'
          · obtain rfl : j = pre.length := by omega
            simp only [List.getElem_append_right (Nat.le_refl _), Nat.sub_self, List.getElem_cons_zero] at hk'
            obtain ⟨_, _, ⟨_, hg2', _⟩, _⟩ := hI1'.out
            obtain ⟨_, _, _, h2⟩ := hg2' i hip
            have h3 := (h2.lt k hk).2
            have h4 := (hxo.lt k' hk').1
            omega
        · rw [List.length_append, List.length_singleton]; have := Hlt.out; omega
        · rw [List.length_append, List.length_singleton]
          exact Hs3.out (by trivial) hm
    · have hne : ((xe : Int) != 0) = true := by rw [bne_iff_ne]; omega
      gi_wp2
      refine ⟨((keepsFrom_set _ _ _).trans (keepsFrom_set _ _ _)), rfl, xe, .slice A6 pre.length n6, Hs1.out he, ⟨?_, ?_, ?_, ?_⟩, (hbel.setCell (p := ⟨w.heap.size + 1, 0, none⟩) (by dsimp only; omega) _).setCell (p := ⟨w.heap.size + 1 + 1, 0, none⟩) (by dsimp only; omega) _⟩
      · exact (b3.far (by dsimp only; omega) _).far (by dsimp only; omega) _
      · exact (b4.set_ 0 _).far (by dsimp only; omega) _
      · exact (b5.far (by dsimp only; omega) _).set_ 0 _
      · exact (b6.far (by dsimp only; omega) _).far (by dsimp only; omega) _
  case done =>
    rintro D xs W hD hS ⟨x6, hbox, hgot, hbel⟩ hK
    obtain ⟨hg1, hg2, hg3, hg4, hg5⟩ := hgot
    rw [hS, List.take_length, List.drop_length] at hg5
    obtain ⟨b3, b4, b5, b6⟩ := hbox
    have c4 := b4.cell 0
    have c5 := b5.cell 0
    have c6 := b6.cell 0
    have z4 := b4.frozen 0
    have z5 := b5.frozen 0
    simp only [List.getElem?_toArray, List.getElem?_cons_zero] at c4 c5 c6
    obtain ⟨A6, n6, hx6, hn6, hm6, hr6⟩ := hg1.form
    rw [List.length_map] at hx6
    subst hx6
    have H5 := Lib.hid hg5
    have HS := Lib.hid hS
    have H3 := Lib.hid hg3
    have Hg2 := Lib.hid hg2
    clear hr6 hI0 hg4 hg5 hS hg3 hg2
    have hKd := (keepsFrom_set (w := W.setCell ⟨w.heap.size + 1, 0, none⟩ (.slice A6 xs.length n6)) (B := w1.heap.size) (w.heap.size + 1 + 1) 0 (.int .i64 0)).same D _ hD ((keepsFrom_set (w := W) (B := w1.heap.size) (w.heap.size + 1) 0 (.slice A6 xs.length n6)).same D _ hD hK rfl) rfl
    gi_wp2
    refine ⟨by simp, .inl ⟨_, _, rfl, run_takeDeferred hKd, ?_⟩⟩
    have hoth : ∀ r, some D = some r → ∃ o : Obj, ((W.setCell ⟨w.heap.size + 1, 0, none⟩ (.slice A6 xs.length n6)).setCell ⟨w.heap.size + 1 + 1, 0, none⟩ (.int .i64 0)).heap[r]? = some o ∧ o.isCells = false := fun r e => by cases e; exact ⟨_, hKd, rfl⟩
    have hg := grownBy_putObj' ((W.setCell ⟨w.heap.size + 1, 0, none⟩ (.slice A6 xs.length n6)).setCell ⟨w.heap.size + 1 + 1, 0, none⟩ (.int .i64 0)) D (.deferred none)
    have r4 := (((b4.set_ 0 (.slice A6 xs.length n6)).far (p := ⟨w.heap.size + 1 + 1, 0, none⟩) (by dsimp only; omega) (.int .i64 0)).other hg hoth).cell 0
    have r5 := (((b5.far (p := ⟨w.heap.size + 1, 0, none⟩) (by dsimp only; omega) (.slice A6 xs.length n6)).set_ 0 (.int .i64 0)).other hg hoth).cell 0
    have hfar : ∀ {base : Nat} {e : TypeId} {u : Value} {ys : List Value}, Own1 W base e u ys → (∀ k, u.ownBlock = some k → k ≠ w.heap.size + 1 ∧ k ≠ w.heap.size + 1 + 1) → Own1 (((W.setCell ⟨w.heap.size + 1, 0, none⟩ (.slice A6 xs.length n6)).setCell ⟨w.heap.size + 1 + 1, 0, none⟩ (.int .i64 0)).putObj D (.deferred none)) base e u ys := fun ho hne =>
      (ho.keep (w' := (W.setCell ⟨w.heap.size + 1, 0, none⟩ (.slice A6 xs.length n6)).setCell ⟨w.heap.size + 1 + 1, 0, none⟩ (.int .i64 0)) fun k hk => (Below.heap_setCell _ _ _ k (by have := (hne k hk).2; exact this)).trans (Below.heap_setCell _ _ _ k (by have := (hne k hk).1; exact this))).other hg hoth
    have hbelp : Below w.heap.size w (((W.setCell ⟨w.heap.size + 1, 0, none⟩ (.slice A6 xs.length n6)).setCell ⟨w.heap.size + 1 + 1, 0, none⟩ (.int .i64 0)).putObj D (.deferred none)) :=
      ((hbel.setCell (p := ⟨w.heap.size + 1, 0, none⟩) (by dsimp only; omega) _).setCell (p := ⟨w.heap.size + 1 + 1, 0, none⟩) (by dsimp only; omega) _).grown hg (by have := hbel.size; simp [World.setCell]; omega) (fun k e => by cases e; omega)
    have H5' : unpackV most [] (steps l) = ((steps l).map (·.1), 0) := H5.out
    refine ⟨.tuple #[.slice A6 xs.length n6, .int .i64 0], by simp [results, Tryz.f43, go_sem, r4, r5], .slice A6 xs.length n6, ?_, ?_, hbelp⟩
    · rw [H5']; rfl
    · rw [H5']
      refine ⟨xs.map (·.1), (hfar hg1 fun k hk => ?_).mono (by omega), ?_, ?_, ?_⟩
      · have := (hg1.lt k hk).1; omega
      · rw [List.length_map, List.length_map]; exact HS.out
      · intro i hi hi'
        rw [List.length_map] at hi hi'
        obtain ⟨f, e, h1, h2⟩ := Hg2.out i hi
        rw [List.getElem_map, List.getElem_map]
        have hf : (steps l)[i].1 = f := by rw [List.getElem?_eq_getElem hi'] at h1; rw [Option.some.inj h1]
        rw [hf]
        refine (hfar h2 fun k hk => ?_).mono (by omega)
        have := (h2.lt k hk).1; omega
      · intro i j hi hj k k' hij hk hk'
        rw [List.length_map] at hi hj
        rw [List.getElem_map] at hk hk'
        exact H3.out i j hi hj k k' hij hk hk'
  case stop =>
    rintro D c xs W hD ⟨rfl, e, x6, h1, ⟨b3, b4, b5, b6⟩, hbel⟩ hK
    gi_wp2
    refine ⟨by simp, .inl ⟨_, _, rfl, run_takeDeferred hK, ?_⟩⟩
    have hoth : ∀ r, some D = some r → ∃ o : Obj, W.heap[r]? = some o ∧ o.isCells = false := fun r e => by cases e; exact ⟨_, hK, rfl⟩
    have hg := grownBy_putObj' W D (.deferred none)
    have r4 := (b4.other hg hoth).cell 0
    have r5 := (b5.other hg hoth).cell 0
    refine ⟨.tuple #[.slice none 0 0, .int .i64 (e : Int)], by simp [results, Tryz.f43, go_sem, r4, r5], .slice none 0 0, ?_, ?_, hbel.grown hg (by have := hbel.size; omega) (fun k e => by cases e; omega)⟩
    · rw [h1]
    · rw [h1]
      exact ⟨[], Own1.nil _ _ _, rfl, fun i hi => by simp at hi, fun i j hi => by simp at hi⟩
end Go.Proofs.YtdmbmkjiffhbcaaGreat
