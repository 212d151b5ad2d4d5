/-
  bytes.Clone, codec.Fields and the iterator that it answers.
-/
import Derived.Test.YtiaabgmmmekpnaaFirst
import Derived.Test.YtiaabgmmmekpnaaCodMath
import Derived.Test.YtiaabgmmmekpnaaRange
import Derived.Test.YtiaabgmmmekpnaaShelf
import Derived.Test.YtiaabgmmmekpnaaClone
import Derived.RangeFuncNested
import Derived.RangeFuncBound
import Derived.RangeFuncCalls
import Derived.RangeFuncLeaves
import Derived.Shelf.Abstract
import Derived.Shelf.RegionOpen
import Derived.OwnWalkIn
import Derived.TacticsInMore
import Derived.LoopNIn
import Derived.LoopIn
namespace Go.Proofs.Ytiaabgmmmekpnaa
open Go.RowKit Go.Shelf
set_option maxRecDepth 100000
attribute [local go_sem] Oper.semAt_some

/-- What is known of a field as it is yielded. -/
def fieldX (l : List UInt8) (pre : List (Value × Nat)) (x : Value × Nat) (W0 W : World) : Prop :=
  ∃ f, (steps l)[pre.length]? = some (f, x.2) ∧ Own1 W W0.heap.size 5 x.1 (f.map u8)

def lenOf : Value → Nat
  | .slice _ n _ => n
  | _ => 0

theorem steps_at {l r : List UInt8} {k : Nat} {f : List UInt8} {e : Nat} {t : List (List UInt8 × Nat)} (hd : (steps l).drop k = steps r) (hs : steps r = (f, e) :: t) : (steps l)[k]? = some (f, e) ∧ (steps l).drop (k + 1) = t := by
  constructor
  · have := congrArg (fun x => x[0]?) hd
    simp only [List.getElem?_drop, hs] at this
    simpa using this
  · rw [← List.drop_drop, hd, hs]
    rfl

set_option maxHeartbeats 1000000 in
theorem fields_iter (n : Nat) (ok keep : Nat → Prop) (hok : ∀ k, ok k → keep k) (l : List UInt8) (Bx : Nat) (hBx : keep Bx) (v0 : Value) (w : World) (hbox : w.cell? ⟨Bx, 0, none⟩ = some v0) (hv0 : IsB w ok v0 l) (hlen : l.length ≤ 1099511627776) :
    Iter n Try.prog 76 #[.pointer (some ⟨Bx, 0, none⟩)] (fun x : Value × Nat => #[x.1, .int .i64 (x.2 : Int)]) keep (fieldX l) (fun xs => xs.length = (steps l).length) (fun _ => True) w := by
  intro L J Jx W hk hsz hY h0
  have hbx : W.cell? ⟨Bx, 0, none⟩ = some v0 := (World.cell?_of_block (w := w) (hk Bx hBx)).trans hbox
  have hv1 := hv0.frame (w' := W) fun k hk' _ => hk k (hok k hk')
  obtain ⟨A0, c0, rfl, hlc0, hcm0, hr0⟩ := hv1
  refine callsIn_of_wp Try.func76 rfl trivial ?_ rfl
  simp only [Try.ntmps76, List.size_toArray, List.length_cons, List.length_nil, Nat.reduceAdd, Nat.reduceSub, Array.replicate_succ, Array.replicate_zero, List.push_toArray, List.append_toArray, List.nil_append, List.cons_append]
  gi_wp2
  gi_loopw [3] (fun y wr => ∃ (pre : List (Value × Nat)) (W0 : World) (r : List UInt8) (A : Option Addr) (c : Nat), y = .slice A r.length c ∧ r.length ≤ c ∧ c ≤ maxLen ∧ Rd wr ok A (r.map u8) ∧
      J pre W0 ∧ Below W0.heap.size W0 wr ∧ (steps l).drop pre.length = steps r ∧ r.length ≤ l.length ∧ pre.length + (steps r).length = (steps l).length)
    (fun y _ => lenOf y)
  case atStart =>
    exact ⟨[], W, l, A0, c0, rfl, hlc0, hcm0, hr0, h0, Below.refl _ _, rfl, Nat.le_refl _, by simp⟩
  case round =>
    obtain ⟨pre, W0, r, A, c, rfl, hlc, hcm, hr, hJ, hbel, hdrop, hrl, hcnt⟩ := hrel
    by_cases hr0 : r = []
    · subst hr0
      simp only [List.length_nil]
      gi_wp2
      go_end0
      exact ⟨⟨_, rfl⟩, .inl ⟨pre, W0, by simpa [steps_nil] using hcnt, hJ, hbel⟩⟩
    · have hpos : 0 < r.length := List.length_pos_iff.2 hr0
      have hff := Lib.hid ((callsIn_wide (n := n - 1)).2 (firstfield_any ok A c r wr hlc hcm hr0 hr))
      by_cases he : (firstF r).2.2 = 0
      · have hst := steps_ok r hr0 he
        obtain ⟨hat, hdr⟩ := steps_at hdrop hst
        have hrest := firstF_rest r hr0
        have Hat := Lib.hid hat
        have Hcnt := Lib.hid hcnt
        have Hdr := Lib.hid hdr
        have Hst := Lib.hid hst
        have HY := Lib.hid hY
        have Hrest := Lib.hid hrest
        have hz : (((firstF r).2.2 : Int) != 0) = false := by rw [bne_eq_false_iff_eq]; omega
        have Hfl : Hid ((firstF r).1.length ≤ 1099511627776) := Lib.hid (by
          have : (firstF r).1.length ≤ r.length := firstF_part r
          omega)
        clear hY hat hst hdrop hcnt hr hcm hk hdr hrest he
        gi_wp2_with (first | (refine ⟨trivial, Bool.noConfusion, ?_⟩; gi_at_call 77; refine hff.out.mono ?_; rintro e1 w1 ⟨⟨x, y, rfl, hx, hy⟩, hb1⟩; obtain ⟨Ay, cy, rfl, hyc, hym, hyr⟩ := hy) | (refine ⟨trivial, Bool.noConfusion, ?_⟩; gi_at_call 30; refine ((callsIn_wide (n := n - 1)).2 (clone_any ok x (firstF r).1 w1 hx Hfl.out)).mono ?_; rintro e2 w2 ⟨v', rfl, hv', hb2⟩; obtain ⟨fn, tmps, assign, body, hy', hR⟩ := HY.out pre (v', 0) W0 w2 hJ ((hbel.trans (hb1.mono hbel.size)).trans (hb2.mono (Nat.le_trans hbel.size hb1.size))) ⟨(firstF r).1, Hat.out, hv'.mono (Nat.le_trans hbel.size hb1.size)⟩; replace hy' : (Instr.yield L #[v', .int .i64 0]).run Try.prog w2 = .ok (.round L fn tmps assign body) w2 := hy'))
        refine ⟨Bool.noConfusion, hR.mono ?_⟩
        rintro e3 w3 (⟨rfl, hJ3, hs3, hk3⟩ | ⟨rfl, hJ3⟩)
        · have hyr3 := ((hyr.grow hb2).frame (w' := w3) fun k hk' _ => hk3 k (hok k hk'))
          gi_wp2
          go_roundw
          case rel =>
            refine ⟨pre ++ [(v', 0)], w3, (firstF r).2.1, Ay, cy, rfl, hyc, hym, hyr3, hJ3, Below.refl _ _, ?_, ?_, ?_⟩
            · rw [List.length_append, List.length_singleton]; exact Hdr.out
            · have := Hrest.out; omega
            · have h1 := Hcnt.out; rw [Hst.out] at h1; simp at h1 ⊢; omega
          case measure => have := Hrest.out; simp only [lenOf]; omega
        · gi_wp2
          refine bodyPost_ret (results_none rfl _ _ _) rfl ?_
          exact ⟨⟨_, rfl⟩, .inr ⟨_, w3, trivial, hJ3, Below.refl _ _⟩⟩
      · have hst := steps_err r hr0 he
        obtain ⟨hat, _⟩ := steps_at hdrop hst
        have Hat := Lib.hid hat
        have Hcnt := Lib.hid hcnt
        have hne : (((firstF r).2.2 : Int) != 0) = true := by rw [bne_iff_ne]; omega
        have HY := Lib.hid hY
        have Hst := Lib.hid hst
        clear hY hat hst hdrop hcnt hr hcm hk
        gi_wp2_with (refine ⟨trivial, Bool.noConfusion, ?_⟩; gi_at_call 77; refine hff.out.mono ?_; rintro e1 w1 ⟨⟨x, y, rfl, hx, hy⟩, hb1⟩; obtain ⟨fn, tmps, assign, body, hy', hR⟩ := HY.out pre (.slice none 0 0, (firstF r).2.2) W0 w1 hJ (hbel.trans (hb1.mono hbel.size)) ⟨[], Hat.out, Own1.nil _ _ _⟩; dsimp only at hy'; clear hx hy)
        refine ⟨Bool.noConfusion, hR.mono ?_⟩
        rintro e2 w2 (⟨rfl, hJ2, _, _⟩ | ⟨rfl, hJ2⟩)
        · gi_wp2
          refine bodyPost_ret (results_none rfl _ _ _) rfl ?_
          exact ⟨⟨_, rfl⟩, .inl ⟨_, w2, by have h1 := Hcnt.out; rw [Hst.out] at h1; simpa using h1, hJ2, Below.refl _ _⟩⟩
        · gi_wp2
          refine bodyPost_ret (results_none rfl _ _ _) rfl ?_
          exact ⟨⟨_, rfl⟩, .inr ⟨_, w2, trivial, hJ2, Below.refl _ _⟩⟩
theorem fields_any (ok : Nat → Prop) (v : Value) (l : List UInt8) (w : World) (hv : IsB w ok v l) (hl : l.length ≤ 1099511627776) :
    Calls Try.prog 58 #[v] w fun e w' => ∃ Bx v', e = .returned (.func (.func 76) #[] #[.pointer (some ⟨Bx, 0, none⟩)]) ∧ w.heap.size ≤ Bx ∧ Bx < w'.heap.size ∧ w'.cell? ⟨Bx, 0, none⟩ = some v' ∧ IsB w' (fun k => w.heap.size ≤ k ∧ k < w'.heap.size) v' l ∧ Below w.heap.size w w' := by
  go_enter Try.func58, Try.ntmps58
  go_wp2_with (go_at_call 30; refine (clone_any ok v l _ hv hl).mono ?_; rintro e1 w1 ⟨v1, rfl, hv1, hb1⟩; have hlt1 := hv1.lt; obtain ⟨Av, cv, rfl, hvc, hvm, hvr⟩ := hv1.isB)
  go_ret
  refine ⟨w1.heap.size, .slice Av l.length cv, rfl, hb1.size, by simp, by go_simp, ⟨Av, cv, rfl, hvc, hvm, ?_⟩, hb1.alloc hb1.size _⟩
  refine (hvr.weaken fun k hk => ?_).grow ((Below.refl _ _).alloc (Nat.le_refl _) _)
  have := hlt1 k hk
  exact ⟨this.1, by simp; omega⟩
end Go.Proofs.Ytiaabgmmmekpnaa
