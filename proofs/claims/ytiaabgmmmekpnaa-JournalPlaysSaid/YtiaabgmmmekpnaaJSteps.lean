/-
  The law's step: what its cases share.
  The law's step: Add.
  The law's step: Replace.
  The law's step: the power comes again.
  The law's step: cut.
  The law's step: plan.
  The law's step, whatever its kind.
  The walk of JournalPlays.
-/
import Derived.Test.YtiaabgmmmekpnaaJBoth
import Derived.StillTailTactics
import Derived.Test.YtiaabgmmmekpnaaDevCut
import Derived.Test.YtiaabgmmmekpnaaRefDevs
import Derived.Test.YtiaabgmmmekpnaaDevChange
import Derived.Test.YtiaabgmmmekpnaaJFits
import Derived.Test.YtiaabgmmmekpnaaJLives
import Derived.Test.YtiaabgmmmekpnaaDevTail
import Derived.Deep.LoopGhost
import Derived.BigQuiet
namespace Go.Proofs.Ytiaabgmmmekpnaa
open Go.RowKit
set_option maxRecDepth 100000

theorem step_many {k n : Nat} (h : k < n) (hn : n = 16) : k = 0 ∨ k = 1 ∨ k = 2 ∨ k = 3 ∨ k = 4 ∨ k = 5 ∨ k = 6 ∨ k = 7 ∨ k = 8 ∨ k = 9 ∨ k = 10 ∨ k = 11 ∨ k = 12 ∨ k = 13 ∨ k = 14 ∨ k = 15 := by omega
theorem wp_frame118 {P : Program} {Q : Exit → Act → World → Prop} {c : Code} {a : Act} {w : World} (hs : a.tmps.size = 118) (hd : a.defers = []) (h : ∀ F : Nat → Value, F = (fun i => a.tmps.getD i undef) → c.wp P Q ⟨#[F 0, F 1, F 2, F 3, F 4, F 5, F 6, F 7, F 8, F 9, F 10, F 11, F 12, F 13, F 14, F 15, F 16, F 17, F 18, F 19, F 20, F 21, F 22, F 23, F 24, F 25, F 26, F 27, F 28, F 29, F 30, F 31, F 32, F 33, F 34, F 35, F 36, F 37, F 38, F 39, F 40, F 41, F 42, F 43, F 44, F 45, F 46, F 47, F 48, F 49, F 50, F 51, F 52, F 53, F 54, F 55, F 56, F 57, F 58, F 59, F 60, F 61, F 62, F 63, F 64, F 65, F 66, F 67, F 68, F 69, F 70, F 71, F 72, F 73, F 74, F 75, F 76, F 77, F 78, F 79, F 80, F 81, F 82, F 83, F 84, F 85, F 86, F 87, F 88, F 89, F 90, F 91, F 92, F 93, F 94, F 95, F 96, F 97, F 98, F 99, F 100, F 101, F 102, F 103, F 104, F 105, F 106, F 107, F 108, F 109, F 110, F 111, F 112, F 113, F 114, F 115, F 116, F 117], []⟩ w) : c.wp P Q a w := by
  have h' := h _ rfl
  obtain ⟨A, de⟩ := a
  cases hd
  have e : A = #[A.getD 0 undef, A.getD 1 undef, A.getD 2 undef, A.getD 3 undef, A.getD 4 undef, A.getD 5 undef, A.getD 6 undef, A.getD 7 undef, A.getD 8 undef, A.getD 9 undef, A.getD 10 undef, A.getD 11 undef, A.getD 12 undef, A.getD 13 undef, A.getD 14 undef, A.getD 15 undef, A.getD 16 undef, A.getD 17 undef, A.getD 18 undef, A.getD 19 undef, A.getD 20 undef, A.getD 21 undef, A.getD 22 undef, A.getD 23 undef, A.getD 24 undef, A.getD 25 undef, A.getD 26 undef, A.getD 27 undef, A.getD 28 undef, A.getD 29 undef, A.getD 30 undef, A.getD 31 undef, A.getD 32 undef, A.getD 33 undef, A.getD 34 undef, A.getD 35 undef, A.getD 36 undef, A.getD 37 undef, A.getD 38 undef, A.getD 39 undef, A.getD 40 undef, A.getD 41 undef, A.getD 42 undef, A.getD 43 undef, A.getD 44 undef, A.getD 45 undef, A.getD 46 undef, A.getD 47 undef, A.getD 48 undef, A.getD 49 undef, A.getD 50 undef, A.getD 51 undef, A.getD 52 undef, A.getD 53 undef, A.getD 54 undef, A.getD 55 undef, A.getD 56 undef, A.getD 57 undef, A.getD 58 undef, A.getD 59 undef, A.getD 60 undef, A.getD 61 undef, A.getD 62 undef, A.getD 63 undef, A.getD 64 undef, A.getD 65 undef, A.getD 66 undef, A.getD 67 undef, A.getD 68 undef, A.getD 69 undef, A.getD 70 undef, A.getD 71 undef, A.getD 72 undef, A.getD 73 undef, A.getD 74 undef, A.getD 75 undef, A.getD 76 undef, A.getD 77 undef, A.getD 78 undef, A.getD 79 undef, A.getD 80 undef, A.getD 81 undef, A.getD 82 undef, A.getD 83 undef, A.getD 84 undef, A.getD 85 undef, A.getD 86 undef, A.getD 87 undef, A.getD 88 undef, A.getD 89 undef, A.getD 90 undef, A.getD 91 undef, A.getD 92 undef, A.getD 93 undef, A.getD 94 undef, A.getD 95 undef, A.getD 96 undef, A.getD 97 undef, A.getD 98 undef, A.getD 99 undef, A.getD 100 undef, A.getD 101 undef, A.getD 102 undef, A.getD 103 undef, A.getD 104 undef, A.getD 105 undef, A.getD 106 undef, A.getD 107 undef, A.getD 108 undef, A.getD 109 undef, A.getD 110 undef, A.getD 111 undef, A.getD 112 undef, A.getD 113 undef, A.getD 114 undef, A.getD 115 undef, A.getD 116 undef, A.getD 117 undef] := by
    apply Array.ext
    · exact hs
    · intro i h1 h2
      have hs' : A.size = 118 := hs
      have h3 : i < 118 := by omega
      have key : ∀ k : Nat, (hk : k < A.size) → A.getD k undef = A[k] := fun k hk => by simp [Array.getD, hk]
      rcases (by omega : i = 0 ∨ i = 1 ∨ i = 2 ∨ i = 3 ∨ i = 4 ∨ i = 5 ∨ i = 6 ∨ i = 7 ∨ i = 8 ∨ i = 9 ∨ i = 10 ∨ i = 11 ∨ i = 12 ∨ i = 13 ∨ i = 14 ∨ i = 15 ∨ i = 16 ∨ i = 17 ∨ i = 18 ∨ i = 19 ∨ i = 20 ∨ i = 21 ∨ i = 22 ∨ i = 23 ∨ i = 24 ∨ i = 25 ∨ i = 26 ∨ i = 27 ∨ i = 28 ∨ i = 29 ∨ i = 30 ∨ i = 31 ∨ i = 32 ∨ i = 33 ∨ i = 34 ∨ i = 35 ∨ i = 36 ∨ i = 37 ∨ i = 38 ∨ i = 39 ∨ i = 40 ∨ i = 41 ∨ i = 42 ∨ i = 43 ∨ i = 44 ∨ i = 45 ∨ i = 46 ∨ i = 47 ∨ i = 48 ∨ i = 49 ∨ i = 50 ∨ i = 51 ∨ i = 52 ∨ i = 53 ∨ i = 54 ∨ i = 55 ∨ i = 56 ∨ i = 57 ∨ i = 58 ∨ i = 59 ∨ i = 60 ∨ i = 61 ∨ i = 62 ∨ i = 63 ∨ i = 64 ∨ i = 65 ∨ i = 66 ∨ i = 67 ∨ i = 68 ∨ i = 69 ∨ i = 70 ∨ i = 71 ∨ i = 72 ∨ i = 73 ∨ i = 74 ∨ i = 75 ∨ i = 76 ∨ i = 77 ∨ i = 78 ∨ i = 79 ∨ i = 80 ∨ i = 81 ∨ i = 82 ∨ i = 83 ∨ i = 84 ∨ i = 85 ∨ i = 86 ∨ i = 87 ∨ i = 88 ∨ i = 89 ∨ i = 90 ∨ i = 91 ∨ i = 92 ∨ i = 93 ∨ i = 94 ∨ i = 95 ∨ i = 96 ∨ i = 97 ∨ i = 98 ∨ i = 99 ∨ i = 100 ∨ i = 101 ∨ i = 102 ∨ i = 103 ∨ i = 104 ∨ i = 105 ∨ i = 106 ∨ i = 107 ∨ i = 108 ∨ i = 109 ∨ i = 110 ∨ i = 111 ∨ i = 112 ∨ i = 113 ∨ i = 114 ∨ i = 115 ∨ i = 116 ∨ i = 117) with rfl | rfl | rfl | rfl | rfl | rfl | rfl | rfl | rfl | rfl | rfl | rfl | rfl | rfl | rfl | rfl | rfl | rfl | rfl | rfl | rfl | rfl | rfl | rfl | rfl | rfl | rfl | rfl | rfl | rfl | rfl | rfl | rfl | rfl | rfl | rfl | rfl | rfl | rfl | rfl | rfl | rfl | rfl | rfl | rfl | rfl | rfl | rfl | rfl | rfl | rfl | rfl | rfl | rfl | rfl | rfl | rfl | rfl | rfl | rfl | rfl | rfl | rfl | rfl | rfl | rfl | rfl | rfl | rfl | rfl | rfl | rfl | rfl | rfl | rfl | rfl | rfl | rfl | rfl | rfl | rfl | rfl | rfl | rfl | rfl | rfl | rfl | rfl | rfl | rfl | rfl | rfl | rfl | rfl | rfl | rfl | rfl | rfl | rfl | rfl | rfl | rfl | rfl | rfl | rfl | rfl | rfl | rfl | rfl | rfl | rfl | rfl | rfl | rfl | rfl | rfl | rfl | rfl <;> exact (key _ h1).symm
  rw [e]
  exact h'
theorem Sides.grow {w w' : World} {base : Nat} {G : Nat → Prop} {g b : Nat} {vj : Value} {D : Dev} {C : Array Value} {r : RJ} {ok : Nat → Prop} (h : Sides w base G g b vj D C r ok) (hb : Below w.heap.size w w') : Sides w' base G g b vj D C r ok :=
  ⟨h.dev.grow hb, h.blk.grow hb, h.ref.frame (fun k _ hk => hb.block k hk), fun k hk => ⟨(h.apart k hk).1, (h.apart k hk).2.1, (h.apart k hk).2.2.1, Nat.lt_of_lt_of_le (h.apart k hk).2.2.2 hb.size⟩, h.gb, h.low⟩
/-- Behind a step: both sides as they should be. -/
def StepPost (base g b m n : Nat) (w : World) (e : Ending) (w' : World) : Prop :=
  e = .returned (.bool true) ∧ ∃ G' j' D' C' J' r' ok', Sides w' base G' g b (.pointer (some ⟨j', 0, none⟩)) D' C' r' ok' ∧ JAt w' j' g J' ∧ ¬ G' j' ∧ j' ≠ b ∧ base ≤ j' ∧ (∀ k, ok' k → k ≠ j') ∧ LInv D' J' r' ∧ D'.Few m ∧ D'.sure.length = n ∧ (∀ k, k < base → w'.heap[k]? = w.heap[k]?) ∧ w.heap.size ≤ w'.heap.size ∧ w'.os = w.os ∧ w'.tape = w.tape ∧ w'.output = w.output
end Go.Proofs.Ytiaabgmmmekpnaa

namespace Go.Proofs.Ytiaabgmmmekpnaa
open Go.RowKit
set_option maxRecDepth 100000

/-- What stands while the document's add is made, whatever has been done of it. -/
def addS (F : Nat → Value) (b bx : Nat) (SL PG PJ : Value) (C : Array Value) (r : RJ) (R : (Dev × RJ) × Int) (L : List (List UInt8)) (ok : Nat → Prop) (Y : World) (d : Nat → Bool) (a : Act) (x : World) : Prop :=
  ∃ (v6 v23 v24 v25 v26 v27 v28 v29 v30 v31 v32 v33 v34 v35 v36 : Value) (A : Option Addr) (c : Nat) (C8 : Array Value) (okP : Nat → Prop), a = ⟨#[.pointer (some ⟨b, 0, none⟩), (F 1), (F 2), .pointer (some ⟨bx, 0, none⟩), (F 4), (F 5), v6, (F 7), (F 8), (F 9), (F 10), (F 11), (F 12), (F 13), (F 14), (F 15), (F 16), (F 17), (F 18), (F 19), (F 20), (F 21), (F 22), v23, v24, v25, v26, v27, v28, v29, v30, v31, v32, v33, v34, v35, v36, (F 37), (F 38), (F 39), (F 40), (F 41), (F 42), (F 43), (F 44), (F 45), (F 46), (F 47), (F 48), (F 49), (F 50), (F 51), (F 52), (F 53), (F 54), (F 55), (F 56), (F 57), (F 58), (F 59), (F 60), (F 61), (F 62), (F 63), (F 64), (F 65), (F 66), (F 67), (F 68), (F 69), (F 70), (F 71), (F 72), (F 73), (F 74), (F 75), (F 76), (F 77), (F 78), (F 79), (F 80), (F 81), (F 82), (F 83), (F 84), (F 85), (F 86), (F 87), (F 88), (F 89), (F 90), (F 91), (F 92), (F 93), (F 94), (F 95), (F 96), (F 97), (F 98), (F 99), (F 100), (F 101), (F 102), (F 103), (F 104), (F 105), (F 106), (F 107), (F 108), (F 109), (F 110), (F 111), (F 112), (F 113), (F 114), (F 115), (F 116), (F 117)], []⟩ ∧ Fr (· = b) (· = b) Y x ∧
    (d 0 = true → v24 = .pointer (some ⟨b, 0, none⟩)) ∧
    (d 1 = true → v25 = .pointer (some ⟨b, 0, none⟩)) ∧
    (d 2 = true → v26 = .pointer (some ⟨b, 0, none⟩)) ∧
    (d 3 = true → v27 = .pointer (some ⟨b, 2, none⟩)) ∧
    (d 4 = true → v28 = .agg (jc C r)) ∧
    (d 5 = true → v29 = .pointer (some ⟨bx, 1, none⟩)) ∧
    (d 6 = true → v30 = SL) ∧
    (d 7 = true → v31 = .slice A L.length c) ∧
    (d 8 = true → v32 = .tuple #[.agg (jc C8 R.1.2), .int .i64 R.2]) ∧
    (d 9 = true → v23 = .tuple #[.agg (jc C8 R.1.2), .int .i64 R.2]) ∧
    (d 10 = true → v33 = .agg (jc C8 R.1.2)) ∧
    (d 11 = true → v34 = .int .i64 R.2) ∧
    (d 12 = true → v35 = .pointer (some ⟨b, 0, none⟩)) ∧
    (d 13 = true → v36 = .pointer (some ⟨b, 2, none⟩)) ∧
    (d 15 = true → v6 = .int .i64 R.2) ∧
    (d 7 = true → Rd x (fun k => Y.heap.size ≤ k) A (L.map str)) ∧
    (d 8 = true → IsDev x okP (.agg C8) R.1.1) ∧
    (d 8 = true → ∀ k, okP k → (ok k ∨ Y.heap.size ≤ k) ∧ k < x.heap.size) ∧
    (Blk x b 43 (bc PG PJ (if d 14 = true then jc C8 R.1.2 else jc C r))) ∧
    (d 8 = true → d 4 = true) ∧
    (d 9 = true → d 8 = true) ∧
    (d 10 = true → d 8 = true) ∧
    (d 14 = true → d 8 = true) ∧
    (d 14 = true → d 4 = true) ∧
    (d 14 = true → d 10 = true)
theorem addS_start (F : Nat → Value) (b bx : Nat) (SL PG PJ : Value) (C : Array Value) (r : RJ) (R : (Dev × RJ) × Int) (L : List (List UInt8)) (ok : Nat → Prop) (Y : World) (a : Act) (x : World) (ha : ∃ v6 v23 v24 v25 v26 v27 v28 v29 v30 v31 v32 v33 v34 v35 v36, a = ⟨#[.pointer (some ⟨b, 0, none⟩), (F 1), (F 2), .pointer (some ⟨bx, 0, none⟩), (F 4), (F 5), v6, (F 7), (F 8), (F 9), (F 10), (F 11), (F 12), (F 13), (F 14), (F 15), (F 16), (F 17), (F 18), (F 19), (F 20), (F 21), (F 22), v23, v24, v25, v26, v27, v28, v29, v30, v31, v32, v33, v34, v35, v36, (F 37), (F 38), (F 39), (F 40), (F 41), (F 42), (F 43), (F 44), (F 45), (F 46), (F 47), (F 48), (F 49), (F 50), (F 51), (F 52), (F 53), (F 54), (F 55), (F 56), (F 57), (F 58), (F 59), (F 60), (F 61), (F 62), (F 63), (F 64), (F 65), (F 66), (F 67), (F 68), (F 69), (F 70), (F 71), (F 72), (F 73), (F 74), (F 75), (F 76), (F 77), (F 78), (F 79), (F 80), (F 81), (F 82), (F 83), (F 84), (F 85), (F 86), (F 87), (F 88), (F 89), (F 90), (F 91), (F 92), (F 93), (F 94), (F 95), (F 96), (F 97), (F 98), (F 99), (F 100), (F 101), (F 102), (F 103), (F 104), (F 105), (F 106), (F 107), (F 108), (F 109), (F 110), (F 111), (F 112), (F 113), (F 114), (F 115), (F 116), (F 117)], []⟩) (hb : Fr (· = b) (· = b) Y x) (hB : Blk x b 43 (bc PG PJ (jc C r))) : addS F b bx SL PG PJ C r R L ok Y (fun _ => false) a x := by
  obtain ⟨v6, v23, v24, v25, v26, v27, v28, v29, v30, v31, v32, v33, v34, v35, v36, rfl⟩ := ha
  exact ⟨v6, v23, v24, v25, v26, v27, v28, v29, v30, v31, v32, v33, v34, v35, v36, none, 0, #[], fun _ => False, rfl, hb, (fun q => by cases q), (fun q => by cases q), (fun q => by cases q), (fun q => by cases q), (fun q => by cases q), (fun q => by cases q), (fun q => by cases q), (fun q => by cases q), (fun q => by cases q), (fun q => by cases q), (fun q => by cases q), (fun q => by cases q), (fun q => by cases q), (fun q => by cases q), (fun q => by cases q), (fun q => by cases q), (fun q => by cases q), (fun q => by cases q), hB, (fun q => by cases q), (fun q => by cases q), (fun q => by cases q), (fun q => by cases q), (fun q => by cases q), (fun q => by cases q)⟩

set_option maxHeartbeats 4000000 in
theorem step_add (base : Nat) (G : Nat → Prop) (g b j : Nat) (D : Dev) (C : Array Value) (r : RJ) (ok okS : Nat → Prop) (J : JM) (kd af tn hf : Int) (At : Option Addr) (nt : Nat) (vk : Value) (L : List (List UInt8)) (w : World)
    (hs : Sides w base G g b (.pointer (some ⟨j, 0, none⟩)) D C r ok) (hj : JAt w j g J) (hgj : ¬ G j) (hjb : j ≠ b) (hbj : base ≤ j) (hokj : ∀ k, ok k → k ≠ j) (hI : LInv D J r) (m : Nat) (hm : m ≤ 400000) (hfew : D.Few m)
    (hv : IsBB w okS (.slice At L.length nt) L) (hS : ∀ k, okS k → k < base) (hLn : L.length ≤ 6) (hLs : (recsB L).length ≤ 100000) (hk : (IntKind.u64.wrap kd).tmod 5 = 0) :
    Calls Try.prog 9 #[.pointer (some ⟨b, 0, none⟩), .agg #[.int .i64 kd, .slice At L.length nt, .int .i64 af, vk, .int .i64 tn, .int .i64 hf]] w (StepPost base g b (m + 2200) D.sure.length w) := by
  obtain ⟨hdev, hblk, href, hap, hgb, hlow⟩ := hs
  have hCs := href.size
  have hJs : (jc C r).size = 13 := jc_size hCs.1
  obtain ⟨n1, n2, n3⟩ := hI.cont
  have hlen := hdev.lens
  have hwf := hdev.wf
  have hleft := hdev.left_le
  have hdl := hdev.low
  have hfit : JFit J D := by
    obtain ⟨n, s, u, L0, hC, _⟩ := hI.cont
    exact ⟨hI.num, hI.sd, hI.used, by have := hI.cnt; omega, hC.big⟩
  clear n1 n2 n3
  obtain ⟨W, hW⟩ : ∃ W, W = w.alloc (.cells #[.int .i64 kd, .slice At L.length nt, .int .i64 af, vk, .int .i64 tn, .int .i64 hf] 46) := ⟨_, rfl⟩
  have hbW : Below w.heap.size w W := by rw [hW]; exact (Below.refl _ _).alloc (Nat.le_refl _) _
  have hWs : W.heap.size = w.heap.size + 1 := by rw [hW]; simp
  have hbx : Blk W w.heap.size 46 #[.int .i64 kd, .slice At L.length nt, .int .i64 af, vk, .int .i64 tn, .int .i64 hf] := by rw [hW]; exact Blk.new w _ _
  have hbl := hblk.lt
  have hb1 := hblk.grow hbW
  have hp1 : W.cell? ⟨b, 1, none⟩ = some (.pointer (some ⟨j, 0, none⟩)) := by rw [hb1.cell]; rfl
  have hp2 : W.cell? ⟨w.heap.size, 1, none⟩ = some (.slice At L.length nt) := by rw [hbx.cell]; rfl
  have hd1 := hdev.grow hbW
  have hj1 := hj.grow hbW
  have hv1 := hv.grow hbW
  have hjl := Blk.lt hj
  have hcall := jadd_any base G okS j g J D (.slice At L.length nt) L W.drew hfit (hfew.mono (by omega)) (hd1.keep (fun _ _ => rfl) (Nat.le_refl _)) hj1 hgj (hv1.frame (fun _ _ _ => rfl))
  have hinv := add_linv hI L
  have hmf := addJ_few hfew hlen.2 J L
  have hml := addJ_length J D L
  obtain ⟨RA, hRA⟩ : ∃ RA, RA = addJ J D L := ⟨_, rfl⟩
  obtain ⟨R, hR⟩ : ∃ R, R = addR D r L := ⟨_, rfl⟩
  rw [← hRA] at hcall
  rw [← hRA, ← hR] at hinv
  rw [← hRA] at hmf hml
  have HW := Lib.hid hW
  have HbW := Lib.hid hbW
  have HWs := Lib.hid hWs
  have Hbx := Lib.hid hbx
  have Hb1 := Lib.hid hb1
  have Hp2 := Lib.hid hp2
  have Hcall := Lib.hid hcall
  have Hinv := Lib.hid hinv
  have Hmf := Lib.hid hmf
  have Hml := Lib.hid hml
  have HR := Lib.hid hR
  have Href := Lib.hid href
  have Hap := Lib.hid hap
  have Hgb := Lib.hid hgb
  have HJs := Lib.hid hJs
  have HI := Lib.hid hI
  have Hfew := Lib.hid hfew
  have Hwf := Lib.hid hwf
  have Hdl := Lib.hid hdl
  have Hv1 := Lib.hid hv1
  have HS := Lib.hid hS
  have Hlen := Lib.hid hlen
  clear hdev hblk href hap hgb hCs hJs hwf hdl hfit hW hbW hWs hbx hb1 hd1 hj1 hv1 hcall hinv hmf hml hRA hR hI hfew hv hS hj hlen
  go_enter Try.func9, Try.ntmps9
  go_upto_region 5 with fail
  rw [← HW.out]
  go_still_tail 6, (by kernel_rfl)
  change wpList _ _ _ _ _ W.drew
  go_wp2_with fail
  refine Hcall.out.mono ?_
  rintro e w2 ⟨rfl, G', hd2, hj2, hgj2, hf2⟩
  have hnb : ¬ (G b ∨ b = j) := fun h => h.elim Hgb.out (fun e => hjb e.symm)
  have hb2 : ¬ (G' b ∨ b = j) ∧ Blk w2 b 43 _ := hf2.blk (show Blk W.drew b 43 _ from Hb1.out) hnb
  have hF0 : ∀ k, k < w.heap.size → ¬ G k → k ≠ j → w2.heap[k]? = w.heap[k]? := fun k hk h1 h2 => ((hf2.block k (by show k < W.heap.size; have := HWs.out; omega) (fun h => h.elim h1 h2)).2).trans (HbW.out.block k hk)
  have hxb : Blk w2 w.heap.size 46 _ := (hf2.blk (show Blk W.drew w.heap.size 46 _ from Hbx.out) (fun h => h.elim (fun q => by have := (Hdl.out _ q).2; omega) (fun e => by omega))).2
  have hq1 : w2.cell? ⟨w.heap.size, 1, none⟩ = some (.slice At L.length nt) := by rw [hxb.cell]; rfl
  have hbxb : ¬ w.heap.size = b := by omega
  have hr2 : IsDev w2 ok (.agg C) D := Href.out.frame (fun k hk hl => hF0 k hl (Hap.out k hk).1 (hokj k hk))
  have hs2 : w.heap.size < w2.heap.size := by have h1 := hf2.size; have h2 := HWs.out; have h3 : W.drew.heap.size = W.heap.size := rfl; omega
  have hsb : IsBB w2 (fun k => k < base) (.slice At L.length nt) L := (Hv1.out.weaken HS.out).frame (fun k hk hl => (hf2.block k hl (fun h => h.elim (fun q => by have := (Hdl.out _ q).1; omega) (fun e => by omega))).2)
  have htx : ∀ x, Fr (· = b) (· = b) w2 x → Calls Try.prog 20 #[.slice At L.length nt] x fun e w' => ∃ A' c', e = .returned (.slice A' L.length c') ∧ Rd w' (fun k => x.heap.size ≤ k) A' (L.map str) ∧ Below x.heap.size x w' := fun x hx => by
    refine (texts_at _ _ L x (hsb.frame (fun k hk hl => (hx.block k hl (fun e => by omega)).2)) (by omega)).mono ?_
    rintro e w' ⟨A', c', rfl, ho, _, hb'⟩
    have hlt := ho.lt
    obtain ⟨A2, c2, hv2, _, _, hr⟩ := ho.form
    rw [List.length_map] at hv2
    cases hv2
    exact ⟨A', c', rfl, hr.weaken (fun k hk => (hlt k hk).1), hb'⟩
  have had : ∀ (okx : Nat → Prop) (A : Option Addr) (c : Nat) (x : World), IsRJ x okx (.agg (jc C r)) D r → Rd x (fun k => w2.heap.size ≤ k) A (L.map str) → Calls Try.prog 19 #[.agg (jc C r), .slice A L.length c] x fun e w' => ∃ v', e = .returned (.tuple #[v', .int .i64 R.2]) ∧ IsRJ w' (fun k => okx k ∨ x.heap.size ≤ k) v' R.1.1 R.1.2 ∧ Below x.heap.size x w' := fun okx A c x h1 h2 => by
    rw [HR.out]
    have hi := HI.out
    have hle := Hlen.out
    have hsn := sideN_le D hle.2
    have h6 : 6 ≤ D.sure.length := by obtain ⟨n, s, u, L0, hC, _⟩ := hi.cont; exact hC.big
    exact refadd_any okx _ _ D r A c L x h1 h2 Hwf.out (by omega) hle.2 (Hfew.out.mono (by omega)) hleft (by rw [hi.number]; exact hi.num) (by rw [hi.side]; exact hi.sd) (by rw [hi.data]; have := hi.used; omega) (by rw [hi.len]; have := hi.cnt; omega) (by omega) (by omega)
  have hob : ∀ k, (ok k ∨ w2.heap.size ≤ k) → k ≠ b := fun k hk => hk.elim (fun h => (Hap.out k h).2.1) (fun h => by omega)
  have hbl2 : b < w2.heap.size := by omega
  have hre : R.2 = RA.2 := Hinv.out.1.1
  have hrd : R.1.1 = RA.1.2 := Hinv.out.1.2
  have HB2 := Lib.hid hb2
  have HQ1 := Lib.hid hq1
  have Hbxb := Lib.hid hbxb
  have HV := Lib.hid hr2
  have HTx := Lib.hid htx
  have HAd := Lib.hid had
  have Hob := Lib.hid hob
  have Hbl := Lib.hid hbl2
  have Hre := Lib.hid hre
  have Hrd := Lib.hid hrd
  have Hd2 := Lib.hid hd2
  have Hj2 := Lib.hid hj2
  have Hgj2 := Lib.hid hgj2
  have Hf2 := Lib.hid hf2
  have HF0 := Lib.hid hF0
  clear hb2 hq1 hbxb hr2 htx had hob hbl2 hre hrd hd2 hj2 hgj2 hf2 hF0 hxb hsb hp1
  go_upto_region 6 with fail
  refine wp_frame118 rfl rfl (fun F hF => ?_)
  apply wp_region_inv (I := addS F b w.heap.size (.slice At L.length nt) (.pointer (some ⟨g, 0, none⟩)) (.pointer (some ⟨j, 0, none⟩)) C r R L ok w2)
  case hm => kernel_rfl
  case ho => kernel_rfl
  case h0 => subst hF; exact addS_start _ b w.heap.size (.slice At L.length nt) (.pointer (some ⟨g, 0, none⟩)) (.pointer (some ⟨j, 0, none⟩)) C r R L ok w2 _ _ ⟨_, _, _, _, _, _, _, _, _, _, _, _, _, _, _, rfl⟩ (Fr.refl _ _).drew HB2.out.2
  case hstep =>
    clear hF
    intro i' o hi d a x hd hpre hI K hK
    obtain ⟨v6, v23, v24, v25, v26, v27, v28, v29, v30, v31, v32, v33, v34, v35, v36, A, c, C8, okP, rfl, hb, h0, h1, h2, h3, h4, h5, h6, h7, h8, h9, h10, h11, h12, h13, h15, hT, hD, hok, hB, k8_4, k9_8, k10_8, k14_8, k14_4, k14_10⟩ := hI
    have hlt := (Array.getElem?_eq_some_iff.1 hi).1
    rcases step_many hlt rfl with rfl | rfl | rfl | rfl | rfl | rfl | rfl | rfl | rfl | rfl | rfl | rfl | rfl | rfl | rfl | rfl
    all_goals (have ho := Option.some.inj hi; subst ho; clear hi hlt)
    · go_simp
      exact hK _ _ ⟨v6, v23, _, v25, v26, v27, v28, v29, v30, v31, v32, v33, v34, v35, v36, A, c, C8, okP, rfl, hb, fun _ => rfl, h1, h2, h3, h4, h5, h6, h7, h8, h9, h10, h11, h12, h13, h15, hT, hD, hok, hB, k8_4, k9_8, k10_8, k14_8, k14_4, k14_10⟩
    · go_simp
      exact hK _ _ ⟨v6, v23, v24, _, v26, v27, v28, v29, v30, v31, v32, v33, v34, v35, v36, A, c, C8, okP, rfl, hb, h0, fun _ => rfl, h2, h3, h4, h5, h6, h7, h8, h9, h10, h11, h12, h13, h15, hT, hD, hok, hB, k8_4, k9_8, k10_8, k14_8, k14_4, k14_10⟩
    · obtain rfl := h1 (hpre { on := 1, ground := Ground.data } (by simp) rfl)
      go_simp
      exact hK _ _ ⟨v6, v23, v24, _, _, v27, v28, v29, v30, v31, v32, v33, v34, v35, v36, A, c, C8, okP, rfl, hb, h0, h1, fun _ => rfl, h3, h4, h5, h6, h7, h8, h9, h10, h11, h12, h13, h15, hT, hD, hok, hB, k8_4, k9_8, k10_8, k14_8, k14_4, k14_10⟩
    · obtain rfl := h2 (hpre { on := 2, ground := Ground.data } (by simp) rfl)
      go_simp
      exact hK _ _ ⟨v6, v23, v24, v25, _, _, v28, v29, v30, v31, v32, v33, v34, v35, v36, A, c, C8, okP, rfl, hb, h0, h1, h2, fun _ => rfl, h4, h5, h6, h7, h8, h9, h10, h11, h12, h13, h15, hT, hD, hok, hB, k8_4, k9_8, k10_8, k14_8, k14_4, k14_10⟩
    · obtain rfl := h3 (hpre { on := 3, ground := Ground.data } (by simp) rfl)
      rw [if_neg (fun q => by have := k14_4 q; rw [hd] at this; cases this)] at hB
      refine step_plain rfl (wp_load_mid 40 (.tmp 27) rfl b 2 rfl (jc C r).toList _ (bc_range hB) Try.underlying40 rfl (by rw [Array.length_toList, HJs.out]; exact jn_info) (hK _ _ ?_))
      exact ⟨v6, v23, v24, v25, v26, _, _, v29, v30, v31, v32, v33, v34, v35, v36, A, c, C8, okP, rfl, hb, h0, h1, h2, h3, fun _ => by simp, h5, h6, h7, h8, h9, h10, h11, h12, h13, h15, hT, hD, hok, (by rw [if_neg (fun q => by have := k14_4 q; rw [hd] at this; cases this)]; exact hB), fun _ => rfl, k9_8, k10_8, k14_8, fun _ => rfl, k14_10⟩
    · go_simp
      exact hK _ _ ⟨v6, v23, v24, v25, v26, v27, v28, _, v30, v31, v32, v33, v34, v35, v36, A, c, C8, okP, rfl, hb, h0, h1, h2, h3, h4, fun _ => rfl, h6, h7, h8, h9, h10, h11, h12, h13, h15, hT, hD, hok, hB, k8_4, k9_8, k10_8, k14_8, k14_4, k14_10⟩
    · obtain rfl := h5 (hpre { on := 5, ground := Ground.data } (by simp) rfl)
      have q := (hb.cell HQ1.out Hbxb.out)
      go_simp
      exact hK _ _ ⟨v6, v23, v24, v25, v26, v27, v28, _, _, v31, v32, v33, v34, v35, v36, A, c, C8, okP, rfl, hb, h0, h1, h2, h3, h4, h5, fun _ => rfl, h7, h8, h9, h10, h11, h12, h13, h15, hT, hD, hok, hB, k8_4, k9_8, k10_8, k14_8, k14_4, k14_10⟩
    · obtain rfl := h6 (hpre { on := 6, ground := Ground.data } (by simp) rfl)
      go_simp
      refine (HTx.out x hb).mono ?_
      rintro e x2 ⟨A', c', rfl, hrd', hb2⟩
      go_simp
      exact hK _ _ ⟨v6, v23, v24, v25, v26, v27, v28, v29, _, _, v32, v33, v34, v35, v36, A', c', C8, okP, rfl, (hb.trans (Fr.of_below hb2 _)), h0, h1, h2, h3, h4, h5, h6, fun _ => rfl, h8, h9, h10, h11, h12, h13, h15, fun _ => hrd'.weaken (fun k hk => by have := hb.size; omega), fun q => (hD q).frame (fun k _ hk => hb2.block k hk), fun q k hk => ⟨(hok q k hk).1, Nat.lt_of_lt_of_le (hok q k hk).2 hb2.size⟩, hB.grow hb2, k8_4, k9_8, k10_8, k14_8, k14_4, k14_10⟩
    · obtain rfl := h4 (hpre { on := 4, ground := Ground.data } (by simp) rfl)
      obtain rfl := h7 (hpre { on := 7, ground := Ground.data } (by simp) rfl)
      go_simp
      have hdx : IsDev x ok (.agg C) D := HV.out.frame (fun k hk hl => (hb.block k hl (fun e => Hob.out k (Or.inl hk) e)).2)
      refine (HAd.out ok A c x (IsRJ.of_cells hdx r) (hT (hpre { on := 7, ground := Ground.data } (by simp) rfl))).mono ?_
      rintro e x2 ⟨v', rfl, hrj, hb2⟩
      obtain ⟨C', rfl, hdev⟩ := hrj.cells
      have hdev2 : IsDev x2 (fun k => (ok k ∨ x.heap.size ≤ k) ∧ k < x2.heap.size) (.agg C') R.1.1 := hdev.move (fun k hk hl => ⟨⟨hk, hl⟩, rfl⟩)
      go_simp
      exact hK _ _ ⟨v6, v23, v24, v25, v26, v27, _, v29, v30, _, _, v33, v34, v35, v36, A, c, C', (fun k => (ok k ∨ x.heap.size ≤ k) ∧ k < x2.heap.size), rfl, (hb.trans (Fr.of_below hb2 _)), h0, h1, h2, h3, h4, h5, h6, h7, fun _ => rfl, (fun q => by have := k9_8 q; rw [hd] at this; cases this), (fun q => by have := k10_8 q; rw [hd] at this; cases this), h11, h12, h13, h15, fun q => (hT q).grow hb2, fun _ => hdev2, fun _ k hk => ⟨hk.1.elim (fun q => Or.inl q) (fun q => Or.inr (Nat.le_trans hb.size q)), hk.2⟩, (by rw [if_neg (fun q => by have := k14_8 q; rw [hd] at this; cases this)] at hB; rw [if_neg (fun q => by have := k14_8 q; rw [hd] at this; cases this)]; exact hB.grow hb2), fun _ => (hpre { on := 4, ground := Ground.data } (by simp) rfl), fun _ => rfl, fun _ => rfl, fun _ => rfl, k14_4, k14_10⟩
    · obtain rfl := h8 (hpre { on := 8, ground := Ground.data } (by simp) rfl)
      go_simp
      exact hK _ _ ⟨v6, _, v24, v25, v26, v27, v28, v29, v30, v31, _, v33, v34, v35, v36, A, c, C8, okP, rfl, hb, h0, h1, h2, h3, h4, h5, h6, h7, h8, fun _ => rfl, h10, h11, h12, h13, h15, hT, hD, hok, hB, k8_4, fun _ => (hpre { on := 8, ground := Ground.data } (by simp) rfl), k10_8, k14_8, k14_4, k14_10⟩
    · obtain rfl := h9 (hpre { on := 9, ground := Ground.data } (by simp) rfl)
      go_simp
      exact hK _ _ ⟨v6, _, v24, v25, v26, v27, v28, v29, v30, v31, v32, _, v34, v35, v36, A, c, C8, okP, rfl, hb, h0, h1, h2, h3, h4, h5, h6, h7, h8, h9, fun _ => rfl, h11, h12, h13, h15, hT, hD, hok, hB, k8_4, k9_8, fun _ => k9_8 (hpre { on := 9, ground := Ground.data } (by simp) rfl), k14_8, k14_4, fun _ => rfl⟩
    · obtain rfl := h9 (hpre { on := 9, ground := Ground.data } (by simp) rfl)
      go_simp
      exact hK _ _ ⟨v6, _, v24, v25, v26, v27, v28, v29, v30, v31, v32, v33, _, v35, v36, A, c, C8, okP, rfl, hb, h0, h1, h2, h3, h4, h5, h6, h7, h8, h9, h10, fun _ => rfl, h12, h13, h15, hT, hD, hok, hB, k8_4, k9_8, k10_8, k14_8, k14_4, k14_10⟩
    · obtain rfl := h0 (hpre { on := 0, ground := Ground.data } (by simp) rfl)
      go_simp
      exact hK _ _ ⟨v6, v23, _, v25, v26, v27, v28, v29, v30, v31, v32, v33, v34, _, v36, A, c, C8, okP, rfl, hb, h0, h1, h2, h3, h4, h5, h6, h7, h8, h9, h10, h11, fun _ => rfl, h13, h15, hT, hD, hok, hB, k8_4, k9_8, k10_8, k14_8, k14_4, k14_10⟩
    · obtain rfl := h12 (hpre { on := 12, ground := Ground.data } (by simp) rfl)
      go_simp
      exact hK _ _ ⟨v6, v23, v24, v25, v26, v27, v28, v29, v30, v31, v32, v33, v34, _, _, A, c, C8, okP, rfl, hb, h0, h1, h2, h3, h4, h5, h6, h7, h8, h9, h10, h11, h12, fun _ => rfl, h15, hT, hD, hok, hB, k8_4, k9_8, k10_8, k14_8, k14_4, k14_10⟩
    · obtain rfl := h13 (hpre { on := 13, ground := Ground.data } (by simp) rfl)
      have d10 := (hpre { on := 10, ground := Ground.data } (by simp) rfl)
      have d8 := k10_8 d10
      obtain rfl := h10 d10
      skip
      rw [hd] at hB
      have hsz := (hD d8).size
      refine step_plain rfl (wp_store_mid 40 (.tmp 36) (.tmp 33) rfl b 2 (jc C8 R.1.2) rfl rfl (by rw [jc_size hsz.1]; exact bc_there HJs.out hB) (by rw [jc_size hsz.1]; exact jn_info) (jc_one hsz.2) (hK _ _ ?_))
      exact ⟨v6, v23, v24, v25, v26, v27, v28, v29, v30, v31, v32, _, v34, v35, _, A, c, C8, okP, rfl, (hb.setCells rfl _ _), h0, h1, h2, h3, h4, h5, h6, h7, h8, h9, h10, h11, h12, h13, h15, fun q => (hT q).frame (fun k hk _ => heap_setCells _ _ _ _ _ (fun e => by subst e; have := Hbl.out; omega)), fun q => (hD q).frame (fun k hk _ => heap_setCells _ _ _ _ _ (fun e => by subst e; exact Hob.out k (hok q k hk).1 rfl)), fun q k hk => ⟨(hok q k hk).1, by rw [size_setCells]; exact (hok q k hk).2⟩, (bc_put HJs.out (jc_size hsz.1) hB), k8_4, k9_8, k10_8, fun _ => d8, fun _ => k8_4 d8, fun _ => d10⟩
    · obtain rfl := h11 (hpre { on := 11, ground := Ground.data } (by simp) rfl)
      go_simp
      exact hK _ _ ⟨_, v23, v24, v25, v26, v27, v28, v29, v30, v31, v32, v33, _, v35, v36, A, c, C8, okP, rfl, hb, h0, h1, h2, h3, h4, h5, h6, h7, h8, h9, h10, h11, h12, h13, fun _ => rfl, hT, hD, hok, hB, k8_4, k9_8, k10_8, k14_8, k14_4, k14_10⟩
  case hend =>
    intro d a x hall hI
    obtain ⟨v6, v23, v24, v25, v26, v27, v28, v29, v30, v31, v32, v33, v34, v35, v36, A, c, C8, okP, rfl, hb, h0, h1, h2, h3, h4, h5, h6, h7, h8, h9, h10, h11, h12, h13, h15, hT, hD, hok, hB, k8_4, k9_8, k10_8, k14_8, k14_4, k14_10⟩ := hI
    rw [if_pos (hall 14 (by decide))] at hB
    obtain rfl := h15 (hall 15 (by decide))
    have dD := hD (hall 8 (by decide))
    have dok := hok (hall 8 (by decide))
    have HB9 := Lib.hid hB
    have DD := Lib.hid dD
    have DK := Lib.hid dok
    clear h0 h1 h2 h3 h4 h5 h6 h7 h8 h9 h10 h11 h12 h13 h15 hT hD hok hB k8_4 k9_8 k10_8 k14_8 k14_4 k14_10 hall dD dok
    subst hF
    dsimp only
    have hre := Hre.out
    have hee : (RA.2 == RA.2) = true := beq_self_eq_true _
    rw [Hre.out]
    have hfx := hb
    have hxs := hfx.size
    have hdx : DevAt x base G' g RA.1.2 := Hd2.out.keep (fun k hk => (hfx.block k (Hd2.out.low k hk).2 (fun e => HB2.out.1 (Or.inl (e ▸ hk)))).2) hxs
    have hsd : Sides x base G' g b (.pointer (some ⟨j, 0, none⟩)) RA.1.2 C8 R.1.2 okP := by
      refine ⟨hdx, HB9.out, by rw [← Hrd.out]; exact DD.out, fun k hk => ?_, fun h => HB2.out.1 (Or.inl h), hlow⟩
      have hk2 := DK.out k hk
      rcases hk2.1 with h | h
      · have h1 := Hap.out k h
        exact ⟨fun q => ((Hf2.out.block k (by show k < W.heap.size; have := HWs.out; omega) (fun h => h.elim h1.1 (fun e => hokj k ‹_› e))).1) (Or.inl q), h1.2.1, h1.2.2.1, hk2.2⟩
      · exact ⟨fun q => by have := (Hd2.out.low k q).2; omega, by omega, by omega, hk2.2⟩
    have hjx : JAt x j g RA.1.1 := Hj2.out.keep (hfx.block j (Blk.lt Hj2.out) (fun e => hjb e)).2
    have hL' := Hinv.out.2
    have Hsd := Lib.hid hsd
    have Hjx := Lib.hid hjx
    have Hlx := Lib.hid hL'
    have HFX := Lib.hid hfx
    clear hsd hjx hL' hdx hfx hb hre
    go_wp2_with fail
    refine (bothlike_any base G' g b j RA.1.2 C8 R.1.2 okP RA.1.1 _ Hsd.out Hjx.out Hlx.out.used (by obtain ⟨n, s, u, L0, hC, _⟩ := Hlx.out.cont; exact hC.big) Hlx.out.data Hlx.out.len Hlx.out.broken).mono ?_
    rintro e w5 ⟨rfl, hb5⟩
    go_wp2
    go_ret
    have hfx := HFX.out
    have hb5s := hb5.size
    have hxs2 := hfx.size
    refine ⟨rfl, G', j, RA.1.2, C8, RA.1.1, R.1.2, okP, Hsd.out.grow hb5, Hjx.out.grow hb5, fun q => Hgj2.out q, hjb, hbj, fun k hk => ?_, Hlx.out, Hmf.out.mono (by omega), Hml.out, fun k hk => ?_, by omega, ?_, ?_, ?_⟩
    · rcases (DK.out k hk).1 with h | h
      · exact hokj k h
      · omega
    · refine (hb5.block k (by omega)).trans (((hfx.block k (by omega) (fun e => by omega)).2).trans (HF0.out k (by omega) (fun q => by have := (Hdl.out k q).1; omega) (by omega)))
    · exact hb5.os.trans (hfx.os.trans (Hf2.out.os.trans HbW.out.os))
    · exact hb5.tape.trans (hfx.tape.trans (Hf2.out.tape.trans HbW.out.tape))
    · exact hb5.output.trans (hfx.output.trans (Hf2.out.output.trans HbW.out.output))
end Go.Proofs.Ytiaabgmmmekpnaa

namespace Go.Proofs.Ytiaabgmmmekpnaa
open Go.RowKit
set_option maxRecDepth 100000

/-- What stands while the document's rep is made, whatever has been done of it. -/
def repS (F : Nat → Value) (b bx : Nat) (SL PG PJ : Value) (C : Array Value) (r : RJ) (R : (Dev × RJ) × Int) (L : List (List UInt8)) (ok : Nat → Prop) (Y : World) (d : Nat → Bool) (a : Act) (x : World) : Prop :=
  ∃ (v6 v46 v47 v48 v49 v50 v51 v52 v53 v54 v55 v56 v57 v58 v59 : Value) (A : Option Addr) (c : Nat) (C8 : Array Value) (okP : Nat → Prop), a = ⟨#[.pointer (some ⟨b, 0, none⟩), (F 1), (F 2), .pointer (some ⟨bx, 0, none⟩), (F 4), (F 5), v6, (F 7), (F 8), (F 9), (F 10), (F 11), (F 12), (F 13), (F 14), (F 15), (F 16), (F 17), (F 18), (F 19), (F 20), (F 21), (F 22), (F 23), (F 24), (F 25), (F 26), (F 27), (F 28), (F 29), (F 30), (F 31), (F 32), (F 33), (F 34), (F 35), (F 36), (F 37), (F 38), (F 39), (F 40), (F 41), (F 42), (F 43), (F 44), (F 45), v46, v47, v48, v49, v50, v51, v52, v53, v54, v55, v56, v57, v58, v59, (F 60), (F 61), (F 62), (F 63), (F 64), (F 65), (F 66), (F 67), (F 68), (F 69), (F 70), (F 71), (F 72), (F 73), (F 74), (F 75), (F 76), (F 77), (F 78), (F 79), (F 80), (F 81), (F 82), (F 83), (F 84), (F 85), (F 86), (F 87), (F 88), (F 89), (F 90), (F 91), (F 92), (F 93), (F 94), (F 95), (F 96), (F 97), (F 98), (F 99), (F 100), (F 101), (F 102), (F 103), (F 104), (F 105), (F 106), (F 107), (F 108), (F 109), (F 110), (F 111), (F 112), (F 113), (F 114), (F 115), (F 116), (F 117)], []⟩ ∧ Fr (· = b) (· = b) Y x ∧
    (d 0 = true → v47 = .pointer (some ⟨b, 0, none⟩)) ∧
    (d 1 = true → v48 = .pointer (some ⟨b, 0, none⟩)) ∧
    (d 2 = true → v49 = .pointer (some ⟨b, 0, none⟩)) ∧
    (d 3 = true → v50 = .pointer (some ⟨b, 2, none⟩)) ∧
    (d 4 = true → v51 = .agg (jc C r)) ∧
    (d 5 = true → v52 = .pointer (some ⟨bx, 1, none⟩)) ∧
    (d 6 = true → v53 = SL) ∧
    (d 7 = true → v54 = .slice A L.length c) ∧
    (d 8 = true → v55 = .tuple #[.agg (jc C8 R.1.2), .int .i64 R.2]) ∧
    (d 9 = true → v46 = .tuple #[.agg (jc C8 R.1.2), .int .i64 R.2]) ∧
    (d 10 = true → v56 = .agg (jc C8 R.1.2)) ∧
    (d 11 = true → v57 = .int .i64 R.2) ∧
    (d 12 = true → v58 = .pointer (some ⟨b, 0, none⟩)) ∧
    (d 13 = true → v59 = .pointer (some ⟨b, 2, none⟩)) ∧
    (d 15 = true → v6 = .int .i64 R.2) ∧
    (d 7 = true → Rd x (fun k => Y.heap.size ≤ k) A (L.map str)) ∧
    (d 8 = true → IsDev x okP (.agg C8) R.1.1) ∧
    (d 8 = true → ∀ k, okP k → (ok k ∨ Y.heap.size ≤ k) ∧ k < x.heap.size) ∧
    (Blk x b 43 (bc PG PJ (if d 14 = true then jc C8 R.1.2 else jc C r))) ∧
    (d 8 = true → d 4 = true) ∧
    (d 9 = true → d 8 = true) ∧
    (d 10 = true → d 8 = true) ∧
    (d 14 = true → d 8 = true) ∧
    (d 14 = true → d 4 = true) ∧
    (d 14 = true → d 10 = true)
theorem repS_start (F : Nat → Value) (b bx : Nat) (SL PG PJ : Value) (C : Array Value) (r : RJ) (R : (Dev × RJ) × Int) (L : List (List UInt8)) (ok : Nat → Prop) (Y : World) (a : Act) (x : World) (ha : ∃ v6 v46 v47 v48 v49 v50 v51 v52 v53 v54 v55 v56 v57 v58 v59, a = ⟨#[.pointer (some ⟨b, 0, none⟩), (F 1), (F 2), .pointer (some ⟨bx, 0, none⟩), (F 4), (F 5), v6, (F 7), (F 8), (F 9), (F 10), (F 11), (F 12), (F 13), (F 14), (F 15), (F 16), (F 17), (F 18), (F 19), (F 20), (F 21), (F 22), (F 23), (F 24), (F 25), (F 26), (F 27), (F 28), (F 29), (F 30), (F 31), (F 32), (F 33), (F 34), (F 35), (F 36), (F 37), (F 38), (F 39), (F 40), (F 41), (F 42), (F 43), (F 44), (F 45), v46, v47, v48, v49, v50, v51, v52, v53, v54, v55, v56, v57, v58, v59, (F 60), (F 61), (F 62), (F 63), (F 64), (F 65), (F 66), (F 67), (F 68), (F 69), (F 70), (F 71), (F 72), (F 73), (F 74), (F 75), (F 76), (F 77), (F 78), (F 79), (F 80), (F 81), (F 82), (F 83), (F 84), (F 85), (F 86), (F 87), (F 88), (F 89), (F 90), (F 91), (F 92), (F 93), (F 94), (F 95), (F 96), (F 97), (F 98), (F 99), (F 100), (F 101), (F 102), (F 103), (F 104), (F 105), (F 106), (F 107), (F 108), (F 109), (F 110), (F 111), (F 112), (F 113), (F 114), (F 115), (F 116), (F 117)], []⟩) (hb : Fr (· = b) (· = b) Y x) (hB : Blk x b 43 (bc PG PJ (jc C r))) : repS F b bx SL PG PJ C r R L ok Y (fun _ => false) a x := by
  obtain ⟨v6, v46, v47, v48, v49, v50, v51, v52, v53, v54, v55, v56, v57, v58, v59, rfl⟩ := ha
  exact ⟨v6, v46, v47, v48, v49, v50, v51, v52, v53, v54, v55, v56, v57, v58, v59, none, 0, #[], fun _ => False, rfl, hb, (fun q => by cases q), (fun q => by cases q), (fun q => by cases q), (fun q => by cases q), (fun q => by cases q), (fun q => by cases q), (fun q => by cases q), (fun q => by cases q), (fun q => by cases q), (fun q => by cases q), (fun q => by cases q), (fun q => by cases q), (fun q => by cases q), (fun q => by cases q), (fun q => by cases q), (fun q => by cases q), (fun q => by cases q), (fun q => by cases q), hB, (fun q => by cases q), (fun q => by cases q), (fun q => by cases q), (fun q => by cases q), (fun q => by cases q), (fun q => by cases q)⟩

set_option maxHeartbeats 4000000 in
theorem step_rep (base : Nat) (G : Nat → Prop) (g b j : Nat) (D : Dev) (C : Array Value) (r : RJ) (ok okS : Nat → Prop) (J : JM) (kd af tn hf : Int) (At : Option Addr) (nt : Nat) (vk : Value) (L : List (List UInt8)) (w : World)
    (hs : Sides w base G g b (.pointer (some ⟨j, 0, none⟩)) D C r ok) (hj : JAt w j g J) (hgj : ¬ G j) (hjb : j ≠ b) (hbj : base ≤ j) (hokj : ∀ k, ok k → k ≠ j) (hI : LInv D J r) (m : Nat) (hm : m ≤ 400000) (hfew : D.Few m)
    (hv : IsBB w okS (.slice At L.length nt) L) (hS : ∀ k, okS k → k < base) (hLn : L.length ≤ 6) (hLs : (recsB L).length ≤ 100000) (hk : (IntKind.u64.wrap kd).tmod 5 = 1) :
    Calls Try.prog 9 #[.pointer (some ⟨b, 0, none⟩), .agg #[.int .i64 kd, .slice At L.length nt, .int .i64 af, vk, .int .i64 tn, .int .i64 hf]] w (StepPost base g b (m + 2200) D.sure.length w) := by
  obtain ⟨hdev, hblk, href, hap, hgb, hlow⟩ := hs
  have hCs := href.size
  have hJs : (jc C r).size = 13 := jc_size hCs.1
  obtain ⟨n1, n2, n3⟩ := hI.cont
  have hlen := hdev.lens
  have hwf := hdev.wf
  have hleft := hdev.left_le
  have hdl := hdev.low
  have hfit : JFit J D := by
    obtain ⟨n, s, u, L0, hC, _⟩ := hI.cont
    exact ⟨hI.num, hI.sd, hI.used, by have := hI.cnt; omega, hC.big⟩
  clear n1 n2 n3
  obtain ⟨W, hW⟩ : ∃ W, W = w.alloc (.cells #[.int .i64 kd, .slice At L.length nt, .int .i64 af, vk, .int .i64 tn, .int .i64 hf] 46) := ⟨_, rfl⟩
  have hbW : Below w.heap.size w W := by rw [hW]; exact (Below.refl _ _).alloc (Nat.le_refl _) _
  have hWs : W.heap.size = w.heap.size + 1 := by rw [hW]; simp
  have hbx : Blk W w.heap.size 46 #[.int .i64 kd, .slice At L.length nt, .int .i64 af, vk, .int .i64 tn, .int .i64 hf] := by rw [hW]; exact Blk.new w _ _
  have hbl := hblk.lt
  have hb1 := hblk.grow hbW
  have hp1 : W.cell? ⟨b, 1, none⟩ = some (.pointer (some ⟨j, 0, none⟩)) := by rw [hb1.cell]; rfl
  have hp2 : W.cell? ⟨w.heap.size, 1, none⟩ = some (.slice At L.length nt) := by rw [hbx.cell]; rfl
  have hd1 := hdev.grow hbW
  have hj1 := hj.grow hbW
  have hv1 := hv.grow hbW
  have hjl := Blk.lt hj
  have hcall := jreplace_any base G okS j g J D (.slice At L.length nt) L W.drew hfit (hfew.mono (by omega)) (hd1.keep (fun _ _ => rfl) (Nat.le_refl _)) hj1 hgj (hv1.frame (fun _ _ _ => rfl))
  have hinv := rep_linv hI L
  have hmf := repJ_few hfew hlen.2 J L
  have hml := repJ_length J D L
  obtain ⟨RA, hRA⟩ : ∃ RA, RA = repJ J D L := ⟨_, rfl⟩
  obtain ⟨R, hR⟩ : ∃ R, R = replR D r L := ⟨_, rfl⟩
  rw [← hRA] at hcall
  rw [← hRA, ← hR] at hinv
  rw [← hRA] at hmf hml
  have HW := Lib.hid hW
  have HbW := Lib.hid hbW
  have HWs := Lib.hid hWs
  have Hbx := Lib.hid hbx
  have Hb1 := Lib.hid hb1
  have Hp2 := Lib.hid hp2
  have Hcall := Lib.hid hcall
  have Hinv := Lib.hid hinv
  have Hmf := Lib.hid hmf
  have Hml := Lib.hid hml
  have HR := Lib.hid hR
  have Href := Lib.hid href
  have Hap := Lib.hid hap
  have Hgb := Lib.hid hgb
  have HJs := Lib.hid hJs
  have HI := Lib.hid hI
  have Hfew := Lib.hid hfew
  have Hwf := Lib.hid hwf
  have Hdl := Lib.hid hdl
  have Hv1 := Lib.hid hv1
  have HS := Lib.hid hS
  have Hlen := Lib.hid hlen
  clear hdev hblk href hap hgb hCs hJs hwf hdl hfit hW hbW hWs hbx hb1 hd1 hj1 hv1 hcall hinv hmf hml hRA hR hI hfew hv hS hj hlen
  go_enter Try.func9, Try.ntmps9
  go_upto_region 5 with fail
  rw [← HW.out]
  go_still_tail 6, (by kernel_rfl)
  change wpList _ _ _ _ _ W.drew
  go_wp2_with fail
  refine Hcall.out.mono ?_
  rintro e w2 ⟨rfl, G', hd2, hj2, hgj2, hf2⟩
  have hnb : ¬ (G b ∨ b = j) := fun h => h.elim Hgb.out (fun e => hjb e.symm)
  have hb2 : ¬ (G' b ∨ b = j) ∧ Blk w2 b 43 _ := hf2.blk (show Blk W.drew b 43 _ from Hb1.out) hnb
  have hF0 : ∀ k, k < w.heap.size → ¬ G k → k ≠ j → w2.heap[k]? = w.heap[k]? := fun k hk h1 h2 => ((hf2.block k (by show k < W.heap.size; have := HWs.out; omega) (fun h => h.elim h1 h2)).2).trans (HbW.out.block k hk)
  have hxb : Blk w2 w.heap.size 46 _ := (hf2.blk (show Blk W.drew w.heap.size 46 _ from Hbx.out) (fun h => h.elim (fun q => by have := (Hdl.out _ q).2; omega) (fun e => by omega))).2
  have hq1 : w2.cell? ⟨w.heap.size, 1, none⟩ = some (.slice At L.length nt) := by rw [hxb.cell]; rfl
  have hbxb : ¬ w.heap.size = b := by omega
  have hr2 : IsDev w2 ok (.agg C) D := Href.out.frame (fun k hk hl => hF0 k hl (Hap.out k hk).1 (hokj k hk))
  have hs2 : w.heap.size < w2.heap.size := by have h1 := hf2.size; have h2 := HWs.out; have h3 : W.drew.heap.size = W.heap.size := rfl; omega
  have hsb : IsBB w2 (fun k => k < base) (.slice At L.length nt) L := (Hv1.out.weaken HS.out).frame (fun k hk hl => (hf2.block k hl (fun h => h.elim (fun q => by have := (Hdl.out _ q).1; omega) (fun e => by omega))).2)
  have htx : ∀ x, Fr (· = b) (· = b) w2 x → Calls Try.prog 20 #[.slice At L.length nt] x fun e w' => ∃ A' c', e = .returned (.slice A' L.length c') ∧ Rd w' (fun k => x.heap.size ≤ k) A' (L.map str) ∧ Below x.heap.size x w' := fun x hx => by
    refine (texts_at _ _ L x (hsb.frame (fun k hk hl => (hx.block k hl (fun e => by omega)).2)) (by omega)).mono ?_
    rintro e w' ⟨A', c', rfl, ho, _, hb'⟩
    have hlt := ho.lt
    obtain ⟨A2, c2, hv2, _, _, hr⟩ := ho.form
    rw [List.length_map] at hv2
    cases hv2
    exact ⟨A', c', rfl, hr.weaken (fun k hk => (hlt k hk).1), hb'⟩
  have had : ∀ (okx : Nat → Prop) (A : Option Addr) (c : Nat) (x : World), IsRJ x okx (.agg (jc C r)) D r → Rd x (fun k => w2.heap.size ≤ k) A (L.map str) → Calls Try.prog 22 #[.agg (jc C r), .slice A L.length c] x fun e w' => ∃ v', e = .returned (.tuple #[v', .int .i64 R.2]) ∧ IsRJ w' (fun k => okx k ∨ x.heap.size ≤ k) v' R.1.1 R.1.2 ∧ Below x.heap.size x w' := fun okx A c x h1 h2 => by
    rw [HR.out]
    have hi := HI.out
    have hle := Hlen.out
    have hsn := sideN_le D hle.2
    have h6 : 6 ≤ D.sure.length := by obtain ⟨n, s, u, L0, hC, _⟩ := hi.cont; exact hC.big
    exact refrepl_any okx _ _ D r A c L x h1 h2 Hwf.out (by omega) hle.2 (Hfew.out.mono (by omega)) hleft (by rw [hi.number]; exact hi.num) (by rw [hi.side]; exact hi.sd) (by omega) (by omega)
  have hob : ∀ k, (ok k ∨ w2.heap.size ≤ k) → k ≠ b := fun k hk => hk.elim (fun h => (Hap.out k h).2.1) (fun h => by omega)
  have hbl2 : b < w2.heap.size := by omega
  have hre : R.2 = RA.2 := Hinv.out.1.1
  have hrd : R.1.1 = RA.1.2 := Hinv.out.1.2
  have HB2 := Lib.hid hb2
  have HQ1 := Lib.hid hq1
  have Hbxb := Lib.hid hbxb
  have HV := Lib.hid hr2
  have HTx := Lib.hid htx
  have HAd := Lib.hid had
  have Hob := Lib.hid hob
  have Hbl := Lib.hid hbl2
  have Hre := Lib.hid hre
  have Hrd := Lib.hid hrd
  have Hd2 := Lib.hid hd2
  have Hj2 := Lib.hid hj2
  have Hgj2 := Lib.hid hgj2
  have Hf2 := Lib.hid hf2
  have HF0 := Lib.hid hF0
  clear hb2 hq1 hbxb hr2 htx had hob hbl2 hre hrd hd2 hj2 hgj2 hf2 hF0 hxb hsb hp1
  go_upto_region 9 with fail
  refine wp_frame118 rfl rfl (fun F hF => ?_)
  apply wp_region_inv (I := repS F b w.heap.size (.slice At L.length nt) (.pointer (some ⟨g, 0, none⟩)) (.pointer (some ⟨j, 0, none⟩)) C r R L ok w2)
  case hm => kernel_rfl
  case ho => kernel_rfl
  case h0 => subst hF; exact repS_start _ b w.heap.size (.slice At L.length nt) (.pointer (some ⟨g, 0, none⟩)) (.pointer (some ⟨j, 0, none⟩)) C r R L ok w2 _ _ ⟨_, _, _, _, _, _, _, _, _, _, _, _, _, _, _, rfl⟩ (Fr.refl _ _).drew HB2.out.2
  case hstep =>
    clear hF
    intro i' o hi d a x hd hpre hI K hK
    obtain ⟨v6, v46, v47, v48, v49, v50, v51, v52, v53, v54, v55, v56, v57, v58, v59, A, c, C8, okP, rfl, hb, h0, h1, h2, h3, h4, h5, h6, h7, h8, h9, h10, h11, h12, h13, h15, hT, hD, hok, hB, k8_4, k9_8, k10_8, k14_8, k14_4, k14_10⟩ := hI
    have hlt := (Array.getElem?_eq_some_iff.1 hi).1
    rcases step_many hlt rfl with rfl | rfl | rfl | rfl | rfl | rfl | rfl | rfl | rfl | rfl | rfl | rfl | rfl | rfl | rfl | rfl
    all_goals (have ho := Option.some.inj hi; subst ho; clear hi hlt)
    · go_simp
      exact hK _ _ ⟨v6, v46, _, v48, v49, v50, v51, v52, v53, v54, v55, v56, v57, v58, v59, A, c, C8, okP, rfl, hb, fun _ => rfl, h1, h2, h3, h4, h5, h6, h7, h8, h9, h10, h11, h12, h13, h15, hT, hD, hok, hB, k8_4, k9_8, k10_8, k14_8, k14_4, k14_10⟩
    · go_simp
      exact hK _ _ ⟨v6, v46, v47, _, v49, v50, v51, v52, v53, v54, v55, v56, v57, v58, v59, A, c, C8, okP, rfl, hb, h0, fun _ => rfl, h2, h3, h4, h5, h6, h7, h8, h9, h10, h11, h12, h13, h15, hT, hD, hok, hB, k8_4, k9_8, k10_8, k14_8, k14_4, k14_10⟩
    · obtain rfl := h1 (hpre { on := 1, ground := Ground.data } (by simp) rfl)
      go_simp
      exact hK _ _ ⟨v6, v46, v47, _, _, v50, v51, v52, v53, v54, v55, v56, v57, v58, v59, A, c, C8, okP, rfl, hb, h0, h1, fun _ => rfl, h3, h4, h5, h6, h7, h8, h9, h10, h11, h12, h13, h15, hT, hD, hok, hB, k8_4, k9_8, k10_8, k14_8, k14_4, k14_10⟩
    · obtain rfl := h2 (hpre { on := 2, ground := Ground.data } (by simp) rfl)
      go_simp
      exact hK _ _ ⟨v6, v46, v47, v48, _, _, v51, v52, v53, v54, v55, v56, v57, v58, v59, A, c, C8, okP, rfl, hb, h0, h1, h2, fun _ => rfl, h4, h5, h6, h7, h8, h9, h10, h11, h12, h13, h15, hT, hD, hok, hB, k8_4, k9_8, k10_8, k14_8, k14_4, k14_10⟩
    · obtain rfl := h3 (hpre { on := 3, ground := Ground.data } (by simp) rfl)
      rw [if_neg (fun q => by have := k14_4 q; rw [hd] at this; cases this)] at hB
      refine step_plain rfl (wp_load_mid 40 (.tmp 50) rfl b 2 rfl (jc C r).toList _ (bc_range hB) Try.underlying40 rfl (by rw [Array.length_toList, HJs.out]; exact jn_info) (hK _ _ ?_))
      exact ⟨v6, v46, v47, v48, v49, _, _, v52, v53, v54, v55, v56, v57, v58, v59, A, c, C8, okP, rfl, hb, h0, h1, h2, h3, fun _ => by simp, h5, h6, h7, h8, h9, h10, h11, h12, h13, h15, hT, hD, hok, (by rw [if_neg (fun q => by have := k14_4 q; rw [hd] at this; cases this)]; exact hB), fun _ => rfl, k9_8, k10_8, k14_8, fun _ => rfl, k14_10⟩
    · go_simp
      exact hK _ _ ⟨v6, v46, v47, v48, v49, v50, v51, _, v53, v54, v55, v56, v57, v58, v59, A, c, C8, okP, rfl, hb, h0, h1, h2, h3, h4, fun _ => rfl, h6, h7, h8, h9, h10, h11, h12, h13, h15, hT, hD, hok, hB, k8_4, k9_8, k10_8, k14_8, k14_4, k14_10⟩
    · obtain rfl := h5 (hpre { on := 5, ground := Ground.data } (by simp) rfl)
      have q := (hb.cell HQ1.out Hbxb.out)
      go_simp
      exact hK _ _ ⟨v6, v46, v47, v48, v49, v50, v51, _, _, v54, v55, v56, v57, v58, v59, A, c, C8, okP, rfl, hb, h0, h1, h2, h3, h4, h5, fun _ => rfl, h7, h8, h9, h10, h11, h12, h13, h15, hT, hD, hok, hB, k8_4, k9_8, k10_8, k14_8, k14_4, k14_10⟩
    · obtain rfl := h6 (hpre { on := 6, ground := Ground.data } (by simp) rfl)
      go_simp
      refine (HTx.out x hb).mono ?_
      rintro e x2 ⟨A', c', rfl, hrd', hb2⟩
      go_simp
      exact hK _ _ ⟨v6, v46, v47, v48, v49, v50, v51, v52, _, _, v55, v56, v57, v58, v59, A', c', C8, okP, rfl, (hb.trans (Fr.of_below hb2 _)), h0, h1, h2, h3, h4, h5, h6, fun _ => rfl, h8, h9, h10, h11, h12, h13, h15, fun _ => hrd'.weaken (fun k hk => by have := hb.size; omega), fun q => (hD q).frame (fun k _ hk => hb2.block k hk), fun q k hk => ⟨(hok q k hk).1, Nat.lt_of_lt_of_le (hok q k hk).2 hb2.size⟩, hB.grow hb2, k8_4, k9_8, k10_8, k14_8, k14_4, k14_10⟩
    · obtain rfl := h4 (hpre { on := 4, ground := Ground.data } (by simp) rfl)
      obtain rfl := h7 (hpre { on := 7, ground := Ground.data } (by simp) rfl)
      go_simp
      have hdx : IsDev x ok (.agg C) D := HV.out.frame (fun k hk hl => (hb.block k hl (fun e => Hob.out k (Or.inl hk) e)).2)
      refine (HAd.out ok A c x (IsRJ.of_cells hdx r) (hT (hpre { on := 7, ground := Ground.data } (by simp) rfl))).mono ?_
      rintro e x2 ⟨v', rfl, hrj, hb2⟩
      obtain ⟨C', rfl, hdev⟩ := hrj.cells
      have hdev2 : IsDev x2 (fun k => (ok k ∨ x.heap.size ≤ k) ∧ k < x2.heap.size) (.agg C') R.1.1 := hdev.move (fun k hk hl => ⟨⟨hk, hl⟩, rfl⟩)
      go_simp
      exact hK _ _ ⟨v6, v46, v47, v48, v49, v50, _, v52, v53, _, _, v56, v57, v58, v59, A, c, C', (fun k => (ok k ∨ x.heap.size ≤ k) ∧ k < x2.heap.size), rfl, (hb.trans (Fr.of_below hb2 _)), h0, h1, h2, h3, h4, h5, h6, h7, fun _ => rfl, (fun q => by have := k9_8 q; rw [hd] at this; cases this), (fun q => by have := k10_8 q; rw [hd] at this; cases this), h11, h12, h13, h15, fun q => (hT q).grow hb2, fun _ => hdev2, fun _ k hk => ⟨hk.1.elim (fun q => Or.inl q) (fun q => Or.inr (Nat.le_trans hb.size q)), hk.2⟩, (by rw [if_neg (fun q => by have := k14_8 q; rw [hd] at this; cases this)] at hB; rw [if_neg (fun q => by have := k14_8 q; rw [hd] at this; cases this)]; exact hB.grow hb2), fun _ => (hpre { on := 4, ground := Ground.data } (by simp) rfl), fun _ => rfl, fun _ => rfl, fun _ => rfl, k14_4, k14_10⟩
    · obtain rfl := h8 (hpre { on := 8, ground := Ground.data } (by simp) rfl)
      go_simp
      exact hK _ _ ⟨v6, _, v47, v48, v49, v50, v51, v52, v53, v54, _, v56, v57, v58, v59, A, c, C8, okP, rfl, hb, h0, h1, h2, h3, h4, h5, h6, h7, h8, fun _ => rfl, h10, h11, h12, h13, h15, hT, hD, hok, hB, k8_4, fun _ => (hpre { on := 8, ground := Ground.data } (by simp) rfl), k10_8, k14_8, k14_4, k14_10⟩
    · obtain rfl := h9 (hpre { on := 9, ground := Ground.data } (by simp) rfl)
      go_simp
      exact hK _ _ ⟨v6, _, v47, v48, v49, v50, v51, v52, v53, v54, v55, _, v57, v58, v59, A, c, C8, okP, rfl, hb, h0, h1, h2, h3, h4, h5, h6, h7, h8, h9, fun _ => rfl, h11, h12, h13, h15, hT, hD, hok, hB, k8_4, k9_8, fun _ => k9_8 (hpre { on := 9, ground := Ground.data } (by simp) rfl), k14_8, k14_4, fun _ => rfl⟩
    · obtain rfl := h9 (hpre { on := 9, ground := Ground.data } (by simp) rfl)
      go_simp
      exact hK _ _ ⟨v6, _, v47, v48, v49, v50, v51, v52, v53, v54, v55, v56, _, v58, v59, A, c, C8, okP, rfl, hb, h0, h1, h2, h3, h4, h5, h6, h7, h8, h9, h10, fun _ => rfl, h12, h13, h15, hT, hD, hok, hB, k8_4, k9_8, k10_8, k14_8, k14_4, k14_10⟩
    · obtain rfl := h0 (hpre { on := 0, ground := Ground.data } (by simp) rfl)
      go_simp
      exact hK _ _ ⟨v6, v46, _, v48, v49, v50, v51, v52, v53, v54, v55, v56, v57, _, v59, A, c, C8, okP, rfl, hb, h0, h1, h2, h3, h4, h5, h6, h7, h8, h9, h10, h11, fun _ => rfl, h13, h15, hT, hD, hok, hB, k8_4, k9_8, k10_8, k14_8, k14_4, k14_10⟩
    · obtain rfl := h12 (hpre { on := 12, ground := Ground.data } (by simp) rfl)
      go_simp
      exact hK _ _ ⟨v6, v46, v47, v48, v49, v50, v51, v52, v53, v54, v55, v56, v57, _, _, A, c, C8, okP, rfl, hb, h0, h1, h2, h3, h4, h5, h6, h7, h8, h9, h10, h11, h12, fun _ => rfl, h15, hT, hD, hok, hB, k8_4, k9_8, k10_8, k14_8, k14_4, k14_10⟩
    · obtain rfl := h13 (hpre { on := 13, ground := Ground.data } (by simp) rfl)
      have d10 := (hpre { on := 10, ground := Ground.data } (by simp) rfl)
      have d8 := k10_8 d10
      obtain rfl := h10 d10
      skip
      rw [hd] at hB
      have hsz := (hD d8).size
      refine step_plain rfl (wp_store_mid 40 (.tmp 59) (.tmp 56) rfl b 2 (jc C8 R.1.2) rfl rfl (by rw [jc_size hsz.1]; exact bc_there HJs.out hB) (by rw [jc_size hsz.1]; exact jn_info) (jc_one hsz.2) (hK _ _ ?_))
      exact ⟨v6, v46, v47, v48, v49, v50, v51, v52, v53, v54, v55, _, v57, v58, _, A, c, C8, okP, rfl, (hb.setCells rfl _ _), h0, h1, h2, h3, h4, h5, h6, h7, h8, h9, h10, h11, h12, h13, h15, fun q => (hT q).frame (fun k hk _ => heap_setCells _ _ _ _ _ (fun e => by subst e; have := Hbl.out; omega)), fun q => (hD q).frame (fun k hk _ => heap_setCells _ _ _ _ _ (fun e => by subst e; exact Hob.out k (hok q k hk).1 rfl)), fun q k hk => ⟨(hok q k hk).1, by rw [size_setCells]; exact (hok q k hk).2⟩, (bc_put HJs.out (jc_size hsz.1) hB), k8_4, k9_8, k10_8, fun _ => d8, fun _ => k8_4 d8, fun _ => d10⟩
    · obtain rfl := h11 (hpre { on := 11, ground := Ground.data } (by simp) rfl)
      go_simp
      exact hK _ _ ⟨_, v46, v47, v48, v49, v50, v51, v52, v53, v54, v55, v56, _, v58, v59, A, c, C8, okP, rfl, hb, h0, h1, h2, h3, h4, h5, h6, h7, h8, h9, h10, h11, h12, h13, fun _ => rfl, hT, hD, hok, hB, k8_4, k9_8, k10_8, k14_8, k14_4, k14_10⟩
  case hend =>
    intro d a x hall hI
    obtain ⟨v6, v46, v47, v48, v49, v50, v51, v52, v53, v54, v55, v56, v57, v58, v59, A, c, C8, okP, rfl, hb, h0, h1, h2, h3, h4, h5, h6, h7, h8, h9, h10, h11, h12, h13, h15, hT, hD, hok, hB, k8_4, k9_8, k10_8, k14_8, k14_4, k14_10⟩ := hI
    rw [if_pos (hall 14 (by decide))] at hB
    obtain rfl := h15 (hall 15 (by decide))
    have dD := hD (hall 8 (by decide))
    have dok := hok (hall 8 (by decide))
    have HB9 := Lib.hid hB
    have DD := Lib.hid dD
    have DK := Lib.hid dok
    clear h0 h1 h2 h3 h4 h5 h6 h7 h8 h9 h10 h11 h12 h13 h15 hT hD hok hB k8_4 k9_8 k10_8 k14_8 k14_4 k14_10 hall dD dok
    subst hF
    dsimp only
    have hre := Hre.out
    have hee : (RA.2 == RA.2) = true := beq_self_eq_true _
    rw [Hre.out]
    have hfx := hb
    have hxs := hfx.size
    have hdx : DevAt x base G' g RA.1.2 := Hd2.out.keep (fun k hk => (hfx.block k (Hd2.out.low k hk).2 (fun e => HB2.out.1 (Or.inl (e ▸ hk)))).2) hxs
    have hsd : Sides x base G' g b (.pointer (some ⟨j, 0, none⟩)) RA.1.2 C8 R.1.2 okP := by
      refine ⟨hdx, HB9.out, by rw [← Hrd.out]; exact DD.out, fun k hk => ?_, fun h => HB2.out.1 (Or.inl h), hlow⟩
      have hk2 := DK.out k hk
      rcases hk2.1 with h | h
      · have h1 := Hap.out k h
        exact ⟨fun q => ((Hf2.out.block k (by show k < W.heap.size; have := HWs.out; omega) (fun h => h.elim h1.1 (fun e => hokj k ‹_› e))).1) (Or.inl q), h1.2.1, h1.2.2.1, hk2.2⟩
      · exact ⟨fun q => by have := (Hd2.out.low k q).2; omega, by omega, by omega, hk2.2⟩
    have hjx : JAt x j g RA.1.1 := Hj2.out.keep (hfx.block j (Blk.lt Hj2.out) (fun e => hjb e)).2
    have hL' := Hinv.out.2
    have Hsd := Lib.hid hsd
    have Hjx := Lib.hid hjx
    have Hlx := Lib.hid hL'
    have HFX := Lib.hid hfx
    clear hsd hjx hL' hdx hfx hb hre
    go_wp2_with fail
    refine (bothlike_any base G' g b j RA.1.2 C8 R.1.2 okP RA.1.1 _ Hsd.out Hjx.out Hlx.out.used (by obtain ⟨n, s, u, L0, hC, _⟩ := Hlx.out.cont; exact hC.big) Hlx.out.data Hlx.out.len Hlx.out.broken).mono ?_
    rintro e w5 ⟨rfl, hb5⟩
    go_wp2
    go_ret
    have hfx := HFX.out
    have hb5s := hb5.size
    have hxs2 := hfx.size
    refine ⟨rfl, G', j, RA.1.2, C8, RA.1.1, R.1.2, okP, Hsd.out.grow hb5, Hjx.out.grow hb5, fun q => Hgj2.out q, hjb, hbj, fun k hk => ?_, Hlx.out, Hmf.out.mono (by omega), Hml.out, fun k hk => ?_, by omega, ?_, ?_, ?_⟩
    · rcases (DK.out k hk).1 with h | h
      · exact hokj k h
      · omega
    · refine (hb5.block k (by omega)).trans (((hfx.block k (by omega) (fun e => by omega)).2).trans (HF0.out k (by omega) (fun q => by have := (Hdl.out k q).1; omega) (by omega)))
    · exact hb5.os.trans (hfx.os.trans (Hf2.out.os.trans HbW.out.os))
    · exact hb5.tape.trans (hfx.tape.trans (Hf2.out.tape.trans HbW.out.tape))
    · exact hb5.output.trans (hfx.output.trans (Hf2.out.output.trans HbW.out.output))
end Go.Proofs.Ytiaabgmmmekpnaa

namespace Go.Proofs.Ytiaabgmmmekpnaa
open Go.RowKit
set_option maxRecDepth 100000

/-- What on leaves, as a step's end. -/
theorem on_post {base : Nat} {G : Nat → Prop} {g b m n : Nat} {w w0 w' : World} {D : Dev} {J' : JM} {r' : RJ} (hb : base ≤ b) (hlt : base ≤ w.heap.size) (hG : ∀ k, G k → base ≤ k) (hL : LInv { D with off := false } J' r') (hfew : D.Few m) (hn : D.sure.length = n) (h0 : ∀ k, k < base → w.heap[k]? = w0.heap[k]?) (hs0 : w0.heap.size ≤ w.heap.size) (h1 : w.os = w0.os) (h2 : w.tape = w0.tape) (h3 : w.output = w0.output)
    (h : ∃ G' j C' ok', Sides w' base G' g b (.pointer (some ⟨j, 0, none⟩)) { D with off := false } C' r' ok' ∧ JAt w' j g J' ∧ ¬ G' j ∧ j ≠ b ∧ base ≤ j ∧ (∀ k, ok' k → k ≠ j) ∧ Fr (fun k => G k ∨ k = b) (fun k => G' k ∨ k = b) w w') : StepPost base g b m n w0 (.returned (.bool true)) w' := by
  obtain ⟨G', j, C', ok', a1, a2, a3, a4, a5, a6, hf⟩ := h
  exact ⟨rfl, G', j, _, C', J', r', ok', a1, a2, a3, a4, a5, a6, hL, hfew, hn, fun k hk => ((hf.block k (by omega) (fun q => q.elim (fun q => by have := hG k q; omega) (fun e => by omega))).2).trans (h0 k hk), Nat.le_trans hs0 hf.size, hf.os.trans h1, hf.tape.trans h2, hf.output.trans h3⟩

set_option maxHeartbeats 1000000 in
theorem step_on (base : Nat) (G : Nat → Prop) (g b j : Nat) (D : Dev) (C : Array Value) (r : RJ) (ok : Nat → Prop) (J : JM) (kd af tn hf : Int) (vt vk : Value) (w : World)
    (hs : Sides w base G g b (.pointer (some ⟨j, 0, none⟩)) D C r ok) (hI : LInv D J r) (m : Nat) (hm : m ≤ 400000) (hfew : D.Few m) (hk : (IntKind.u64.wrap kd).tmod 5 = 4) :
    Calls Try.prog 9 #[.pointer (some ⟨b, 0, none⟩), .agg #[.int .i64 kd, vt, .int .i64 af, vk, .int .i64 tn, .int .i64 hf]] w (StepPost base g b (m + 2200) D.sure.length w) := by
  obtain ⟨W, hW⟩ : ∃ W, W = w.alloc (.cells #[.int .i64 kd, vt, .int .i64 af, vk, .int .i64 tn, .int .i64 hf] 46) := ⟨_, rfl⟩
  have hbW : Below w.heap.size w W := by rw [hW]; exact (Below.refl _ _).alloc (Nat.le_refl _) _
  obtain ⟨J', L, r', hM, hR, hL, hLl⟩ := on_linv hI.cont
  have h6 : 6 ≤ D.sure.length := by obtain ⟨n, s, u, L0, hC, _⟩ := hI.cont; exact hC.big
  have hon := bothon_any base G g b _ D C r ok W (hs.grow hbW) (hfew.mono (by omega)) h6 _ J' L r' hM hR hLl
  have hlow := hs.low
  have hbs := hs.dev.size
  have hG : ∀ k, G k → base ≤ k := fun k hk => (hs.dev.low k hk).1
  have Hon := Lib.hid hon
  have HW := Lib.hid hW
  have HbW := Lib.hid hbW
  have HL := Lib.hid hL
  have Hfew := Lib.hid hfew
  have HG := Lib.hid hG
  clear hon hW hbW hL hs hI hM hR hLl hfew hG
  go_enter Try.func9, Try.ntmps9
  go_upto_region 3 with fail
  rw [← HW.out]
  go_wp2_with fail
  refine Hon.out.mono ?_
  rintro e w3 ⟨rfl, h3⟩
  go_wp2
  go_ret
  exact on_post hlow (by have := HbW.out.size; omega) HG.out HL.out (Hfew.out.mono (by omega)) rfl (fun k hk => HbW.out.block k (by omega)) HbW.out.size HbW.out.os HbW.out.tape HbW.out.output h3
end Go.Proofs.Ytiaabgmmmekpnaa

namespace Go.Proofs.Ytiaabgmmmekpnaa
open Go.RowKit
set_option maxRecDepth 100000

/-- What stands while the document's device is cut, whatever has been done of it. -/
def cutQ (F : Nat → Value) (b bx : Nat) (vk PG PJ : Value) (tn hf : Int) (C : Array Value) (r : RJ) (D2 : Dev) (ok : Nat → Prop) (Y : World) (d : Nat → Bool) (a : Act) (x : World) : Prop :=
  ∃ (v69 v70 v71 v72 v73 v74 v75 v76 v77 v78 v79 v80 : Value) (C8 : Array Value) (okP : Nat → Prop), a = ⟨#[.pointer (some ⟨b, 0, none⟩), (F 1), (F 2), .pointer (some ⟨bx, 0, none⟩), (F 4), (F 5), (F 6), (F 7), (F 8), (F 9), (F 10), (F 11), (F 12), (F 13), (F 14), (F 15), (F 16), (F 17), (F 18), (F 19), (F 20), (F 21), (F 22), (F 23), (F 24), (F 25), (F 26), (F 27), (F 28), (F 29), (F 30), (F 31), (F 32), (F 33), (F 34), (F 35), (F 36), (F 37), (F 38), (F 39), (F 40), (F 41), (F 42), (F 43), (F 44), (F 45), (F 46), (F 47), (F 48), (F 49), (F 50), (F 51), (F 52), (F 53), (F 54), (F 55), (F 56), (F 57), (F 58), (F 59), (F 60), (F 61), (F 62), (F 63), (F 64), (F 65), (F 66), (F 67), (F 68), v69, v70, v71, v72, v73, v74, v75, v76, v77, v78, v79, v80, (F 81), (F 82), (F 83), (F 84), (F 85), (F 86), (F 87), (F 88), (F 89), (F 90), (F 91), (F 92), (F 93), (F 94), (F 95), (F 96), (F 97), (F 98), (F 99), (F 100), (F 101), (F 102), (F 103), (F 104), (F 105), (F 106), (F 107), (F 108), (F 109), (F 110), (F 111), (F 112), (F 113), (F 114), (F 115), (F 116), (F 117)], []⟩ ∧ Fr (· = b) (· = b) Y x ∧
    (d 0 = true → v69 = .pointer (some ⟨b, 0, none⟩)) ∧
    (d 1 = true → v70 = .pointer (some ⟨b, 0, none⟩)) ∧
    (d 2 = true → v71 = .pointer (some ⟨b, 0, none⟩)) ∧
    (d 3 = true → v72 = .pointer (some ⟨b, 2, none⟩)) ∧
    (d 4 = true → v73 = .pointer (some ⟨b, 2, none⟩)) ∧
    (d 5 = true → v74 = .agg C) ∧
    (d 6 = true → v75 = .pointer (some ⟨bx, 3, none⟩)) ∧
    (d 7 = true → v76 = .agg #[vk, .int .i64 tn, .int .i64 hf]) ∧
    (d 8 = true → v77 = .agg C8) ∧
    (d 9 = true → v78 = .pointer (some ⟨b, 0, none⟩)) ∧
    (d 10 = true → v79 = .pointer (some ⟨b, 2, none⟩)) ∧
    (d 11 = true → v80 = .pointer (some ⟨b, 2, none⟩)) ∧
    (d 8 = true → IsDev x okP (.agg C8) D2) ∧
    (d 8 = true → ∀ k, okP k → (ok k ∨ Y.heap.size ≤ k) ∧ k < x.heap.size) ∧
    (Blk x b 43 (bc PG PJ (jc (if d 12 = true then C8 else C) r))) ∧
    (d 8 = true → d 5 = true) ∧
    (d 12 = true → d 8 = true) ∧
    (d 12 = true → d 5 = true)
theorem cutQ_start (F : Nat → Value) (b bx : Nat) (vk PG PJ : Value) (tn hf : Int) (C : Array Value) (r : RJ) (D2 : Dev) (ok : Nat → Prop) (Y : World) (a : Act) (x : World) (ha : ∃ v69 v70 v71 v72 v73 v74 v75 v76 v77 v78 v79 v80, a = ⟨#[.pointer (some ⟨b, 0, none⟩), (F 1), (F 2), .pointer (some ⟨bx, 0, none⟩), (F 4), (F 5), (F 6), (F 7), (F 8), (F 9), (F 10), (F 11), (F 12), (F 13), (F 14), (F 15), (F 16), (F 17), (F 18), (F 19), (F 20), (F 21), (F 22), (F 23), (F 24), (F 25), (F 26), (F 27), (F 28), (F 29), (F 30), (F 31), (F 32), (F 33), (F 34), (F 35), (F 36), (F 37), (F 38), (F 39), (F 40), (F 41), (F 42), (F 43), (F 44), (F 45), (F 46), (F 47), (F 48), (F 49), (F 50), (F 51), (F 52), (F 53), (F 54), (F 55), (F 56), (F 57), (F 58), (F 59), (F 60), (F 61), (F 62), (F 63), (F 64), (F 65), (F 66), (F 67), (F 68), v69, v70, v71, v72, v73, v74, v75, v76, v77, v78, v79, v80, (F 81), (F 82), (F 83), (F 84), (F 85), (F 86), (F 87), (F 88), (F 89), (F 90), (F 91), (F 92), (F 93), (F 94), (F 95), (F 96), (F 97), (F 98), (F 99), (F 100), (F 101), (F 102), (F 103), (F 104), (F 105), (F 106), (F 107), (F 108), (F 109), (F 110), (F 111), (F 112), (F 113), (F 114), (F 115), (F 116), (F 117)], []⟩) (hb : Fr (· = b) (· = b) Y x) (hB : Blk x b 43 (bc PG PJ (jc C r))) : cutQ F b bx vk PG PJ tn hf C r D2 ok Y (fun _ => false) a x := by
  obtain ⟨v69, v70, v71, v72, v73, v74, v75, v76, v77, v78, v79, v80, rfl⟩ := ha
  exact ⟨v69, v70, v71, v72, v73, v74, v75, v76, v77, v78, v79, v80, #[], fun _ => False, rfl, hb, (fun q => by cases q), (fun q => by cases q), (fun q => by cases q), (fun q => by cases q), (fun q => by cases q), (fun q => by cases q), (fun q => by cases q), (fun q => by cases q), (fun q => by cases q), (fun q => by cases q), (fun q => by cases q), (fun q => by cases q), (fun q => by cases q), (fun q => by cases q), hB, (fun q => by cases q), (fun q => by cases q), (fun q => by cases q)⟩
theorem cut_many {k n : Nat} (h : k < n) (hn : n = 13) : k = 0 ∨ k = 1 ∨ k = 2 ∨ k = 3 ∨ k = 4 ∨ k = 5 ∨ k = 6 ∨ k = 7 ∨ k = 8 ∨ k = 9 ∨ k = 10 ∨ k = 11 ∨ k = 12 := by omega

set_option maxHeartbeats 4000000 in
theorem step_cut (base : Nat) (G : Nat → Prop) (g b j : Nat) (D : Dev) (C : Array Value) (r : RJ) (ok okS : Nat → Prop) (J : JM) (kd af : Int) (c : Choice) (vt : Value) (Ak : Option Addr) (nk : Nat) (w : World)
    (hs : Sides w base G g b (.pointer (some ⟨j, 0, none⟩)) D C r ok) (hj : JAt w j g J) (hgj : ¬ G j) (hjb : j ≠ b) (hbj : base ≤ j) (hI : LInv D J r) (m : Nat) (hm : m ≤ 400000) (hfew : D.Few m)
    (hv : IsL (kInt .i64) w okS (.slice Ak c.kept.length nk) c.kept) (hS : ∀ k, okS k → k < base) (hk : (IntKind.u64.wrap kd).tmod 5 = 2) :
    Calls Try.prog 9 #[.pointer (some ⟨b, 0, none⟩), .agg #[.int .i64 kd, vt, .int .i64 af, .slice Ak c.kept.length nk, .int .i64 c.torn, .int .i64 c.half]] w (StepPost base g b (m + 2200) D.sure.length w) := by
  obtain ⟨hdev, hblk, href, hap, hgb, hlow⟩ := hs
  have hCs := href.size
  have hJs : (jc C r).size = 13 := jc_size hCs.1
  have hlen := hdev.lens
  have hwf := hdev.wf
  have hdl := hdev.low
  have hbs := hdev.size
  obtain ⟨W, hW⟩ : ∃ W, W = w.alloc (.cells #[.int .i64 kd, vt, .int .i64 af, .slice Ak c.kept.length nk, .int .i64 c.torn, .int .i64 c.half] 46) := ⟨_, rfl⟩
  have hbW : Below w.heap.size w W := by rw [hW]; exact (Below.refl _ _).alloc (Nat.le_refl _) _
  have hWs : W.heap.size = w.heap.size + 1 := by rw [hW]; simp
  have hbx : Blk W w.heap.size 46 #[.int .i64 kd, vt, .int .i64 af, .slice Ak c.kept.length nk, .int .i64 c.torn, .int .i64 c.half] := by rw [hW]; exact Blk.new w _ _
  have hbl := hblk.lt
  have hb1 := hblk.grow hbW
  have hp0 : W.cell? ⟨b, 0, none⟩ = some (.pointer (some ⟨g, 0, none⟩)) := by rw [hb1.cell]; rfl
  have hp2 : W.cell? ⟨w.heap.size, 2, none⟩ = some (.int .i64 af) := by rw [hbx.cell]; rfl
  have hp3 : W.cell? ⟨w.heap.size, 3, none⟩ = some (.slice Ak c.kept.length nk) := by rw [hbx.cell]; rfl
  have hp4 : W.cell? ⟨w.heap.size, 4, none⟩ = some (.int .i64 c.torn) := by rw [hbx.cell]; rfl
  have hp5 : W.cell? ⟨w.heap.size, 5, none⟩ = some (.int .i64 c.half) := by rw [hbx.cell]; rfl
  have hd1 := hdev.grow hbW
  have hj1 := hj.grow hbW
  have hv1 := hv.grow hbW
  have hjl := Blk.lt hj
  have HW := Lib.hid hW
  have HbW := Lib.hid hbW
  have HWs := Lib.hid hWs
  have Hbx := Lib.hid hbx
  have Hb1 := Lib.hid hb1
  have Hd1 := Lib.hid hd1
  have Hj1 := Lib.hid hj1
  have Hv1 := Lib.hid hv1
  have Href := Lib.hid href
  have Hap := Lib.hid hap
  have Hgb := Lib.hid hgb
  have HCs := Lib.hid hCs
  have HJs := Lib.hid hJs
  have HI := Lib.hid hI
  have Hfew := Lib.hid hfew
  have Hwf := Lib.hid hwf
  have Hdl := Lib.hid hdl
  have HS := Lib.hid hS
  have Hlen := Lib.hid hlen
  clear hdev hblk href hap hgb hCs hJs hwf hdl hW hbW hWs hbx hb1 hd1 hj1 hv1 hI hfew hv hS hj hlen
  go_enter Try.func9, Try.ntmps9
  go_upto_region 11 with fail
  rw [← HW.out]
  go_still_tail 6, (by kernel_rfl)
  change wpList _ _ _ _ _ W.drew
  go_wp2_with fail
  refine (cut_any base G g D okS _ c W.drew (Hd1.out.keep (fun _ _ => rfl) (Nat.le_refl _)) (Hv1.out.move (fun k hk _ => ⟨hk, rfl⟩)) (by have := Hfew.out.1; omega)).mono ?_
  rintro e w2 ⟨rfl, hd2, hf2⟩
  obtain ⟨G2, hG2⟩ : ∃ G2, G2 = G := ⟨_, rfl⟩
  rw [← hG2] at hd2
  have hf2' : Fr G G2 W.drew w2 := by rw [hG2]; exact hf2
  have hf2 := hf2'
  clear hf2' hG2
  have hF0 : ∀ k, k < w.heap.size → ¬ G k → w2.heap[k]? = w.heap[k]? := fun k hk h1 => ((hf2.block k (by show k < W.heap.size; have := HWs.out; omega) h1).2).trans (HbW.out.block k hk)
  have hxb : Blk w2 w.heap.size 46 _ := (hf2.blk (show Blk W.drew w.heap.size 46 _ from Hbx.out) (fun q => by have := (Hdl.out _ q).2; omega)).2
  have hq3 : w2.cell? ⟨w.heap.size, 3, none⟩ = some (.slice Ak c.kept.length nk) := by rw [hxb.cell]; rfl
  have hq4 : w2.cell? ⟨w.heap.size, 4, none⟩ = some (.int .i64 c.torn) := by rw [hxb.cell]; rfl
  have hq5 : w2.cell? ⟨w.heap.size, 5, none⟩ = some (.int .i64 c.half) := by rw [hxb.cell]; rfl
  have hbxb : ¬ w.heap.size = b := by omega
  have hb2 : ¬ G2 b ∧ Blk w2 b 43 _ := hf2.blk (show Blk W.drew b 43 _ from Hb1.out) Hgb.out
  obtain ⟨ok2, hok2⟩ : ∃ ok2 : Nat → Prop, ok2 = fun k => ok k ∨ k < base := ⟨_, rfl⟩
  have hr2 : IsDev w2 ok2 (.agg C) D := Href.out.move (fun k hk hl => ⟨by rw [hok2]; exact Or.inl hk, hF0 k hl (Hap.out k hk).1⟩)
  have hs2 : w.heap.size < w2.heap.size := by have h1 := hf2.size; have h2 := HWs.out; have h3 : W.drew.heap.size = W.heap.size := rfl; omega
  have hsb : IsL (kInt .i64) w2 (fun k => k < base) (.slice Ak c.kept.length nk) c.kept := Hv1.out.move (fun k hk hl => ⟨HS.out k hk, (hf2.block k hl (fun q => by have h1 := (Hdl.out _ q).1; have h2 := HS.out k hk; omega)).2⟩)
  have had : ∀ x, Fr (· = b) (· = b) w2 x → IsDev x ok2 (.agg C) D → Calls Try.prog 24 #[.agg C, .agg #[.slice Ak c.kept.length nk, .int .i64 c.torn, .int .i64 c.half]] x fun e w' => ∃ v', e = .returned v' ∧ IsDev w' (fun k => ok2 k ∨ x.heap.size ≤ k) v' (D.cut c) ∧ Below x.heap.size x w' := fun x hx hdx => by
    have hle := Hlen.out
    have hf := Hfew.out
    have hc : IsC x ok2 (.agg #[.slice Ak c.kept.length nk, .int .i64 c.torn, .int .i64 c.half]) c := ⟨_, rfl, hsb.move (fun k hk hl => ⟨by rw [hok2]; exact Or.inr hk, (hx.block k hl (fun e => by omega)).2⟩)⟩
    exact refcut_any ok2 _ D _ c x hdx hc Hwf.out (by omega) (by have := hf.1; omega)
  have hob : ∀ k, (ok2 k ∨ w2.heap.size ≤ k) → k ≠ b := fun k hk => by
    rw [hok2] at hk
    rcases hk with (h | h) | h
    · exact (Hap.out k h).2.1
    · omega
    · omega
  have Hok2 := Lib.hid hok2
  clear hok2
  have hj2 : JAt w2 j g J := Hj1.out.keep (hf2.block j (by show j < W.heap.size; have := HWs.out; omega) hgj).2
  have hgj2 : ¬ G2 j := (hf2.block j (by show j < W.heap.size; have := HWs.out; omega) hgj).1
  have HB2 := Lib.hid hb2
  have HQ3 := Lib.hid hq3
  have HQ4 := Lib.hid hq4
  have HQ5 := Lib.hid hq5
  have Hbxb := Lib.hid hbxb
  have HV := Lib.hid hr2
  have HAd := Lib.hid had
  have Hob := Lib.hid hob
  have Hd2 := Lib.hid hd2
  have Hj2 := Lib.hid hj2
  have Hgj2 := Lib.hid hgj2
  have Hf2 := Lib.hid hf2
  have HF0 := Lib.hid hF0
  clear hb2 hq3 hq4 hq5 hbxb hr2 had hob hd2 hj2 hgj2 hf2 hF0 hxb hsb hp0 hp2 hp3 hp4 hp5
  go_upto_region 12 with fail
  refine wp_frame118 rfl rfl (fun F hF => ?_)
  apply wp_region_inv (I := cutQ F b w.heap.size (.slice Ak c.kept.length nk) (.pointer (some ⟨g, 0, none⟩)) (.pointer (some ⟨j, 0, none⟩)) c.torn c.half C r (D.cut c) ok2 w2)
  case hm => kernel_rfl
  case ho => kernel_rfl
  case h0 => subst hF; exact cutQ_start _ b w.heap.size (.slice Ak c.kept.length nk) (.pointer (some ⟨g, 0, none⟩)) (.pointer (some ⟨j, 0, none⟩)) c.torn c.half C r (D.cut c) ok2 w2 _ _ ⟨_, _, _, _, _, _, _, _, _, _, _, _, rfl⟩ (Fr.refl _ _).drew HB2.out.2
  case hstep =>
    clear hF
    intro i' o hi d a x hd hpre hI K hK
    obtain ⟨v69, v70, v71, v72, v73, v74, v75, v76, v77, v78, v79, v80, C8, okP, rfl, hb, h0, h1, h2, h3, h4, h5, h6, h7, h8, h9, h10, h11, hD, hok, hB, k8_5, k12_8, k12_5⟩ := hI
    have hlt := (Array.getElem?_eq_some_iff.1 hi).1
    rcases cut_many hlt rfl with rfl | rfl | rfl | rfl | rfl | rfl | rfl | rfl | rfl | rfl | rfl | rfl | rfl
    all_goals (have ho := Option.some.inj hi; subst ho; clear hi hlt)
    · go_simp
      exact hK _ _ ⟨_, v70, v71, v72, v73, v74, v75, v76, v77, v78, v79, v80, C8, okP, rfl, hb, fun _ => rfl, h1, h2, h3, h4, h5, h6, h7, h8, h9, h10, h11, hD, hok, hB, k8_5, k12_8, k12_5⟩
    · go_simp
      exact hK _ _ ⟨v69, _, v71, v72, v73, v74, v75, v76, v77, v78, v79, v80, C8, okP, rfl, hb, h0, fun _ => rfl, h2, h3, h4, h5, h6, h7, h8, h9, h10, h11, hD, hok, hB, k8_5, k12_8, k12_5⟩
    · obtain rfl := h1 (hpre { on := 1, ground := Ground.data } (by simp) rfl)
      go_simp
      exact hK _ _ ⟨v69, _, _, v72, v73, v74, v75, v76, v77, v78, v79, v80, C8, okP, rfl, hb, h0, h1, fun _ => rfl, h3, h4, h5, h6, h7, h8, h9, h10, h11, hD, hok, hB, k8_5, k12_8, k12_5⟩
    · obtain rfl := h2 (hpre { on := 2, ground := Ground.data } (by simp) rfl)
      go_simp
      exact hK _ _ ⟨v69, v70, _, _, v73, v74, v75, v76, v77, v78, v79, v80, C8, okP, rfl, hb, h0, h1, h2, fun _ => rfl, h4, h5, h6, h7, h8, h9, h10, h11, hD, hok, hB, k8_5, k12_8, k12_5⟩
    · obtain rfl := h3 (hpre { on := 3, ground := Ground.data } (by simp) rfl)
      go_simp
      exact hK _ _ ⟨v69, v70, v71, _, _, v74, v75, v76, v77, v78, v79, v80, C8, okP, rfl, hb, h0, h1, h2, h3, fun _ => rfl, h5, h6, h7, h8, h9, h10, h11, hD, hok, hB, k8_5, k12_8, k12_5⟩
    · obtain rfl := h4 (hpre { on := 4, ground := Ground.data } (by simp) rfl)
      rw [if_neg (fun q => by have := k12_5 q; rw [hd] at this; cases this)] at hB
      refine step_plain rfl (wp_load_mid 36 (.tmp 73) rfl b 2 rfl C.toList _ (bc_rangeD hB) Try.underlying36 rfl (by rw [Array.length_toList, HCs.out.1]; exact dev_info) (hK _ _ ?_))
      exact ⟨v69, v70, v71, v72, _, _, v75, v76, v77, v78, v79, v80, C8, okP, rfl, hb, h0, h1, h2, h3, h4, fun _ => by simp, h6, h7, h8, h9, h10, h11, hD, hok, (by rw [if_neg (fun q => by have := k12_5 q; rw [hd] at this; cases this)]; exact hB), fun _ => rfl, k12_8, fun _ => rfl⟩
    · go_simp
      exact hK _ _ ⟨v69, v70, v71, v72, v73, v74, _, v76, v77, v78, v79, v80, C8, okP, rfl, hb, h0, h1, h2, h3, h4, h5, fun _ => rfl, h7, h8, h9, h10, h11, hD, hok, hB, k8_5, k12_8, k12_5⟩
    · obtain rfl := h6 (hpre { on := 6, ground := Ground.data } (by simp) rfl)
      have q3 := hb.cell HQ3.out Hbxb.out
      have q4 := hb.cell HQ4.out Hbxb.out
      have q5 := hb.cell HQ5.out Hbxb.out
      go_simp
      exact hK _ _ ⟨v69, v70, v71, v72, v73, v74, _, _, v77, v78, v79, v80, C8, okP, rfl, hb, h0, h1, h2, h3, h4, h5, h6, fun _ => rfl, h8, h9, h10, h11, hD, hok, hB, k8_5, k12_8, k12_5⟩
    · obtain rfl := h5 (hpre { on := 5, ground := Ground.data } (by simp) rfl)
      obtain rfl := h7 (hpre { on := 7, ground := Ground.data } (by simp) rfl)
      go_simp
      have hdx : IsDev x ok2 (.agg C) D := HV.out.frame (fun k hk hl => (hb.block k hl (fun e => Hob.out k (Or.inl hk) e)).2)
      refine (HAd.out x hb hdx).mono ?_
      rintro e x2 ⟨v', rfl, hdev, hb2⟩
      obtain ⟨C', rfl⟩ : ∃ C' : Array Value, v' = .agg C' := by obtain ⟨_, _, _, _, _, _, e, _⟩ := hdev; exact ⟨_, e⟩
      have hdev2 : IsDev x2 (fun k => (ok2 k ∨ x.heap.size ≤ k) ∧ k < x2.heap.size) (.agg C') (D.cut c) := hdev.move (fun k hk hl => ⟨⟨hk, hl⟩, rfl⟩)
      go_simp
      exact hK _ _ ⟨v69, v70, v71, v72, v73, _, v75, _, _, v78, v79, v80, C', (fun k => (ok2 k ∨ x.heap.size ≤ k) ∧ k < x2.heap.size), rfl, (hb.trans (Fr.of_below hb2 _)), h0, h1, h2, h3, h4, h5, h6, h7, fun _ => rfl, h9, h10, h11, fun _ => hdev2, fun _ k hk => ⟨hk.1.elim (fun q => Or.inl q) (fun q => Or.inr (Nat.le_trans hb.size q)), hk.2⟩, (by rw [if_neg (fun q => by have := k12_8 q; rw [hd] at this; cases this)] at hB; rw [if_neg (fun q => by have := k12_8 q; rw [hd] at this; cases this)]; exact hB.grow hb2), fun _ => (hpre { on := 5, ground := Ground.data } (by simp) rfl), fun _ => rfl, k12_5⟩
    · obtain rfl := h0 (hpre { on := 0, ground := Ground.data } (by simp) rfl)
      go_simp
      exact hK _ _ ⟨_, v70, v71, v72, v73, v74, v75, v76, v77, _, v79, v80, C8, okP, rfl, hb, h0, h1, h2, h3, h4, h5, h6, h7, h8, fun _ => rfl, h10, h11, hD, hok, hB, k8_5, k12_8, k12_5⟩
    · obtain rfl := h9 (hpre { on := 9, ground := Ground.data } (by simp) rfl)
      go_simp
      exact hK _ _ ⟨v69, v70, v71, v72, v73, v74, v75, v76, v77, _, _, v80, C8, okP, rfl, hb, h0, h1, h2, h3, h4, h5, h6, h7, h8, h9, fun _ => rfl, h11, hD, hok, hB, k8_5, k12_8, k12_5⟩
    · obtain rfl := h10 (hpre { on := 10, ground := Ground.data } (by simp) rfl)
      go_simp
      exact hK _ _ ⟨v69, v70, v71, v72, v73, v74, v75, v76, v77, v78, _, _, C8, okP, rfl, hb, h0, h1, h2, h3, h4, h5, h6, h7, h8, h9, h10, fun _ => rfl, hD, hok, hB, k8_5, k12_8, k12_5⟩
    · obtain rfl := h11 (hpre { on := 11, ground := Ground.data } (by simp) rfl)
      have d8 := (hpre { on := 8, ground := Ground.data } (by simp) rfl)
      obtain rfl := h8 d8
      have d5 := k8_5 d8
      rw [hd] at hB
      have hsz := (hD d8).size
      refine step_plain rfl (wp_store_mid 36 (.tmp 80) (.tmp 77) rfl b 2 C8 rfl rfl (by rw [hsz.1]; exact bc_thereD HJs.out hB) (by rw [hsz.1]; exact dev_info) hsz.2 (hK _ _ ?_))
      exact ⟨v69, v70, v71, v72, v73, v74, v75, v76, _, v78, v79, _, C8, okP, rfl, (hb.setCells rfl _ _), h0, h1, h2, h3, h4, h5, h6, h7, h8, h9, h10, h11, fun q => (hD q).frame (fun k hk _ => heap_setCells _ _ _ _ _ (fun e => by subst e; exact Hob.out k (hok q k hk).1 rfl)), fun q k hk => ⟨(hok q k hk).1, by rw [size_setCells]; exact (hok q k hk).2⟩, (bc_putD HCs.out.1 hsz.1 hB), k8_5, fun _ => d8, fun _ => d5⟩
  case hend =>
    intro d a x hall hI
    obtain ⟨v69, v70, v71, v72, v73, v74, v75, v76, v77, v78, v79, v80, C8, okP, rfl, hb, h0, h1, h2, h3, h4, h5, h6, h7, h8, h9, h10, h11, hD, hok, hB, k8_5, k12_8, k12_5⟩ := hI
    rw [if_pos (hall 12 (by decide))] at hB
    have dD := hD (hall 8 (by decide))
    have dok := hok (hall 8 (by decide))
    have HB9 := Lib.hid hB
    have DD := Lib.hid dD
    have DK := Lib.hid dok
    clear h0 h1 h2 h3 h4 h5 h6 h7 h8 h9 h10 h11 hD hok hB k8_5 k12_8 k12_5 hall dD dok
    subst hF
    dsimp only
    have hfx := hb
    have hxs := hfx.size
    have hdx : DevAt x base G2 g (D.cut c) := Hd2.out.keep (fun k hk => (hfx.block k (Hd2.out.low k hk).2 (fun e => HB2.out.1 (e ▸ hk))).2) hxs
    have hsd : Sides x base G2 g b (.pointer (some ⟨j, 0, none⟩)) (D.cut c) C8 r okP := by
      refine ⟨hdx, HB9.out, DD.out, fun k hk => ?_, HB2.out.1, hlow⟩
      have hk2 := DK.out k hk
      have hk3 := hk2.1
      rw [Hok2.out] at hk3
      rcases hk3 with (h | h) | h
      · have h1 := Hap.out k h
        exact ⟨(Hf2.out.block k (by show k < W.heap.size; have := HWs.out; omega) h1.1).1, h1.2.1, h1.2.2.1, hk2.2⟩
      · exact ⟨fun q => by have := (Hd2.out.low k q).1; omega, by omega, by omega, hk2.2⟩
      · exact ⟨fun q => by have := (Hd2.out.low k q).2; omega, by omega, by omega, hk2.2⟩
    have hjx : JAt x j g J := Hj2.out.keep (hfx.block j (Blk.lt Hj2.out) (fun e => hjb e)).2
    have h0 : ∀ k, k < base → x.heap[k]? = w.heap[k]? := fun k hk => ((hfx.block k (by omega) (fun e => by omega)).2).trans (HF0.out k (by omega) (fun q => by have := (Hdl.out k q).1; omega))
    have Hsd := Lib.hid hsd
    have Hjx := Lib.hid hjx
    have HFX := Lib.hid hfx
    have H0 := Lib.hid h0
    clear hsd hjx hdx hfx hb h0
    have hC2 : ∃ n s u L, Cont (D.cut c) n s u (recsB L) ∧ fewLong L := by
      obtain ⟨n, s, u, L0, hC, hl⟩ := HI.out.cont
      exact ⟨n, s, u, L0, hC.cut_ c, hl⟩
    obtain ⟨J', L', r', hM, hR, hL, hLl⟩ := on_linv hC2
    have h6 : 6 ≤ (D.cut c).sure.length := by obtain ⟨n, s, u, L0, hC, _⟩ := hC2; exact hC.big
    have hfc : (D.cut c).Few m := cut_few Hfew.out c
    have hcl : (D.cut c).sure.length = D.sure.length := cut_length D c
    have hon := bothon_any base G2 g b _ (D.cut c) C8 r okP x Hsd.out (hfc.mono (by omega)) h6 _ J' L' r' hM hR hLl
    have Hon := Lib.hid hon
    have HL := Lib.hid hL
    have Hfc := Lib.hid hfc
    have Hcl := Lib.hid hcl
    clear hon hM hR hL hC2 hfc hcl
    go_wp2_with fail
    refine Hon.out.mono ?_
    rintro e w5 ⟨rfl, h5⟩
    go_wp2
    go_ret
    exact on_post hlow (by omega) (fun k hk => (Hd2.out.low k hk).1) HL.out (Hfc.out.mono (by omega)) Hcl.out H0.out (by omega) (HFX.out.os.trans (Hf2.out.os.trans HbW.out.os)) (HFX.out.tape.trans (Hf2.out.tape.trans HbW.out.tape)) (HFX.out.output.trans (Hf2.out.output.trans HbW.out.output)) h5
end Go.Proofs.Ytiaabgmmmekpnaa

namespace Go.Proofs.Ytiaabgmmmekpnaa
open Go.RowKit
set_option maxRecDepth 100000

/-- What stands while the document's device is plan, whatever has been done of it. -/
def planQ (F : Nat → Value) (b bx : Nat) (vk PG PJ : Value) (tn hf AF : Int) (C : Array Value) (r : RJ) (D2 : Dev) (ok : Nat → Prop) (Y : World) (d : Nat → Bool) (a : Act) (x : World) : Prop :=
  ∃ (v98 v99 v100 v101 v102 v103 v104 v105 v106 v107 v108 v109 v110 : Value) (C8 : Array Value) (okP : Nat → Prop), a = ⟨#[.pointer (some ⟨b, 0, none⟩), (F 1), (F 2), .pointer (some ⟨bx, 0, none⟩), (F 4), (F 5), (F 6), .int .i64 AF, (F 8), (F 9), (F 10), (F 11), (F 12), (F 13), (F 14), (F 15), (F 16), (F 17), (F 18), (F 19), (F 20), (F 21), (F 22), (F 23), (F 24), (F 25), (F 26), (F 27), (F 28), (F 29), (F 30), (F 31), (F 32), (F 33), (F 34), (F 35), (F 36), (F 37), (F 38), (F 39), (F 40), (F 41), (F 42), (F 43), (F 44), (F 45), (F 46), (F 47), (F 48), (F 49), (F 50), (F 51), (F 52), (F 53), (F 54), (F 55), (F 56), (F 57), (F 58), (F 59), (F 60), (F 61), (F 62), (F 63), (F 64), (F 65), (F 66), (F 67), (F 68), (F 69), (F 70), (F 71), (F 72), (F 73), (F 74), (F 75), (F 76), (F 77), (F 78), (F 79), (F 80), (F 81), (F 82), (F 83), (F 84), (F 85), (F 86), (F 87), (F 88), (F 89), (F 90), (F 91), (F 92), (F 93), (F 94), (F 95), (F 96), (F 97), v98, v99, v100, v101, v102, v103, v104, v105, v106, v107, v108, v109, v110, (F 111), (F 112), (F 113), (F 114), (F 115), (F 116), (F 117)], []⟩ ∧ Fr (· = b) (· = b) Y x ∧
    (d 0 = true → v98 = .pointer (some ⟨b, 0, none⟩)) ∧
    (d 1 = true → v99 = .pointer (some ⟨b, 0, none⟩)) ∧
    (d 2 = true → v100 = .pointer (some ⟨b, 0, none⟩)) ∧
    (d 3 = true → v101 = .pointer (some ⟨b, 2, none⟩)) ∧
    (d 4 = true → v102 = .pointer (some ⟨b, 2, none⟩)) ∧
    (d 5 = true → v103 = .agg C) ∧
    (d 6 = true → v104 = .int .i64 AF) ∧
    (d 7 = true → v105 = .pointer (some ⟨bx, 3, none⟩)) ∧
    (d 8 = true → v106 = .agg #[vk, .int .i64 tn, .int .i64 hf]) ∧
    (d 9 = true → v107 = .agg C8) ∧
    (d 10 = true → v108 = .pointer (some ⟨b, 0, none⟩)) ∧
    (d 11 = true → v109 = .pointer (some ⟨b, 2, none⟩)) ∧
    (d 12 = true → v110 = .pointer (some ⟨b, 2, none⟩)) ∧
    (d 9 = true → IsDev x okP (.agg C8) D2) ∧
    (d 9 = true → ∀ k, okP k → (ok k ∨ Y.heap.size ≤ k) ∧ k < x.heap.size) ∧
    (Blk x b 43 (bc PG PJ (jc (if d 13 = true then C8 else C) r))) ∧
    (d 9 = true → d 5 = true) ∧
    (d 13 = true → d 9 = true) ∧
    (d 13 = true → d 5 = true)
theorem planQ_start (F : Nat → Value) (b bx : Nat) (vk PG PJ : Value) (tn hf AF : Int) (C : Array Value) (r : RJ) (D2 : Dev) (ok : Nat → Prop) (Y : World) (a : Act) (x : World) (ha : ∃ v98 v99 v100 v101 v102 v103 v104 v105 v106 v107 v108 v109 v110, a = ⟨#[.pointer (some ⟨b, 0, none⟩), (F 1), (F 2), .pointer (some ⟨bx, 0, none⟩), (F 4), (F 5), (F 6), .int .i64 AF, (F 8), (F 9), (F 10), (F 11), (F 12), (F 13), (F 14), (F 15), (F 16), (F 17), (F 18), (F 19), (F 20), (F 21), (F 22), (F 23), (F 24), (F 25), (F 26), (F 27), (F 28), (F 29), (F 30), (F 31), (F 32), (F 33), (F 34), (F 35), (F 36), (F 37), (F 38), (F 39), (F 40), (F 41), (F 42), (F 43), (F 44), (F 45), (F 46), (F 47), (F 48), (F 49), (F 50), (F 51), (F 52), (F 53), (F 54), (F 55), (F 56), (F 57), (F 58), (F 59), (F 60), (F 61), (F 62), (F 63), (F 64), (F 65), (F 66), (F 67), (F 68), (F 69), (F 70), (F 71), (F 72), (F 73), (F 74), (F 75), (F 76), (F 77), (F 78), (F 79), (F 80), (F 81), (F 82), (F 83), (F 84), (F 85), (F 86), (F 87), (F 88), (F 89), (F 90), (F 91), (F 92), (F 93), (F 94), (F 95), (F 96), (F 97), v98, v99, v100, v101, v102, v103, v104, v105, v106, v107, v108, v109, v110, (F 111), (F 112), (F 113), (F 114), (F 115), (F 116), (F 117)], []⟩) (hb : Fr (· = b) (· = b) Y x) (hB : Blk x b 43 (bc PG PJ (jc C r))) : planQ F b bx vk PG PJ tn hf AF C r D2 ok Y (fun _ => false) a x := by
  obtain ⟨v98, v99, v100, v101, v102, v103, v104, v105, v106, v107, v108, v109, v110, rfl⟩ := ha
  exact ⟨v98, v99, v100, v101, v102, v103, v104, v105, v106, v107, v108, v109, v110, #[], fun _ => False, rfl, hb, (fun q => by cases q), (fun q => by cases q), (fun q => by cases q), (fun q => by cases q), (fun q => by cases q), (fun q => by cases q), (fun q => by cases q), (fun q => by cases q), (fun q => by cases q), (fun q => by cases q), (fun q => by cases q), (fun q => by cases q), (fun q => by cases q), (fun q => by cases q), (fun q => by cases q), hB, (fun q => by cases q), (fun q => by cases q), (fun q => by cases q)⟩
theorem plan_many {k n : Nat} (h : k < n) (hn : n = 14) : k = 0 ∨ k = 1 ∨ k = 2 ∨ k = 3 ∨ k = 4 ∨ k = 5 ∨ k = 6 ∨ k = 7 ∨ k = 8 ∨ k = 9 ∨ k = 10 ∨ k = 11 ∨ k = 12 ∨ k = 13 := by omega

set_option maxHeartbeats 4000000 in
theorem step_plan (base : Nat) (G : Nat → Prop) (g b j : Nat) (D : Dev) (C : Array Value) (r : RJ) (ok okS : Nat → Prop) (J : JM) (kd af : Int) (c : Choice) (vt : Value) (Ak : Option Addr) (nk : Nat) (w : World)
    (hs : Sides w base G g b (.pointer (some ⟨j, 0, none⟩)) D C r ok) (hj : JAt w j g J) (hgj : ¬ G j) (hjb : j ≠ b) (hbj : base ≤ j) (hokj : ∀ k, ok k → k ≠ j) (hI : LInv D J r) (m : Nat) (hfew : D.Few m)
    (hv : IsL (kInt .i64) w okS (.slice Ak c.kept.length nk) c.kept) (hS : ∀ k, okS k → k < base) (hkl : c.kept.length ≤ 1099511627776) (hk : (IntKind.u64.wrap kd).tmod 5 = 3) :
    Calls Try.prog 9 #[.pointer (some ⟨b, 0, none⟩), .agg #[.int .i64 kd, vt, .int .i64 af, .slice Ak c.kept.length nk, .int .i64 c.torn, .int .i64 c.half]] w (StepPost base g b (m + 2200) D.sure.length w) := by
  obtain ⟨AF, hAF⟩ : ∃ AF : Int, AF = (IntKind.u64.wrap af).tmod 9 := ⟨_, rfl⟩
  have hAFb : 0 ≤ AF ∧ AF ≤ 8 := by
    have h0 : 0 ≤ IntKind.u64.wrap af := wrap_u64_nonneg af
    rw [hAF, Int.tmod_eq_emod_of_nonneg h0]
    omega
  have a1 : (IntKind.u64.wrap af).tmod 9 = AF := hAF.symm
  have a2 : IntKind.i64.wrap AF = AF := by rw [IntKind.wrap_i64] <;> omega
  have HAFb := Lib.hid hAFb
  clear hAF
  obtain ⟨hdev, hblk, href, hap, hgb, hlow⟩ := hs
  have hCs := href.size
  have hJs : (jc C r).size = 13 := jc_size hCs.1
  have hlen := hdev.lens
  have hwf := hdev.wf
  have hdl := hdev.low
  have hbs := hdev.size
  obtain ⟨W, hW⟩ : ∃ W, W = w.alloc (.cells #[.int .i64 kd, vt, .int .i64 af, .slice Ak c.kept.length nk, .int .i64 c.torn, .int .i64 c.half] 46) := ⟨_, rfl⟩
  have hbW : Below w.heap.size w W := by rw [hW]; exact (Below.refl _ _).alloc (Nat.le_refl _) _
  have hWs : W.heap.size = w.heap.size + 1 := by rw [hW]; simp
  have hbx : Blk W w.heap.size 46 #[.int .i64 kd, vt, .int .i64 af, .slice Ak c.kept.length nk, .int .i64 c.torn, .int .i64 c.half] := by rw [hW]; exact Blk.new w _ _
  have hbl := hblk.lt
  have hb1 := hblk.grow hbW
  have hp0 : W.cell? ⟨b, 0, none⟩ = some (.pointer (some ⟨g, 0, none⟩)) := by rw [hb1.cell]; rfl
  have hp2 : W.cell? ⟨w.heap.size, 2, none⟩ = some (.int .i64 af) := by rw [hbx.cell]; rfl
  have hp3 : W.cell? ⟨w.heap.size, 3, none⟩ = some (.slice Ak c.kept.length nk) := by rw [hbx.cell]; rfl
  have hp4 : W.cell? ⟨w.heap.size, 4, none⟩ = some (.int .i64 c.torn) := by rw [hbx.cell]; rfl
  have hp5 : W.cell? ⟨w.heap.size, 5, none⟩ = some (.int .i64 c.half) := by rw [hbx.cell]; rfl
  have hd1 := hdev.grow hbW
  have hj1 := hj.grow hbW
  have hv1 := hv.grow hbW
  have hjl := Blk.lt hj
  have HW := Lib.hid hW
  have HbW := Lib.hid hbW
  have HWs := Lib.hid hWs
  have Hbx := Lib.hid hbx
  have Hb1 := Lib.hid hb1
  have Hd1 := Lib.hid hd1
  have Hj1 := Lib.hid hj1
  have Hv1 := Lib.hid hv1
  have Href := Lib.hid href
  have Hap := Lib.hid hap
  have Hgb := Lib.hid hgb
  have HCs := Lib.hid hCs
  have HJs := Lib.hid hJs
  have HI := Lib.hid hI
  have Hfew := Lib.hid hfew
  have Hwf := Lib.hid hwf
  have Hdl := Lib.hid hdl
  have HS := Lib.hid hS
  have Hlen := Lib.hid hlen
  clear hdev hblk href hap hgb hCs hJs hwf hdl hW hbW hWs hbx hb1 hd1 hj1 hv1 hI hfew hv hS hj hlen
  go_enter Try.func9, Try.ntmps9
  go_upto_region 16 with fail
  rw [← HW.out]
  go_still_tail 7, (by kernel_rfl)
  change wpList _ _ _ _ _ W.drew
  go_wp2_with fail
  refine (plan_any base G g D okS AF _ c W.drew (Hd1.out.keep (fun _ _ => rfl) (Nat.le_refl _)) (Hv1.out.move (fun k hk _ => ⟨hk, rfl⟩)) (fun k hk e => by have h1 := HS.out k hk; have h2 := (Hd1.out.base_le).1; omega) hkl (by show base ≤ W.heap.size; have := HWs.out; omega) (by have := HAFb.out; omega)).mono ?_
  rintro e w2 ⟨rfl, G2, hd2, hf2⟩
  have hF0 : ∀ k, k < w.heap.size → ¬ G k → w2.heap[k]? = w.heap[k]? := fun k hk h1 => ((hf2.block k (by show k < W.heap.size; have := HWs.out; omega) h1).2).trans (HbW.out.block k hk)
  have hxb : Blk w2 w.heap.size 46 _ := (hf2.blk (show Blk W.drew w.heap.size 46 _ from Hbx.out) (fun q => by have := (Hdl.out _ q).2; omega)).2
  have hq3 : w2.cell? ⟨w.heap.size, 3, none⟩ = some (.slice Ak c.kept.length nk) := by rw [hxb.cell]; rfl
  have hq4 : w2.cell? ⟨w.heap.size, 4, none⟩ = some (.int .i64 c.torn) := by rw [hxb.cell]; rfl
  have hq5 : w2.cell? ⟨w.heap.size, 5, none⟩ = some (.int .i64 c.half) := by rw [hxb.cell]; rfl
  have hbxb : ¬ w.heap.size = b := by omega
  have hb2 : ¬ G2 b ∧ Blk w2 b 43 _ := hf2.blk (show Blk W.drew b 43 _ from Hb1.out) Hgb.out
  obtain ⟨ok2, hok2⟩ : ∃ ok2 : Nat → Prop, ok2 = fun k => ok k ∨ k < base := ⟨_, rfl⟩
  have hr2 : IsDev w2 ok2 (.agg C) D := Href.out.move (fun k hk hl => ⟨by rw [hok2]; exact Or.inl hk, hF0 k hl (Hap.out k hk).1⟩)
  have hs2 : w.heap.size < w2.heap.size := by have h1 := hf2.size; have h2 := HWs.out; have h3 : W.drew.heap.size = W.heap.size := rfl; omega
  have hsb : IsL (kInt .i64) w2 (fun k => k < base) (.slice Ak c.kept.length nk) c.kept := Hv1.out.move (fun k hk hl => ⟨HS.out k hk, (hf2.block k hl (fun q => by have h1 := (Hdl.out _ q).1; have h2 := HS.out k hk; omega)).2⟩)
  have had : ∀ x, Fr (· = b) (· = b) w2 x → IsDev x ok2 (.agg C) D → Calls Try.prog 27 #[.agg C, .int .i64 AF, .agg #[.slice Ak c.kept.length nk, .int .i64 c.torn, .int .i64 c.half]] x fun e w' => ∃ v', e = .returned v' ∧ IsDev w' (fun k => ok2 k ∨ x.heap.size ≤ k) v' (D.plan AF c) ∧ Below x.heap.size x w' := fun x hx hdx => by
    have hle := Hlen.out
    have hf := Hfew.out
    have hc : IsC x ok2 (.agg #[.slice Ak c.kept.length nk, .int .i64 c.torn, .int .i64 c.half]) c := ⟨_, rfl, hsb.move (fun k hk hl => ⟨by rw [hok2]; exact Or.inr hk, (hx.block k hl (fun e => by omega)).2⟩)⟩
    exact (refplan_any ok2 _ D AF _ c x hdx hc).mono (fun e w1 ⟨v1, h1, h2, h3⟩ => ⟨v1, h1, h2.move (fun k hk _ => ⟨Or.inl hk, rfl⟩), h3⟩)
  have hob : ∀ k, (ok2 k ∨ w2.heap.size ≤ k) → k ≠ b := fun k hk => by
    rw [hok2] at hk
    rcases hk with (h | h) | h
    · exact (Hap.out k h).2.1
    · omega
    · omega
  have Hok2 := Lib.hid hok2
  clear hok2
  have hj2 : JAt w2 j g J := Hj1.out.keep (hf2.block j (by show j < W.heap.size; have := HWs.out; omega) hgj).2
  have hgj2 : ¬ G2 j := (hf2.block j (by show j < W.heap.size; have := HWs.out; omega) hgj).1
  have HB2 := Lib.hid hb2
  have HQ3 := Lib.hid hq3
  have HQ4 := Lib.hid hq4
  have HQ5 := Lib.hid hq5
  have Hbxb := Lib.hid hbxb
  have HV := Lib.hid hr2
  have HAd := Lib.hid had
  have Hob := Lib.hid hob
  have Hd2 := Lib.hid hd2
  have Hj2 := Lib.hid hj2
  have Hgj2 := Lib.hid hgj2
  have Hf2 := Lib.hid hf2
  have HF0 := Lib.hid hF0
  clear hb2 hq3 hq4 hq5 hbxb hr2 had hob hd2 hj2 hgj2 hf2 hF0 hxb hsb hp0 hp2 hp3 hp4 hp5
  go_upto_region 17 with fail
  refine wp_frame118 rfl rfl (fun F hF => ?_)
  apply wp_region_inv (I := planQ F b w.heap.size (.slice Ak c.kept.length nk) (.pointer (some ⟨g, 0, none⟩)) (.pointer (some ⟨j, 0, none⟩)) c.torn c.half AF C r (D.plan AF c) ok2 w2)
  case hm => kernel_rfl
  case ho => kernel_rfl
  case h0 => subst hF; exact planQ_start _ b w.heap.size (.slice Ak c.kept.length nk) (.pointer (some ⟨g, 0, none⟩)) (.pointer (some ⟨j, 0, none⟩)) c.torn c.half AF C r (D.plan AF c) ok2 w2 _ _ ⟨_, _, _, _, _, _, _, _, _, _, _, _, _, rfl⟩ (Fr.refl _ _).drew HB2.out.2
  case hstep =>
    clear hF
    intro i' o hi d a x hd hpre hI K hK
    obtain ⟨v98, v99, v100, v101, v102, v103, v104, v105, v106, v107, v108, v109, v110, C8, okP, rfl, hb, h0, h1, h2, h3, h4, h5, h6, h7, h8, h9, h10, h11, h12, hD, hok, hB, k9_5, k13_9, k13_5⟩ := hI
    have hlt := (Array.getElem?_eq_some_iff.1 hi).1
    rcases plan_many hlt rfl with rfl | rfl | rfl | rfl | rfl | rfl | rfl | rfl | rfl | rfl | rfl | rfl | rfl | rfl
    all_goals (have ho := Option.some.inj hi; subst ho; clear hi hlt)
    · go_simp
      exact hK _ _ ⟨_, v99, v100, v101, v102, v103, v104, v105, v106, v107, v108, v109, v110, C8, okP, rfl, hb, fun _ => rfl, h1, h2, h3, h4, h5, h6, h7, h8, h9, h10, h11, h12, hD, hok, hB, k9_5, k13_9, k13_5⟩
    · go_simp
      exact hK _ _ ⟨v98, _, v100, v101, v102, v103, v104, v105, v106, v107, v108, v109, v110, C8, okP, rfl, hb, h0, fun _ => rfl, h2, h3, h4, h5, h6, h7, h8, h9, h10, h11, h12, hD, hok, hB, k9_5, k13_9, k13_5⟩
    · obtain rfl := h1 (hpre { on := 1, ground := Ground.data } (by simp) rfl)
      go_simp
      exact hK _ _ ⟨v98, _, _, v101, v102, v103, v104, v105, v106, v107, v108, v109, v110, C8, okP, rfl, hb, h0, h1, fun _ => rfl, h3, h4, h5, h6, h7, h8, h9, h10, h11, h12, hD, hok, hB, k9_5, k13_9, k13_5⟩
    · obtain rfl := h2 (hpre { on := 2, ground := Ground.data } (by simp) rfl)
      go_simp
      exact hK _ _ ⟨v98, v99, _, _, v102, v103, v104, v105, v106, v107, v108, v109, v110, C8, okP, rfl, hb, h0, h1, h2, fun _ => rfl, h4, h5, h6, h7, h8, h9, h10, h11, h12, hD, hok, hB, k9_5, k13_9, k13_5⟩
    · obtain rfl := h3 (hpre { on := 3, ground := Ground.data } (by simp) rfl)
      go_simp
      exact hK _ _ ⟨v98, v99, v100, _, _, v103, v104, v105, v106, v107, v108, v109, v110, C8, okP, rfl, hb, h0, h1, h2, h3, fun _ => rfl, h5, h6, h7, h8, h9, h10, h11, h12, hD, hok, hB, k9_5, k13_9, k13_5⟩
    · obtain rfl := h4 (hpre { on := 4, ground := Ground.data } (by simp) rfl)
      rw [if_neg (fun q => by have := k13_5 q; rw [hd] at this; cases this)] at hB
      refine step_plain rfl (wp_load_mid 36 (.tmp 102) rfl b 2 rfl C.toList _ (bc_rangeD hB) Try.underlying36 rfl (by rw [Array.length_toList, HCs.out.1]; exact dev_info) (hK _ _ ?_))
      exact ⟨v98, v99, v100, v101, _, _, v104, v105, v106, v107, v108, v109, v110, C8, okP, rfl, hb, h0, h1, h2, h3, h4, fun _ => by simp, h6, h7, h8, h9, h10, h11, h12, hD, hok, (by rw [if_neg (fun q => by have := k13_5 q; rw [hd] at this; cases this)]; exact hB), fun _ => rfl, k13_9, fun _ => rfl⟩
    · go_simp
      exact hK _ _ ⟨v98, v99, v100, v101, v102, v103, _, v105, v106, v107, v108, v109, v110, C8, okP, rfl, hb, h0, h1, h2, h3, h4, h5, fun _ => rfl, h7, h8, h9, h10, h11, h12, hD, hok, hB, k9_5, k13_9, k13_5⟩
    · go_simp
      exact hK _ _ ⟨v98, v99, v100, v101, v102, v103, v104, _, v106, v107, v108, v109, v110, C8, okP, rfl, hb, h0, h1, h2, h3, h4, h5, h6, fun _ => rfl, h8, h9, h10, h11, h12, hD, hok, hB, k9_5, k13_9, k13_5⟩
    · obtain rfl := h7 (hpre { on := 7, ground := Ground.data } (by simp) rfl)
      have q3 := hb.cell HQ3.out Hbxb.out
      have q4 := hb.cell HQ4.out Hbxb.out
      have q5 := hb.cell HQ5.out Hbxb.out
      go_simp
      exact hK _ _ ⟨v98, v99, v100, v101, v102, v103, v104, _, _, v107, v108, v109, v110, C8, okP, rfl, hb, h0, h1, h2, h3, h4, h5, h6, h7, fun _ => rfl, h9, h10, h11, h12, hD, hok, hB, k9_5, k13_9, k13_5⟩
    · obtain rfl := h5 (hpre { on := 5, ground := Ground.data } (by simp) rfl)
      obtain rfl := h6 (hpre { on := 6, ground := Ground.data } (by simp) rfl)
      obtain rfl := h8 (hpre { on := 8, ground := Ground.data } (by simp) rfl)
      go_simp
      have hdx : IsDev x ok2 (.agg C) D := HV.out.frame (fun k hk hl => (hb.block k hl (fun e => Hob.out k (Or.inl hk) e)).2)
      refine (HAd.out x hb hdx).mono ?_
      rintro e x2 ⟨v', rfl, hdev, hb2⟩
      obtain ⟨C', rfl⟩ : ∃ C' : Array Value, v' = .agg C' := by obtain ⟨_, _, _, _, _, _, e, _⟩ := hdev; exact ⟨_, e⟩
      have hdev2 : IsDev x2 (fun k => (ok2 k ∨ x.heap.size ≤ k) ∧ k < x2.heap.size) (.agg C') (D.plan AF c) := hdev.move (fun k hk hl => ⟨⟨hk, hl⟩, rfl⟩)
      go_simp
      exact hK _ _ ⟨v98, v99, v100, v101, v102, _, _, v105, _, _, v108, v109, v110, C', (fun k => (ok2 k ∨ x.heap.size ≤ k) ∧ k < x2.heap.size), rfl, (hb.trans (Fr.of_below hb2 _)), h0, h1, h2, h3, h4, h5, h6, h7, h8, fun _ => rfl, h10, h11, h12, fun _ => hdev2, fun _ k hk => ⟨hk.1.elim (fun q => Or.inl q) (fun q => Or.inr (Nat.le_trans hb.size q)), hk.2⟩, (by rw [if_neg (fun q => by have := k13_9 q; rw [hd] at this; cases this)] at hB; rw [if_neg (fun q => by have := k13_9 q; rw [hd] at this; cases this)]; exact hB.grow hb2), fun _ => (hpre { on := 5, ground := Ground.data } (by simp) rfl), fun _ => rfl, k13_5⟩
    · obtain rfl := h0 (hpre { on := 0, ground := Ground.data } (by simp) rfl)
      go_simp
      exact hK _ _ ⟨_, v99, v100, v101, v102, v103, v104, v105, v106, v107, _, v109, v110, C8, okP, rfl, hb, h0, h1, h2, h3, h4, h5, h6, h7, h8, h9, fun _ => rfl, h11, h12, hD, hok, hB, k9_5, k13_9, k13_5⟩
    · obtain rfl := h10 (hpre { on := 10, ground := Ground.data } (by simp) rfl)
      go_simp
      exact hK _ _ ⟨v98, v99, v100, v101, v102, v103, v104, v105, v106, v107, _, _, v110, C8, okP, rfl, hb, h0, h1, h2, h3, h4, h5, h6, h7, h8, h9, h10, fun _ => rfl, h12, hD, hok, hB, k9_5, k13_9, k13_5⟩
    · obtain rfl := h11 (hpre { on := 11, ground := Ground.data } (by simp) rfl)
      go_simp
      exact hK _ _ ⟨v98, v99, v100, v101, v102, v103, v104, v105, v106, v107, v108, _, _, C8, okP, rfl, hb, h0, h1, h2, h3, h4, h5, h6, h7, h8, h9, h10, h11, fun _ => rfl, hD, hok, hB, k9_5, k13_9, k13_5⟩
    · obtain rfl := h12 (hpre { on := 12, ground := Ground.data } (by simp) rfl)
      have d8 := (hpre { on := 9, ground := Ground.data } (by simp) rfl)
      obtain rfl := h9 d8
      have d5 := k9_5 d8
      rw [hd] at hB
      have hsz := (hD d8).size
      refine step_plain rfl (wp_store_mid 36 (.tmp 110) (.tmp 107) rfl b 2 C8 rfl rfl (by rw [hsz.1]; exact bc_thereD HJs.out hB) (by rw [hsz.1]; exact dev_info) hsz.2 (hK _ _ ?_))
      exact ⟨v98, v99, v100, v101, v102, v103, v104, v105, v106, _, v108, v109, _, C8, okP, rfl, (hb.setCells rfl _ _), h0, h1, h2, h3, h4, h5, h6, h7, h8, h9, h10, h11, h12, fun q => (hD q).frame (fun k hk _ => heap_setCells _ _ _ _ _ (fun e => by subst e; exact Hob.out k (hok q k hk).1 rfl)), fun q k hk => ⟨(hok q k hk).1, by rw [size_setCells]; exact (hok q k hk).2⟩, (bc_putD HCs.out.1 hsz.1 hB), k9_5, fun _ => d8, fun _ => d5⟩
  case hend =>
    intro d a x hall hI
    obtain ⟨v98, v99, v100, v101, v102, v103, v104, v105, v106, v107, v108, v109, v110, C8, okP, rfl, hb, h0, h1, h2, h3, h4, h5, h6, h7, h8, h9, h10, h11, h12, hD, hok, hB, k9_5, k13_9, k13_5⟩ := hI
    rw [if_pos (hall 13 (by decide))] at hB
    have dD := hD (hall 9 (by decide))
    have dok := hok (hall 9 (by decide))
    have HB9 := Lib.hid hB
    have DD := Lib.hid dD
    have DK := Lib.hid dok
    clear h0 h1 h2 h3 h4 h5 h6 h7 h8 h9 h10 h11 h12 hD hok hB k9_5 k13_9 k13_5 hall dD dok
    subst hF
    dsimp only
    have hfx := hb
    have hxs := hfx.size
    have hdx : DevAt x base G2 g (D.plan AF c) := Hd2.out.keep (fun k hk => (hfx.block k (Hd2.out.low k hk).2 (fun e => HB2.out.1 (e ▸ hk))).2) hxs
    have hsd : Sides x base G2 g b (.pointer (some ⟨j, 0, none⟩)) (D.plan AF c) C8 r okP := by
      refine ⟨hdx, HB9.out, DD.out, fun k hk => ?_, HB2.out.1, hlow⟩
      have hk2 := DK.out k hk
      have hk3 := hk2.1
      rw [Hok2.out] at hk3
      rcases hk3 with (h | h) | h
      · have h1 := Hap.out k h
        exact ⟨(Hf2.out.block k (by show k < W.heap.size; have := HWs.out; omega) h1.1).1, h1.2.1, h1.2.2.1, hk2.2⟩
      · exact ⟨fun q => by have := (Hd2.out.low k q).1; omega, by omega, by omega, hk2.2⟩
      · exact ⟨fun q => by have := (Hd2.out.low k q).2; omega, by omega, by omega, hk2.2⟩
    have hjx : JAt x j g J := Hj2.out.keep (hfx.block j (Blk.lt Hj2.out) (fun e => hjb e)).2
    have h0 : ∀ k, k < base → x.heap[k]? = w.heap[k]? := fun k hk => ((hfx.block k (by omega) (fun e => by omega)).2).trans (HF0.out k (by omega) (fun q => by have := (Hdl.out k q).1; omega))
    have Hsd := Lib.hid hsd
    have Hjx := Lib.hid hjx
    have HFX := Lib.hid hfx
    have H0 := Lib.hid h0
    clear hsd hjx hdx hfx hb h0
    have hpl := plan_linv HI.out AF c
    have Hpl := Lib.hid hpl
    clear hpl
    go_wp2_with fail
    refine (bothlike_any base G2 g b j (D.plan AF c) C8 r okP J _ Hsd.out Hjx.out Hpl.out.used (by obtain ⟨n, s, u, L0, hC, _⟩ := Hpl.out.cont; exact hC.big) Hpl.out.data Hpl.out.len Hpl.out.broken).mono ?_
    rintro e w5 ⟨rfl, hb5⟩
    go_wp2
    go_ret
    have hb5s := hb5.size
    refine ⟨rfl, G2, j, D.plan AF c, C8, J, r, okP, Hsd.out.grow hb5, Hjx.out.grow hb5, Hgj2.out, hjb, hbj, fun k hk => ?_, Hpl.out, Hfew.out.mono (by omega), rfl, fun k hk => (hb5.block k (by omega)).trans (H0.out k hk), by omega, ?_, ?_, ?_⟩
    · have hk3 := (DK.out k hk).1
      rw [Hok2.out] at hk3
      rcases hk3 with (h | h) | h
      · exact hokj k h
      · omega
      · have := Blk.lt Hj2.out
        omega
    · exact hb5.os.trans (HFX.out.os.trans (Hf2.out.os.trans HbW.out.os))
    · exact hb5.tape.trans (HFX.out.tape.trans (Hf2.out.tape.trans HbW.out.tape))
    · exact hb5.output.trans (HFX.out.output.trans (Hf2.out.output.trans HbW.out.output))
end Go.Proofs.Ytiaabgmmmekpnaa

namespace Go.Proofs.Ytiaabgmmmekpnaa
open Go.RowKit
set_option maxRecDepth 100000

theorem recsB_six (F : List (List UInt8)) (m : Nat) (h : ∀ r ∈ F, r.length ≤ m) : (recsB F).length ≤ F.length * (m + 7) := by
  induction F with
  | nil => exact Nat.zero_le _
  | cons r F ih =>
    have h1 := (recB_length r).2
    have h2 : (recsB (r :: F)).length = (recB r).length + (recsB F).length := by
      show (recB r ++ recsB F).length = _
      rw [List.length_append]
    have h3 := ih (fun x hx => h x (List.mem_cons_of_mem _ hx))
    have h4 := h r List.mem_cons_self
    rw [h2, List.length_cons, Nat.succ_mul]
    omega
theorem opj_fit {o : OpJ} (h : opjFits o = true) : o.texts.length ≤ 6 ∧ o.choice.kept.length ≤ 70 ∧ (recsB o.texts).length ≤ 100000 := by
  unfold opjFits at h
  simp only [Bool.and_eq_true, decide_eq_true_eq, List.all_eq_true] at h
  have h1 := recsB_six o.texts 2000 h.2
  exact ⟨h.1.1, h.1.2, by omega⟩
theorem step_any (base : Nat) (G : Nat → Prop) (g b j : Nat) (D : Dev) (C : Array Value) (r : RJ) (ok okS : Nat → Prop) (J : JM) (o : OpJ) (At : Option Addr) (nt : Nat) (Ak : Option Addr) (nk : Nat) (w : World)
    (hs : Sides w base G g b (.pointer (some ⟨j, 0, none⟩)) D C r ok) (hj : JAt w j g J) (hgj : ¬ G j) (hjb : j ≠ b) (hbj : base ≤ j) (hokj : ∀ k, ok k → k ≠ j) (hI : LInv D J r) (m : Nat) (hm : m ≤ 400000) (hfew : D.Few m)
    (hT : IsBB w okS (.slice At o.texts.length nt) o.texts) (hC : IsL (kInt .i64) w okS (.slice Ak o.choice.kept.length nk) o.choice.kept) (hS : ∀ k, okS k → k < base) (hfit : opjFits o = true) :
    Calls Try.prog 9 #[.pointer (some ⟨b, 0, none⟩), .agg #[.int .i64 o.kind, .slice At o.texts.length nt, .int .i64 o.after, .slice Ak o.choice.kept.length nk, .int .i64 o.choice.torn, .int .i64 o.choice.half]] w (StepPost base g b (m + 2200) D.sure.length w) := by
  obtain ⟨f1, f2, f3⟩ := opj_fit hfit
  have h0 := wrap_u64_nonneg o.kind
  have h1 : (IntKind.u64.wrap o.kind).tmod 5 = (IntKind.u64.wrap o.kind) % 5 := Int.tmod_eq_emod_of_nonneg h0
  rcases (by omega : (IntKind.u64.wrap o.kind) % 5 = 0 ∨ (IntKind.u64.wrap o.kind) % 5 = 1 ∨ (IntKind.u64.wrap o.kind) % 5 = 2 ∨ (IntKind.u64.wrap o.kind) % 5 = 3 ∨ (IntKind.u64.wrap o.kind) % 5 = 4) with h | h | h | h | h
  · exact step_add base G g b j D C r ok okS J _ _ _ _ At nt _ o.texts w hs hj hgj hjb hbj hokj hI m hm hfew hT hS f1 f3 (h1.trans h)
  · exact step_rep base G g b j D C r ok okS J _ _ _ _ At nt _ o.texts w hs hj hgj hjb hbj hokj hI m hm hfew hT hS f1 f3 (h1.trans h)
  · exact step_cut base G g b j D C r ok okS J _ _ o.choice _ Ak nk w hs hj hgj hjb hbj hI m hm hfew hC hS (h1.trans h)
  · exact step_plan base G g b j D C r ok okS J _ _ o.choice _ Ak nk w hs hj hgj hjb hbj hokj hI m hfew hC hS (by omega) (h1.trans h)
  · exact step_on base G g b j D C r ok J _ _ _ _ _ _ w hs hI m hm hfew (h1.trans h)
end Go.Proofs.Ytiaabgmmmekpnaa

namespace Go.Proofs.Ytiaabgmmmekpnaa
open Go.RowKit
set_option maxRecDepth 100000

/-- What stands ahead of each step. -/
def PlaysAt (base g b n m : Nat) (w0 wr : World) : Prop :=
  ∃ G j D C J r ok, Sides wr base G g b (.pointer (some ⟨j, 0, none⟩)) D C r ok ∧ JAt wr j g J ∧ ¬ G j ∧ j ≠ b ∧ base ≤ j ∧ (∀ k, ok k → k ≠ j) ∧ LInv D J r ∧ D.Few (2 + 2200 * m) ∧ D.sure.length = n ∧ (∀ k, k < base → wr.heap[k]? = w0.heap[k]?) ∧ w0.heap.size ≤ wr.heap.size ∧ wr.os = w0.os ∧ wr.tape = w0.tape ∧ wr.output = w0.output
theorem fitsJ_out {n : Int} {L : List OpJ} (h : fitsJ n L = true) : 6 ≤ n ∧ n ≤ 14 ∧ L.length ≤ 30 ∧ ∀ o ∈ L, opjFits o = true := by
  unfold fitsJ at h
  simp only [Bool.and_eq_true, decide_eq_true_eq, List.all_eq_true] at h
  exact ⟨h.1.1.1, h.1.1.2, h.1.2, h.2⟩

theorem Sides.on_ {w w1 : World} {base : Nat} {G : Nat → Prop} {g b : Nat} {vj : Value} {D : Dev} {C : Array Value} {r : RJ} {ok : Nat → Prop} (h : Sides w base G g b vj D C r ok) (hd : DevAt w1 base G g { D with off := false }) (hf : Fr G G w w1) : Sides (w1.setCell ⟨b, 9, none⟩ (.bool false)) base G g b vj { D with off := false } (C.setIfInBounds 7 (.bool false)) r ok := by
  have hCs := h.ref.size
  have hb1 := (hf.blk h.blk h.gb).2
  have hr1 : IsDev w1 ok (.agg C) D := h.ref.frame (fun k hk hl => (hf.block k hl (h.apart k hk).1).2)
  refine ⟨hd.setFar h.gb _, ?_, (hr1.on).frame (fun k hk _ => heap_setCell_other _ _ _ _ (h.apart k hk).2.1), fun k hk => ?_, h.gb, h.low⟩
  · have := hb1.set_ 9 (.bool false)
    rw [show (9 : Nat) = 2 + 7 from rfl, bc_setx, jc_setD hCs.1 7 (by omega)] at this
    exact this
  · have h1 := h.apart k hk
    have h2 := hf.size
    have h3 := ((Fr.refl (· = b) w1).setCell (p := ⟨b, 9, none⟩) rfl (.bool false)).size
    exact ⟨h1.1, h1.2.1, h1.2.2.1, by omega⟩

set_option maxHeartbeats 4000000 in
theorem journalplays_walk (n : Int) (v : Value) (L : List OpJ) (w : World) (hn : -9223372036854775808 ≤ n ∧ n ≤ 9223372036854775807) (hv : IsL kOpJ w (fun _ => True) v L) :
    Calls Try.prog 3 #[.int .i64 n, v] w fun e w' => e = .returned (.bool true) ∧ Below w.heap.size w w' := by
  have hv0 : IsL kOpJ w (fun k => k < w.heap.size) v L := hv.move fun k _ hk => ⟨hk, rfl⟩
  obtain ⟨A, c, rfl, hc, hm, hel⟩ := opj_at hv0
  have Hel := Lib.hid hel
  have Hv := Lib.hid hv
  unfold maxLen at hm
  clear hel hv hv0
  cases hfit : fitsJ n L with
  | false =>
    have Hfit := Lib.hid hfit
    clear hfit
    go_enter Try.func3, Try.ntmps3
    go_wp2_with fail
    refine (lives_any _).mono ?_
    rintro e w1 ⟨rfl, hb1⟩
    go_wp2_with fail
    refine (fitsj_any _ _ n L _ (Hv.out.grow hb1)).mono ?_
    rintro e w2 ⟨rfl, hb2⟩
    rw [Hfit.out]
    have hb02 := below_call hb1 hb2
    go_wp2_with fail
    refine (lives_any _).mono ?_
    rintro e w3 ⟨rfl, hb3⟩
    go_wp2
    go_ret
    exact ⟨rfl, below_call hb02 hb3⟩
  | true =>
    obtain ⟨h1, h10, h30, hop⟩ := fitsJ_out hfit
    obtain ⟨N, rfl⟩ := Int.eq_ofNat_of_zero_le (show 0 ≤ n by omega)
    have hN1 : 6 ≤ N := by omega
    have hN2 : N ≤ 14 := by omega
    have Hfit := Lib.hid hfit
    have Hop := Lib.hid hop
    clear hfit hop h1 h10
    go_enter Try.func3, Try.ntmps3
    go_wp2_with fail
    refine (lives_any _).mono ?_
    rintro e w1 ⟨rfl, hb1⟩
    go_wp2_with fail
    refine (fitsj_any _ _ N L _ (Hv.out.grow hb1)).mono ?_
    rintro e w2 ⟨rfl, hb2⟩
    rw [Hfit.out]
    have hb02 := below_call hb1 hb2
    clear hb1 hb2
    go_wp2_with fail
    refine (new_ok N _ (by omega) (by omega)).mono ?_
    rintro e w3 ⟨g, F, rfl, hdev, hb3⟩
    have hb03 := below_call hb02 hb3
    have Hdev := Lib.hid hdev
    have Hb02 := Lib.hid hb02
    have Hb03 := Lib.hid hb03
    have hs02 := hb02.size
    have hs23 := hb3.size
    have Hb3 := Lib.hid hb3
    clear hdev hb02 hb3 hb03
    go_wp2_with fail
    refine (refnew_any N w3 (by omega)).mono ?_
    rintro e w4 ⟨vx, rfl, hdx, hb4⟩
    obtain ⟨a1, d1, a2, d2, a3, d3, rfl, k0⟩ := hdx
    have hdx : IsDev w4 (fun k => w3.heap.size ≤ k) (.agg #[.slice a1 (newD N).sure.length d1, .slice a2 (newD N).loose.length d2, .int .i64 (newD N).left, .slice a3 (newD N).choice.kept.length d3, .int .i64 (newD N).choice.torn, .int .i64 (newD N).choice.half, .int .i64 ((newD N).changes : Int), .bool (newD N).off]) (newD N) := ⟨a1, d1, a2, d2, a3, d3, rfl, k0⟩
    obtain ⟨C0, hC0⟩ : ∃ C0 : Array Value, C0 = #[.slice a1 (newD N).sure.length d1, .slice a2 (newD N).loose.length d2, .int .i64 (newD N).left, .slice a3 (newD N).choice.kept.length d3, .int .i64 (newD N).choice.torn, .int .i64 (newD N).choice.half, .int .i64 ((newD N).changes : Int), .bool (newD N).off] := ⟨_, rfl⟩
    rw [← hC0] at hdx
    have hs34 := hb4.size
    obtain ⟨b, hb⟩ : ∃ b, b = w4.heap.size := ⟨_, rfl⟩
    obtain ⟨W, hW⟩ : ∃ W, W = w4.alloc (.cells (bc (.pointer (some ⟨g, 0, none⟩)) (.pointer none) (jc C0 rj0)) 43) := ⟨_, rfl⟩
    have hWE : W = w4.alloc (.cells #[.pointer (some ⟨g, 0, none⟩), .pointer none, .slice a1 (newD N).sure.length d1, .slice a2 (newD N).loose.length d2, .int .i64 (newD N).left, .slice a3 (newD N).choice.kept.length d3, .int .i64 (newD N).choice.torn, .int .i64 (newD N).choice.half, .int .i64 ((newD N).changes : Int), .bool (newD N).off, .int .u64 0, .int .i64 0, str [], .int .i64 0, .bool false] 43) := by
      rw [hW, hC0]
      rfl
    have hbW : Below w3.heap.size w3 W := by rw [hW]; exact hb4.alloc hb4.size _
    have hsd : Sides W w2.heap.size F g b (.pointer none) (newD N) C0 rj0 (fun k => w3.heap.size ≤ k ∧ k < w4.heap.size) := by
      refine ⟨Hdev.out.grow hbW, ?_, ?_, fun k hk => ⟨fun q => by have := (Hdev.out.low k q).2; omega, by omega, by omega, ?_⟩, fun q => by have := (Hdev.out.low b q).2; omega, by omega⟩
      · rw [hW, hb]; exact Blk.new w4 _ _
      · rw [hW]; exact hdx.move (fun k hk hl => ⟨⟨hk, hl⟩, Below.heap_alloc _ _ _ hl⟩)
      · rw [hW, World.size_alloc]; omega
    obtain ⟨D1, r1, hM, hR, hL1, hl1, hf1⟩ := new_linv N hN1 (by omega)
    have hopen := bothopen_any w2.heap.size F g b (.pointer none) (newD N) C0 rj0 _ W hsd rfl (newD_few _ _) (by rw [show (newD N).sure.length = N from List.length_replicate]; exact hN1) D1 _ [] r1 hM hR (by simp)
    have hFl : ∀ k, F k → w2.heap.size ≤ k := fun k q => (Hdev.out.low k q).1
    have Hopen := Lib.hid hopen
    have HWE := Lib.hid hWE
    have HbW := Lib.hid hbW
    have HL1 := Lib.hid hL1
    have Hl1 := Lib.hid hl1
    have Hf1 := Lib.hid hf1
    have HFl := Lib.hid hFl
    have hbge : w3.heap.size ≤ b := by omega
    clear hopen hWE hbW hL1 hl1 hf1 hsd hM hR hW hC0 hdx k0 hFl hb4
    go_wp2_with fail
    rw [← HWE.out, ← hb]
    refine Hopen.out.mono ?_
    rintro e w5 ⟨rfl, G1, j1, C1, ok1, s1, ja1, gj1, jb1, bj1, oj1, f1⟩
    have hp : PlaysAt w2.heap.size g b N 0 w2 w5 := by
      have h2 := Hb3.out
      refine ⟨G1, j1, D1, C1, _, r1, ok1, s1, ja1, gj1, jb1, bj1, oj1, HL1.out, Hf1.out, Hl1.out, fun k hk => ?_, by have := f1.size; have := HbW.out.size; omega, f1.os.trans (HbW.out.os.trans h2.os), f1.tape.trans (HbW.out.tape.trans h2.tape), f1.output.trans (HbW.out.output.trans h2.output)⟩
      exact ((f1.block k (by have := HbW.out.size; omega) (fun q => q.elim (fun q => by have := HFl.out k q; omega) (fun e => by omega))).2).trans ((HbW.out.block k (by omega)).trans (h2.block k hk))
    have Hp := Lib.hid hp
    clear hp s1 ja1 gj1 jb1 bj1 oj1 f1 Hopen HWE HbW HL1 Hf1 Hl1 HFl Hdev hb
    go_wp2_with fail
    go_loopg [38] L.length (fun k q wr => ∃ m : Nat, k = L.length - m ∧ m ≤ L.length ∧ q = .int .i64 (m : Int) ∧ PlaysAt w2.heap.size g b N m w2 wr)
    case atStart => exact ⟨0, by omega, by omega, rfl, Hp.out⟩
    case round =>
      clear Hp
      obtain ⟨m, hk, hm1, rfl, G, j, D, C, J, r, ok, s1, ja, gj, jb, bj, oj, hI, hfew, hlen, hkeep, hsz, ho, ht, hout⟩ := hrel
      have h02 := Hb02.out
      have hbw : Below w.heap.size w wr := ⟨ho.trans h02.os, ht.trans h02.tape, hout.trans h02.output, Nat.le_trans h02.size hsz, fun k hk => (hkeep k (by omega)).trans (h02.block k hk)⟩
      have S1 := Lib.hid s1
      have JA := Lib.hid ja
      have OJ := Lib.hid oj
      have HI := Lib.hid hI
      have Hfew := Lib.hid hfew
      have Hlen := Lib.hid hlen
      have Hkeep := Lib.hid hkeep
      have Ho := Lib.hid (And.intro ho (And.intro ht hout))
      have Hbw := Lib.hid hbw
      have Hk := Lib.hid hk
      clear s1 ja oj hI hfew hlen hkeep ho ht hout hbw h02 hk
      by_cases hlt : m < L.length
      · obtain ⟨bs, off, rfl, hbs, _, hcells⟩ := Hel.out (by intro e; rw [e] at hlt; simp at hlt)
        obtain ⟨At, nt, Ak, nk, c0, c1, c2, c3, c4, c5, hT, hCh, hrk, hra⟩ := hcells m hlt
        have d0 := (Hbw.out.cell (p := ⟨bs, off + m * 6, none⟩) hbs).trans c0
        have d1' := (Hbw.out.cell (p := ⟨bs, off + m * 6 + 1, none⟩) hbs).trans c1
        have d2' := (Hbw.out.cell (p := ⟨bs, off + m * 6 + 2, none⟩) hbs).trans c2
        have d3' := (Hbw.out.cell (p := ⟨bs, off + m * 6 + 3, none⟩) hbs).trans c3
        have d4 := (Hbw.out.cell (p := ⟨bs, off + m * 6 + 4, none⟩) hbs).trans c4
        have d5 := (Hbw.out.cell (p := ⟨bs, off + m * 6 + 5, none⟩) hbs).trans c5
        obtain ⟨W1, hW1⟩ : ∃ W1, W1 = wr.alloc (.cells #[.int .i64 L[m].kind, .slice At L[m].texts.length nt, .int .i64 L[m].after, .slice Ak L[m].choice.kept.length nk, .int .i64 L[m].choice.torn, .int .i64 L[m].choice.half] 46) := ⟨_, rfl⟩
        have hbO : Below wr.heap.size wr W1 := by rw [hW1]; exact (Below.refl _ _).alloc (Nat.le_refl _) _
        have hstep := step_any w2.heap.size G g b j D C r ok (fun k => k < w.heap.size) J L[m] At nt Ak nk W1 (S1.out.grow hbO) (JA.out.grow hbO) gj jb bj OJ.out HI.out (2 + 2200 * m) (by omega) Hfew.out ((hT.frame (fun k hk _ => (Hbw.out.block k hk))).grow hbO) ((hCh.move (fun k hk _ => ⟨hk, Hbw.out.block k hk⟩)).move (fun k hk hl => ⟨hk, hbO.block k hl⟩)) (fun k hk => by omega) (Hop.out _ (List.getElem_mem hlt))
        have Hstep := Lib.hid hstep
        have HW1 := Lib.hid hW1
        have HbO := Lib.hid hbO
        clear hcells c0 c1 c2 c3 c4 c5 hT hCh hrk hra hstep hW1 hbO
        go_wp2_with fail
        rw [← HW1.out]
        refine Hstep.out.mono ?_
        rintro e w5 ⟨rfl, G', j', D', C', J', r', ok', s', ja', gj', jb', bj', oj', hI', hf', hl', hk', hz', ho', ht', hu'⟩
        go_wp2_with fail
        go_roundg (L.length - (m + 1))
        case measure => have := Hk.out; omega
        case rel =>
          have hO := HbO.out
          have hOO := Ho.out
          refine ⟨m + 1, rfl, by omega, by go_num, G', j', D', C', J', r', ok', s', ja', gj', jb', bj', oj', hI', hf'.mono (by omega), hl'.trans Hlen.out, fun k hk => (hk' k hk).trans ((hO.block k (by omega)).trans (Hkeep.out k hk)), by have := hO.size; omega, ho'.trans (hO.os.trans hOO.1), ht'.trans (hO.tape.trans hOO.2.1), hu'.trans (hO.output.trans hOO.2.2)⟩
      · obtain rfl : m = L.length := by omega
        obtain ⟨wa, rfl⟩ : ∃ x, x = wr := ⟨wr, rfl⟩
        have hblk := S1.out.blk
        have q0 : wa.cell? ⟨b, 0, none⟩ = some (.pointer (some ⟨g, 0, none⟩)) := by rw [hblk.cell]; rfl
        have hon := on_any w2.heap.size G g D wa S1.out.dev
        have Hon := Lib.hid hon
        clear hon hblk
        go_wp2_with fail
        refine Hon.out.mono ?_
        rintro e w5 ⟨rfl, hd5, hf5⟩
        have hs6 := S1.out.on_ hd5 hf5
        have hb5 := (hf5.blk S1.out.blk S1.out.gb).2
        have q9 : ∃ u, w5.cell? ⟨b, 9, none⟩ = some u := by
          have h := hb5.cell 9
          have h13 := jc_size (r := r) S1.out.ref.size.1
          rw [show (9 : Nat) = 2 + 7 from rfl, bc_tail, Array.getElem?_eq_getElem (by omega)] at h
          exact ⟨_, h⟩
        obtain ⟨u9, q9⟩ := q9
        have f9 := hb5.frozen 9
        have hbw5 : Below w.heap.size w w5 := Hbw.out.trans (hf5.below (fun q hq => by have := (S1.out.dev.low q hq).1; omega) Hbw.out.size)
        obtain ⟨w6, hw6⟩ : ∃ x, x = w5.setCell ⟨b, 9, none⟩ (.bool false) := ⟨_, rfl⟩
        have hbw6 : Below w.heap.size w w6 := by rw [hw6]; exact hbw5.setCell (p := ⟨b, 9, none⟩) (by show w.heap.size ≤ b; omega) _
        rw [← hw6] at hs6
        obtain ⟨D1, hD1⟩ : ∃ D1 : Dev, D1 = { D with off := false } := ⟨_, rfl⟩
        rw [← hD1] at hs6
        have hlen1 : D1.sure.length = N := by rw [hD1]; exact Hlen.out
        have hoff1 : D1.off = false := by rw [hD1]
        obtain ⟨C1, hC1⟩ : ∃ C1, C1 = C.setIfInBounds 7 (.bool false) := ⟨_, rfl⟩
        rw [← hC1] at hs6
        have HS6 := Lib.hid hs6
        have HW6 := Lib.hid hw6
        have Hbw6 := Lib.hid hbw6
        have Hlen1 := Lib.hid hlen1
        have Hoff1 := Lib.hid hoff1
        clear hs6 hw6 hbw6 hbw5 hb5 hd5 hf5 hD1 hC1 hlen1 hoff1 q0
        go_wp2_with fail
        rw [← HW6.out]
        clear q9 f9
        go_loopg [58] N (fun k q wr => ∃ i : Nat, k = N - i ∧ i ≤ N ∧ q = .int .i64 (i : Int) ∧ Below w6.heap.size w6 wr)
        case atStart => exact ⟨0, by omega, by omega, rfl, Below.refl _ _⟩
        case round =>
          obtain ⟨i, hk, hi, rfl, hb6⟩ := hrel
          have S7 := Lib.hid (HS6.out.grow hb6)
          have Hb6 := Lib.hid hb6
          have Hk := Lib.hid hk
          clear hb6 hk
          by_cases hlt : i < N
          · have hblk := S7.out.blk
            have q0 : wr.cell? ⟨b, 0, none⟩ = some (.pointer (some ⟨g, 0, none⟩)) := by rw [hblk.cell]; rfl
            have hrd := read_any w2.heap.size G g D1 (i : Int) wr S7.out.dev
            have hy : D1.why (i : Int) = 0 := by
              unfold Dev.why
              rw [if_neg (by rw [Hoff1.out]; decide), if_neg (by rw [Hlen1.out]; omega)]
            have hxl := now_length S7.out.dev.wf i (by rw [Hlen1.out]; exact hlt)
            have hnow := fun (u : World) (hu : IsDev u ok (.agg C1) D1) => now_any ok _ D1 i u hu (by rw [Hlen1.out]; exact hlt)
            obtain ⟨X, hX⟩ : ∃ X, X = D1.now i := ⟨_, rfl⟩
            rw [← hX] at hxl
            have Hrd := Lib.hid hrd
            have Hy := Lib.hid hy
            have HX := Lib.hid hX
            have Hnow := Lib.hid hnow
            have Hxl := Lib.hid hxl
            clear hrd hy hX hnow hxl hblk
            go_wp2_with fail
            refine Hrd.out.mono ?_
            rintro e w7 hrd
            rcases hrd with ⟨hno, _⟩ | ⟨_, vb, rfl, hob, hb7⟩
            · exact absurd Hy.out hno
            rw [show ((i : Int)).toNat = i from rfl, ← HX.out] at hob
            obtain ⟨A9, c9, hv9, _, _, _⟩ := hob.form
            rw [List.length_map, Hxl.out] at hv9
            subst hv9
            have hB9 := hob.isB
            have s8 := S7.out.grow hb7
            have hCs := s8.ref.size
            have hd8 : (Try.prog.info? 36).map (·.size) = some C1.toList.length := by rw [Array.length_toList, hCs.1]; exact dev_info
            have hcv : ∀ y : Ext w7, (convert 48 9 (.slice A9 256 c9)).run Try.prog y.now = .ok (str X) y.now := fun y => conv_is (hB9.grow y.out)
            have hnw : ∀ y : Ext w7, Calls Try.prog 12 #[.agg C1, .int .i64 (i : Int)] y.now fun e w' => e = .returned (str X) ∧ Below y.now.heap.size y.now w' := fun y => by
              rw [HX.out]
              exact Hnow.out y.now (s8.ref.frame (fun k _ hk => y.out.block k hk))
            have kr : ∀ w', (∃ x : Ext w7, w' = x.now) → w'.rangeAt b 2 C1.toList := fun w' ⟨y, hy⟩ => by rw [hy]; exact bc_rangeD (s8.blk.grow y.out)
            have Kr := Lib.hid kr
            have Hd8 := Lib.hid hd8
            have Hb67 := Lib.hid (below_call Hb6.out hb7)
            clear kr hd8 hob hB9 hCs s8 hb7 q0
            go_upto_region 19 with fail
            refine wp_region_grow (by kernel_rfl) (by kernel_rfl) ?_
            repeat (first | (go_big_quiet_want; refine quiet_load_mid 36 (.tmp 78) rfl b 2 rfl C1 _ Kr.out Try.underlying36 rfl Hd8.out ?_; go_simp; go_big_quiet_on) | go_big_quiet_step ((go_at_call 12; exact calls_grow (hnw _))) | quiet_step ((go_at_call 12; exact calls_grow (hnw _))))
            refine wpQuiet_nil ?_
            rintro w8 ⟨⟨_, hb8⟩, rfl⟩
            clear hnw hcv
            go_wp2_with fail
            go_roundg (N - (i + 1))
            case measure => have := Hk.out; omega
            case rel => exact ⟨i + 1, rfl, by omega, by go_num, below_call Hb67.out hb8⟩
          · obtain rfl : i = N := by omega
            go_wp2
            go_ret
            exact ⟨rfl, Hbw6.out.trans (Hb6.out.mono Hbw6.out.size)⟩
end Go.Proofs.Ytiaabgmmmekpnaa
