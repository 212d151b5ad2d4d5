/-
  The document's journal as a value; wardshipref04.Room and may.
-/
import Derived.Test.YtiaabgmmmekpnaaRefDev
import Derived.Test.YtiaabgmmmekpnaaJPrep
namespace Go.Proofs.Ytiaabgmmmekpnaa
open Go.RowKit
set_option maxRecDepth 100000

/-- The document's journal, its device aside: the tally that counts, the bytes, how many records, whether it is broken. -/
structure RJ where
  number : Nat
  side : Nat
  data : List UInt8
  len : Nat
  broken : Bool
/-- Its value. -/
def IsRJ (w : World) (ok : Nat → Prop) (v : Value) (D : Dev) (r : RJ) : Prop :=
  ∃ A1 c1 A2 c2 A3 c3, v = .agg #[.slice A1 D.sure.length c1, .slice A2 D.loose.length c2, .int .i64 D.left, .slice A3 D.choice.kept.length c3, .int .i64 D.choice.torn, .int .i64 D.choice.half, .int .i64 (D.changes : Int), .bool D.off, .int .u64 (r.number : Int), .int .i64 (r.side : Int), str r.data, .int .i64 (r.len : Int), .bool r.broken] ∧
    IsDev w ok (.agg #[.slice A1 D.sure.length c1, .slice A2 D.loose.length c2, .int .i64 D.left, .slice A3 D.choice.kept.length c3, .int .i64 D.choice.torn, .int .i64 D.choice.half, .int .i64 (D.changes : Int), .bool D.off]) D
theorem IsRJ.move {w w' : World} {ok ok' : Nat → Prop} {v : Value} {D : Dev} {r : RJ} (h : IsRJ w ok v D r) (hk : ∀ k, ok k → k < w.heap.size → ok' k ∧ w'.heap[k]? = w.heap[k]?) : IsRJ w' ok' v D r := by
  obtain ⟨A1, c1, A2, c2, A3, c3, e, h⟩ := h
  exact ⟨A1, c1, A2, c2, A3, c3, e, h.move hk⟩

theorem refroom_any (ok : Nat → Prop) (v : Value) (D : Dev) (w : World) (hv : IsDev w ok v D) (h2 : 2 ≤ D.sure.length) (hl : D.sure.length ≤ 4096) :
    Calls Try.prog 40 #[v] w fun e w' => e = .returned (.int .i64 ((sideN D * 256 : Nat) : Int)) ∧ Below w.heap.size w w' := by
  obtain ⟨A1, c1, A2, c2, A3, c3, rfl, _⟩ := hv
  have hT : ((D.sure.length : Int) - 2) / 2 * 256 = ((sideN D * 256 : Nat) : Int) := by unfold sideN; omega
  have HT := Lib.hid hT
  have h2' : (2 : Int) ≤ (D.sure.length : Int) := by omega
  clear hT
  go_enter Try.func40, Try.ntmps40
  go_wp2
  go_ret
  refine ⟨?_, (Below.refl _ _).alloc (Nat.le_refl _) _⟩
  rw [← HT.out]
  rfl

set_option maxHeartbeats 400000 in
theorem refmay_any (ok ok2 : Nat → Prop) (v : Value) (D : Dev) (r : RJ) (A : Option Addr) (c : Nat) (L : List (List UInt8)) (w : World) (hv : IsRJ w ok v D r) (hr : Rd w ok2 A (L.map str)) (hL : L.length ≤ 1099511627776) :
    Calls Try.prog 43 #[v, .slice A L.length c] w fun e w' => e = .returned (.int .i64 (if r.broken then 3 else if fewLong L then 0 else 4)) ∧ Below w.heap.size w w' := by
  obtain ⟨A1, c1, A2, c2, A3, c3, rfl, _⟩ := hv
  obtain ⟨E, hE⟩ : ∃ E : Int, E = if r.broken then 3 else if fewLong L then 0 else 4 := ⟨_, rfl⟩
  rw [← hE]
  have HE := Lib.hid hE
  clear hE
  cases hbr : r.broken with
  | true =>
    have h3 : E = 3 := by rw [HE.out, hbr]; rfl
    have H3 := Lib.hid h3
    clear h3
    go_enter Try.func43, Try.ntmps43
    go_wp2
    go_ret
    exact ⟨by rw [H3.out]; rfl, (Below.refl _ _).alloc (Nat.le_refl _) _⟩
  | false =>
    go_enter Try.func43, Try.ntmps43
    go_wp2_with fail
    go_loopw [5] (fun i wr => ∃ k : Nat, k ≤ L.length ∧ i = .int .i64 (k : Int) ∧ (∀ r ∈ L.take k, r.length ≤ 65531) ∧ Below w.heap.size w wr) (fun i _ => L.length - (intOf i).toNat)
    case atStart => exact ⟨0, by omega, rfl, by simp, (Below.refl _ _).alloc (Nat.le_refl _) _⟩
    case round =>
      obtain ⟨k, hk, rfl, hall, hbel⟩ := hrel
      by_cases hlt : k < L.length
      · obtain ⟨b, off, rfl, _, had, hel⟩ := hr.at' (by intro e; have := congrArg List.length e; simp at this; subst this; simp at hlt)
        have hcell := (hbel.cell (p := ⟨b, off + k, none⟩) had).trans (hel k (by simpa using hlt))
        rw [List.getElem_map] at hcell
        clear hel
        have hmem := List.getElem_mem hlt
        have hnx : L[k].length ≤ 65531 → ∀ r ∈ L.take (k + 1), r.length ≤ 65531 := fun h r hr => by
          rw [List.take_succ_eq_append_getElem hlt] at hr
          rcases List.mem_append.1 hr with hr | hr
          · exact hall r hr
          · simp at hr; rw [hr]; exact h
        have Hnx := Lib.hid hnx
        have Hmem := Lib.hid hmem
        clear hnx hall hmem
        by_cases hg : (65531 : Int) < (L[k].length : Int)
        · have hno : ¬ fewLong L := fun h => by have := h _ Hmem.out; omega
          have h4 : E = 4 := by rw [HE.out, hbr, if_neg (by decide), if_neg hno]
          have H4 := Lib.hid h4
          clear hno h4
          go_wp2
          go_ret
          exact ⟨by rw [H4.out]; rfl, hbel⟩
        · go_wp2
          go_roundw
          case rel => exact ⟨k + 1, by omega, by go_num, Hnx.out (by omega), hbel⟩
          case measure => simp [intOf]; omega
      · obtain rfl : k = L.length := by omega
        rw [List.take_length] at hall
        have h0 : E = 0 := by rw [HE.out, hbr, if_neg (by decide), if_pos (show fewLong L from hall)]
        have H0 := Lib.hid h0
        clear hall h0
        go_wp2
        go_ret
        exact ⟨by rw [H0.out]; rfl, hbel⟩
end Go.Proofs.Ytiaabgmmmekpnaa
