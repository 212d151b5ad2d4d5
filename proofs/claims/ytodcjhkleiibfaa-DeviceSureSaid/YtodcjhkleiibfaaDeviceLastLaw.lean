/-
  The walk of DeviceLast.
-/
import Derived.Test.YtodcjhkleiibfaaDevMore
import Derived.Test.YtodcjhkleiibfaaDevFits
import Derived.StillTailTactics
import Derived.BigQuiet
namespace Go.Proofs.Ytodcjhkleiibfaa
open Go.RowKit
set_option maxRecDepth 100000

theorem fits_out {n : Int} {L : List OpM} (h : fitsB n L = true) : 1 ≤ n ∧ n ≤ 10 ∧ L.length ≤ 60 ∧ ∀ o ∈ L, o.s.length ≤ 300 ∧ o.choice.kept.length ≤ 70 := by
  unfold fitsB opFits at h
  simp only [Bool.and_eq_true, decide_eq_true_eq, List.all_eq_true] at h
  exact ⟨h.1.1.1, h.1.1.2, h.1.2, fun o ho => h.2 o ho⟩
theorem run_strs (n : Nat) (h : n ≤ 1099511627776) (u : World) : (Instr.makeSlice 30 (.int .i64 (n : Int)) (.int .i64 (n : Int))).run Try.prog u = .ok (.slice (some ⟨u.heap.size, 0, none⟩) n n) (u.alloc (.cells (Array.replicate n (str [])) 9)) := by
  have hr := run_make_row' (P := Try.prog) 30 9 (.string ⟨#[]⟩) 16 Try.underlying30 (by kernel_rfl) rfl .i64 .i64 n (by omega) (by omega) u
  rw [show (#[Value.string ⟨#[]⟩] : Array Value) = Array.replicate 1 (.string ⟨#[]⟩) from rfl, madeCells_rep _ 1 _ (by decide)] at hr
  exact hr
def zeroTxt : List UInt8 := List.replicate 256 0
/-- make([]byte, 256), and its text. -/
theorem conv_zeros (u : World) : (convert 42 9 (.slice (some ⟨u.heap.size, 0, none⟩) 256 256)).run Try.prog (u.alloc (.cells (Array.replicate 256 (.int .u8 0)) 5)) = .ok (str zeroTxt) (u.alloc (.cells (Array.replicate 256 (.int .u8 0)) 5)) := by
  have hl : zeroTxt.length = 256 := by unfold zeroTxt; simp
  refine conv_is (ok := fun _ => True) ⟨some ⟨u.heap.size, 0, none⟩, 256, by rw [hl], by rw [hl]; omega, by unfold maxLen; omega, ?_⟩
  have := (Blk.new u 5 (Array.replicate 256 (.int .u8 0))).rd (fun _ => True) trivial
  rw [show zeroTxt.map u8 = (Array.replicate 256 (Value.int .u8 0)).toList by unfold zeroTxt; rw [List.map_replicate]; simp [u8]]
  exact this
theorem Blk.setStr {w : World} {g : Nat} {t : TypeId} {L : List (List UInt8)} (h : Blk w g t (L.map str).toArray) (k : Nat) (x : List UInt8) : Blk (w.setCell ⟨g, k, none⟩ (str x)) g t ((L.set k x).map str).toArray := by
  have := h.set_ k (str x)
  rwa [List.setIfInBounds_toArray, ← List.map_set] at this

/-- No power is cut. -/
structure PlainDev (n : Nat) (D : Dev) : Prop where
  off : D.off = false
  left : D.left = -1
  len : D.sure.length = n
theorem plain_new (n : Nat) : PlainDev n (newD n) := ⟨rfl, rfl, List.length_replicate⟩
theorem plain_change {n : Nat} {D : Dev} (h : PlainDev n D) : D.change = ({ D with changes := D.changes + 1 }, 0) := by
  unfold Dev.change
  rw [if_neg (by rw [h.left]; decide), if_neg (by rw [h.left]; decide)]
theorem plain_put {n : Nat} {D : Dev} (h : PlainDev n D) (k : Nat) (b : List UInt8) (hk : k < n) (hb : b.length = 256) : D.put (k : Int) b = ({ D with loose := D.loose ++ [(k, b)], changes := D.changes + 1 }, 0) := by
  unfold Dev.put Dev.why
  rw [h.off, h.len]
  simp [hb]
  rw [if_neg (by omega)]
  have := plain_change (n := n) (D := { D with loose := D.loose ++ [(k, b)] }) ⟨h.off, h.left, h.len⟩
  rw [h.off] at this
  exact this
theorem plain_barrier {n : Nat} {D : Dev} (h : PlainDev n D) : D.barrier = ({ D with sure := applyW D.sure D.loose, loose := [], changes := D.changes + 1 }, 0) := by
  unfold Dev.barrier
  rw [if_neg (by rw [h.off]; decide), plain_change h]
  rfl
theorem mod_idx (a : Int) (k : Nat) (h : 0 < k) (hk : k ≤ 1099511627776) : ∃ j : Nat, j < k ∧ wrap64 ((IntKind.u64.wrap a).tmod (k : Int)) = (j : Int) := by
  have h0 : 0 ≤ IntKind.u64.wrap a := by simp only [IntKind.wrap_u64]; exact Int.emod_nonneg _ (by decide)
  have h1 : 0 ≤ IntKind.u64.wrap a % (k : Int) := Int.emod_nonneg _ (by omega)
  have h2 : IntKind.u64.wrap a % (k : Int) < (k : Int) := Int.emod_lt_of_pos _ (by omega)
  rw [Int.tmod_eq_emod_of_nonneg h0]
  obtain ⟨m, hm⟩ := Int.eq_ofNat_of_zero_le h1
  exact ⟨m, by omega, by rw [hm]; unfold wrap64; omega⟩
theorem fullB_take (c : UInt8) (s : List UInt8) : fullB c (s.take 256) = fullB c s := by
  unfold fullB
  rw [List.take_take, Nat.min_self]

theorem cut_text (s : List UInt8) : (⟨s.toArray⟩ : ByteArray).extract 0 (min (s.length : Int) 256).toNat = ⟨(s.take 256).toArray⟩ := by
  have : (min (s.length : Int) 256).toNat = min s.length 256 := by omega
  rw [this]
  apply ByteArray.ext
  rw [ByteArray.data_extract]
  apply Array.ext'
  rw [Array.toList_extract]
  simp [Nat.min_comm]
theorem full_cut (c : UInt8) (s : List UInt8) (w : World) : Calls Try.prog 21 #[.int .u8 (c.toNat : Int), .string ((⟨s.toArray⟩ : ByteArray).extract 0 (min (s.length : Int) 256).toNat)] w fun e w' => ∃ g, e = .returned (.slice (some ⟨g, 0, none⟩) 256 256) ∧ w.heap.size ≤ g ∧ Blk w' g 5 ((fullB c s).map u8).toArray ∧ Below w.heap.size w w' := by
  rw [cut_text, ← fullB_take c s]
  exact full_any c (s.take 256) w

set_option maxHeartbeats 1000000 in
theorem devicelast_walk (n : Int) (v : Value) (L : List OpM) (w : World) (hn : -9223372036854775808 ≤ n ∧ n ≤ 9223372036854775807) (hv : IsL kOp w (fun _ => True) v L) :
    Calls Try.prog 8 #[.int .i64 n, v] w fun e w' => e = .returned (.bool true) ∧ Below w.heap.size w w' := by
  have hv0 : IsL kOp w (fun k => k < w.heap.size) v L := hv.move fun k _ hk => ⟨hk, rfl⟩
  obtain ⟨A, c, rfl, hc, hm, hel⟩ := op_at hv0
  have Hel := Lib.hid hel
  have Hv := Lib.hid hv
  unfold maxLen at hm
  clear hel hv hv0
  cases hfit : fitsB n L with
  | false =>
    have Hfit := Lib.hid hfit
    clear hfit
    go_enter Try.func8, Try.ntmps8
    go_wp2_with fail
    refine (lives_any _).mono ?_
    rintro e w1 ⟨rfl, hb1⟩
    go_wp2_with fail
    refine (fits_any _ _ n L _ (Hv.out.grow hb1)).mono ?_
    rintro e w2 ⟨rfl, hb2⟩
    rw [Hfit.out]
    have hb02 := below_call hb1 hb2
    go_wp2_with fail
    refine (lives_any _).mono ?_
    rintro e w3 ⟨rfl, hb3⟩
    go_wp2
    go_ret
    exact ⟨rfl, below_call hb02 hb3⟩
  | true =>
    obtain ⟨h1, h10, h60, hop⟩ := fits_out hfit
    obtain ⟨N, rfl⟩ := Int.eq_ofNat_of_zero_le (show 0 ≤ n by omega)
    have hN1 : 0 < N := by omega
    have hN2 : N ≤ 10 := by omega
    have Hfit := Lib.hid hfit
    have Hop := Lib.hid hop
    have hmk := run_strs N (by omega)
    obtain ⟨Z0, hZ0⟩ : ∃ Z0 : Array Value, Z0 = Array.replicate N (str []) := ⟨_, rfl⟩
    rw [← hZ0] at hmk
    have HZ0 := Lib.hid hZ0
    clear hfit hop hZ0 h1 h10
    go_enter Try.func8, Try.ntmps8
    go_wp2_with fail
    refine (lives_any _).mono ?_
    rintro e w1 ⟨rfl, hb1⟩
    go_wp2_with fail
    refine (fits_any _ _ N L _ (Hv.out.grow hb1)).mono ?_
    rintro e w2 ⟨rfl, hb2⟩
    rw [Hfit.out]
    have hb02 := below_call hb1 hb2
    clear hb1 hb2
    go_wp2_with fail
    refine (new_ok N _ hN1 (by omega)).mono ?_
    rintro e w3 ⟨g, F, rfl, hdev, hb3⟩
    have hb03 := below_call hb02 hb3
    have Hdev := Lib.hid hdev
    have Hb03 := Lib.hid hb03
    have hs23 := hb3.size
    have hs02 := hb02.size
    have hlow := hdev.low
    have hnot : ¬ F w3.heap.size := fun h => by have := (hlow _ h).2; omega
    have Hnot := Lib.hid hnot
    clear hdev hb02 hb3 hb03 hlow hnot
    go_wp2_with fail
    have hmk2 := run_bytes256
    have hcz := conv_zeros
    obtain ⟨Z1, hZ1⟩ : ∃ Z1 : Array Value, Z1 = Array.replicate 256 (.int .u8 0) := ⟨_, rfl⟩
    rw [← hZ1] at hmk2 hcz
    clear hZ1
    go_loopw [38] (fun i wr => ∃ k : Nat, k ≤ N ∧ i = .int .i64 (k : Int) ∧ Blk wr w3.heap.size 9 ((List.replicate k zeroTxt ++ List.replicate (N - k) []).map str).toArray ∧ Below w3.heap.size w3 wr) (fun i _ => N - (intOf i).toNat)
    case atStart => exact ⟨0, by omega, rfl, by
      have := Blk.new w3 9 Z0
      rw [HZ0.out] at this ⊢
      simpa using this, (Below.refl _ _).alloc (Nat.le_refl _) _⟩
    case round =>
      obtain ⟨k, hk, rfl, hblk, hb⟩ := hrel
      by_cases hlt : k < N
      · have hset := hblk.setStr k zeroTxt
        have hcw := hblk.cell k
        have hfz := hblk.frozen k
        rw [Array.getElem?_eq_getElem (by simp; omega)] at hcw
        have hsz : w3.heap.size < wr.heap.size := hblk.lt
        have heq : (List.replicate k zeroTxt ++ List.replicate (N - k) []).set k zeroTxt = List.replicate (k + 1) zeroTxt ++ List.replicate (N - (k + 1)) [] := by
          rw [List.set_append_right _ _ (by simp)]
          simp only [List.length_replicate, Nat.sub_self]
          obtain ⟨m, hm⟩ : ∃ m, N - k = m + 1 := ⟨N - k - 1, by omega⟩
          rw [hm, List.replicate_succ, List.set_cons_zero, show N - (k + 1) = m by omega, List.replicate_succ' (n := k), List.append_assoc]
          rfl
        rw [heq] at hset
        have Hset := Lib.hid hset
        have Hb := Lib.hid hb
        clear hset heq hblk hb
        go_wp2
        go_roundw
        case rel => exact ⟨k + 1, by omega, by go_num, Hset.out.alloc _, (Hb.out.setCell (Nat.le_refl _) _).alloc (by simp [World.setCell]; omega) _⟩
        case measure => simp [intOf]; omega
      · obtain rfl : k = N := by omega
        obtain ⟨wa, rfl⟩ : ∃ x, x = wr := ⟨wr, rfl⟩
        rw [Nat.sub_self, show List.replicate 0 ([] : List UInt8) = [] from rfl, List.append_nil] at hblk
        have hbS : Blk wa w3.heap.size 9 ((applyW (newD k).sure (newD k).loose).map str).toArray := hblk
        have hd4 := Hdev.out.grow hb
        have hb04 := below_call Hb03.out hb
        have HbS := Lib.hid hbS
        have Hd4 := Lib.hid hd4
        have Hb04 := Lib.hid hb04
        have Hb34 := Lib.hid hb
        clear hblk hbS hd4 hb04 hb hmk hmk2 hcz
        go_wp2_with fail
        go_loopw [9, 10, 49] (fun a b i wr => ∃ (m : Nat) (D : Dev) (G : Nat → Prop), m ≤ L.length ∧ i = .int .i64 (m : Int) ∧ a = .int .i64 (D.changes : Int) ∧ b = .int .i64 (D.loose.length : Int) ∧ D.Few m ∧ PlainDev k D ∧ DevAt wr w2.heap.size G g D ∧ ¬ G w3.heap.size ∧ Blk wr w3.heap.size 9 ((applyW D.sure D.loose).map str).toArray ∧ Below w.heap.size w wr) (fun _ _ i _ => L.length - (intOf i).toNat)
        case atStart => exact ⟨0, newD k, F, by omega, rfl, rfl, rfl, newD_few _ _, plain_new k, Hd4.out, Hnot.out, HbS.out, Hb04.out⟩
        case round =>
          obtain ⟨m, D, G, hm1, rfl, rfl, rfl, hfew, hpl, hdv, hno, hblk, hbw⟩ := hrel
          by_cases hlt : m < L.length
          · obtain ⟨b, off, rfl, hbw0, _, hcells⟩ := Hel.out (by intro e; rw [e] at hlt; simp at hlt)
            obtain ⟨Ak, nk, c0, c1, c2, c3, c4, c5, c6, c7, hkL, hkk, hka, hsl⟩ := hcells m hlt
            have d0 := (hbw.cell (p := ⟨b, off + m * 8, none⟩) hbw0).trans c0
            have d1 := (hbw.cell (p := ⟨b, off + m * 8 + 1, none⟩) hbw0).trans c1
            have d2 := (hbw.cell (p := ⟨b, off + m * 8 + 2, none⟩) hbw0).trans c2
            have d3 := (hbw.cell (p := ⟨b, off + m * 8 + 3, none⟩) hbw0).trans c3
            have d4 := (hbw.cell (p := ⟨b, off + m * 8 + 4, none⟩) hbw0).trans c4
            have d5 := (hbw.cell (p := ⟨b, off + m * 8 + 5, none⟩) hbw0).trans c5
            have d6 := (hbw.cell (p := ⟨b, off + m * 8 + 6, none⟩) hbw0).trans c6
            have d7 := (hbw.cell (p := ⟨b, off + m * 8 + 7, none⟩) hbw0).trans c7
            have hsl300 := (Hop.out _ (List.getElem_mem hlt)).1
            have Hfew := Lib.hid hfew
            have Hpl := Lib.hid hpl
            have Hdv := Lib.hid hdv
            have Hno := Lib.hid hno
            have Hblk := Lib.hid hblk
            have Hbw := Lib.hid hbw
            have hsw := hbw.size
            clear hcells c0 c1 c2 c3 c4 c5 c6 c7 hkL hfew hpl hdv hno hblk hbw hsl
            obtain ⟨j, hj, hij⟩ := mod_idx L[m].at_ k (by omega) (by omega)
            have Hij := Lib.hid hij
            have hbox : Below wr.heap.size wr (wr.alloc (.cells #[.int .i64 L[m].kind, .int .i64 L[m].at_, .int .u8 (L[m].c.toNat : Int), str L[m].s, .bool L[m].long, .slice Ak L[m].choice.kept.length nk, .int .i64 L[m].choice.torn, .int .i64 L[m].choice.half] 39)) := (Below.refl _ _).alloc (Nat.le_refl _) _
            have hblkO := Blk.new wr 39 #[.int .i64 L[m].kind, .int .i64 L[m].at_, .int .u8 (L[m].c.toNat : Int), str L[m].s, .bool L[m].long, .slice Ak L[m].choice.kept.length nk, .int .i64 L[m].choice.torn, .int .i64 L[m].choice.half]
            obtain ⟨W, hW⟩ : ∃ W, W = (wr.alloc (.cells #[.int .i64 L[m].kind, .int .i64 L[m].at_, .int .u8 (L[m].c.toNat : Int), str L[m].s, .bool L[m].long, .slice Ak L[m].choice.kept.length nk, .int .i64 L[m].choice.torn, .int .i64 L[m].choice.half] 39)) := ⟨_, rfl⟩
            rw [← hW] at hbox hblkO
            have HW := Lib.hid hW
            have HblkO := Lib.hid hblkO
            have HdvW := Lib.hid (Hdv.out.grow hbox)
            have HblkW := Lib.hid (Hblk.out.grow hbox)
            have HbwW := Lib.hid (below_call Hbw.out hbox)
            have hfl := Hfew.out.1
            have hfc := Hfew.out.2
            clear hij hW hbox hblkO
            go_upto_region 17 with (fail)
            · rw [← HW.out]
              have hbar := plain_barrier Hpl.out
              have Hbar := Lib.hid hbar
              clear hbar
              go_wp2_with fail
              refine (barrier_any _ _ _ D _ HdvW.out (by omega) (by omega)).mono ?_
              rintro e w5 ⟨rfl, hd5, hf5⟩
              rw [Hbar.out] at hd5 ⊢
              obtain ⟨hn5, hb5⟩ := hf5.blk HblkW.out Hno.out
              have hb05 := below_dev HbwW.out HdvW.out (by have := Hb03.out.size; omega) hf5
              have Hd5 := Lib.hid hd5
              have Hb5 := Lib.hid hb5
              have Hn5 := Lib.hid hn5
              have Hb05 := Lib.hid hb05
              clear hd5 hf5 hb5 hn5 hb05
              go_wp2_with fail
              go_roundw
              case rel => exact ⟨m + 1, ({ D with sure := applyW D.sure D.loose, loose := [], changes := D.changes + 1 } : Dev), G, by omega, by go_num, by go_num, rfl, ⟨Nat.zero_le _, by show D.changes + 1 ≤ _; omega⟩, ⟨Hpl.out.off, Hpl.out.left, by show (applyW _ _).length = k; rw [applyW_length]; exact Hpl.out.len⟩, Hd5.out, Hn5.out, Hb5.out, Hb05.out⟩
              case measure => simp [intOf]; omega
            · rw [← HW.out, Hij.out]
              have he2 := HblkO.out.cell 2
              have he3 := HblkO.out.cell 3
              simp at he2 he3
              have hm0 : (0 : Int) ≤ min (L[m].s.length : Int) 256 := by omega
              have hm1 : min (L[m].s.length : Int) 256 ≤ (L[m].s.length : Int) := by omega
              go_region_held3 (fun u => Below W.heap.size W u ∧ u.cell? ⟨wr.heap.size, 2, none⟩ = some (.int .u8 (L[m].c.toNat : Int)) ∧ u.cell? ⟨wr.heap.size, 3, none⟩ = some (str L[m].s))
                (first | exact ⟨(Below.refl _ _).drew, he2, he3⟩ | (go_split_ands; exact ⟨below_on (by assumption) hb5', cell_then hb5' (by assumption), cell_then hb5' (by assumption)⟩) | assumption)
                ((go_at_call 21; refine (full_cut L[m].c L[m].s _).mono ?_; rintro e w5 ⟨g5, rfl, hg5, hbl5, hb5'⟩))
              all_goals
                have hb5 := below_drew_then hb5'
                have hB5 := isB_full hbl5
                have hd5 := HdvW.out.grow hb5
                have hblk5 := HblkW.out.grow hb5
                have hb05 := below_call HbwW.out hb5
                have hput := plain_put Hpl.out j (fullB L[m].c L[m].s) hj (fullB_length _ _)
                have hg5G : ¬ G g5 := fun h => by
                  have := (HdvW.out.low _ h).2
                  have : W.heap.size ≤ g5 := hg5
                  omega
                have Hbl5 := Lib.hid hbl5
                have Hd5 := Lib.hid hd5
                have Hblk5 := Lib.hid hblk5
                have Hb05 := Lib.hid hb05
                have Hput := Lib.hid hput
                have HB5 := Lib.hid hB5
                clear hbl5 hb5 hb5' hB5 hd5 hblk5 hb05 hput he2 he3 hm0 hm1
                go_wp2_with fail
                refine (write_any _ _ _ D _ _ _ _ _ Hd5.out HB5.out Hd5.out.size (by omega) (by omega)).mono ?_
                rintro e w6 ⟨rfl, G6, hd6, hf6⟩
                rw [Hput.out] at hd6 ⊢
                obtain ⟨hn6, hblk6⟩ := hf6.blk Hblk5.out Hno.out
                obtain ⟨_, hbl6⟩ := hf6.blk Hbl5.out hg5G
                have hb06 := below_dev Hb05.out Hd5.out (by have := Hb03.out.size; omega) hf6
                have hcv := conv_is (isB_full hbl6)
                have hlen6 : (applyW D.sure D.loose).length = k := by rw [applyW_length]; exact Hpl.out.len
                have hfz := hblk6.frozen j
                obtain ⟨u0, hcw⟩ : ∃ u0, w6.cell? ⟨w3.heap.size, j, none⟩ = some u0 := by
                  have h0 := hblk6.cell j
                  rw [Array.getElem?_eq_getElem (by simp; omega)] at h0
                  exact ⟨_, h0⟩
                have hset := hblk6.setStr j (fullB L[m].c L[m].s)
                have happ : (applyW D.sure D.loose).set j (fullB L[m].c L[m].s) = applyW D.sure (D.loose ++ [(j, fullB L[m].c L[m].s)]) := by rw [applyW_append]; rfl
                rw [happ] at hset
                have hG6g : ¬ G6 w3.heap.size := hn6
                obtain ⟨W6, hW6⟩ : ∃ x, x = w6.setCell ⟨w3.heap.size, j, none⟩ (str (fullB L[m].c L[m].s)) := ⟨_, rfl⟩
                have hd66 : DevAt W6 w2.heap.size G6 g ({ D with loose := D.loose ++ [(j, fullB L[m].c L[m].s)], changes := D.changes + 1 } : Dev) := by
                  rw [hW6]
                  exact hd6.keep (fun q hq => Below.heap_setCell _ _ _ _ (fun (e : q = w3.heap.size) => hG6g (e ▸ hq))) (by simp [World.setCell])
                have hb66 : Below w.heap.size w W6 := by rw [hW6]; exact hb06.setCell (by have := Hb03.out.size; show w.heap.size ≤ w3.heap.size; omega) _
                rw [← hW6] at hset
                obtain ⟨T, hT⟩ : ∃ T : List (List UInt8), T = applyW D.sure (D.loose ++ [(j, fullB L[m].c L[m].s)]) := ⟨_, rfl⟩
                rw [← hT] at hset
                have hTl : T.length = k := by rw [hT, applyW_length]; exact Hpl.out.len
                have HT := Lib.hid hT
                have HTl := Lib.hid hTl
                have Hset := Lib.hid hset
                have Hd66 := Lib.hid hd66
                have Hb66 := Lib.hid hb66
                have HW6 := Lib.hid hW6
                have HG6 := Lib.hid hG6g
                have hjk : (j : Int) < (k : Int) := by omega
                have hpl6 : PlainDev k ({ D with loose := D.loose ++ [(j, fullB L[m].c L[m].s)], changes := D.changes + 1 } : Dev) := ⟨Hpl.out.off, Hpl.out.left, Hpl.out.len⟩
                have Hpl6 := Lib.hid hpl6
                obtain ⟨D6, hD6⟩ : ∃ D6 : Dev, D6 = { D with loose := D.loose ++ [(j, fullB L[m].c L[m].s)], changes := D.changes + 1 } := ⟨_, rfl⟩
                have hD6c : D6.changes = D.changes + 1 := by rw [hD6]
                have hD6l : D6.loose.length = D.loose.length + 1 := by rw [hD6]; simp
                have hD6n : ∀ q, q < k → D6.why (q : Int) = 0 ∧ D6.now q = T.getD q [] := fun q hq => by
                  rw [hD6]
                  refine ⟨?_, ?_⟩
                  · unfold Dev.why
                    show (if D.off then _ else if _ ∨ (D.sure.length : Int) ≤ _ then _ else _) = _
                    rw [Hpl.out.off, Hpl.out.len]
                    simp
                    omega
                  · rw [now_eq _ _ (by show q < D.sure.length; rw [Hpl.out.len]; exact hq), hT]
                rw [← hD6] at Hd66 Hpl6
                have HD6 := Lib.hid hD6
                have HD6c := Lib.hid hD6c
                have HD6l := Lib.hid hD6l
                have HD6n := Lib.hid hD6n
                have hTa : T = applyW D6.sure D6.loose := by rw [hD6, hT]
                have HTa := Lib.hid hTa
                clear hd6 hf6 hn6 hblk6 hbl6 hb06 hlen6 hset happ hG6g hW6 hd66 hb66 hT hTl hpl6 hD6 hD6c hD6l hD6n hTa
                go_wp2_with fail
                rw [← HW6.out]
                clear hcw hfz hcv
                go_loopw [96] (fun x wr => ∃ q : Nat, q ≤ k ∧ x = .int .i64 (q : Int) ∧ Below W6.heap.size W6 wr) (fun x _ => k - (intOf x).toNat)
                case atStart => exact ⟨0, by omega, rfl, Below.refl _ _⟩
                case round =>
                  obtain ⟨q, hq, rfl, hbq⟩ := hrel
                  by_cases hlq : q < k
                  · obtain ⟨hw0, hnow⟩ := HD6n.out q hlq
                    have hdq := Hd66.out.grow hbq
                    have hsq := Hset.out.grow hbq
                    have hqT : q < T.length := by rw [HTl.out]; exact hlq
                    have hcq : wr.cell? ⟨w3.heap.size, q, none⟩ = some (str T[q]) := by rw [hsq.cell]; simp [hqT]
                    rw [show T.getD q [] = T[q] by rw [List.getD_eq_getElem?_getD, List.getElem?_eq_getElem hqT]; rfl] at hnow
                    obtain ⟨X, hX⟩ : ∃ X, X = T[q] := ⟨_, rfl⟩
                    rw [← hX] at hnow hcq
                    have hXl : X.length = 256 := by
                      rw [← hnow]
                      exact now_length Hd66.out.wf q (by rw [Hpl6.out.len]; exact hlq)
                    have Hw0 := Lib.hid hw0
                    have Hnow := Lib.hid hnow
                    have Hdq := Lib.hid hdq
                    have Hbq := Lib.hid hbq
                    have Hcq := Lib.hid hcq
                    have HXl := Lib.hid hXl
                    clear hw0 hnow hdq hsq hX hbq hXl hcq
                    go_wp2_with fail
                    refine (read_any _ _ _ _ _ _ Hdq.out).mono ?_
                    rintro e w7 hrd
                    rcases hrd with ⟨h, _⟩ | ⟨_, v, rfl, hov, hb7⟩
                    · exact absurd Hw0.out h
                    rw [show ((q : Int)).toNat = q from rfl, Hnow.out] at hov
                    obtain ⟨A7, c7, hv7, _, _, _⟩ := hov.form
                    rw [List.length_map, HXl.out] at hv7
                    subst hv7
                    have hcq7 := cell_then hb7 Hcq.out
                    have hB7 := hov.isB
                    have hcv7 : ∀ n, (convert 42 9 (.slice A7 256 c7)).run Try.prog (w7.drewN n) = .ok (str X) (w7.drewN n) := fun n => conv_is (hB7.drewN n)
                    have hb67 := below_call Hbq.out hb7
                    have Hb67 := Lib.hid hb67
                    clear hov hB7 hb7 hb67
                    go_wp2_with fail
                    go_quiet (fail)
                    go_wp2
                    go_roundw
                    case rel => exact ⟨q + 1, by omega, by go_num, below_drewN Hb67.out _⟩
                    case measure => simp [intOf]; omega
                  · obtain rfl : q = k := by omega
                    have Hbq := Lib.hid hbq
                    clear hbq
                    go_wp2_with fail
                    go_roundw
                    case rel => exact ⟨m + 1, D6, G6, by omega, by go_num, by rw [HD6c.out]; go_num, by rw [HD6l.out]; go_num, ⟨by rw [HD6l.out]; omega, by rw [HD6c.out]; omega⟩, Hpl6.out, Hd66.out.grow Hbq.out, HG6.out, by rw [← HTa.out]; exact Hset.out.grow Hbq.out, below_call Hb66.out Hbq.out⟩
                    case measure => simp [intOf]; omega
          · obtain rfl : m = L.length := by omega
            have Hpl := Lib.hid hpl
            have Hdv := Lib.hid hdv
            have Hbw := Lib.hid hbw
            clear hfew hpl hdv hno hblk hbw
            go_wp2_with fail
            refine (changes_any _ _ _ D _ Hdv.out).mono ?_
            rintro e w' ⟨rfl, rfl⟩
            go_wp2_with fail
            refine (loose_any _ _ _ D _ Hdv.out).mono ?_
            rintro e w' ⟨rfl, rfl⟩
            go_wp2_with fail
            refine (off_any _ _ _ D _ Hdv.out).mono ?_
            rintro e w' ⟨rfl, rfl⟩
            rw [Hpl.out.off]
            go_wp2_with fail
            refine (on_any _ _ _ D _ Hdv.out).mono ?_
            rintro e w5 ⟨rfl, hd5, hf5⟩
            rw [Hpl.out.off]
            have hb5 := below_dev Hbw.out Hdv.out (by have := Hb03.out.size; omega) hf5
            clear hd5 hf5
            go_wp2
            go_ret
            exact ⟨by simp, hb5⟩
end Go.Proofs.Ytodcjhkleiibfaa
