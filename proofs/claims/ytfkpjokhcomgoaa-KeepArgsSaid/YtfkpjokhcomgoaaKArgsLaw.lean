/-
  The walk of KeepArgs.
-/
import Derived.Test.YtfkpjokhcomgoaaKKeep
namespace Go.Proofs.Ytfkpjokhcomgoaa
open Go.RowKit
set_option maxRecDepth 100000

theorem run_bytesK (n : Nat) (h : n ≤ 1099511627776) (u : World) : (Instr.makeSlice 33 (.int .i64 (n : Int)) (.int .i64 (n : Int))).run Try.prog u = .ok (.slice (some ⟨u.heap.size, 0, none⟩) n n) (u.alloc (.cells (Array.replicate n (.int .u8 0)) 5)) := by
  have hr := run_make_row' (P := Try.prog) 33 5 (.int .u8 0) 1 Try.underlying33 (by kernel_rfl) rfl .i64 .i64 n (by omega) (by omega) u
  rw [show (#[Value.int .u8 0] : Array Value) = Array.replicate 1 (.int .u8 0) from rfl, madeCells_rep _ 1 _ (by decide)] at hr
  exact hr
theorem isB_zerosK (w : World) (N : Nat) (h : N ≤ 1099511627776) : IsB (w.alloc (.cells (Array.replicate N (.int .u8 0)) 5)) (fun k => k = w.heap.size) (.slice (some ⟨w.heap.size, 0, none⟩) N N) (List.replicate N 0) := by
  refine ⟨_, N, by rw [List.length_replicate], by rw [List.length_replicate]; exact Nat.le_refl _, by unfold maxLen; omega, ?_⟩
  have := (Blk.new w 5 (Array.replicate N (.int .u8 0))).rd (fun k => k = w.heap.size) rfl
  rw [show (List.replicate N (0 : UInt8)).map u8 = (Array.replicate N (Value.int .u8 0)).toList by rw [List.map_replicate]; simp [u8]]
  exact this
/-- One change, whose value lies in a row that was laid ahead of it. -/
theorem isL_chg {w z : World} (hz : Below w.heap.size w z) (B : Nat) (hB : B = z.heap.size) (key : Nat) (hk : key < 18446744073709551616) (v : Value) (l : List UInt8) (gone : Bool) (hv : IsB z (fun k => w.heap.size ≤ k ∧ k < z.heap.size) v l) :
    IsL kPut (z.alloc (.cells #[.int .u64 (key : Int), v, .bool gone] 35)) (fun k => w.heap.size ≤ k ∧ k < (z.alloc (.cells #[.int .u64 (key : Int), v, .bool gone] 35)).heap.size) (.slice (some ⟨B, 0, none⟩) 1 1) [⟨key, l, gone⟩] := by
  subst hB
  have h := isL_row (W := z) (ok := fun k => w.heap.size ≤ k ∧ k < z.heap.size) (L := [⟨key, l, gone⟩]) (cells := [.int .u64 (key : Int), v, .bool gone]) (by simp)
    (kMany.cons (K := kPut) (c := [.int .u64 (key : Int), v, .bool gone]) (cs := []) (a := ⟨key, l, gone⟩) (L := []) ⟨_, rfl, hk, hv⟩ kMany.nil)
  have hs := hz.size
  exact h.move fun k hk _ => ⟨by rw [World.size_alloc]; rcases hk with h | h; exact ⟨h.1, by omega⟩; exact ⟨by omega, by omega⟩, rfl⟩

/-- Changes of one key. -/
theorem one_rec (p : PutM) (hk : p.key < 18446744073709551616) (hl : p.val.length ≤ 60000) : (precM [p] []).2 = 0 ∧ (precM [p] []).1.length ≤ p.val.length + 20 ∧ (p.gone = false → p.val.length ≤ (precM [p] []).1.length) ∧ (p.gone = true → (precM [p] []).1.length ≤ 20) := by
  have hn := numLen_le p.key (by omega)
  have h1 := packB_two (numB p.key) (valB p)
  have h2 := lenB_le (numB p.key).length
  have h3 := lenB_le (valB p).length
  have h4 : (numB p.key).length = numLen p.key := numB_length _
  have h5 : (valB p).length ≤ p.val.length + 1 ∧ (p.gone = false → p.val.length ≤ (valB p).length) ∧ (p.gone = true → (valB p).length = 0) := by
    obtain ⟨k, v, g⟩ := p
    cases g
    · simp [valB]
    · simp [valB]
  have e : precM [p] [] = ([] ++ putB p, 0) := by
    unfold precM
    rw [if_neg (by omega), if_neg (by unfold putB; simp only [List.length_nil]; omega)]
    rfl
  rw [e]
  unfold putB
  rw [List.nil_append]
  exact ⟨rfl, by dsimp only; omega, fun h => by have := h5.2.1 h; dsimp only; omega, fun h => by have := h5.2.2 h; dsimp only; omega⟩
def oneG (key : Nat) (l : List UInt8) : Nat → Option (List UInt8) := putsG noneG [⟨key, l, false⟩]
theorem oneG_at (key : Nat) (l : List UInt8) (k : Nat) : oneG key l k = if k = key then some l else none := rfl
theorem oneG_two (key : Nat) (l m : List UInt8) : putsG (oneG key l) [⟨key, m, false⟩] = oneG key m := by
  funext k
  show putG (oneG key l) ⟨key, m, false⟩ k = _
  unfold putG
  rw [oneG_at, oneG_at]
  dsimp only
  split
  · rfl
  · rfl
theorem oneG_le (key : Nat) (l : List UInt8) (n : Nat) (h : l.length ≤ n) : ∀ k x, oneG key l k = some x → x.length ≤ n := by
  intro k x hx
  rw [oneG_at] at hx
  split at hx
  · injection hx with hx; rw [← hx]; exact h
  · cases hx
theorem oneG_pair (key : Nat) (hk : key < 18446744073709551616) (l : List UInt8) (h : l.length ≤ 60000) : ∀ y, (oneG key l y).isSome = true → (pairM (oneG key l) y).2 = 0 := by
  intro y hy
  rw [oneG_at] at hy
  by_cases e : y = key
  · subst e
    unfold pairM
    rw [oneG_at, if_pos rfl]
    exact (one_rec ⟨y, l, false⟩ hk h).1
  · rw [if_neg e] at hy; cases hy
theorem oneG_big (key : Nat) (hk : key < 18446744073709551616) (l : List UInt8) (h : l.length ≤ 60000) (ys : List Nat) (hys : KeysOf (oneG key l) ys) : l.length + 4 ≤ (recsB (recsOfG (oneG key l) ys)).length := by
  have hm : key ∈ ys := (hys.1 key).2 ⟨hk, by rw [oneG_at, if_pos rfl]; rfl⟩
  have h1 := recsB_mem (recsOfG (oneG key l) ys) ((pairM (oneG key l) key).1) (by unfold recsOfG; exact List.mem_map.2 ⟨key, hm, rfl⟩)
  have h2 := (one_rec ⟨key, l, false⟩ hk h).2.2.1 rfl
  have h3 : pairM (oneG key l) key = precM [⟨key, l, false⟩] [] := by unfold pairM; rw [oneG_at, if_pos rfl]; rfl
  rw [h3] at h1
  dsimp only at h2
  omega

/-- The three Commits of changes in fresh rows. -/
theorem kcommit_few_fresh (base : Nat) (Fp : Nat → Prop) (kb g : Nat) (D : Dev) (J : JM) (Ls : List (List UInt8)) (n : Nat) (G : Nat → Option (List UInt8)) (v : Value) (L : List PutM) (w z : World) (h : KeepOk w base Fp kb g D J Ls n G) (hz : Below w.heap.size w z) (hfew : D.Few 900000) (hnum : J.number + 1 ≤ 4611686018427387904)
    (ok : Nat → Prop) (hL : IsL kPut z ok v L) (hok : ∀ k, ok k → w.heap.size ≤ k ∧ k < z.heap.size) (hfew2 : L.any long60 = true ∨ L = []) (hnl : n + L.length ≤ 1099511627776) (hGl : ∀ k l, G k = some l → l.length ≤ 65535) :
    Calls Try.prog 9 #[.pointer (some ⟨kb, 0, none⟩), v] z fun e w' => e = .returned (.int .i64 (if L.any long60 then 4 else 0)) ∧ KeepOk w' base Fp kb g D J Ls n G ∧ Below base w w' := by
  have hl := h.low
  have hs : base ≤ w.heap.size := by obtain ⟨Gd, j, gm, P, hd, _⟩ := h; exact hd.size
  refine (kcommit_few_ok base Fp ok kb g D J Ls n G v L z (h.grow hz) hfew hnum hL (fun k hk => ⟨(hok k hk).2, fun hF => by have := hl k hF; have := (hok k hk).1; omega⟩) hfew2 hnl hGl).mono ?_
  rintro e w' ⟨rfl, h1, h2⟩
  exact ⟨rfl, h1, (below_call hz h2).mono hs⟩
theorem kcommit_full_fresh (base : Nat) (Fp : Nat → Prop) (kb g : Nat) (D : Dev) (J : JM) (Ls : List (List UInt8)) (n : Nat) (G : Nat → Option (List UInt8)) (v : Value) (L : List PutM) (w z : World) (h : KeepOk w base Fp kb g D J Ls n G) (hz : Below w.heap.size w z) (hfew : D.Few 900000) (hnum : J.number + 1 ≤ 4611686018427387904)
    (ok : Nat → Prop) (hL : IsL kPut z ok v L) (hok : ∀ k, ok k → w.heap.size ≤ k ∧ k < z.heap.size) (hnil : L ≠ []) (hlg : L.any long60 = false) (hrec : (precM L []).2 = 0) (hroom : sideN D * 256 - J.used < (recsB [(precM L []).1]).length) (hnl : n + L.length ≤ 1099511627776) (hGl : ∀ k l, G k = some l → l.length ≤ 65535)
    (hpair : ∀ y, (putsG G L y).isSome = true → (pairM (putsG G L) y).2 = 0) (hbig : ∀ ys, KeysOf (putsG G L) ys → sideN D * 256 < (recsB (recsOfG (putsG G L) ys)).length) :
    Calls Try.prog 9 #[.pointer (some ⟨kb, 0, none⟩), v] z fun e w' => e = .returned (.int .i64 5) ∧ ∃ Fp', KeepOk w' base Fp' kb g D J Ls n G ∧ Below base w w' := by
  have hl := h.low
  have hs : base ≤ w.heap.size := by obtain ⟨Gd, j, gm, P, hd, _⟩ := h; exact hd.size
  have hkz := h.grow hz
  refine (kcommit_full_ok base Fp ok kb g D J Ls n G v L z hkz hfew hnum hL (fun k hk => ⟨(hok k hk).2, fun hF => by have := hl k hF; have := (hok k hk).1; omega⟩) hnil hlg hrec hroom hnl hGl hpair hbig).mono ?_
  rintro e w' ⟨rfl, Fp', h1, h2⟩
  exact ⟨rfl, Fp', h1, (hz.mono hs).trans (hkz.below h2)⟩

/-- A Keep, whatever it holds. -/
def KeepSome (w : World) (base kb g : Nat) : Prop := ∃ Fp D J Ls n G, KeepOk w base Fp kb g D J Ls n G ∧ D.Few 900000 ∧ J.number + 1 ≤ 4611686018427387904 ∧ n ≤ 1000 ∧ ∀ k l, G k = some l → l.length ≤ 65535
theorem KeepSome.nothing {w : World} {base kb g : Nat} (h : KeepSome w base kb g) : Calls Try.prog 9 #[.pointer (some ⟨kb, 0, none⟩), .slice none 0 0] w fun e w' => e = .returned (.int .i64 0) ∧ KeepSome w' base kb g ∧ Below w.heap.size w w' := by
  obtain ⟨Fp, D, J, Ls, n, G, hk, hf, hn, hn2, hG⟩ := h
  have hL : IsL kPut w (fun _ => False) (.slice none 0 0) [] := ⟨none, 0, [], rfl, Nat.le_refl _, Nat.zero_le _, Rd.nil, kMany.nil⟩
  refine (kcommit_few_ok base Fp (fun _ => False) kb g D J Ls n G _ [] w hk hf hn hL (fun k h => h.elim) (.inr rfl) (by simp only [List.length_nil]; omega) hG).mono ?_
  rintro e w' ⟨rfl, h1, h2⟩
  exact ⟨rfl, ⟨Fp, D, J, Ls, n, G, h1, hf, hn, hn2, hG⟩, h2⟩
theorem KeepSome.whole {w : World} {base kb g : Nat} (h : KeepSome w base kb g) : Calls Try.prog 12 #[.pointer (some ⟨kb, 0, none⟩)] w fun e w' => e = .returned (.bool false) ∧ w = w' := by
  obtain ⟨Fp, D, J, Ls, n, G, hk, _⟩ := h
  exact kbroken_ok base Fp kb g D J Ls n G w hk

set_option maxHeartbeats 2000000 in
theorem keepargs_walk (key : Nat) (long : Int) (w : World) (hkey : key < 18446744073709551616) :
    Calls Try.prog 3 #[.int .u64 (key : Int), .int .i64 long] w fun e w' => e = .returned (.bool true) ∧ Below w.heap.size w w' := by
  obtain ⟨D1, ho1, hi1, hl1, hn1, hc1, hlo1⟩ := open_new 30 (by decide) (by decide)
  have hs1 : sideN D1 = 14 := by unfold sideN; rw [hn1]
  have hf1 : D1.Few 10 := ⟨by rw [hlo1]; decide, by rw [hc1]; decide⟩
  obtain ⟨J1, hJ1⟩ : ∃ J1 : JM, J1 = ⟨1, 0, 0, 0, false⟩ := ⟨_, rfl⟩
  rw [← hJ1] at ho1 hi1
  have hJ1u : J1.used = 0 := by rw [hJ1]
  have hJ1n : J1.number = 1 := by rw [hJ1]
  obtain ⟨k, hk5, hkk⟩ := mod_idx long 5 (by omega) (by omega)
  rw [show ((5 : Nat) : Int) = 5 from rfl] at hkk
  obtain ⟨N, hN⟩ : ∃ N, N = 59998 + k := ⟨_, rfl⟩
  have hNk : 59998 + (k : Int) = (N : Int) := by omega
  have hN2 : N ≤ 60002 ∧ 59998 ≤ N := by omega
  obtain ⟨L1, hL1⟩ : ∃ L1 : List PutM, L1 = [⟨key, [118], false⟩] := ⟨_, rfl⟩
  obtain ⟨L2, hL2⟩ : ∃ L2 : List PutM, L2 = [⟨key, List.replicate N 0, false⟩] := ⟨_, rfl⟩
  obtain ⟨L3, hL3⟩ : ∃ L3 : List PutM, L3 = [⟨key, List.replicate N 0, true⟩] := ⟨_, rfl⟩
  have H1 := Lib.hid (show L1 ≠ [] ∧ L1.any long60 = false ∧ (precM L1 []).2 = 0 ∧ (recsB [(precM L1 []).1]).length ≤ 100 ∧ L1.length = 1 from by
    rw [hL1]
    have h := one_rec ⟨key, [118], false⟩ hkey (by simp)
    have h2 := (recsB_one (precM [⟨key, [118], false⟩] []).1).2
    have h3 := h.2.1
    simp only [List.length_cons, List.length_nil] at h3
    exact ⟨by simp, by simp [long60], h.1, by omega, rfl⟩)
  have HG1 := Lib.hid (show putsG noneG L1 = oneG key [118] from by rw [hL1]; rfl)
  have HL1 := Lib.hid hL1
  have HL2 := Lib.hid hL2
  have HL3 := Lib.hid hL3
  have Ho1 := Lib.hid ho1
  have Hi1 := Lib.hid hi1
  have Hl1 := Lib.hid hl1
  have Hf1 := Lib.hid hf1
  have Hn1 := Lib.hid hn1
  have Hs1 := Lib.hid hs1
  have HJ1u := Lib.hid hJ1u
  have HJ1n := Lib.hid hJ1n
  have HN2 := Lib.hid hN2
  clear ho1 hi1 hl1 hn1 hc1 hlo1 hs1 hf1 hL1 hL2 hL3 hJ1 hJ1u hJ1n hN hk5
  have kc := fun (w : World) (C : Array Value) (n c : Nat) => Lib.run_convert_bytes_const (P := Try.prog) w 33 5 C n c Try.underlying33 Try.underlying5
  have hmk := run_bytesK N (by omega)
  go_enter Try.func3, Try.ntmps3
  go_wp2_with fail
  refine (klives_any _).mono ?_
  rintro e w0 ⟨rfl, hb0⟩
  have hs0 := hb0.size
  have Hb0 := Lib.hid hb0
  clear hb0
  go_wp2_with fail
  refine (new_ok 30 w0 (by decide) (by decide)).mono ?_
  rintro e w1 ⟨g, F1, rfl, hd1, hb1⟩
  have Hd1 := Lib.hid hd1
  have Hb1 := Lib.hid hb1
  clear hd1 hb1
  go_wp2_with fail
  have ho := kopen_ok w0.heap.size F1 g (newD 30) D1 w1 (newD_few 30 900000) Hd1.out J1 [] Ho1.out Hi1.out noneG rfl (by simp)
  refine ho.mono ?_
  rintro e w2 ⟨kb, Fp2, n2, rfl, hk2, hn2, hkw, hfr2⟩
  obtain rfl : n2 = 0 := by simpa using hn2
  have hb2 : Below w0.heap.size w0 w2 := Hb1.out.trans (hfr2.below (fun k hk => (Hd1.out.low k hk).1) Hb1.out.size)
  have Hk2 := Lib.hid hk2
  have Hb2 := Lib.hid hb2
  clear ho hk2 hb2 hfr2 hn2 Hd1 Hb1 Ho1
  have hro := kroom_ok w0.heap.size Fp2 kb g D1 J1 [] 0 noneG w2 Hk2.out
  rw [Hs1.out, HJ1u.out, show ((14 * 256 - 0 : Nat) : Int) = 3584 from rfl] at hro
  have Hro := Lib.hid hro
  clear hro
  go_wp2_with fail
  refine Hro.out.mono ?_
  rintro e w3 ⟨rfl, hb3⟩
  have Hk3 := Lib.hid (Hk2.out.grow hb3)
  have Hb3 := Lib.hid (Hb2.out.trans (hb3.mono (Hb2.out.size)))
  clear hb3 Hk2 Hb2 Hro
  have hz1 : Below w3.heap.size w3 (w3.alloc (.cells #[.int .u8 118] 5 (1, 2))) := (Below.refl _ _).alloc (Nat.le_refl _) _
  have hrow : (w3.alloc (.cells #[.int .u8 118] 5 (1, 2))).heap[w3.heap.size]? = some (.cells #[.int .u8 118] 5 (1, 2)) := row_new _ _
  have hx : IsB (w3.alloc (.cells #[.int .u8 118] 5 (1, 2))) (fun k => w3.heap.size ≤ k ∧ k < (w3.alloc (.cells #[.int .u8 118] 5 (1, 2))).heap.size) (.slice (some ⟨w3.heap.size, 0, none⟩) 1 1) [118] := ⟨_, 1, rfl, Nat.le_refl _, by unfold maxLen; omega, rd_of_row hrow _ ⟨Nat.le_refl _, by rw [World.size_alloc]; omega⟩⟩
  have hL1 := isL_chg hz1 (w3.heap.size + 1) (by rw [World.size_alloc]) key hkey _ [118] false hx
  have hz2 : Below w3.heap.size w3 ((w3.alloc (.cells #[.int .u8 118] 5 (1, 2))).alloc (.cells #[.int .u64 (key : Int), .slice (some ⟨w3.heap.size, 0, none⟩) 1 1, .bool false] 35)) := hz1.alloc hz1.size _
  rw [← HL1.out] at hL1
  have hc1 := kcommit_fresh w0.heap.size Fp2 kb g D1 J1 [] 0 noneG _ L1 w3 _ Hk3.out hz2 (Hf1.out.mono (by decide)) Hl1.out (by rw [HJ1n.out]; decide) _ hL1 (fun k hk => ⟨hk.2, .inl hk.1⟩) H1.out.1 H1.out.2.1 H1.out.2.2.1 (by rw [Hs1.out, HJ1u.out]; have := H1.out.2.2.2.1; omega) (by rw [H1.out.2.2.2.2]; decide) (fun k l h => by cases h)
  rw [H1.out.2.2.2.2] at hc1
  have Hc1 := Lib.hid hc1
  clear hz1 hrow hx hL1 hz2 hc1
  go_wp2_with fail
  refine Hc1.out.mono ?_
  rintro e w4 ⟨rfl, Fp4, D4, J4, hk4, hb4, hD4, hJ4, hl4, hu4, hn4⟩
  have hlen4 : D4.sure.length = 30 := by rw [hD4, addJ_length, Hn1.out]
  have hf4 : D4.Few (10 + 2100) := by rw [hD4]; exact addJ_few Hf1.out (by rw [Hn1.out]; decide) _ _
  have hs4 : sideN D4 = 14 := by unfold sideN; rw [hlen4]
  have hu4' : J4.used ≤ 100 := by rw [hu4, HJ1u.out]; have := H1.out.2.2.2.1; omega
  have hn4' : J4.number ≤ 2 := by rw [HJ1n.out] at hn4; exact hn4
  rw [HG1.out] at hk4
  obtain ⟨M4, hM4⟩ : ∃ M4, M4 = [] ++ [(precM L1 []).1] := ⟨_, rfl⟩
  rw [← hM4] at hk4
  have Hk4 := Lib.hid hk4
  have Hb4 := Lib.hid (Hb3.out.trans hb4)
  have Hl4 := Lib.hid hl4
  have Hs4 := Lib.hid hs4
  have Hf4 := Lib.hid (hf4.mono (by decide : 10 + 2100 ≤ 900000))
  have Hu4 := Lib.hid hu4'
  have Hn4 := Lib.hid (show J4.number + 1 ≤ 4611686018427387904 by omega)
  have Hn5 := Lib.hid hn4'
  have Hlen4 := Lib.hid hlen4
  have Hff4 := Lib.hid hf4
  clear hk4 hb4 hl4 hs4 hf4 hu4 hu4' hn4 hn4' hlen4 hD4 hJ4 hM4 Hc1 Hk3 Hb3 Hl1 Hf1 Hs1 Hn1 HJ1u HJ1n H1 HG1 HL1
  have hg1 : ∀ k l, oneG key [118] k = some l → l.length ≤ 65535 := oneG_le key [118] 65535 (by simp)
  have Hg1 := Lib.hid hg1
  clear hg1
  -- the long value
  have hz5 : Below w4.heap.size w4 (w4.alloc (.cells (Array.replicate N (.int .u8 0)) 5)) := (Below.refl _ _).alloc (Nat.le_refl _) _
  have hz6 : Below w4.heap.size w4 ((w4.alloc (.cells (Array.replicate N (.int .u8 0)) 5)).alloc (.cells #[.int .u64 (key : Int), .slice (some ⟨w4.heap.size, 0, none⟩) N N, .bool false] 35)) := hz5.alloc hz5.size _
  have hL2 := isL_chg hz5 (w4.heap.size + 1) (by rw [World.size_alloc]) key hkey _ _ false ((isB_zerosK w4 N (by have := HN2.out; omega)).weaken (fun k hk => by subst hk; exact ⟨Nat.le_refl _, by rw [World.size_alloc]; omega⟩))
  rw [← HL2.out] at hL2
  have hlen2 : L2.length = 1 := by rw [HL2.out]; rfl
  have hlen3 : L3.length = 1 := by rw [HL3.out]; rfl
  have hc2 : Calls Try.prog 9 #[.pointer (some ⟨kb, 0, none⟩), .slice (some ⟨w4.heap.size + 1, 0, none⟩) 1 1] ((w4.alloc (.cells (Array.replicate N (.int .u8 0)) 5)).alloc (.cells #[.int .u64 (key : Int), .slice (some ⟨w4.heap.size, 0, none⟩) N N, .bool false] 35))
      fun e w' => e = .returned (.int .i64 (if 60000 < N then 4 else 5)) ∧ ∃ Fp', KeepOk w' w0.heap.size Fp' kb g D4 J4 M4 1 (oneG key [118]) ∧ Below w0.heap.size w4 w' := by
    by_cases hlt : 60000 < N
    · have hany : L2.any long60 = true := by rw [HL2.out]; simp [long60, hlt]
      have h := kcommit_few_fresh w0.heap.size Fp4 kb g D4 J4 M4 1 (oneG key [118]) _ L2 w4 _ Hk4.out hz6 Hf4.out Hn4.out _ hL2 (fun k hk => hk) (.inl hany) (by rw [hlen2]; decide) Hg1.out
      refine h.mono ?_
      rintro e w' ⟨rfl, h1, h2⟩
      rw [hany, if_pos hlt]
      exact ⟨rfl, Fp4, h1, h2⟩
    · have hN0 : (List.replicate N (0 : UInt8)).length ≤ 60000 := by rw [List.length_replicate]; omega
      have hany : L2.any long60 = false := by rw [HL2.out]; simp [long60]; omega
      have hr := one_rec ⟨key, List.replicate N 0, false⟩ hkey hN0
      have hp : putsG (oneG key [118]) L2 = oneG key (List.replicate N 0) := by rw [HL2.out]; exact oneG_two _ _ _
      have hrl := hr.2.2.1 rfl
      rw [List.length_replicate] at hrl
      have h := kcommit_full_fresh w0.heap.size Fp4 kb g D4 J4 M4 1 (oneG key [118]) _ L2 w4 _ Hk4.out hz6 Hf4.out Hn4.out _ hL2 (fun k hk => hk) (by rw [HL2.out]; simp) hany (by rw [HL2.out]; exact hr.1)
        (by rw [Hs4.out, HL2.out]; have := (recsB_one (precM [⟨key, List.replicate N 0, false⟩] []).1).1; have := HN2.out; omega) (by rw [hlen2]; decide) Hg1.out
        (by rw [hp]; exact oneG_pair key hkey _ hN0) (fun ys hys => by
          rw [hp] at hys ⊢
          have := oneG_big key hkey _ hN0 ys hys
          rw [List.length_replicate] at this
          rw [Hs4.out]
          have := HN2.out
          omega)
      refine h.mono ?_
      rintro e w' ⟨rfl, Fp', h1, h2⟩
      rw [if_neg hlt]
      exact ⟨rfl, Fp', h1, h2⟩
  have Hc2 := Lib.hid hc2
  clear hz5 hz6 hL2 hc2
  by_cases hlt : 60000 < N
  · have hite : (if 60000 < N then (4 : Int) else 5) = 4 := if_pos hlt
    rw [hite] at Hc2
    have hltI : (60000 : Int) < (N : Int) := by omega
    clear hite
    go_wp2_with fail
    refine Hc2.out.mono ?_
    rintro e w5 ⟨rfl, Fp5, hk5, hb5⟩
    have Hk5 := Lib.hid hk5
    have Hb5 := Lib.hid (Hb4.out.trans hb5)
    clear hk5 hb5 Hc2 Hk4 Hb4
    have hz7 : Below w5.heap.size w5 (w5.alloc (.cells (Array.replicate N (.int .u8 0)) 5)) := (Below.refl _ _).alloc (Nat.le_refl _) _
    have hz8 : Below w5.heap.size w5 ((w5.alloc (.cells (Array.replicate N (.int .u8 0)) 5)).alloc (.cells #[.int .u64 (key : Int), .slice (some ⟨w5.heap.size, 0, none⟩) N N, .bool true] 35)) := hz7.alloc hz7.size _
    have hL3 := isL_chg hz7 (w5.heap.size + 1) (by rw [World.size_alloc]) key hkey _ _ true ((isB_zerosK w5 N (by have := HN2.out; omega)).weaken (fun k hk => by subst hk; exact ⟨Nat.le_refl _, by rw [World.size_alloc]; omega⟩))
    rw [← HL3.out] at hL3
    have hc3 : Calls Try.prog 9 #[.pointer (some ⟨kb, 0, none⟩), .slice (some ⟨w5.heap.size + 1, 0, none⟩) 1 1] ((w5.alloc (.cells (Array.replicate N (.int .u8 0)) 5)).alloc (.cells #[.int .u64 (key : Int), .slice (some ⟨w5.heap.size, 0, none⟩) N N, .bool true] 35))
        fun e w' => e = .returned (.int .i64 4) ∧ KeepSome w' w0.heap.size kb g ∧ Below w0.heap.size w5 w' := by
      have hany : L3.any long60 = true := by rw [HL3.out]; simp [long60, hlt]
      have h := kcommit_few_fresh w0.heap.size Fp5 kb g D4 J4 M4 1 (oneG key [118]) _ L3 w5 _ Hk5.out hz8 Hf4.out Hn4.out _ hL3 (fun k hk => hk) (.inl hany) (by rw [hlen3]; decide) Hg1.out
      refine h.mono ?_
      rintro e w' ⟨rfl, h1, h2⟩
      rw [hany]
      exact ⟨rfl, ⟨Fp5, D4, J4, M4, 1, _, h1, Hf4.out, Hn4.out, by decide, Hg1.out⟩, h2⟩
    have Hc3 := Lib.hid hc3
    clear hz7 hz8 hL3 hc3
    go_wp2_with fail
    refine Hc3.out.mono ?_
    rintro e w6 ⟨rfl, hk6, hb6⟩
    have Hk6 := Lib.hid hk6
    have Hb6 := Lib.hid (Hb5.out.trans hb6)
    clear hk6 hb6 Hc3 Hk5 Hb5
    go_wp2_with fail
    refine (kget_nil key w6).mono ?_
    rintro e w7 ⟨rfl, hb7⟩
    have Hk7 := Lib.hid hb7
    clear hb7
    go_wp2_with fail
    refine (keys_nil _).mono ?_
    rintro e w8 ⟨rfl, hb8⟩
    have Hk8 := Lib.hid (below_call Hk7.out hb8)
    clear hb8
    go_wp2_with fail
    refine (kcommit_nil _ _).mono ?_
    rintro e w' ⟨rfl, rfl⟩
    go_wp2_with fail
    refine (kroom_nil _).mono ?_
    rintro e w' ⟨rfl, rfl⟩
    go_wp2_with fail
    refine (kbroken_nil _).mono ?_
    rintro e w' ⟨rfl, rfl⟩
    have hk9 : KeepSome w8 w0.heap.size kb g := by
      obtain ⟨Fp, D, J, Ls, n, G, h1, h2⟩ := Hk6.out
      exact ⟨Fp, D, J, Ls, n, G, h1.grow Hk8.out, h2⟩
    have hno := hk9.nothing
    clear hk9
    have Hno := Lib.hid hno
    clear hno
    go_wp2_with fail
    refine Hno.out.mono ?_
    rintro e w9 ⟨rfl, hk9, hb9⟩
    have hwh := Lib.hid hk9.whole
    clear hk9
    go_wp2_with fail
    refine hwh.out.mono ?_
    rintro e w' ⟨rfl, rfl⟩
    have hfin : Below w.heap.size w w9 := Hb0.out.trans (((Hb6.out.trans (Hk8.out.mono Hb6.out.size)).trans (hb9.mono (Nat.le_trans Hb6.out.size Hk8.out.size))).mono hs0)
    go_wp2
    go_ret
    exact ⟨rfl, hfin⟩
  · have hite : (if 60000 < N then (4 : Int) else 5) = 5 := if_neg hlt
    rw [hite] at Hc2
    have hltI : ¬ (60000 : Int) < (N : Int) := by omega
    clear hite
    go_wp2_with fail
    refine Hc2.out.mono ?_
    rintro e w5 ⟨rfl, Fp5, hk5, hb5⟩
    have Hk5 := Lib.hid hk5
    have Hb5 := Lib.hid (Hb4.out.trans hb5)
    clear hk5 hb5 Hc2 Hk4 Hb4
    have hz7 : Below w5.heap.size w5 (w5.alloc (.cells (Array.replicate N (.int .u8 0)) 5)) := (Below.refl _ _).alloc (Nat.le_refl _) _
    have hz8 : Below w5.heap.size w5 ((w5.alloc (.cells (Array.replicate N (.int .u8 0)) 5)).alloc (.cells #[.int .u64 (key : Int), .slice (some ⟨w5.heap.size, 0, none⟩) N N, .bool true] 35)) := hz7.alloc hz7.size _
    have hL3 := isL_chg hz7 (w5.heap.size + 1) (by rw [World.size_alloc]) key hkey _ _ true ((isB_zerosK w5 N (by have := HN2.out; omega)).weaken (fun k hk => by subst hk; exact ⟨Nat.le_refl _, by rw [World.size_alloc]; omega⟩))
    rw [← HL3.out] at hL3
    have hc3 : Calls Try.prog 9 #[.pointer (some ⟨kb, 0, none⟩), .slice (some ⟨w5.heap.size + 1, 0, none⟩) 1 1] ((w5.alloc (.cells (Array.replicate N (.int .u8 0)) 5)).alloc (.cells #[.int .u64 (key : Int), .slice (some ⟨w5.heap.size, 0, none⟩) N N, .bool true] 35))
        fun e w' => e = .returned (.int .i64 0) ∧ KeepSome w' w0.heap.size kb g ∧ Below w0.heap.size w5 w' := by
      have hN0 : (List.replicate N (0 : UInt8)).length ≤ 60000 := by rw [List.length_replicate]; omega
      have hany : L3.any long60 = false := by rw [HL3.out]; simp [long60]; omega
      have hr := one_rec ⟨key, List.replicate N 0, true⟩ hkey hN0
      have hr20 := hr.2.2.2 rfl
      have h := kcommit_fresh w0.heap.size Fp5 kb g D4 J4 M4 1 (oneG key [118]) _ L3 w5 _ Hk5.out hz8 Hf4.out Hl4.out Hn4.out _ hL3 (fun k hk => ⟨hk.2, .inl hk.1⟩) (by rw [HL3.out]; simp) hany (by rw [HL3.out]; exact hr.1)
        (by rw [Hs4.out, HL3.out]; have := (recsB_one (precM [⟨key, List.replicate N 0, true⟩] []).1).2; have := Hu4.out; omega) (by rw [hlen3]; decide) Hg1.out
      refine h.mono ?_
      rintro e w' ⟨rfl, Fp', D', J', h1, h2, hD', hJ', _, _, hn'⟩
      refine ⟨rfl, ⟨Fp', D', J', _, _, _, h1, ?_, by have := Hn4.out; have := Hn5.out; omega, by rw [hlen3]; decide, ?_⟩, h2⟩
      · rw [hD']; exact (addJ_few Hff4.out (by rw [Hlen4.out]; decide) _ _).mono (by decide)
      · intro k l hkl
        rw [HL3.out] at hkl
        have hkl2 : putG (oneG key [118]) ⟨key, List.replicate N 0, true⟩ k = some l := hkl
        unfold putG at hkl2
        dsimp only at hkl2
        split at hkl2
        · cases hkl2
        · exact Hg1.out k l hkl2
    have Hc3 := Lib.hid hc3
    clear hz7 hz8 hL3 hc3
    go_wp2_with fail
    refine Hc3.out.mono ?_
    rintro e w6 ⟨rfl, hk6, hb6⟩
    have Hk6 := Lib.hid hk6
    have Hb6 := Lib.hid (Hb5.out.trans hb6)
    clear hk6 hb6 Hc3 Hk5 Hb5
    go_wp2_with fail
    refine (kget_nil key w6).mono ?_
    rintro e w7 ⟨rfl, hb7⟩
    have Hk7 := Lib.hid hb7
    clear hb7
    go_wp2_with fail
    refine (keys_nil _).mono ?_
    rintro e w8 ⟨rfl, hb8⟩
    have Hk8 := Lib.hid (below_call Hk7.out hb8)
    clear hb8
    go_wp2_with fail
    refine (kcommit_nil _ _).mono ?_
    rintro e w' ⟨rfl, rfl⟩
    go_wp2_with fail
    refine (kroom_nil _).mono ?_
    rintro e w' ⟨rfl, rfl⟩
    go_wp2_with fail
    refine (kbroken_nil _).mono ?_
    rintro e w' ⟨rfl, rfl⟩
    have hk9 : KeepSome w8 w0.heap.size kb g := by
      obtain ⟨Fp, D, J, Ls, n, G, h1, h2⟩ := Hk6.out
      exact ⟨Fp, D, J, Ls, n, G, h1.grow Hk8.out, h2⟩
    have hno := hk9.nothing
    clear hk9
    have Hno := Lib.hid hno
    clear hno
    go_wp2_with fail
    refine Hno.out.mono ?_
    rintro e w9 ⟨rfl, hk9, hb9⟩
    have hwh := Lib.hid hk9.whole
    clear hk9
    go_wp2_with fail
    refine hwh.out.mono ?_
    rintro e w' ⟨rfl, rfl⟩
    have hfin : Below w.heap.size w w9 := Hb0.out.trans (((Hb6.out.trans (Hk8.out.mono Hb6.out.size)).trans (hb9.mono (Nat.le_trans Hb6.out.size Hk8.out.size))).mono hs0)
    go_wp2
    go_ret
    exact ⟨rfl, hfin⟩
end Go.Proofs.Ytfkpjokhcomgoaa
