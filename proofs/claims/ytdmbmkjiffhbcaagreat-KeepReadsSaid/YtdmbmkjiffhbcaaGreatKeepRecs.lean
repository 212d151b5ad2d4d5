/-
  keep's records: the iterator over the keys, each known to have a value; a record for each.
-/
import Derived.Test.YtdmbmkjiffhbcaaGreatKeepKeys
import Derived.Test.YtdmbmkjiffhbcaaGreatKRecord
import Derived.Test.YtdmbmkjiffhbcaaGreatKeepChgs
namespace Go.Proofs.YtdmbmkjiffhbcaaGreat
open Go.RowKit Go.Shelf Go.Maps
set_option maxRecDepth 100000
attribute [local go_sem] Oper.semAt_some

theorem keys_sub {F : Nat → Option Value} {ys : List Nat} (h : SortedKeys F ys) : ∃ zs : List {x : Nat // x < 18446744073709551616 ∧ (F x).isSome = true}, ys = zs.map Subtype.val := by
  have h2 := h.2
  clear h
  have key : ∀ l : List Nat, (∀ x ∈ l, x < 18446744073709551616 ∧ (F x).isSome = true) → ∃ zs : List {x : Nat // x < 18446744073709551616 ∧ (F x).isSome = true}, l = zs.map Subtype.val := by
    intro l
    induction l with
    | nil => intro _; exact ⟨[], rfl⟩
    | cons a l ih =>
      intro hl
      obtain ⟨zs, hz⟩ := ih fun x hx => hl x (by simp [hx])
      exact ⟨⟨a, hl a (by simp)⟩ :: zs, by rw [List.map_cons, ← hz]⟩
  exact key ys fun x hx => (h2 x).1 hx
set_option maxHeartbeats 2000000 in
theorem ksorted_iterP (n : Nat) (Bm g nn : Nat) (hnn : nn ≤ 1099511627776) (F : Nat → Option Value) (w : World) (hBm : w.cell? ⟨Bm, 0, none⟩ = some (.map (some g))) (hg : MapU w g nn F) :
    Iter2 n Tryz.prog 66 #[.pointer (some ⟨Bm, 0, none⟩)] (fun x : {x : Nat // x < 18446744073709551616 ∧ (F x).isSome = true} => encU x.val) (fun _ => False) nn (fun xs => SortedKeys F (xs.map Subtype.val) ∧ xs.length ≤ nn) (fun _ => True) w := by
  intro l J Jx M W hbel hM hY h0
  have hBl : Bm < w.heap.size := World.block_lt_of_cell? w _ hBm
  have hcell : W.cell? ⟨Bm, 0, none⟩ = some (.map (some g)) := (hbel.cell (p := ⟨Bm, 0, none⟩) hBl).trans hBm
  have hgW : MapU W g nn F := hg.keep (hbel.block g hg.lt)
  have hb1 : Below W.heap.size W (W.alloc (.cells #[.map (some g)] 69)) := (Below.refl _ _).alloc (Nat.le_refl _) _
  have hso := sortedu_any F g nn W.heap.size hnn (W.alloc (.cells #[.map (some g)] 69)) (by
    rw [(Blk.new W 69 #[.map (some g)]).cell 0]
    rfl) (hgW.keep (hb1.block g hgW.lt))
  have hmk := mapkeys_any g W
  have Hso := Lib.hid ((callsIn_wide (n := n - 1)).2 hso)
  have Hmk := Lib.hid ((callsIn_wide (n := n - 1)).2 hmk)
  have HM := Lib.hid hM
  have HY := Lib.hid hY
  have Hbel := Lib.hid hbel
  have Hb1 := Lib.hid hb1
  have H0 := Lib.hid h0
  clear hM hY hBm hbel hso hmk hb1 hg hgW h0
  refine callsIn_of_wp Tryz.func66 rfl trivial ?_ rfl
  simp only [Tryz.ntmps66, List.size_toArray, List.length_cons, List.length_nil, Nat.reduceAdd, Nat.reduceSub, Array.replicate_succ, Array.replicate_zero, List.push_toArray, List.append_toArray, List.nil_append, List.cons_append]
  gi_wp2_with (first
    | (refine ⟨trivial, Bool.noConfusion, ?_⟩; gi_at_call 68; refine Hmk.out.mono ?_; rintro e1 w1 ⟨rfl, rfl⟩)
    | (refine ⟨trivial, Bool.noConfusion, ?_⟩; gi_at_call 67; refine Hso.out.mono ?_; rintro e1 w2 ⟨⟨v, ys, rfl, ⟨hys, hyn⟩, A, c, rfl, hyc, hcm, hrd⟩, hb2⟩; obtain ⟨zs, hzs⟩ := keys_sub hys; subst hzs; rw [List.length_map] at hyn hyc ⊢; have Hys := Lib.hid hys; have Hrd := Lib.hid hrd; clear hys hrd))
  try go_frame
  gi_loopw [9] (fun i wr => ∃ (k : Nat) (M : Nat → Prop) (W0 : World), k ≤ zs.length ∧ i = .int .i64 (k : Int) ∧ J M (zs.take k) W0 ∧ w.heap.size ≤ W0.heap.size ∧ Hold (fun j => j < w.heap.size ∨ M j) W0 wr ∧ (∀ j, M j → w.heap.size ≤ j ∧ j < W0.heap.size) ∧ Rd wr (fun j => w.heap.size ≤ j ∧ ¬ M j) A ((zs.map Subtype.val).map numV))
    (fun i _ => zs.length - (intOf i).toNat)
  case atStart =>
    have hs1 := Hb1.out.size
    have hsw := Hbel.out.size
    have hbw2 : Below W.heap.size W w2 := below_call2 Hb1.out hb2
    refine ⟨0, M, W, by omega, rfl, H0.out, hsw, Below.hold hbw2 _, HM.out, Hrd.out.weaken fun j hj => ⟨?_, fun h => ?_⟩⟩
    · have := hj.1; simp at this; omega
    · have := (HM.out j h).2
      have := hj.1; simp at this; omega
  case round =>
    obtain ⟨k, M1, W0, hk, rfl, hJ, hsz, hh, hM1, hrow⟩ := hrel
    have HJ := Lib.hid hJ
    have Hh := Lib.hid hh
    have HM1 := Lib.hid hM1
    have Hrow := Lib.hid hrow
    clear hJ hh hM1 hrow
    by_cases hlt : k < zs.length
    · obtain ⟨b, off, rfl, hok, hbl, hcell⟩ := Hrow.out.at' (by intro e; have := List.map_eq_nil_iff.1 (List.map_eq_nil_iff.1 e); subst this; simp at hlt)
      have hck := hcell k (by simpa using hlt)
      rw [List.getElem_map, List.getElem_map] at hck
      have htk : zs.take (k + 1) = zs.take k ++ [zs[k]] := List.take_succ_eq_append_getElem hlt
      have Htk := Lib.hid htk
      obtain ⟨fn, tmps, assign, body, hy, hR⟩ := HY.out M1 (zs.take k) zs[k] W0 wr HJ.out hsz Hh.out (by rw [List.length_take]; omega)
      generalize zs[k] = x at hck Htk hy hR
      unfold numV at hck
      unfold encU at hy
      clear hcell htk
      gi_wp2
      refine ⟨Bool.noConfusion, hR.mono ?_⟩
      rintro e W3 (⟨rfl, M', hJ3, hsub, hk3⟩ | ⟨rfl, M', hJx3, hsub, hk3⟩)
      · gi_wp2
        have hs3 := hk3.size
        have hs0 := Hh.out.size
        go_roundw
        case rel =>
          refine ⟨k + 1, M', W3, by omega, by go_num, by rw [Htk.out]; exact hJ3, by omega, Hold.refl _ _, fun j h => ?_, ?_⟩
          · obtain ⟨h1, h2⟩ := hsub j h
            rcases h1 with h1 | h1
            · exact ⟨(HM1.out j h1).1, h2⟩
            · exact ⟨by omega, h2⟩
          · refine Hrow.out.move fun j hj hjl => ⟨⟨hj.1, fun h => ?_⟩, hk3.block j hjl ⟨hj.2, .inl hj.1⟩⟩
            rcases (hsub j h).1 with h1 | h1
            · exact hj.2 h1
            · omega
        case measure => simp [intOf]; omega
      · gi_wp2
        refine bodyPost_ret (results_none rfl _ _ _) rfl ?_
        have hs0 := Hh.out.size
        exact ⟨⟨_, rfl⟩, .inr ⟨M', _, W3, trivial, hJx3, by omega, Hold.refl _ _⟩⟩
    · obtain rfl : k = zs.length := by omega
      have hJ := HJ.out
      rw [List.take_length] at hJ
      have HJ2 := Lib.hid hJ
      clear hJ HJ
      gi_wp2
      go_end0
      exact ⟨⟨_, rfl⟩, .inl ⟨M1, zs, W0, ⟨Hys.out, hyn⟩, HJ2.out, hsz, Hh.out⟩⟩

theorem lookup1_run (w : World) (g n : Nat) (F : Nat → Option Value) (h : MapU w g n F) (k : Nat) (hk : k < 18446744073709551616) :
    (Instr.lookup 69 (.map (some g)) (.int .u64 (k : Int)) false).run Tryz.prog w = .ok ((F k).getD (.slice none 0 0)) w := by
  obtain ⟨D, h1, h2⟩ := h
  obtain ⟨v, ps, hrun, hv⟩ := h1.lookup keyU Tryz.underlying69 (zeroB w) (zd := .held (.slice none 0 0)) (zp := []) rfl (keyOf_U hk)
  rw [(h2 k hk).2] at hv
  have hv2 : v = (F k).getD (.slice none 0 0) := by
    unfold opq at hv
    injection hv with hv
    injection hv with hv _
    injection hv
  rw [hrun, hv2]
/-- The record of one pair, and the error. -/
def pairM (G : Nat → Option (List UInt8)) (y : Nat) : List UInt8 × Nat := precM [⟨y, (G y).getD [], false⟩] []
theorem pairM_err (G : Nat → Option (List UInt8)) (y : Nat) : (pairM G y).2 = 0 ∨ (pairM G y).2 = 4 := by
  unfold pairM precM
  split
  · exact .inr rfl
  · split
    · exact .inr rfl
    · exact .inl rfl
theorem isL_one {W : World} {ok : Nat → Prop} {p : PutM} {v : Value} (hk : p.key < 18446744073709551616) (hv : IsB W ok v p.val) : IsL kPut (W.alloc (.cells #[.int .u64 (p.key : Int), v, .bool p.gone] 49)) (fun _ => True) (.slice (some ⟨W.heap.size, 0, none⟩) 1 1) [p] := by
  have hb : Below W.heap.size W (W.alloc (.cells #[.int .u64 (p.key : Int), v, .bool p.gone] 49)) := (Below.refl _ _).alloc (Nat.le_refl _) _
  refine ⟨_, 1, [.int .u64 (p.key : Int), v, .bool p.gone], rfl, Nat.le_refl _, by unfold maxLen; omega, (Blk.new W 49 #[.int .u64 (p.key : Int), v, .bool p.gone]).rd _ trivial, ?_⟩
  have h := kMany.cons (K := kPut) (w := W.alloc (.cells #[.int .u64 (p.key : Int), v, .bool p.gone] 49)) (ok := fun _ => True) (c := [.int .u64 (p.key : Int), v, .bool p.gone]) (a := p) ⟨v, rfl, hk, (hv.grow hb).weaken fun _ _ => trivial⟩ kMany.nil
  simpa using h
theorem recs_boxes (w : World) (g : Nat) : ∃ w2, w2 = (((((w.alloc (.cells #[.map (some g)] 69)).alloc (.cells #[.slice none 0 0] 51)).alloc (.cells #[.int .i64 0] 31)).alloc (.cells #[.slice none 0 0] 51)).alloc (.cells #[.map (some g)] 69)) ∧
    w2.heap.size = w.heap.size + 5 ∧ Below w.heap.size w w2 ∧ Blk w2 w.heap.size 69 #[.map (some g)] ∧ Blk w2 (w.heap.size + 1) 51 #[.slice none 0 0] ∧ Blk w2 (w.heap.size + 1 + 1) 31 #[.int .i64 0] ∧ Blk w2 (w.heap.size + 1 + 1 + 1) 51 #[.slice none 0 0] ∧ Blk w2 (w.heap.size + 1 + 1 + 1 + 1) 69 #[.map (some g)] := by
  refine ⟨_, rfl, by simp, ((((((Below.refl w.heap.size w).alloc (Nat.le_refl _) _).alloc (by simp) _).alloc (by simp; omega) _).alloc (by simp; omega) _).alloc (by simp; omega) _), ?_, ?_, ?_, ?_, ?_⟩
  · exact ((((Blk.new w _ _).alloc _).alloc _).alloc _).alloc _
  · have := Blk.new (w.alloc (.cells #[.map (some g)] 69)) 51 #[.slice none 0 0]
    rw [World.size_alloc] at this
    exact ((this.alloc _).alloc _).alloc _
  · have := Blk.new ((w.alloc (.cells #[.map (some g)] 69)).alloc (.cells #[.slice none 0 0] 51)) 31 #[.int .i64 0]
    rw [World.size_alloc, World.size_alloc] at this
    exact (this.alloc _).alloc _
  · have := Blk.new (((w.alloc (.cells #[.map (some g)] 69)).alloc (.cells #[.slice none 0 0] 51)).alloc (.cells #[.int .i64 0] 31)) 51 #[.slice none 0 0]
    rw [World.size_alloc, World.size_alloc, World.size_alloc] at this
    exact this.alloc _
  · have := Blk.new ((((w.alloc (.cells #[.map (some g)] 69)).alloc (.cells #[.slice none 0 0] 51)).alloc (.cells #[.int .i64 0] 31)).alloc (.cells #[.slice none 0 0] 51)) 69 #[.map (some g)]
    rw [World.size_alloc, World.size_alloc, World.size_alloc, World.size_alloc] at this
    exact this
/-- What records has laid by a round. -/
def RcI (B4 : Nat) (w2 : World) (G : Nat → Option (List UInt8)) {F : Nat → Option Value} (M : Nat → Prop) (xs : List {x : Nat // x < 18446744073709551616 ∧ (F x).isSome = true}) (W : World) : Prop :=
  ∃ v vs, (∀ y ∈ xs, (pairM G y.val).2 = 0) ∧ Blk W B4 51 #[v] ∧ Own1 W w2.heap.size 47 v vs ∧ vs.length = xs.length ∧ (∀ (i : Nat) (h : i < vs.length) (h' : i < xs.length), Own1 W w2.heap.size 5 vs[i] ((pairM G xs[i].val).1.map u8) ∧ ∀ k, vs[i].ownBlock = some k → M k) ∧
    (∀ k, v.ownBlock = some k → M k) ∧ (∀ k, k < w2.heap.size → k ≠ B4 → W.heap[k]? = w2.heap[k]?) ∧ W.os = w2.os ∧ W.tape = w2.tape ∧ W.output = w2.output ∧ w2.heap.size ≤ W.heap.size
theorem RcI.hold {B4 : Nat} {w2 : World} {G : Nat → Option (List UInt8)} {F : Nat → Option Value} {M : Nat → Prop} {xs : List {x : Nat // x < 18446744073709551616 ∧ (F x).isSome = true}} {A W : World} (h : RcI B4 w2 G M xs A) (hB : B4 < w2.heap.size) (hh : Hold (fun k => k < w2.heap.size ∨ M k) A W) : RcI B4 w2 G M xs W := by
  obtain ⟨v, vs, h0, h1, h2, h3, h4, h5, h6, h7, h8, h9, h10⟩ := h
  refine ⟨v, vs, h0, h1.keep (hh.block _ (by omega) (.inl hB)), h2.keep (fun k hk => hh.block k (h2.lt k hk).2 (.inr (h5 k hk))), h3, fun i hi hi' => ⟨(h4 i hi hi').1.keep fun k hk => hh.block k ((h4 i hi hi').1.lt k hk).2 (.inr ((h4 i hi hi').2 k hk)), (h4 i hi hi').2⟩, h5, fun k hk hne => (hh.block k (by omega) (.inl hk)).trans (h6 k hk hne), hh.os.trans h7, hh.tape.trans h8, hh.output.trans h9, Nat.le_trans h10 hh.size⟩
def RcX (B : Nat) (w : World) (G : Nat → Option (List UInt8)) {F : Nat → Option Value} (c : Code) (_ : Nat → Prop) (_ : List {x : Nat // x < 18446744073709551616 ∧ (F x).isSome = true}) (W : World) : Prop :=
  c = .ret ∧ (∃ y : {x : Nat // x < 18446744073709551616 ∧ (F x).isSome = true}, (pairM G y.val).2 = 4) ∧ Blk W (B + 1) 51 #[.slice none 0 0] ∧ Blk W (B + 1 + 1) 31 #[.int .i64 4] ∧ Below B w W
set_option maxHeartbeats 2000000 in
theorem krecords_any (g n : Nat) (hn : n ≤ 1099511627776) (P : Nat → Prop) (G : Nat → Option (List UInt8)) (w : World) (hm : KMap w g n P G) (hl : ∀ k l, G k = some l → l.length ≤ 1099511600000) :
    Calls Tryz.prog 51 #[.map (some g)] w fun e w' =>
      ((∃ (x : Value) (ys : List Nat), ((∀ y, y ∈ ys ↔ y < 18446744073709551616 ∧ (G y).isSome = true) ∧ ys.Pairwise (· < ·) ∧ ys.length ≤ n) ∧ (∀ y ∈ ys, (pairM G y).2 = 0) ∧ e = .returned (.tuple #[x, .int .i64 0]) ∧ IsBB w' (fun k => w.heap.size ≤ k) x (ys.map fun y => (pairM G y).1)) ∨
        ((∃ y, y < 18446744073709551616 ∧ (G y).isSome = true ∧ (pairM G y).2 = 4) ∧ e = .returned (.tuple #[.slice none 0 0, .int .i64 4]))) ∧ Below w.heap.size w w' := by
  obtain ⟨F, hF, h2⟩ := hm
  have hFG : ∀ k, k < 18446744073709551616 → (F k).isSome = (G k).isSome := fun k hk => by
    rcases h2 k hk with ⟨h3, h4⟩ | ⟨l, v, h3, h4, _⟩
    · rw [h3, h4]; rfl
    · rw [h3, h4]; rfl
  have hglt := hF.lt
  rw [← callsIn_wide (n := 9)]
  refine callsIn_of_wp_marks Tryz.func51 rfl trivial ?_ rfl
  simp only [Tryz.ntmps51, List.size_toArray, List.length_cons, List.length_nil, Nat.reduceAdd, Nat.reduceSub, Array.replicate_succ, Array.replicate_zero, List.push_toArray, List.append_toArray, List.nil_append, List.cons_append]
  gi_wp2_with (first | fail)
  refine ⟨trivial, ?_⟩
  gi_at_call 42
  refine ((callsIn_wide (n := 8)).2 (ksorted_any g _)).mono ?_
  rintro e1 w1 ⟨rfl, rfl⟩
  gi_wp2_with (first | fail)
  obtain ⟨w2, hw2, hs2, hb02, hB1, hB2, hB3, hB4, hB5⟩ := recs_boxes w g
  rw [← hw2]
  clear hw2
  have hF2 := hF.keep (hb02.block g hglt)
  have HB2 := Lib.hid hB2
  have HB3 := Lib.hid hB3
  have HB1 := Lib.hid hB1
  have Hb02 := Lib.hid hb02
  have HF2 := Lib.hid hF2
  have H2 := Lib.hid h2
  have HFG := Lib.hid hFG
  have c5 := hB5.cell 0
  simp only [List.getElem?_toArray, List.getElem?_cons_zero] at c5
  have hit := ksorted_iterP 8 (w.heap.size + 1 + 1 + 1 + 1) g n hn F w2 c5 hF2
  clear hB1 hB2 hB3 hB5 c5 hF2 hF h2 hFG
  refine wp_range2 (gf := 66) (lb := #[.pointer (some ⟨w.heap.size + 1 + 1 + 1 + 1, 0, none⟩)]) rfl (enters_of Tryz.func66 (by kernel_rfl) rfl) hit (fun _ => rfl)
    (RcI (w.heap.size + 1 + 1 + 1) w2 G) (RcX w.heap.size w G) ?hI ?hIx ?h0
    (fun x => { tmps := #[.map (some g), .pointer (some ⟨w.heap.size, 0, none⟩), .pointer (some ⟨w.heap.size + 1, 0, none⟩), .pointer (some ⟨w.heap.size + 1 + 1, 0, none⟩), .pointer (some ⟨w.heap.size + 1 + 1 + 1, 0, none⟩), .int .u64 (x.val : Int), undef, undef, .map (some g),
      .func (.func 66) #[] #[.pointer (some ⟨w.heap.size + 1 + 1 + 1 + 1, 0, none⟩)], .int .u64 (x.val : Int), undef, undef, undef, undef, undef, undef, undef, undef, undef, undef, undef, undef, undef, undef, undef, undef, undef, undef], defers := [] }) ?assign ?body ?done ?stop
  case hI => exact fun M xs A' W h hs hh => h.hold (by omega) hh
  case hIx =>
    rintro cd M xs A' W ⟨h0, h1, h2, h3, h4⟩ hs hh
    exact ⟨h0, h1, h2.keep (hh.block _ (by omega) (.inl (by omega))), h3.keep (hh.block _ (by omega) (.inl (by omega))), h4.trans (hh.below (fun k hk => .inl (by omega)) (by omega))⟩
  case h0 => exact ⟨_, [], fun i h => (by cases h), hB4, Own1.nil _ _ _, rfl, fun i h => (by simp at h), fun k h => (by cases h), fun k _ _ => rfl, rfl, rfl, rfl, Nat.le_refl _⟩
  case assign =>
    intro L x W K hK
    unfold encU
    gi_wp2
    exact hK
  case body =>
    rintro L M pre ⟨x, hx1, hx2⟩ W ⟨u, vs, hok, hbox, hown, hvl, hvs, hM, hlow, hos, htape, hout, hsz⟩ hMb hsW hlt
    dsimp only
    have hG := (HFG.out x hx1).symm.trans hx2
    obtain ⟨l, hGl⟩ : ∃ l, G x = some l := Option.isSome_iff_exists.1 hG
    obtain ⟨v, hFv, hvB⟩ : ∃ v, F x = some v ∧ IsB w P v l := by
      rcases H2.out x hx1 with ⟨h3, _⟩ | ⟨l', v, h3, h4, h5⟩
      · rw [h3] at hGl; cases hGl
      · rw [h3] at hGl; cases hGl; exact ⟨v, h4, h5⟩
    have hllen := hl x l hGl
    have hW1 : ∀ k, k < w.heap.size → W.heap[k]? = w.heap[k]? := fun k hk => (hlow k (by omega) (by omega)).trans (Hb02.out.block k hk)
    have hlk := lookup1_run W g n F (HF2.out.keep (hlow g (by omega) (by omega))) x hx1
    rw [hFv, Option.getD_some] at hlk
    have hvW : IsB W P v l := hvB.frame fun k _ hk => hW1 k hk
    obtain ⟨Av, cv, hv, hv1, hv2, hv3⟩ := hvW
    subst hv
    have hpM : pairM G x = precM [⟨x, l, false⟩] [] := by unfold pairM; rw [hGl]; rfl
    have hrec := asrecord_any (fun _ => True) _ [⟨x, l, false⟩] _ (isL_one (W := W) (p := ⟨x, l, false⟩) hx1 ⟨Av, cv, rfl, hv1, hv2, hv3⟩) (fun p hp => by simp at hp; subst hp; exact hllen)
    rw [← hpM] at hrec
    dsimp only at hrec
    have herr := pairM_err G x
    obtain ⟨⟨rc, re⟩, hp⟩ : ∃ p, p = pairM G x := ⟨_, rfl⟩
    rw [← hp] at hrec herr
    dsimp only at hrec herr
    have n1 := HB1.out.keep (hlow w.heap.size (by omega) (by omega))
    have n2 := HB2.out.keep (hlow (w.heap.size + 1) (by omega) (by omega))
    have n3 := HB3.out.keep (hlow (w.heap.size + 1 + 1) (by omega) (by omega))
    have c1 := n1.cell 0
    simp only [List.getElem?_toArray, List.getElem?_cons_zero] at c1
    have Hrec := Lib.hid hrec
    have N2 := Lib.hid n2
    have N3 := Lib.hid n3
    have HBox := Lib.hid hbox
    have HOwn := Lib.hid hown
    have HVs := Lib.hid hvs
    have HM := Lib.hid hM
    have HMb := Lib.hid hMb
    have HLow := Lib.hid hlow
    have Hok := Lib.hid hok
    have Hp := Lib.hid hp
    clear hrec n1 n2 n3 hbox hown hvs hM hMb hlow hok hp hpM hvB hit hB4 hW1
    have hbz : Below W.heap.size W (W.alloc (.cells #[.int .u64 (x : Int), .slice Av l.length cv, .bool false] 49)) := (Below.refl _ _).alloc (Nat.le_refl _) _
    have Hbz := Lib.hid hbz
    have hbW : Below w.heap.size w W := ⟨hos.trans Hb02.out.os, htape.trans Hb02.out.tape, hout.trans Hb02.out.output, by omega, fun k hk => (HLow.out k (by omega) (by omega)).trans (Hb02.out.block k hk)⟩
    have HbW := Lib.hid hbW
    clear hbz hbW
    gi_wp2_with (first | fail)
    refine ⟨trivial, ?_⟩
    gi_at_call 26
    refine (CallsIn.inRound _ ((callsIn_wide (n := 6)).2 Hrec.out)).mono ?_
    rintro e y ⟨⟨xr, rfl, hxo⟩, hby⟩
    obtain ⟨Ar, cr, hxr, hxc, hxm, hxrd⟩ := hxo.form
    rw [List.length_map] at hxr hxc
    subst hxr
    have hb := below_call Hbz.out hby
    have hbs := hb.size
    have hby3 := N3.out.grow hb
    have hby2 := N2.out.grow hb
    have hyb := HBox.out.grow hb
    have m2 := hby2.cell 0
    have m3 := hby3.cell 0
    have m4 := hyb.cell 0
    have e2 := hby2.frozen 0
    have e3 := hby3.frozen 0
    have e4 := hyb.frozen 0
    simp only [List.getElem?_toArray, List.getElem?_cons_zero] at m2 m3 m4
    obtain ⟨Au, cu, hu, huc, hum, _⟩ := HOwn.out.form
    rw [hvl] at hu huc
    subst hu
    have hxlt := hxo.lt
    simp only [World.size_alloc] at hxlt
    have hxB := hxo.mono (base' := w2.heap.size) (by simp; omega)
    have Hb := Lib.hid hb
    have HxB := Lib.hid hxB
    have Hxlt := Lib.hid hxlt
    have Hy2 := Lib.hid hby2
    have Hy3 := Lib.hid hby3
    have Hyb := Lib.hid hyb
    clear hb hxB hxlt hby2 hby3 hyb hby hxo hxrd
    rcases herr with rfl | rfl
    · have hownY := HOwn.out.grow Hb.out
      gi_wp2_with (gi_at_builtin; refine wpListIn_app1_one y elemBB rfl (.tmp 24) (.tmp 26) rfl w2.heap.size (.slice Au pre.length cu) vs rfl hownY (.slice Ar rc.length cr) 47 rfl rfl (by rw [hvl]; omega) (by rw [hvl]; omega) (by omega) ?_; intro v6 w6 hown6 hgr6 hat6; obtain ⟨A6, n6, hv6, hc6, hm6, _⟩ := hown6.form; rw [List.length_append, List.length_singleton, hvl] at hv6 hc6; subst hv6; have hb6 := (Hyb.out.alloc (.cells #[.slice Ar rc.length cr] 47)).grown hgr6 (fun h => by have := (hownY.lt _ h).1; omega); have c6 := hb6.cell 0; have z6 := hb6.frozen 0; simp only [List.getElem?_toArray, List.getElem?_cons_zero] at c6)
      have hs6 : y.heap.size + 1 ≤ w6.heap.size := by have := hgr6.size; simpa using this
      have hlt6 := hown6.lt
      have hHold : Hold (fun k => ¬ M k ∧ (w2.heap.size ≤ k ∨ False)) W (w6.setCell ⟨w.heap.size + 1 + 1 + 1, 0, none⟩ (.slice A6 (pre.length + 1) n6)) := by
        refine (((Below.hold Hb.out _).trans (Hold.alloc y _ _)).trans (Hold.grown hgr6 _ fun g e h => h.1 (HM.out g e))).trans (Hold.setCell _ _ _ _ ?_)
        rintro ⟨_, h | h⟩
        · have h2 : w2.heap.size ≤ w.heap.size + 1 + 1 + 1 := h
          omega
        · exact h.elim
      have helem : ∀ {v : Value} {xs : List Value}, Own1 y w2.heap.size 5 v xs → Own1 (w6.setCell ⟨w.heap.size + 1 + 1 + 1, 0, none⟩ (.slice A6 (pre.length + 1) n6)) w2.heap.size 5 v xs := fun ho => by
        have h1 := (ho.alloc (.cells #[.slice Ar rc.length cr] 47)).kept hgr6 (ho.apart' hownY (by decide))
        exact h1.keep fun k hk => Below.heap_setCell _ _ _ k (by have := (h1.lt k hk).1; show k ≠ w.heap.size + 1 + 1 + 1; omega)
      refine ⟨fun k => M k ∨ (Value.slice A6 (pre.length + 1) n6).ownBlock = some k ∨ (Value.slice Ar rc.length cr).ownBlock = some k, ⟨_, vs ++ [.slice Ar rc.length cr], ?_, hb6.set_ 0 _, ?_, ?_, ?_, fun k hk => .inr (.inl hk), ?_, ?_, ?_, ?_, ?_⟩, ?_, hHold⟩
      · intro z hz
        rcases List.mem_append.1 hz with hz | hz
        · exact Hok.out z hz
        · simp at hz
          subst hz
          rw [← Hp.out]
      · exact hown6.keep fun k hk => Below.heap_setCell _ _ _ k (by have := (hlt6 k hk).1; show k ≠ w.heap.size + 1 + 1 + 1; omega)
      · rw [List.length_append, List.length_append, hvl]
        rfl
      · intro i hi hi'
        rw [List.length_append, List.length_singleton] at hi hi'
        by_cases hip : i < pre.length
        · rw [List.getElem_append_left (by omega), List.getElem_append_left hip]
          obtain ⟨h1, h2⟩ := HVs.out i (by omega) hip
          exact ⟨helem (h1.grow Hb.out), fun k hk => .inl (h2 k hk)⟩
        · obtain rfl : i = pre.length := by omega
          rw [List.getElem_append_right (by omega), List.getElem_append_right (by omega)]
          simp only [hvl, Nat.sub_self, List.getElem_cons_zero]
          rw [← Hp.out]
          exact ⟨helem HxB.out, fun k hk => .inr (.inr hk)⟩
      · intro k hk hne
        have hkw : k < W.heap.size := by omega
        exact (Below.heap_setCell _ _ _ k hne).trans ((hgr6.block k (by simp; omega) (fun e => by have := (hownY.lt k e.symm).1; omega)).trans ((Below.heap_alloc _ _ _ (by omega)).trans ((Hb.out.block k hkw).trans (HLow.out k hk hne))))
      · exact hHold.os.trans hos
      · exact hHold.tape.trans htape
      · exact hHold.output.trans hout
      · simp
        omega
      · intro k hk
        rcases hk with hk | hk | hk
        · refine ⟨.inl hk, ?_⟩
          have := (HMb.out k hk).2
          simp
          omega
        · refine ⟨?_, by simp; exact (hlt6 k hk).2⟩
          rcases hat6 with h | h
          · rw [h] at hk; exact .inl (HM.out k hk)
          · rw [h] at hk; cases hk; exact .inr (by omega)
        · have := Hxlt.out k hk
          exact ⟨.inr (by omega), by simp; omega⟩
    · gi_wp2_with (first | fail)
      refine ⟨M, ⟨rfl, ⟨⟨x, hx1, hx2⟩, by rw [← Hp.out]⟩, ?_, ?_, ?_⟩, ?_, ?_⟩
      · exact (Hy2.out.set_ 0 _).far (by dsimp only; omega) _
      · exact (Hy3.out.far (by dsimp only; omega) _).set_ 0 _
      · exact ((HbW.out.trans (Hb.out.mono HbW.out.size)).setCell (p := ⟨w.heap.size + 1, 0, none⟩) (by dsimp only; omega) _).setCell (p := ⟨w.heap.size + 1 + 1, 0, none⟩) (by dsimp only; omega) _
      · intro k hk
        refine ⟨.inl hk, ?_⟩
        have := (HMb.out k hk).2
        simp
        omega
      · refine ((Below.hold Hb.out _).trans (Hold.setCell _ _ _ _ ?_)).trans (Hold.setCell _ _ _ _ ?_)
        · rintro ⟨_, h | h⟩
          · have h2 : w2.heap.size ≤ w.heap.size + 1 := h
            omega
          · exact h.elim
        · rintro ⟨_, h | h⟩
          · have h2 : w2.heap.size ≤ w.heap.size + 1 + 1 := h
            omega
          · exact h.elim
  case done =>
    rintro D M xs W hD ⟨⟨hS1, hS2⟩, hS3⟩ ⟨u, vs, hok, hbox, hown, hvl, hvs, hM, hlow, hos, htape, hout, hsz⟩ hK hW hMD
    have hy2 := HB2.out.keep (hlow (w.heap.size + 1) (by omega) (by omega))
    have hy3 := HB3.out.keep (hlow (w.heap.size + 1 + 1) (by omega) (by omega))
    have m2 := hy2.cell 0
    have m3 := hy3.cell 0
    have m6 := hbox.cell 0
    have e2 := hy2.frozen 0
    have e3 := hy3.frozen 0
    simp only [List.getElem?_toArray, List.getElem?_cons_zero] at m2 m3 m6
    obtain ⟨Au, cu, hu, huc, hum, hur⟩ := hown.form
    rw [hvl] at hu huc
    subst hu
    have hlt := hown.lt
    have hbW : Below w.heap.size w W := ⟨hos.trans Hb02.out.os, htape.trans Hb02.out.tape, hout.trans Hb02.out.output, by omega, fun k hk => (hlow k (by omega) (by omega)).trans (Hb02.out.block k hk)⟩
    obtain ⟨Wf, hWf⟩ : ∃ Wf, Wf = ((W.setCell ⟨w.heap.size + 1, 0, none⟩ (.slice Au xs.length cu)).setCell ⟨w.heap.size + 1 + 1, 0, none⟩ (.int .i64 0)) := ⟨_, rfl⟩
    have hoth : ∀ k, k ≠ w.heap.size + 1 → k ≠ w.heap.size + 1 + 1 → k ≠ D → (Wf.putObj D (.deferred none)).heap[k]? = W.heap[k]? := fun k h1 h2 h3 => by
      rw [hWf]
      exact (World.putObj_heap_other h3).trans ((Below.heap_setCell _ _ _ k h2).trans (Below.heap_setCell _ _ _ k h1))
    have hKd : Wf.heap[D]? = some (.deferred (some [])) := by
      rw [hWf]
      exact (Below.heap_setCell _ _ _ D (by show D ≠ w.heap.size + 1 + 1; omega)).trans ((Below.heap_setCell _ _ _ D (by show D ≠ w.heap.size + 1; omega)).trans hK)
    have hf2 : Blk (Wf.putObj D (.deferred none)) (w.heap.size + 1) 51 #[.slice Au xs.length cu] := by
      refine Blk.keep (w := Wf) ?_ (World.putObj_heap_other (by omega))
      rw [hWf]
      exact (hy2.set_ 0 _).far (by dsimp only; omega) _
    have hf3 : Blk (Wf.putObj D (.deferred none)) (w.heap.size + 1 + 1) 31 #[.int .i64 0] := by
      refine Blk.keep (w := Wf) ?_ (World.putObj_heap_other (by omega))
      rw [hWf]
      exact (hy3.far (by dsimp only; omega) _).set_ 0 _
    have r2 := hf2.cell 0
    have r3 := hf3.cell 0
    simp only [List.getElem?_toArray, List.getElem?_cons_zero] at r2 r3
    have hbf : Below w.heap.size w (Wf.putObj D (.deferred none)) := by
      have h1 : Below w.heap.size w Wf := by
        rw [hWf]
        exact (hbW.setCell (p := ⟨w.heap.size + 1, 0, none⟩) (by dsimp only; omega) _).setCell (p := ⟨w.heap.size + 1 + 1, 0, none⟩) (by dsimp only; omega) _
      exact h1.trans ⟨rfl, rfl, rfl, by simp, fun k hk => World.putObj_heap_other (by omega)⟩
    have hbb : IsBB (Wf.putObj D (.deferred none)) (fun k => w.heap.size ≤ k) (.slice Au xs.length cu) ((xs.map Subtype.val).map fun y => (pairM G y).1) := by
      refine ⟨Au, cu, vs, by simp, by simp [hvl], by simpa using huc, hum, hur.move fun k hk _ => ⟨by have := (hlt k hk).1; omega, hoth k (by have := (hlt k hk).1; omega) (by have := (hlt k hk).1; omega) fun e => hMD (e ▸ hM k hk)⟩, fun i hi hi' => ?_⟩
      simp only [List.length_map] at hi
      obtain ⟨h1, h2⟩ := hvs i hi' hi
      have h3 := h1.keep (w' := Wf.putObj D (.deferred none)) fun k hk => hoth k (by have := (h1.lt k hk).1; omega) (by have := (h1.lt k hk).1; omega) fun e => hMD (e ▸ h2 k hk)
      have h4 := h3.isB.weaken (ok' := fun k => w.heap.size ≤ k) fun k hk => by have := (h3.lt k hk).1; omega
      simpa using h4
    have hys : (∀ y, y ∈ xs.map Subtype.val ↔ y < 18446744073709551616 ∧ (G y).isSome = true) := fun y => by
      rw [hS2 y]
      constructor
      · rintro ⟨h1, h2⟩; exact ⟨h1, by rw [← HFG.out y h1]; exact h2⟩
      · rintro ⟨h1, h2⟩; exact ⟨h1, by rw [HFG.out y h1]; exact h2⟩
    have hok2 : ∀ y ∈ xs.map Subtype.val, (pairM G y).2 = 0 := fun y hy => by
      obtain ⟨z, hz, rfl⟩ := List.mem_map.1 hy
      exact hok z hz
    have Hbb := Lib.hid hbb
    have Hbf := Lib.hid hbf
    have HKd := Lib.hid hKd
    have HWf := Lib.hid hWf
    have Hys := Lib.hid hys
    have Hok2 := Lib.hid hok2
    have HS1 := Lib.hid hS1
    clear hbb hbf hKd hWf hys hok2 hS1 hS2 hok hown hur hbox hy2 hy3 hf2 hf3 hlt hoth hvs
    gi_wp2
    rw [← HWf.out]
    refine ⟨by simp, .inl ⟨_, _, rfl, run_takeDeferred HKd.out, ?_⟩⟩
    exact ⟨.tuple #[.slice Au xs.length cu, .int .i64 0], by simp [results, Tryz.f51, go_sem, r2, r3], .inl ⟨.slice Au xs.length cu, xs.map Subtype.val, ⟨Hys.out, HS1.out, by simpa using hS3⟩, Hok2.out, rfl, Hbb.out⟩, Hbf.out⟩
  case stop =>
    rintro D cd M xs W hD ⟨rfl, ⟨⟨y, hy1, hy2⟩, hy⟩, h2, h3, hbel⟩ hK hW hMD
    have hf2 : Blk (W.putObj D (.deferred none)) (w.heap.size + 1) 51 #[.slice none 0 0] := h2.keep (World.putObj_heap_other (by omega))
    have hf3 : Blk (W.putObj D (.deferred none)) (w.heap.size + 1 + 1) 31 #[.int .i64 4] := h3.keep (World.putObj_heap_other (by omega))
    have r2 := hf2.cell 0
    have r3 := hf3.cell 0
    simp only [List.getElem?_toArray, List.getElem?_cons_zero] at r2 r3
    have hGy : (G y).isSome = true := by rw [← HFG.out y hy1]; exact hy2
    clear hit hB4
    gi_wp2
    refine ⟨by simp, .inl ⟨_, _, rfl, run_takeDeferred hK, ?_⟩⟩
    exact ⟨.tuple #[.slice none 0 0, .int .i64 4], by simp [results, Tryz.f51, go_sem, r2, r3], .inr ⟨⟨y, hy1, hGy, hy⟩, rfl⟩, hbel.trans ⟨rfl, rfl, rfl, by simp, fun k hk => World.putObj_heap_other (by omega)⟩⟩
end Go.Proofs.YtdmbmkjiffhbcaaGreat
