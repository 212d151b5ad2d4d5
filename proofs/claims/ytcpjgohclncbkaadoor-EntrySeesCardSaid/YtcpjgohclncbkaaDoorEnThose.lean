/-
  version.those: copies of the versions for which something holds; Heads, Sweep. slices.IndexFunc, ContainsFunc; Unseen.
-/
import Derived.Test.YtcpjgohclncbkaaDoorVeThose
import Derived.Test.YtcpjgohclncbkaaDoorVeGone
import Derived.Test.YtcpjgohclncbkaaDoorEnGone
import Derived.Test.YtcpjgohclncbkaaDoorRegions
import Derived.Shelf.Abstract
import Derived.Great.BuildSlice
namespace Go.Proofs.YtcpjgohclncbkaaDoor
open Go.RowKit
set_option maxRecDepth 100000

/-- A slice literal of one version. -/
theorem fold_ent (v : Ent) : Array.foldl (fun (cs : Array Value) (x : Value × Nat) => cs.setIfInBounds x.snd x.fst)
    #[.int .i64 0, .int .u32 0, .int .i64 0, .int .u32 0, .string ⟨#[]⟩, .int .i64 0, .int .u32 0, .int .u32 0, .int .u32 0, .int .u32 0, .int .u32 0, .int .u32 0, .int .u32 0, .int .u32 0, .int .u32 0] (entC v).zipIdx 0 15 = entC v := by
  unfold entC
  simp [Array.zipIdx]
theorem OwnE.app {w : World} {base : Nat} {v : Value} {M : List Ent} {x : Ent} (h : OwnK w base 29 15 v (M.length + 1) (entsC M ++ (entC x).toList)) (hM : ∀ y ∈ M, EntOk y) (hx : EntOk x) : OwnE w base v (M ++ [x]) := by
  refine ⟨?_, fun y hy => ?_⟩
  · rw [entsC_append, entsC_one, List.length_append, List.length_singleton]
    exact h
  · rcases List.mem_append.1 hy with hy | hy
    · exact hM y hy
    · simp at hy; subst hy; exact hx

/-- append of one version, which lies in a new block. -/
theorem wpList_app_ent (w : World) {ops : Array Oper} {rest : List Oper} {o : Oper} {a : Act} {Q : Exit → Act → World → Prop} (hgd : o.guard = none) (s x : Operand)
    (ho : o.op = .call { callee := .builtin .append, args := #[s, x], argTypes := #[22, 22] })
    (base : Nat) (v : Value) (M : List Ent) (hs : a.eval s = v) (hown : OwnE w base v M)
    (C : Array Value) (X : Ent) (hC : C = entC X) (hX : EntOk X) (te : TypeId) (hx : a.eval x = .slice (some ⟨w.heap.size, 0, none⟩) 1 1)
    (hl : M.length ≤ 100000) (hbase : base ≤ w.heap.size)
    (h : ∀ v' w', OwnE w' base v' (M ++ [X]) → w.grownBy w' v.ownBlock → (v'.ownBlock = v.ownBlock ∨ v'.ownBlock = some (w.heap.size + 1)) → wpList Tryd.prog ops Q rest (a.put o.dst v') w') :
    wpList Tryd.prog ops Q (o :: rest) a (w.alloc (.cells C te)) := by
  subst hC
  exact wpList_appK_new w elemE hgd s x ho base M.length v (entsC M) hs hown.1 (entC X).toList 1 rfl te hx (entC_each X) (by omega) (by omega) hbase
    fun v' w' h1 h2 h3 => h v' w' (OwnE.app h1 hown.2 hX) h2 h3

/-- What a function says of any version, in whatever world that has come of this one. -/
def PredE (g : Nat) (lb : Array Value) (p : Ent → Bool) (w : World) : Prop :=
  ∀ (W : World) (x : Ent), Below w.heap.size w W → Calls Tryd.prog g (#[.agg (entC x)] ++ lb) W fun e w' => e = .returned (.bool (p x)) ∧ Below W.heap.size W w'
set_option maxHeartbeats 1000000 in
theorem ethose_any (g : Nat) (lb : Array Value) (p : Ent → Bool) (eg : ∀ args w, (callFunc g args).run Tryd.prog w = .ok (.enter g args) w) (ok : Nat → Prop) (v : Value) (L : List Ent) (w : World)
    (hL : IsL kEnt w ok v L) (hd : ∀ x ∈ L, x.data.length ≤ 1000) (hl : L.length ≤ 1000) (hp : PredE g lb p w) :
    Calls Tryd.prog 46 #[v, .func (.func g) #[] lb] w fun e w' => (∃ u, e = .returned u ∧ OwnE w' w.heap.size u (L.filter p)) ∧ Below w.heap.size w w' := by
  have hvok := hL.entOk
  obtain ⟨A, c, rfl, hc1, hc2, hL⟩ := ent_at hL
  have hm : maxLen ≤ 9223372036854775807 := by decide
  have Hel := Lib.hid hL
  have Hp := Lib.hid hp
  have Hd := Lib.hid hd
  have Hv := Lib.hid hvok
  obtain ⟨n, hn⟩ : ∃ n, n = L.length := ⟨_, rfl⟩
  rw [← hn] at hc1 hl ⊢
  have Hn := Lib.hid hn
  clear hL hp hd hvok hn
  go_enter Tryd.func46, Tryd.ntmps46
  go_wp2_with fail
  go_loopw [5, 10] (fun s i wr => ∃ (k : Nat), k ≤ n ∧ i = .int .i64 (k : Int) ∧ OwnE wr w.heap.size s ((L.take k).filter p) ∧ Below w.heap.size w wr) (fun _ i _ => n - (intOf i).toNat)
  case atStart => exact ⟨0, by omega, rfl, by rw [List.take_zero]; exact OwnE.nil _ _, Below.refl _ _⟩
  case round =>
    obtain ⟨k, hk, rfl, hown, hbw⟩ := hrel
    have Hown := Lib.hid hown
    clear hown
    by_cases hlt : k < n
    · have hkl : k < L.length := by rw [← Hn.out]; exact hlt
      obtain ⟨b, off, rfl, _, hb, hel⟩ := Hel.out (by intro e; subst e; simp at hkl)
      have R := Lib.hid (range_ext (hel k hkl).1 hbw)
      have hx := Hv.out L[k] (List.getElem_mem hkl)
      have hxd := Hd.out L[k] (List.getElem_mem hkl)
      have htk : L.take (k + 1) = L.take k ++ [L[k]] := by rw [List.take_succ_eq_append_getElem hkl]
      obtain ⟨x, hxe⟩ : ∃ x, x = L[k] := ⟨_, rfl⟩
      rw [← hxe] at R hx hxd htk
      have Hx := Lib.hid hx
      have Htk := Lib.hid htk
      have Hcp := Lib.hid fun z => ecopied_any x hxd z
      have hlen : ((L.take k).filter p).length ≤ 1000 := Nat.le_trans (List.length_filter_le _ _) (by rw [List.length_take]; omega)
      obtain ⟨M, hM⟩ : ∃ M, M = (L.take k).filter p := ⟨_, rfl⟩
      rw [← hM] at Hown hlen
      have HM := Lib.hid hM
      have hws := hbw.size
      have Hpx := Lib.hid fun (W : World) (hW : Below w.heap.size w W) => Hp.out W x hW
      obtain ⟨C, hC⟩ : ∃ C, C = entC x := ⟨_, rfl⟩
      have hsz : C.size = 15 := by rw [hC]; rfl
      have hone : C.all (·.oneCell') = true := by rw [hC]; exact entC_one x
      have hinfL : (Tryd.prog.info? 29).map (·.size) = some C.toList.length := by rw [hC]; exact ent_info
      have hinf : (Tryd.prog.info? 29).map (·.size) = some C.size := by rw [hC]; exact ent_info
      have heach : ∀ u ∈ C.toList, u.oneCell' = true := by rw [hC]; exact entC_each x
      have hfold := fold_ent x
      rw [← hC] at hfold
      have Hfold := Lib.hid hfold
      clear hfold
      have HC := Lib.hid hC
      rw [← hC] at R Hcp Hpx
      have Hsz := Lib.hid hsz
      have Hone := Lib.hid hone
      have HinfL := Lib.hid hinfL
      have Hinf := Lib.hid hinf
      have Heach := Lib.hid heach
      have Hbw := Lib.hid hbw
      have hblk : Blk (wr.alloc (.cells C 29)) wr.heap.size 29 C := Blk.new _ _ _
      have hbel1 : Below w.heap.size w (wr.alloc (.cells C 29)) := hbw.alloc hws _
      have Hblk := Lib.hid hblk
      have Hbel1 := Lib.hid hbel1
      clear hel hx hxd hxe htk hM hC hone hinfL hinf heach hbw hblk hbel1 Hel Hp Hd Hv
      go_upto_region 5 with (first | (refine wpList_load_mid (op := ⟨some 13, _, _, _, _, _⟩) rfl 29 (.tmp 12) rfl b (off + k * 15) rfl _ _ R.out Tryd.underlying29 rfl HinfL.out ?_) | (refine wpList_store_new (op := ⟨none, _, _, _, _, _⟩) rfl 29 (.tmp 7) (.tmp 13) rfl zeroE C rfl rfl Hinf.out (by rw [Hsz.out]; rfl) Hone.out ?_))
      obtain ⟨wa, hwa⟩ : ∃ wa, wa = wr.alloc (.cells C 29) := ⟨_, rfl⟩
      rw [← hwa] at Hblk Hbel1 ⊢
      obtain ⟨q, hq⟩ : ∃ q, q = p x := ⟨_, rfl⟩
      rw [← hq] at Hpx
      have Hq := Lib.hid hq
      have Hown1 := Lib.hid (show OwnE wa w.heap.size u5 M by rw [hwa]; exact ⟨OwnK.alloc Hown.out.1 _, Hown.out.2⟩)
      clear hwa hq
      cases q with
      | false =>
        have hM2 : (L.take (k + 1)).filter p = M := by rw [Htk.out, List.filter_append, HM.out]; simp [← Hq.out]
        have HM2 := Lib.hid hM2
        clear hM2
        go_wp2_with (first | (refine wpList_load_row rfl 29 (.tmp 7) rfl wr.heap.size rfl 29 C (0, 0) _ Hblk.out Tryd.underlying29 rfl Hinf.out ?_) | (go_at_fn g; go_must (refine (Hpx.out _ Hbel1.out).mono ?_; rintro e1 w1 ⟨rfl, hb1⟩; have HB1 := Lib.hid hb1; clear hb1)))
        go_roundw
        case rel => exact ⟨k + 1, by omega, by go_num, by rw [HM2.out]; exact Hown1.out.grow HB1.out, below_call Hbel1.out HB1.out⟩
        case measure => simp [intOf]; omega
      | true =>
        have hM2 : (L.take (k + 1)).filter p = M ++ [x] := by rw [Htk.out, List.filter_append, HM.out]; simp [← Hq.out]
        have HM2 := Lib.hid hM2
        clear hM2
        go_upto_region 6 with (first | (refine wpList_load_row rfl 29 (.tmp 7) rfl wr.heap.size rfl 29 C (0, 0) _ Hblk.out Tryd.underlying29 rfl Hinf.out ?_) | (go_at_fn g; go_must (refine (Hpx.out _ Hbel1.out).mono ?_; rintro e1 w1 ⟨rfl, hb1⟩; have HB1 := Lib.hid hb1; clear hb1)))
        have Hblk1 := Lib.hid (Hblk.out.grow HB1.out)
        have Hown2 := Lib.hid (Hown1.out.grow HB1.out)
        have Hbel2 := Lib.hid (below_call Hbel1.out HB1.out)
        go_wp2_with (first | (refine wpList_load_row rfl 29 (.tmp 7) rfl wr.heap.size rfl 29 C (0, 0) _ Hblk1.out Tryd.underlying29 rfl Hinf.out ?_) | (go_at_call 39; go_must (refine (Hcp.out _).mono ?_; rintro e2 w2 ⟨rfl, hb2⟩; have Hown3 := Lib.hid (Hown2.out.grow hb2); have Hbel3 := Lib.hid (below_call Hbel2.out hb2); have hws3 := Hbel3.out.size; clear hb2)) | (at_builtin; go_must (rw [Hfold.out]; refine wpList_app_ent w2 rfl (.tmp 17) (.tmp 20) rfl w.heap.size u5 M rfl Hown3.out C x HC.out Hx.out 29 rfl (by omega) hws3 ?_; intro v9 w9 hown9 hg9 hat9; have Hown9 := Lib.hid hown9; have Hg9 := Lib.hid hg9; clear hown9 hg9 hat9)))
        go_roundw
        case rel => exact ⟨k + 1, by omega, by go_num, by rw [HM2.out]; exact Hown9.out, Hbel3.out.trans (Hown3.out.1.below_of Hg9.out hws3 (Nat.le_refl _))⟩
        case measure => simp [intOf]; omega
    · obtain rfl : k = n := by omega
      have hall : (L.take k).filter p = L.filter p := by rw [List.take_of_length_le (by rw [Hn.out]; exact Nat.le_refl _)]
      rw [hall] at Hown
      go_wp2_with fail
      go_ret
      exact ⟨⟨_, rfl, Hown.out⟩, hbw⟩
end Go.Proofs.YtcpjgohclncbkaaDoor
