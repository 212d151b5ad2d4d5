/-
  Write.
-/
import Derived.Test.YtdmbmkjiffhbcaaGreatDevParts
import Derived.StillTailTactics
namespace Go.Proofs.YtdmbmkjiffhbcaaGreat
open Go.RowKit
set_option maxRecDepth 100000

theorem write_nil (i : Int) (v : Value) (w : World) : Calls Tryz.prog 56 #[.pointer none, .int .i64 i, v] w fun e w' => e = .returned (.int .i64 6) ∧ w = w' := by
  go_enter Tryz.func56, Tryz.ntmps56
  go_wp2_with fail
  refine (find_nil _ _).mono ?_
  rintro e w' ⟨rfl, rfl⟩
  go_wp2
  go_ret
  exact ⟨rfl, rfl⟩

/-- What the append of a write leaves. -/
def Wrote (w3 wx : World) (base g : Nat) (vl v5 : Value) (hd : Value → Array Value) (n : Nat) (xs : List Value) : Prop :=
  OwnK wx base 85 257 v5 n xs ∧ Blk wx g 67 (hd v5) ∧ Fr (fun k => k = g ∨ vl.ownBlock = some k) (fun k => k = g ∨ vl.ownBlock = some k) w3 wx ∧ (∀ k, v5.ownBlock = some k → vl.ownBlock = some k ∨ w3.heap.size ≤ k)
theorem wrote_of {w3 wu w5 : World} {base g n : Nat} {vl v5 : Value} {hd : Value → Array Value} {xs : List Value} (hu : Below w3.heap.size w3 wu) (hs : w3.heap.size ≤ wu.heap.size) (hown : OwnK w5 base 85 257 v5 n xs) (hg : wu.grownBy w5 vl.ownBlock)
    (hblk : Blk w3 g 67 (hd vl)) (hne : vl.ownBlock ≠ some g) (hat : v5.ownBlock = vl.ownBlock ∨ v5.ownBlock = some wu.heap.size) (hset : ((hd vl).setIfInBounds 2 v5) = hd v5) :
    Wrote w3 (w5.setCell ⟨g, 2, none⟩ v5) base g vl v5 hd n xs := by
  have hb5 : Blk w5 g 67 (hd vl) := (hblk.grow hu).grown hg hne
  have hog : v5.ownBlock ≠ some g := by
    rcases hat with h | h
    · rw [h]; exact hne
    · rw [h]; intro e; have := hblk.lt; cases e; omega
  refine ⟨hown.keep fun k hk => Below.heap_setCell _ _ _ _ (fun (e : k = g) => hog (by rw [← e]; exact hk)), ?_, ?_, fun k hk => ?_⟩
  · have := hb5.set_ 2 v5
    rwa [hset] at this
  · have h1 : Fr (fun k => k = g ∨ vl.ownBlock = some k) (fun k => k = g ∨ vl.ownBlock = some k) w3 wu := Fr.of_below hu _
    exact (h1.grown hg (fun k hk => .inr hk)).setCell (.inl rfl) _
  · rcases hat with h | h
    · left; rw [← h]; exact hk
    · right; rw [h] at hk; cases hk; exact hs

theorem built_wr (i : Int) : Tryz.prog.built 85 [(0, .int .i64 i)] = some (#[.int .i64 i] ++ Array.replicate 256 (.int .u8 0)) := by kernel_rfl

set_option maxHeartbeats 1000000 in
theorem write_any (base : Nat) (F : Nat → Prop) (g : Nat) (D : Dev) (ok : Nat → Prop) (i : Int) (vb : Value) (b : List UInt8) (w : World) (h : DevAt w base F g D) (hv : IsB w ok vb b) (hb : base ≤ w.heap.size) (hc : D.changes ≤ 1099511627775) (hl : D.loose.length ≤ 274877906943) :
    Calls Tryz.prog 56 #[.pointer (some ⟨g, 0, none⟩), .int .i64 i, vb] w fun e w' => e = .returned (.int .i64 (D.put i b).2) ∧ ∃ F', DevAt w' base F' g (D.put i b).1 ∧ Fr F F' w w' := by
  obtain ⟨Ab, cb, rfl, hbc, hbm, hbr⟩ := hv
  have H := Lib.hid h
  have Hbr := Lib.hid hbr
  clear h hbr
  by_cases hy : D.why i = 0
  · by_cases h256 : b.length = 256
    · obtain ⟨gs, gl, vl, vp, n, hin, hn⟩ := H.out
      obtain ⟨hoff, h0, hlt⟩ : D.off = false ∧ 0 ≤ i ∧ i < D.sure.length := by
        unfold Dev.why at hy
        cases ho : D.off
        · rw [ho] at hy
          simp only [Bool.false_eq_true, if_false] at hy
          split at hy
          · cases hy
          · exact ⟨rfl, by omega, by omega⟩
        · rw [ho] at hy; cases hy
      obtain ⟨k, rfl⟩ := Int.eq_ofNat_of_zero_le h0
      have hput : D.put (k : Int) b = { D with loose := D.loose ++ [(k, b)] }.change := by
        unfold Dev.put
        rw [if_neg (by rw [hy]; simp), if_neg (by rw [h256]; simp)]
        rfl
      have Hput := Lib.hid hput
      have Hy := Lib.hid hy
      have H256 := Lib.hid h256
      have Hin := Lib.hid hin
      have hz := zero_wr
      have hks : k < D.sure.length := by omega
      obtain ⟨Z, hZ⟩ : ∃ Z : Array Value, Z = #[.int .i64 (k : Int)] ++ Array.replicate 256 (.int .u8 0) := ⟨_, rfl⟩
      have hZb := built_wr (k : Int)
      rw [← hZ] at hZb
      have hZs : Z.size = 257 := by rw [hZ]; simp
      have hZ1 : Z.all (·.oneCell') = true := by rw [hZ, Array.all_eq_true_iff_forall_mem]; intro v hv; simp at hv; rcases hv with rfl | rfl <;> rfl
      have HZ := Lib.hid hZ
      have HZb := Lib.hid hZb
      have HZs := Lib.hid hZs
      have HZ1 := Lib.hid hZ1
      clear hZ hZb hZs hZ1
      clear hput hy hin hlt h0 hoff
      rw [H256.out] at hbc ⊢
      clear h256
      go_enter Tryz.func56, Tryz.ntmps56
      go_wp2_with fail
      refine (find_any _ _ _ D _ _ H.out).mono ?_
      rintro e w' ⟨rfl, rfl⟩
      rw [Hy.out]
      go_upto_region 7 with (first
        | ((with_reducible refine wpList_buildTo (o := ⟨some 19, _, _, _, _, _⟩) rfl _ _ rfl _ rfl Z ?_ ?_); (focus (simp only [List.map_toArray, List.map_cons, List.map_nil]; exact HZb.out)))
        | (with_reducible refine wpList_store_new rfl _ _ _ rfl _ Z rfl rfl (by rw [size_wr, HZs.out]) (by rw [zeroWr_size, HZs.out]) HZ1.out ?_))
      obtain ⟨wa, hwa⟩ : ∃ x, x = w.alloc (.cells Z 85) := ⟨_, rfl⟩
      have hba : Below w.heap.size w wa := by rw [hwa]; exact (Below.refl _ _).alloc (Nat.le_refl _) _
      have hsa : wa.heap.size = w.heap.size + 1 := by rw [hwa]; simp
      have hblkZ : Blk wa w.heap.size 85 Z := by rw [hwa]; exact Blk.new _ _ _
      have hZl : Z = (Value.int .i64 (k : Int) :: List.replicate 256 (.int .u8 0)).toArray := by rw [HZ.out]; simp
      rw [hZl] at hblkZ
      have hcl : (b.map u8).length = 256 := by rw [List.length_map, H256.out]
      have hbra := Hbr.out.grow hba
      have hsrc : 0 < (b.map u8).length → ∃ ad, Ab = some ad ∧ ∀ j v, (b.map u8)[j]? = some v → wa.cell? (ad.add j) = some v := fun h => by
        obtain ⟨ad, e, _, hc⟩ := hbra (by intro e; rw [e] at h; simp at h)
        exact ⟨ad, e, hc⟩
      have hn1 : (b.map u8).length = Nat.min 256 256 := by rw [hcl]; rfl
      have hfit : 1 + (b.map u8).length ≤ (Value.int .i64 (k : Int) :: List.replicate 256 (.int .u8 0)).length := by rw [hcl]; simp
      have Hn1 := Lib.hid hn1
      have Hfit := Lib.hid hfit
      have hspl : splice (Value.int .i64 (k : Int) :: List.replicate 256 (.int .u8 0)) 1 (b.map u8) = wrC (k, b) := by
        unfold splice wrC
        rw [List.take_succ_cons, List.take_zero, hcl, List.drop_eq_nil_of_le (by simp), List.append_nil]
        rfl
      have Hwa := Lib.hid hwa
      have HblkZ := Lib.hid hblkZ
      have Hsrc := Lib.hid hsrc
      have Hspl := Lib.hid hspl
      have Hcl := Lib.hid hcl
      have Hba := Lib.hid hba
      have Hsa := Lib.hid hsa
      rw [← hwa]
      clear hwa hblkZ hsrc hn1 hfit hspl hcl hba hsa hZl hbra hz
      go_upto_region 8 with (with_reducible refine wpList_copy_fr rfl (.tmp 21) (.tmp 22) 47 47 rfl 5 Tryz.underlying47 size_u8 (some ⟨w.heap.size, 1, none⟩) Ab 256 256 256 cb rfl rfl w.heap.size 1 _ 85 HblkZ.out (b.map u8) Hn1.out (fun h => ⟨rfl, Hsrc.out h⟩) Hfit.out (u8_oneCell _) ?_; intro w3 hblk3 hfr3)
      rw [Hspl.out] at hblk3
      have hwl : (wrC (k, b)).length = 257 := by unfold wrC; rw [List.length_cons, List.length_map, H256.out]
      have hin3 : DevIn w3 base F g gs gl vl vp n D := by
        refine Hin.out.keep (fun j hj => ?_) (by have := hfr3.size; have := Hba.out.size; omega)
        have := (Hin.out.low j hj).2
        rw [(hfr3.block j (by have := Hba.out.size; omega) (by omega)).2, Hba.out.block j this]
      obtain ⟨hc0, hc1, hc2, hc3, hc4, hc5⟩ := hin3.cells
      have hf2 := hin3.blk.frozen 2
      have hsz3 : w.heap.size + 1 ≤ w3.heap.size := by have := hfr3.size; have := Hsa.out; omega
      have hfrw3 : Fr F F w w3 := ⟨hfr3.os.trans Hba.out.os, hfr3.tape.trans Hba.out.tape, hfr3.output.trans Hba.out.output, by omega, fun j hj hF => ⟨hF, (hfr3.block j (by have := Hba.out.size; omega) (by omega)).2.trans (Hba.out.block j hj)⟩⟩
      have hgW : ¬ g = w.heap.size := by have := Hin.out.blk.lt; omega
      have hneW : vl.ownBlock ≠ some w.heap.size := fun e => by
        have := (Hin.out.low _ (Hin.out.fv _ e)).2
        omega
      have Hblk3 := Lib.hid hblk3
      have Hwl := Lib.hid hwl
      have Hin3 := Lib.hid hin3
      have hld := run_loadAt_mid (P := Tryz.prog) w3.drew w.heap.size 0 85 (wrC (k, b)) _ (Blk.range hblk3 0 _ (by rw [List.drop_zero, List.take_length])) Tryz.underlying85 rfl (by rw [size_wr, hwl])
      clear hblk3 hwl hin3 hfr3
      have hbs := run_one_wr (k, b) Hwl.out
      have hgsz : g < w3.heap.size := World.block_lt_of_cell? _ _ hc2
      have hne : vl.ownBlock ≠ some g := by
        intro e
        rcases Hin3.out.loose.2 with ⟨h1, _⟩ | ⟨g', cap, cur, h1, _, h2, _⟩
        · rw [h1] at e; cases e
        · rw [h1] at e
          cases e
          exact Blk.ne_ (t := 85) (t' := 67) h2 Hin3.out.blk (by decide) rfl
      obtain ⟨cs, hcs⟩ : ∃ cs, cs = wrC (k, b) := ⟨_, rfl⟩
      have hrg : w3.rangeAt w.heap.size 0 cs := by rw [hcs]; exact Blk.range Hblk3.out 0 _ (by rw [List.drop_zero, List.take_length])
      have h1c : ∀ v ∈ cs, v.oneCell' = true := by rw [hcs]; exact wrC_oneCell _
      have hcl : cs.length = 257 := by rw [hcs]; exact Hwl.out
      have hu := Tryz.underlying85
      have hi : (Tryz.prog.info? 85).map (·.size) = some cs.length := by rw [size_wr, hcl]
      rw [← hcs] at hbs
      have Hcs := Lib.hid hcs
      have Hrg := Lib.hid hrg
      have Hcl := Lib.hid hcl
      clear hcs hld hrg hcl
      have hrdW : ∀ u : World, Rd ((u.alloc (.cells cs.toArray 85)).drew) (fun _ => True) (some ⟨u.heap.size, 0, none⟩) cs := fun u => by
        have := ((Blk.new u 85 cs.toArray).drew).rd (fun _ => True) trivial
        exact this
      have HrdW := Lib.hid hrdW
      clear hrdW
      simp only [Act.put, List.setIfInBounds_toArray, List.set_cons_zero, List.set_cons_succ]
      go_cut [31] (fun v5 wx => Wrote w3 wx base g vl v5 (fun v => #[.slice (some ⟨gs, 0, none⟩) n n, .slice (some ⟨gl, 0, none⟩) n n, v, vp, .bool D.off, .int .i64 (D.changes : Int)]) (D.loose.length + 1) (many wrC D.loose ++ cs))
      case first =>
        have hb5 : base ≤ ((w3.drew).alloc (.cells cs.toArray 85)).heap.size := by
          have : ((w3.drew).alloc (.cells cs.toArray 85)).heap.size = w3.heap.size + 1 := by simp
          omega
        refine wp_region_held_drew (S := fun u => u.rangeAt w.heap.size 0 cs) (by kernel_rfl) Hrg.out (fun hH => ?_)
        refine wpAnyH_take (i := 0) (oi := ⟨some 24, .move (.tmp 0), _, _, _, _⟩) (v := ?_) rfl (by kernel_rfl) (by kernel_rfl) (by kernel_rfl) (fun _ _ _ h => h) (Or.inl ⟨by rfl, ?_⟩) (by assumption) ?_
        rotate_left
        · intro w hSw
          go_simp
          with_reducible rfl
        simp only [Act.put, List.setIfInBounds_toArray, List.set_cons_zero, List.set_cons_succ]
        refine wpAnyH_take (i := 1) (oi := ⟨some 25, .move (.tmp 0), _, _, _, _⟩) (v := ?_) rfl (by kernel_rfl) (by kernel_rfl) (by kernel_rfl) (fun _ _ _ h => h) (Or.inl ⟨by rfl, ?_⟩) (by assumption) ?_
        rotate_left
        · intro w hSw
          go_simp
          with_reducible rfl
        simp only [Act.put, List.setIfInBounds_toArray, List.set_cons_zero, List.set_cons_succ]
        refine wpAnyH_take (i := 2) (oi := ⟨some 26, .nilCheck (.tmp 25), _, _, _, _⟩) (v := ?_) rfl (by kernel_rfl) (by kernel_rfl) (by kernel_rfl) (fun _ _ _ h => h) (Or.inl ⟨by rfl, ?_⟩) (by assumption) ?_
        rotate_left
        · intro w hSw
          go_simp
          with_reducible rfl
        simp only [Act.put, List.setIfInBounds_toArray, List.set_cons_zero, List.set_cons_succ]
        refine wpAnyH_take (i := 3) (oi := ⟨some 27, .fieldAddr 67 (.tmp 26) 2, _, _, _, _⟩) (v := ?_) rfl (by kernel_rfl) (by kernel_rfl) (by kernel_rfl) (fun _ _ _ h => h) (Or.inl ⟨by rfl, ?_⟩) (by assumption) ?_
        rotate_left
        · intro w hSw
          go_simp
          with_reducible rfl
        simp only [Act.put, List.setIfInBounds_toArray, List.set_cons_zero, List.set_cons_succ]
        refine' wpAnyH_take (i := 5) (oi := ⟨some 29, .load 85 (.tmp 8), _, _, _, _⟩) (v := _) rfl (by kernel_rfl) (by kernel_rfl) (by kernel_rfl) (fun _ _ _ h => h) (yieldsIf_load_mid (by rfl) _ _ rfl w.heap.size 0 rfl cs _ (fun w hw => hw) hu rfl hi) (by assumption) ?rest5
        simp only [Act.put, List.setIfInBounds_toArray, List.set_cons_zero, List.set_cons_succ]
        refine wpAnyH_ready (rs := [4, 6]) (by kernel_rfl) (by simp) ?_
        refine AllReadyH.cons (o := ⟨some 28, .load 64 (.tmp 27), _, _, _, _⟩) rfl (fun K hK => ?_) (AllReadyH.cons (o := ⟨some 30, .buildSlice 64 1 #[(0, .tmp 29)], _, _, _, _⟩) rfl (fun K hK => ?_) AllReadyH.nil)
        · go_simp
          refine hK.out _ _ (by first | exact Hrg.out | exact World.rangeAt_alloc Hrg.out _) (fun hHeld => ?_)
          clear hK K
          refine wpAnyH_ready (rs := [6]) (by kernel_rfl) (by simp) ?_
          refine AllReadyH.cons (o := ⟨some 30, .buildSlice 64 1 #[(0, .tmp 29)], _, _, _, _⟩) rfl (fun K hK => ?_) AllReadyH.nil
          rw [if_pos (by rfl)]
          refine wp_val (v := .slice (some ⟨w3.heap.size, 0, none⟩) 1 1) (w' := (w3.drew).alloc (.cells cs.toArray 85)) ?_ ?_
          · have := hbs w3.drew
            unfold execOp
            simp only [List.map_toArray, List.map_cons, List.map_nil]
            show (Instr.buildSlice 64 1 #[(0, .agg cs.toArray)] >>= fun v => pure (Next.value v)).run Tryz.prog w3.drew = _
            rw [Sem.run_bind, this]
            rfl
          simp only [Act.put, List.setIfInBounds_toArray, List.set_cons_zero, List.set_cons_succ]
          refine hK.out _ _ (World.rangeAt_alloc Hrg.out _) (fun hHeld => ?_)
          clear hK K
          refine wpAnyH_ready (rs := [7]) (by kernel_rfl) (by simp) ?_
          refine AllReadyH.cons (o := ⟨some 31, .call { callee := .builtin .append, args := #[.tmp 28, .tmp 30], argTypes := #[64, 64] }, _, _, _, _⟩) rfl (fun K hK => ?_) AllReadyH.nil
          refine step_appK _ elemW rfl (.tmp 28) (.tmp 30) rfl base D.loose.length vl (many wrC D.loose) rfl (((Hin3.out.loose.drew).alloc _)) (fun _ => True) (some ⟨w3.heap.size, 0, none⟩) 1 1 cs (by rw [Hcl.out]) rfl (HrdW.out w3) h1c (by omega) (by omega) hb5 ?_
          intro v5 w5 hown5 hg5 hat5
          obtain ⟨A5, c5, hv5, _, _, _⟩ := hown5.form
          subst hv5
          simp only [Act.put, List.setIfInBounds_toArray, List.set_cons_zero, List.set_cons_succ]
          refine hK.out _ _ ?_ (fun hHeld => ?_)
          · exact range_same (w := (w3.drew).alloc (.cells cs.toArray 85)) (World.rangeAt_alloc Hrg.out _) (hg5.block _ (by simp; omega) (fun e => hneW e.symm))
          clear hK K
          refine wpAnyH_take (i := 8) (oi := ⟨some 32, .nilCheck (.tmp 24), _, _, _, _⟩) (v := ?_) rfl (by kernel_rfl) (by kernel_rfl) (by kernel_rfl) (fun _ _ _ h => h) (Or.inl ⟨by rfl, ?_⟩) (by assumption) ?_
          rotate_left
          · intro w hSw
            go_simp
            with_reducible rfl
          simp only [Act.put, List.setIfInBounds_toArray, List.set_cons_zero, List.set_cons_succ]
          refine wpAnyH_take (i := 9) (oi := ⟨some 33, .fieldAddr 67 (.tmp 32) 2, _, _, _, _⟩) (v := ?_) rfl (by kernel_rfl) (by kernel_rfl) (by kernel_rfl) (fun _ _ _ h => h) (Or.inl ⟨by rfl, ?_⟩) (by assumption) ?_
          rotate_left
          · intro w hSw
            go_simp
            with_reducible rfl
          simp only [Act.put, List.setIfInBounds_toArray, List.set_cons_zero, List.set_cons_succ]
          have hb5g := (Hin3.out.blk.grow (((Below.refl w3.heap.size w3).drew).alloc (Nat.le_refl _) (.cells cs.toArray 85))).grown hg5 hne
          have hc5g : w5.cell? ⟨g, 2, none⟩ = some vl := by rw [hb5g.cell]; rfl
          have hf5g := hb5g.frozen 2
          clear hb5g
          refine wpAnyH_ready (rs := [10]) (by kernel_rfl) (by simp) ?_
          refine AllReadyH.cons (o := ⟨none, .store 64 (.tmp 33) (.tmp 31), _, _, _, _⟩) rfl (fun K hK => ?_) AllReadyH.nil
          go_simp
          refine hK.out _ _ (range_same hHeld (Below.heap_setCell _ _ _ _ (fun e => hgW e.symm))) (fun hHeld => ?_)
          clear hK K
          refine wpAnyH_done (by kernel_rfl) ?_ _
          go_wp2_with fail
          go_meet
          exact wrote_of (hd := fun v => #[.slice (some ⟨gs, 0, none⟩) n n, .slice (some ⟨gl, 0, none⟩) n n, v, vp, .bool D.off, .int .i64 (D.changes : Int)]) (((Below.refl w3.heap.size w3).drew).alloc (Nat.le_refl _) _) (by simp) hown5 hg5 Hin3.out.blk hne hat5 (by simp)
        · rw [if_pos (by rfl)]
          refine wp_val (v := .slice (some ⟨w3.heap.size, 0, none⟩) 1 1) (w' := (w3.drew).alloc (.cells cs.toArray 85)) ?_ ?_
          · have := hbs w3.drew
            unfold execOp
            simp only [List.map_toArray, List.map_cons, List.map_nil]
            show (Instr.buildSlice 64 1 #[(0, .agg cs.toArray)] >>= fun v => pure (Next.value v)).run Tryz.prog w3.drew = _
            rw [Sem.run_bind, this]
            rfl
          simp only [Act.put, List.setIfInBounds_toArray, List.set_cons_zero, List.set_cons_succ]
          refine hK.out _ _ (World.rangeAt_alloc Hrg.out _) (fun hHeld => ?_)
          clear hK K
          refine wpAnyH_ready (rs := [4]) (by kernel_rfl) (by simp) ?_
          refine AllReadyH.cons (o := ⟨some 28, .load 64 (.tmp 27), _, _, _, _⟩) rfl (fun K hK => ?_) AllReadyH.nil
          go_simp
          refine hK.out _ _ (by first | exact Hrg.out | exact World.rangeAt_alloc Hrg.out _) (fun hHeld => ?_)
          clear hK K
          refine wpAnyH_ready (rs := [7]) (by kernel_rfl) (by simp) ?_
          refine AllReadyH.cons (o := ⟨some 31, .call { callee := .builtin .append, args := #[.tmp 28, .tmp 30], argTypes := #[64, 64] }, _, _, _, _⟩) rfl (fun K hK => ?_) AllReadyH.nil
          refine step_appK _ elemW rfl (.tmp 28) (.tmp 30) rfl base D.loose.length vl (many wrC D.loose) rfl (((Hin3.out.loose.drew).alloc _)) (fun _ => True) (some ⟨w3.heap.size, 0, none⟩) 1 1 cs (by rw [Hcl.out]) rfl (HrdW.out w3) h1c (by omega) (by omega) hb5 ?_
          intro v5 w5 hown5 hg5 hat5
          obtain ⟨A5, c5, hv5, _, _, _⟩ := hown5.form
          subst hv5
          simp only [Act.put, List.setIfInBounds_toArray, List.set_cons_zero, List.set_cons_succ]
          refine hK.out _ _ ?_ (fun hHeld => ?_)
          · exact range_same (w := (w3.drew).alloc (.cells cs.toArray 85)) (World.rangeAt_alloc Hrg.out _) (hg5.block _ (by simp; omega) (fun e => hneW e.symm))
          clear hK K
          refine wpAnyH_take (i := 8) (oi := ⟨some 32, .nilCheck (.tmp 24), _, _, _, _⟩) (v := ?_) rfl (by kernel_rfl) (by kernel_rfl) (by kernel_rfl) (fun _ _ _ h => h) (Or.inl ⟨by rfl, ?_⟩) (by assumption) ?_
          rotate_left
          · intro w hSw
            go_simp
            with_reducible rfl
          simp only [Act.put, List.setIfInBounds_toArray, List.set_cons_zero, List.set_cons_succ]
          refine wpAnyH_take (i := 9) (oi := ⟨some 33, .fieldAddr 67 (.tmp 32) 2, _, _, _, _⟩) (v := ?_) rfl (by kernel_rfl) (by kernel_rfl) (by kernel_rfl) (fun _ _ _ h => h) (Or.inl ⟨by rfl, ?_⟩) (by assumption) ?_
          rotate_left
          · intro w hSw
            go_simp
            with_reducible rfl
          simp only [Act.put, List.setIfInBounds_toArray, List.set_cons_zero, List.set_cons_succ]
          have hb5g := (Hin3.out.blk.grow (((Below.refl w3.heap.size w3).drew).alloc (Nat.le_refl _) (.cells cs.toArray 85))).grown hg5 hne
          have hc5g : w5.cell? ⟨g, 2, none⟩ = some vl := by rw [hb5g.cell]; rfl
          have hf5g := hb5g.frozen 2
          clear hb5g
          refine wpAnyH_ready (rs := [10]) (by kernel_rfl) (by simp) ?_
          refine AllReadyH.cons (o := ⟨none, .store 64 (.tmp 33) (.tmp 31), _, _, _, _⟩) rfl (fun K hK => ?_) AllReadyH.nil
          go_simp
          refine hK.out _ _ (range_same hHeld (Below.heap_setCell _ _ _ _ (fun e => hgW e.symm))) (fun hHeld => ?_)
          clear hK K
          refine wpAnyH_done (by kernel_rfl) ?_ _
          go_wp2_with fail
          go_meet
          exact wrote_of (hd := fun v => #[.slice (some ⟨gs, 0, none⟩) n n, .slice (some ⟨gl, 0, none⟩) n n, v, vp, .bool D.off, .int .i64 (D.changes : Int)]) (((Below.refl w3.heap.size w3).drew).alloc (Nat.le_refl _) _) (by simp) hown5 hg5 Hin3.out.blk hne hat5 (by simp)
      case rest =>
        obtain ⟨hown6, hblk6, hfr6, hat6⟩ := hcut
        obtain ⟨w6, rfl⟩ : ∃ x, x = wc := ⟨wc, rfl⟩
        have hin3 := Hin3.out
        have hgl : g ≠ gl := hin3.blk.ne_ hin3.last (by decide)
        have hgs : g ≠ gs := hin3.blk.ne_ hin3.sure (by decide)
        have hvt : ∀ j t cs', Blk w3 j t cs' → t ≠ 85 → vl.ownBlock ≠ some j := fun j t cs' hb ht e => by
          rcases hin3.loose.2 with ⟨h1, _⟩ | ⟨g', cap, cur, h1, _, h2, _⟩
          · rw [h1] at e; cases e
          · rw [h1] at e
            cases e
            exact Blk.ne_ (t := 85) (t' := t) h2 hb (fun e => ht e.symm) rfl
        have hsame : ∀ j t cs', Blk w3 j t cs' → j ≠ g → t ≠ 85 → w6.heap[j]? = w3.heap[j]? := fun j t cs' hb hj ht => (hfr6.block j hb.lt (fun h => h.elim hj (hvt j t cs' hb ht))).2
        have hsure6 := hin3.sure.keep (hsame _ _ _ hin3.sure (fun e => hgs e.symm) (by decide))
        have hlast6 := hin3.last.keep (hsame _ _ _ hin3.last (fun e => hgl e.symm) (by decide))
        have hplan6 : PlanAt w6 base F vp D.left D.choice := hin3.plan.types fun j t cs' hb ht => hsame j t cs' hb (by rintro rfl; exact hb.ne_ hin3.blk (by rcases ht with rfl | rfl <;> decide) rfl) (by rcases ht with rfl | rfl <;> decide)
        have hbox6 : Blk w6 w.heap.size 85 (wrC (k, b)).toArray := Hblk3.out.keep (hfr6.block _ Hblk3.out.lt (fun h => h.elim (fun e => hgW e.symm) hneW)).2
        have hc1 : w6.cell? ⟨g, 1, none⟩ = some (.slice (some ⟨gl, 0, none⟩) n n) := by rw [hblk6.cell]; rfl
        have hrs : w6.rangeAt w.heap.size 1 (secC b) := hbox6.range 1 _ (by unfold wrC secC; rw [List.drop_succ_cons, List.drop_zero, List.take_length])
        have hcl2 : (secC b).length = 256 := by unfold secC; rw [List.length_map, H256.out]
        have hka : k < (applyW D.sure D.loose).length := by rw [applyW_length]; exact hks
        have hth : w6.there gl (k * 256) 256 := hlast6.there _ _ (many_fits secC 256 _ hin3.lasts _ hka)
        have hspl2 := many_splice secC 256 _ hin3.lasts _ hka b (secC b) (by omega) (by
          rw [List.drop_eq_nil_of_le (by rw [hin3.lasts _ (List.getElem_mem hka), hcl2]; exact Nat.le_refl _), List.append_nil])
        have happ : (applyW D.sure D.loose).set k b = applyW D.sure (D.loose ++ [(k, b)]) := by rw [applyW_append]; rfl
        rw [happ] at hspl2
        have hst := Blk.setCells (secC b) (k * 256) w6.drew _ hlast6.drew (by rw [hcl2]; exact many_fits secC 256 _ hin3.lasts _ hka)
        rw [hspl2] at hst
        have hkn : (k : Int) < (n : Int) := by have := hin3.len; omega
        have hsz6 := hfr6.size
        have hfr36 : Fr F F w3 w6 := hfr6.less (fun j hj => by
          rcases hj with rfl | hj
          · exact hin3.fg
          · exact hin3.fv _ hj)
        obtain ⟨ds, hds⟩ : ∃ ds, ds = secC b := ⟨_, rfl⟩
        rw [← hds] at hrs hcl2 hst
        have hth : w6.there gl (k * 256) ds.length := by rw [hcl2]; exact hth
        have h1d : ∀ v ∈ ds, v.oneCell' = true := by rw [hds]; exact secC_oneCell _
        have hi2 : (Tryz.prog.info? 83).map (·.size) = some ds.length := by rw [size_sec, hcl2]
        have hu2 := Tryz.underlying83
        have hWl : w.heap.size ≠ gl := by have := (Hin.out.low _ Hin.out.fl).2; omega
        have hfrx : Fr (· = gl) (· = gl) w6 (w6.drew.setCells gl (k * 256) ds) := Fr.setCells (F' := (· = gl)) ((Fr.refl (· = gl) w6).drew) rfl _ _
        have hk1 := hfrx.cell hc1 hgl
        have hk3 := World.rangeAt_setCells_apart (w := w6.drew) hrs gl (k * 256) ds (.inl hWl)
        have hk4 := World.there_setCells (w := w6.drew) hth gl (k * 256) ds
        -- the device behind the store
        obtain ⟨w7, hw7⟩ : ∃ x, x = w6.drew.setCells gl (k * 256) ds := ⟨_, rfl⟩
        rw [← hw7] at hst hfrx
        have hwf1 : ({ D with loose := D.loose ++ [(k, b)] } : Dev).Wf := ⟨hin3.wf.sure, fun x hx => by
          rcases List.mem_append.1 hx with hx | hx
          · exact hin3.wf.loose x hx
          · simp at hx; subst hx; exact ⟨hks, H256.out⟩, hin3.wf.left⟩
        have hfrw7 : Fr F F w w7 := (hfrw3.trans hfr36).trans (hfrx.less (fun j (hj : j = gl) => hj ▸ hin3.fl))
        have hsz7 := hfrx.size
        have hdev : DevAt w7 base (Up F w w7) g { D with loose := D.loose ++ [(k, b)] } := by
          refine ⟨gs, gl, _, vp, n, ⟨hblk6.keep (hfrx.block _ hblk6.lt hgl).2, hsure6.keep (hfrx.block _ hsure6.lt (fun e => hin3.ne e)).2, hst, hin3.ne, ?_, ?_, .inl hin3.fg, .inl hin3.fs, .inl hin3.fl, fun j hj => ?_, Up.low Hin.out.low hb (by omega), hin3.len, hwf1⟩, hn⟩
          · show OwnK w7 base _ 257 _ (D.loose ++ [(k, b)]).length (many wrC (D.loose ++ [(k, b)]))
            rw [List.length_append, many_append, show many wrC [(k, b)] = wrC (k, b) by simp [many], ← Hcs.out]
            refine OwnK.types hown6 fun j cs' hb' => (hfrx.block j hb'.lt (fun (e : j = gl) => ?_)).2
            subst e
            exact hb'.ne_ hlast6 (by decide) rfl
          · refine (hplan6.types fun j t cs' hb' ht => (hfrx.block j hb'.lt (fun (e : j = gl) => ?_)).2).keep (fun _ h => .inl h) (fun _ _ => rfl)
            subst e
            exact hb'.ne_ hlast6 (by rcases ht with rfl | rfl <;> decide) rfl
          · rcases hat6 j hj with h | h
            · exact .inl (hin3.fv j h)
            · exact .inr ⟨by omega, by have := (hown6.lt j hj).2; omega⟩
        have Hdev := Lib.hid hdev
        have Hfrw7 := Lib.hid hfrw7
        have Hw7 := Lib.hid hw7
        have Hk1 := Lib.hid hk1
        have Hk3 := Lib.hid hk3
        have Hk4 := Lib.hid hk4
        have Hrs := Lib.hid hrs
        clear hin3 hown6 hblk6 hfr6 hat6 hvt hsame hsure6 hlast6 hplan6 hbox6 hrs hcl2 hka hspl2 happ hst hfr36 hds hfrx hk1 hk3 hk4 hw7 hwf1 hfrw7 hdev hi hu h1c hbs hc0 hc2 hc3 hc4 hc5 hf2 hfrw3
        go_upto_region 9 with (fail)
        go_region_held3 (fun u => u.cell? ⟨g, 1, none⟩ = some (.slice (some ⟨gl, 0, none⟩) n n) ∧ u.rangeAt w.heap.size 1 ds ∧ u.there gl (k * 256) ds.length)
          (first | exact ⟨hc1, Hrs.out, hth⟩ | exact ⟨Hk1.out, Hk3.out, Hk4.out⟩ | assumption)
          (fail)
        rw [← Hw7.out]
        have hcc : ({ D with loose := D.loose ++ [(k, b)] } : Dev).changes ≤ 1099511627776 := by show D.changes ≤ _; omega
        have hll : ({ D with loose := D.loose ++ [(k, b)] } : Dev).loose.length ≤ 1099511627776 := by show (D.loose ++ [(k, b)]).length ≤ _; rw [List.length_append]; simp; omega
        go_wp2_with fail
        refine (change_any _ _ _ _ _ Hdev.out hcc hll).mono ?_
        rintro e w8 ⟨rfl, hdev8, hfr8⟩
        go_wp2
        go_ret
        rw [Hput.out]
        exact ⟨rfl, _, hdev8, (Hfrw7.out.up).trans hfr8⟩
    · have hput : D.put i b = (D, 1) := by
        unfold Dev.put
        rw [if_neg (by rw [hy]; simp), if_pos (by simpa using h256)]
      have Hput := Lib.hid hput
      have Hy := Lib.hid hy
      have hl1 : ((b.length : Int) != 256) = true := by
        rw [bne_iff_ne]
        omega
      clear hput hy h256
      go_enter Tryz.func56, Tryz.ntmps56
      go_wp2_with fail
      refine (find_any _ _ _ D _ _ H.out).mono ?_
      rintro e w' ⟨rfl, rfl⟩
      rw [Hy.out]
      go_wp2
      go_ret
      rw [Hput.out]
      exact ⟨rfl, F, H.out, Fr.refl _ _⟩
  · have hput : D.put i b = (D, D.why i) := by
      unfold Dev.put
      rw [if_pos hy]
    have Hput := Lib.hid hput
    have hne : (D.why i != 0) = true := by simpa using hy
    clear hput hy
    go_enter Tryz.func56, Tryz.ntmps56
    go_wp2_with fail
    refine (find_any _ _ _ D _ _ H.out).mono ?_
    rintro e w' ⟨rfl, rfl⟩
    go_wp2
    go_ret
    rw [Hput.out]
    exact ⟨rfl, F, H.out, Fr.refl _ _⟩

/-- A Write that is refused leaves all as it was. -/
theorem write_bad (base : Nat) (F : Nat → Prop) (g : Nat) (D : Dev) (i : Int) (A : Option Addr) (n c : Nat) (w : World) (h : DevAt w base F g D) (hy : D.why i = 0) (h256 : n ≠ 256) :
    Calls Tryz.prog 56 #[.pointer (some ⟨g, 0, none⟩), .int .i64 i, .slice A n c] w fun e w' => e = .returned (.int .i64 1) ∧ w = w' := by
  have H := Lib.hid h
  have Hy := Lib.hid hy
  have hl1 : ((n : Int) != 256) = true := by rw [bne_iff_ne]; omega
  clear h hy h256
  go_enter Tryz.func56, Tryz.ntmps56
  go_wp2_with fail
  refine (find_any _ _ _ D _ _ H.out).mono ?_
  rintro e w' ⟨rfl, rfl⟩
  rw [Hy.out]
  go_wp2
  go_ret
  exact ⟨rfl, rfl⟩
theorem write_why (base : Nat) (F : Nat → Prop) (g : Nat) (D : Dev) (i : Int) (v : Value) (w : World) (h : DevAt w base F g D) (hy : D.why i ≠ 0) :
    Calls Tryz.prog 56 #[.pointer (some ⟨g, 0, none⟩), .int .i64 i, v] w fun e w' => e = .returned (.int .i64 (D.why i)) ∧ w = w' := by
  have H := Lib.hid h
  have hne : (D.why i != 0) = true := by simpa using hy
  clear h hy
  go_enter Tryz.func56, Tryz.ntmps56
  go_wp2_with fail
  refine (find_any _ _ _ D _ _ H.out).mono ?_
  rintro e w' ⟨rfl, rfl⟩
  go_wp2
  go_ret
  exact ⟨rfl, rfl⟩
end Go.Proofs.YtdmbmkjiffhbcaaGreat
