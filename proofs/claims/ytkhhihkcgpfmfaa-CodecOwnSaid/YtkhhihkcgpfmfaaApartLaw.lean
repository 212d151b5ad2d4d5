/-
  The walk of CodecApart.
-/
import Derived.Test.YtkhhihkcgpfmfaaCutsLaw
namespace Go.Proofs.Ytkhhihkcgpfmfaa
open Go.RowKit
set_option maxRecDepth 100000

theorem packB_inj (A B : List (List UInt8)) (ha : ∀ f ∈ A, f.length ≤ 65535) (hb : ∀ f ∈ B, f.length ≤ 65535) (h : packB A = packB B) : A = B := by
  have h1 := steps_packB A [] ha
  have h2 := steps_packB B [] hb
  rw [h, h2, steps_nil, List.append_nil, List.append_nil] at h1
  have := congrArg (List.map Prod.fst) h1
  simpa [Function.comp_def] using this.symm
theorem packB_beq (A B : List (List UInt8)) (ha : ∀ f ∈ A, f.length ≤ 65535) (hb : ∀ f ∈ B, f.length ≤ 65535) : (packB A == packB B) = (A == B) := by
  rw [Bool.eq_iff_iff, beq_iff_eq, beq_iff_eq]
  exact ⟨packB_inj A B ha hb, fun h => by rw [h]⟩
theorem Own1.empty (w : World) (e : TypeId) : Own1 (w.alloc (.cells #[] e)) w.heap.size e (.slice (some ⟨w.heap.size, 0, none⟩) 0 0) [] := by
  unfold Own1 World.ownsRow
  refine ⟨by simp, .inr ⟨w.heap.size, 0, #[], rfl, Nat.le_refl _, row_new w _, by simp, by simp, by simp, by simp⟩⟩

theorem str_oneCell (L : List (List UInt8)) : ∀ u ∈ L.map str, u.oneCell' = true := by
  intro u hu
  obtain ⟨f, _, rfl⟩ := List.mem_map.1 hu
  rfl
/-- append, behind a guard that has let it in. -/
theorem wpList_app1_want {P : Program} {w : World} {t e : TypeId} {bytes : Nat} (het : ElemT P t e bytes) {ops : Array Oper} {rest : List Oper} {o : Oper} {a : Act} {Q : Exit → Act → World → Prop} (hw : Region.wanted o (yielded ops a.tmps) = true) (s x : Operand)
    (ho : o.op = .call { callee := .builtin .append, args := #[s, x], argTypes := #[t, t] })
    (base : Nat) (v : Value) (xs : List Value) (hs : a.eval s = v) (hown : Own1 w base e v xs)
    (ok : Nat → Prop) (A : Option Addr) (m c : Nat) (news : List Value) (hm : news.length = m) (hx : a.eval x = .slice A m c) (hr : Rd w ok A news) (h1 : ∀ u ∈ news, u.oneCell' = true)
    (hbytes : (xs.length + m) * bytes ≤ 140737488355328) (h63 : xs.length + m ≤ 140737488355328) (hbase : base ≤ w.heap.size)
    (h : ∀ v' w', Own1 w' base e v' (xs ++ news) → w.grownBy w' v.ownBlock → (v'.ownBlock = v.ownBlock ∨ v'.ownBlock = some w.heap.size) → wpList P ops Q rest (a.put o.dst v') w') :
    wpList P ops Q (o :: rest) a w := by
  subst hm
  obtain ⟨v', w', hrun, h2, h3, h4⟩ := run_app1 (P := P) w (ty := o.type) het hown (c := c) hr h1 hbytes h63 hbase
  refine wpList_step fun K hK => ?_
  rw [if_pos hw]
  unfold Oper.wp execOp
  simp only [ho, resolve, invoke, builtin, Sem.run_bind, Sem.run_pure, Result.andThen_ok, List.map_toArray, List.map_cons, List.map_nil, hs, hx, hrun]
  exact hK _ _ (h v' w' h2 h3 h4)
theorem conv_later' {ok : Nat → Prop} {A : Option Addr} {c : Nat} {l : List UInt8} {w : World} (h : Rd w ok A (l.map u8)) : ∀ u : World, Below w.heap.size w u → (convert 23 9 (.slice A l.length c)).run Try.prog u = .ok (str l) u :=
  fun _ hb => run_bytes_str _ _ _ Try.underlying23 Try.underlying5 Try.underlying9 (h.grow hb)

set_option maxHeartbeats 1000000 in
theorem codecapart_walk (A B : List (List UInt8)) (v u : Value) (ok ok' : Nat → Prop) (w : World) (hv : IsBB w ok v A) (hu : IsBB w ok' u B) :
    Calls Try.prog 5 #[v, u] w fun e w' => e = .returned (.bool true) ∧ Below w.heap.size w w' := by
  have Hv := Lib.hid hv
  have Hu := Lib.hid hu
  clear hv hu
  by_cases hfa : fewV A = true
  · by_cases hfb : fewV B = true
    · obtain ⟨hsum, hshort⟩ := fewV_le A hfa
      obtain ⟨hsum', hshort'⟩ := fewV_le B hfb
      have hpl := packB_length_le A
      have hpl' := packB_length_le B
      have hn : A.length ≤ 3000 := by omega
      have hn' : B.length ≤ 3000 := by omega
      have hpk : (packB A).length ≤ 12000 := by omega
      have hpk' : (packB B).length ≤ 12000 := by omega
      have hall : ∀ f ∈ A, f.length ≤ 65535 := fun f hf => by have := hshort f hf; omega
      have hall' : ∀ f ∈ B, f.length ≤ 65535 := fun f hf => by have := hshort' f hf; omega
      have hneq : (!((packB A == packB B) == (A == B))) = false := by rw [packB_beq A B hall hall']; simp
      have Hfa := Lib.hid hfa
      have Hfb := Lib.hid hfb
      have Hall := Lib.hid hall
      have Hall' := Lib.hid hall'
      clear hfa hfb hall hall' hsum hsum' hshort hshort' hpl hpl'
      obtain ⟨A0, c0, hv0, hc0, hm0, _⟩ := Hv.out.elem
      obtain ⟨B0, d0, hu0, hd0, hmd0, _⟩ := Hu.out.elem
      subst hv0
      subst hu0
      unfold maxLen at hm0 hmd0
      go_enter Try.func5, Try.ntmps5
      go_wp2_with fail
      refine (lives_any _).mono ?_
      rintro e w1 ⟨rfl, hb1⟩
      go_wp2_with fail
      refine (few_any ok _ A _ (Hv.out.grow hb1)).mono ?_
      rintro e w2 ⟨rfl, hb2⟩
      rw [Hfa.out]
      have hb12 := below_call hb1 hb2
      go_wp2_with fail
      refine (few_any ok' _ B _ (Hu.out.grow hb12)).mono ?_
      rintro e w3 ⟨rfl, hb3⟩
      rw [Hfb.out]
      have hb13 := below_call hb12 hb3
      go_wp2_with fail
      refine (pack_ok ok _ A _ (Hv.out.grow hb13) (by omega) Hall.out).mono ?_
      rintro e w4 ⟨x, rfl, hx, hb4⟩
      have hb14 := below_call hb13 hb4
      obtain ⟨Ax, cx, rfl, hxc, hxm, hxr⟩ := hx.isB
      have hxr4 := hxr.weaken (ok' := fun _ => True) (fun _ _ => trivial)
      clear hx hxr
      go_wp2_with fail
      refine (pack_ok ok' _ B _ (Hu.out.grow hb14) (by omega) Hall'.out).mono ?_
      rintro e w5 ⟨y, rfl, hy, hb5⟩
      have hb15 := below_call hb14 hb5
      obtain ⟨Ay, cy, rfl, hyc, hym, hyr⟩ := hy.isB
      have hyr5 := hyr.weaken (ok' := fun _ => True) (fun _ _ => trivial)
      have hxr5 := hxr4.grow hb5
      clear hy hyr hxr4
      go_wp2_with fail
      have hcx : ∀ z : World, Below w5.heap.size w5 z → (convert 23 9 (.slice Ax (packB A).length cx)).run Try.prog z = .ok (str (packB A)) z := conv_later' hxr5
      have hcy : ∀ z : World, Below w5.heap.size w5 z → (convert 23 9 (.slice Ay (packB B).length cy)).run Try.prog z = .ok (str (packB B)) z := conv_later' hyr5
      have hM : ∀ z, Below w5.heap.size w5 z → IsBB z ok (.slice A0 A.length c0) A := fun z hz => (Hv.out.grow hb15).grow hz
      have hN : ∀ z, Below w5.heap.size w5 z → IsBB z ok' (.slice B0 B.length d0) B := fun z hz => (Hu.out.grow hb15).grow hz
      have Hx5 := Lib.hid hxr5
      have Hy5 := Lib.hid hyr5
      clear hxr5 hyr5
      go_region_held (fun z => Below w5.heap.size w5 z) (first | assumption | exact below_then_drew (Below.refl _ _) | exact below_call (by assumption) hb8 | exact below_call (by assumption) hb7 | exact below_call (by assumption) hb6) (first | (go_at_call 17; (first | ((with_reducible refine (texts_at _ (.slice A0 A.length c0) A _ (hM _ (by assumption)) (by omega)).mono ?_); rintro e w6 ⟨A6, c6, rfl, ho6, hr6, hb6⟩) | ((with_reducible refine (texts_at _ (.slice B0 B.length d0) B _ (hN _ (by assumption)) (by omega)).mono ?_); rintro e w7 ⟨A7, c7, rfl, ho7, hr7, hb7⟩))) | (go_at_call 19; refine (same_any _ _ A6 A7 c6 c7 A B _ (hr6.grow hb7) hr7 (by omega)).mono ?_; rintro e w8 ⟨rfl, hb8⟩))
      have hb58 : Below w5.heap.size w5 w8 := by assumption
      have hb18 := below_call hb15 hb58
      have hx8 := (Hx5.out.grow hb58).grow ((Below.refl _ w8).alloc (Nat.le_refl _) (.cells #[] 5))
      clear hcx hcy
      go_wp2_with (first | (at_builtin; refine wpList_app1 _ elemB rfl (.tmp 54) (.tmp 55) rfl w8.heap.size _ [] rfl (Own1.empty w8 5) _ Ax (packB A).length cx ((packB A).map u8) (List.length_map _) rfl hx8 (u8_oneCell _) ?_ ?_ ?_ ?_; rotate_right; intro v9 w9 hown9 hg9 hat9) | (at_builtin; refine wpList_app1 _ elemB rfl (.tmp 56) (.tmp 57) rfl w8.heap.size v9 _ rfl hown9 (fun _ => True) Ay (packB B).length cy ((packB B).map u8) (List.length_map _) rfl (Hy5.out.grow (hb58.trans (((Below.refl _ w8).alloc (Nat.le_refl _) _).trans ((Own1.empty w8 5).below_of hg9 (by simp) (Nat.le_refl _)) |>.mono hb58.size))) (u8_oneCell _) ?_ ?_ ?_ ?_; rotate_right; intro v10 w10 hown10 hg10 hat10))
      case refine_1 => simp; omega
      case refine_2 => simp; omega
      case refine_3 => exact Nat.le_trans (by simp) hg9.size
      case refine_1 => simp; omega
      case refine_2 => simp; omega
      case refine_3 => simp
      have hb8a : Below w8.heap.size w8 w10 := ((Below.refl _ w8).alloc (Nat.le_refl _) _).trans (((Own1.empty w8 5).below_of hg9 (by simp) (Nat.le_refl _)).trans (hown9.below_of hg10 (Nat.le_trans (by simp) hg9.size) (Nat.le_refl _)))
      have hb1a := below_call hb18 hb8a
      rw [List.nil_append, ← List.map_append, ← packB_append] at hown10
      refine (unpack_ok _ v10 (A ++ B) ((A.length : Int) + B.length) (by simp) _ hown10.isB (by rw [packB_append, List.length_append]; omega) (fun f hf => by rcases List.mem_append.1 hf with hf | hf; exact Hall.out f hf; exact Hall'.out f hf)).mono ?_
      rintro e w11 ⟨z, rfl, hz, hb11⟩
      have hb1b := below_call hb1a hb11
      have hzB := hz.isBB
      clear hz hown9 hown10 hg9 hg10 hat9 hat10 hM hN
      go_wp2_with fail
      refine (texts_at _ z (A ++ B) _ hzB (by simp; omega)).mono ?_
      rintro e w12 ⟨A12, c12, rfl, ho12, hr12, hb12⟩
      have hb1c := below_call hb1b hb12
      go_wp2_with fail
      refine (texts_at _ _ A _ (Hv.out.grow hb1c) (by omega)).mono ?_
      rintro e w13 ⟨A13, c13, rfl, ho13, hr13, hb13⟩
      have hb1d := below_call hb1c hb13
      go_wp2_with fail
      refine (texts_at _ _ B _ (Hu.out.grow hb1d) (by omega)).mono ?_
      rintro e w14 ⟨A14, c14, rfl, ho14, hr14, hb14⟩
      have hb1e := below_call hb1d hb14
      go_wp2_with (at_builtin; refine wpList_app1_want elemS rfl (.tmp 73) (.tmp 75) rfl w12.heap.size _ _ rfl (ho13.grow hb14) _ A14 B.length c14 (B.map str) (List.length_map _) rfl hr14 (str_oneCell _) ?_ ?_ ?_ ?_; rotate_right; intro v15 w15 hown15 hg15 hat15)
      case refine_1 => simp; omega
      case refine_2 => simp; omega
      case refine_3 => exact Nat.le_trans hb13.size hb14.size
      have hb1215 : Below w12.heap.size w12 w15 := (hb13.trans (hb14.mono hb13.size)).trans ((ho13.grow hb14).below_of hg15 (Nat.le_trans hb13.size hb14.size) (Nat.le_refl _))
      have hb1f := below_call hb1c hb1215
      rw [← List.map_append] at hown15
      obtain ⟨A15, c15, rfl, _, _, hr15⟩ := hown15.form
      have hsm := same_any _ _ A12 A15 c12 c15 (A ++ B) (A ++ B) w15 (hr12.grow hb1215) hr15 (by simp; omega)
      rw [List.length_append] at hsm
      rw [List.length_map, List.length_append]
      refine hsm.mono ?_
      rintro e w16 ⟨rfl, hb16⟩
      go_wp2_with fail
      go_ret
      exact ⟨by simp, below_call hb1f hb16⟩
    · have hf : fewV B = false := by simpa using hfb
      have Hfa := Lib.hid hfa
      have Hf := Lib.hid hf
      clear hfa hfb hf
      go_enter Try.func5, Try.ntmps5
      go_wp2_with fail
      refine (lives_any _).mono ?_
      rintro e w1 ⟨rfl, hb1⟩
      go_wp2_with fail
      refine (few_any ok _ A _ (Hv.out.grow hb1)).mono ?_
      rintro e w2 ⟨rfl, hb2⟩
      rw [Hfa.out]
      have hb12 := below_call hb1 hb2
      go_wp2_with fail
      refine (few_any ok' _ B _ (Hu.out.grow hb12)).mono ?_
      rintro e w3 ⟨rfl, hb3⟩
      rw [Hf.out]
      have hb13 := below_call hb12 hb3
      go_wp2_with fail
      refine (lives_any _).mono ?_
      rintro e w4 ⟨rfl, hb4⟩
      go_wp2_with fail
      go_ret
      exact ⟨rfl, below_call hb13 hb4⟩
  · have hf : fewV A = false := by simpa using hfa
    clear hfa
    have Hf := Lib.hid hf
    clear hf
    go_enter Try.func5, Try.ntmps5
    go_wp2_with fail
    refine (lives_any _).mono ?_
    rintro e w1 ⟨rfl, hb1⟩
    go_wp2_with fail
    refine (few_any ok _ A _ (Hv.out.grow hb1)).mono ?_
    rintro e w2 ⟨rfl, hb2⟩
    rw [Hf.out]
    have hb12 := below_call hb1 hb2
    go_wp2_with fail
    refine (lives_any _).mono ?_
    rintro e w3 ⟨rfl, hb3⟩
    go_wp2_with fail
    go_ret
    exact ⟨rfl, below_call hb12 hb3⟩
end Go.Proofs.Ytkhhihkcgpfmfaa
