/-
  A text as a vector: vec.readPart.
-/
import Derived.Test.YtnokdbblmgggaaaDoorVecTextMath
import Derived.Lib.AtoiErrMem
import Derived.Test.YtnokdbblmgggaaaDoorVec6
namespace Go.Proofs.YtnokdbblmgggaaaDoor
open Go.RowKit
set_option maxRecDepth 100000

theorem var_grow {w w' : World} {nm : String} {x : Array Value} (h : w.var? Tryd.prog nm = some x) (hb : Below w.heap.size w w') : w'.var? Tryd.prog nm = some x := by
  unfold World.var? at *
  cases hg : Tryd.prog.globalNamed nm with
  | none => simp [hg] at h
  | some g =>
    simp only [hg, Option.bind_some] at h ⊢
    have hlt : g < w.heap.size := by
      rcases Nat.lt_or_ge g w.heap.size with h' | h'
      · exact h'
      · rw [Array.getElem?_eq_none h'] at h; simp at h
    rw [hb.block g hlt]
    exact h
theorem cell_grow {w w' : World} {a : Addr} {x : Value} (h : w.cell? a = some x) (hb : Below w.heap.size w w') : w'.cell? a = some x := by
  have hlt : a.block < w.heap.size := by
    rcases Nat.lt_or_ge a.block w.heap.size with h' | h'
    · exact h'
    · unfold World.cell? at h; rw [Array.getElem?_eq_none h'] at h; simp at h
  unfold World.cell? at *
  rw [hb.block _ hlt]
  exact h
/-- What the library reads of its own variables. -/
structure Env (w : World) : Prop where
  pow : Pow w
  len : ∃ m, w.cell? ⟨1, 0, none⟩ = some (.int .i64 m)
  syn : ∃ t p, w.var? Tryd.prog "strconv.ErrSyntax" = some #[.iface t p]
  rng : ∃ t p, w.var? Tryd.prog "strconv.ErrRange" = some #[.iface t p]
theorem Env.grow {w w' : World} (h : Env w) (hb : Below w.heap.size w w') : Env w' := by
  obtain ⟨h1, ⟨m, h2⟩, ⟨t, p, h3⟩, ⟨t', p', h4⟩⟩ := h
  exact ⟨h1.grow hb, ⟨m, cell_grow h2 hb⟩, ⟨t, p, var_grow h3 hb⟩, ⟨t', p', var_grow h4 hb⟩⟩
theorem cut_any (c : UInt8) (l : List UInt8) (hl : l.length ≤ 400) (w : World) (he : Env w) :
    Calls Tryd.prog 15 #[.string ⟨l.toArray⟩, .string ⟨#[c]⟩] w fun e w' => e = .returned (.tuple #[.string ⟨(Lib.cut l [c]).1.toArray⟩, .string ⟨(Lib.cut l [c]).2.1.toArray⟩, .bool (Lib.cut l [c]).2.2]) ∧ ∃ n, w' = w.drewN n := by
  obtain ⟨m, hm⟩ := he.len
  exact Tryd.strings_Cut ⟨l.toArray⟩ ⟨#[c]⟩ m w (by show l.toArray.size < _; simp; omega) hm
theorem atoi_end (l : List UInt8) (hl : l.length ≤ 400) (w : World) (he : Env w) :
    Calls Tryd.prog 25 #[.string ⟨l.toArray⟩] w fun e w' => Below w.heap.size w w' ∧ ((∃ v, Lib.atoiAll l = .ok v ∧ e = .returned (.tuple #[.int .i64 v, .nilIface])) ∨ ((∀ v, Lib.atoiAll l ≠ .ok v) ∧ ∃ x N, e = .returned (.tuple #[.int .i64 x, .iface 83 (.pointer (some ⟨N, 0, none⟩))]))) := by
  have hsz : (⟨l.toArray⟩ : ByteArray).size ≤ 400 := by show l.toArray.size ≤ _; simp; omega
  rcases h : Lib.atoiAll l with v | _ | _
  · refine (Tryd.strconv_Atoi_ok ⟨l.toArray⟩ (by omega) v h w).mono ?_
    rintro e w' ⟨rfl, hw⟩
    refine ⟨?_, Or.inl ⟨v, rfl, rfl⟩⟩
    rcases hw with rfl | ⟨t, rfl⟩
    · exact Below.refl _ _
    · exact Lib.bytesWorld_below _ _ _
  · obtain ⟨t, p, hv⟩ := he.syn
    refine (Tryd.strconv_Atoi_syntax_var ⟨l.toArray⟩ (by omega) h t p w hv).mono ?_
    rintro e w' ⟨N, rfl, _, _, hb⟩
    exact ⟨hb, Or.inr ⟨(fun v hx => by cases hx), _, _, rfl⟩⟩
  · obtain ⟨t, p, hv⟩ := he.rng
    refine (Tryd.strconv_Atoi_range_var ⟨l.toArray⟩ (by omega) h t p w hv).mono ?_
    rintro e w' ⟨N, rfl, _, _, hb⟩
    exact ⟨hb, Or.inr ⟨(fun v hx => by cases hx), _, _, rfl⟩⟩
theorem puint_end (l : List UInt8) (hl : l.length ≤ 400) (w : World) (he : Env w) :
    Calls Tryd.prog 26 #[.string ⟨l.toArray⟩, .int .i64 10, .int .i64 32] w fun e w' => Below w.heap.size w w' ∧ ((∃ u : Nat, Lib.parseUintB 32 l = .ok u ∧ e = .returned (.tuple #[.int .u64 u, .nilIface])) ∨ ((∀ v, Lib.parseUintB 32 l ≠ .ok v) ∧ ∃ x N, e = .returned (.tuple #[.int .u64 x, .iface 83 (.pointer (some ⟨N, 0, none⟩))]))) := by
  have hsz : (⟨l.toArray⟩ : ByteArray).size ≤ 400 := by show l.toArray.size ≤ _; simp; omega
  rcases h : Lib.parseUintB 32 l with v | _ | _
  · refine (Tryd.strconv_ParseUint_10_at32_ok ⟨l.toArray⟩ (by omega) v h w).mono ?_
    rintro e w' ⟨rfl, hw⟩
    refine ⟨?_, Or.inl ⟨v, rfl, rfl⟩⟩
    rcases hw with rfl | rfl
    · exact Below.refl _ _
    · exact Lib.bytesWorld_below _ _ _
  · obtain ⟨t, p, hv⟩ := he.syn
    refine (Tryd.strconv_ParseUint_10_at32_syntax_var ⟨l.toArray⟩ (by omega) h t p w hv).mono ?_
    rintro e w' ⟨N, rfl, _, _, hb⟩
    exact ⟨hb, Or.inr ⟨(fun v hx => by cases hx), _, _, rfl⟩⟩
  · obtain ⟨t, p, hv⟩ := he.rng
    refine (Tryd.strconv_ParseUint_10_at32_range_var ⟨l.toArray⟩ (by omega) h t p w hv).mono ?_
    rintro e w' ⟨N, rfl, _, _, hb⟩
    exact ⟨hb, Or.inr ⟨(fun v hx => by cases hx), _, _, rfl⟩⟩
theorem rpart_none1 {p : List UInt8} (h : ∀ v, Lib.atoiAll (Lib.cut p [58]).1 ≠ .ok v) : rpart p = none := by
  unfold rpart
  rcases he : Lib.atoiAll (Lib.cut p [58]).1 with v | _ | _
  · exact absurd he (h v)
  · rfl
  · rfl
theorem rpart_none2 {p : List UInt8} (v : Int) (h0 : Lib.atoiAll (Lib.cut p [58]).1 = .ok v) (h : ∀ v, Lib.parseUintB 32 (Lib.cut p [58]).2.1 ≠ .ok v) : rpart p = none := by
  unfold rpart
  rw [h0]
  rcases he : Lib.parseUintB 32 (Lib.cut p [58]).2.1 with v | _ | _
  · exact absurd he (h v)
  · rfl
  · rfl
theorem rpart_some {p : List UInt8} (v : Int) (u : Nat) (h0 : Lib.atoiAll (Lib.cut p [58]).1 = .ok v) (h : Lib.parseUintB 32 (Lib.cut p [58]).2.1 = .ok u) : rpart p = some (v, u) := by
  unfold rpart
  rw [h0, h]
theorem id_info : (Tryd.prog.info? 43).map (·.size) = some 2 := by kernel_rfl
def iv (r : Int) (s : Nat) : Array Value := #[.int .i64 r, .int .u32 (s : Int)]
theorem iv_one (r : Int) (s : Nat) : (iv r s).all (·.oneCell') = true := by simp [iv, Value.oneCell']

set_option maxHeartbeats 1000000 in
theorem readpart_any (p : List UInt8) (hp : p.length ≤ 400) (w : World) (he : Env w) :
    Calls Tryd.prog 16 #[.string ⟨p.toArray⟩] w fun e w' => Below w.heap.size w w' ∧ ((∃ r s, s < 4294967296 ∧ rpart p = some (r, s) ∧ e = .returned (.tuple #[idv r s, .bool true])) ∨ (rpart p = none ∧ ∃ r s, e = .returned (.tuple #[idv r s, .bool false]))) := by
  have hA0 : Blk (w.alloc (.cells (iv 0 0) 43)) w.heap.size 43 (iv 0 0) := Blk.new w _ _
  have hbel : Below w.heap.size w (w.alloc (.cells (iv 0 0) 43)) := (Below.refl _ _).alloc (Nat.le_refl _) _
  have hcut := fun z hz => cut_any 58 p hp z hz
  have hn1 := @rpart_none1 p
  have hn2 := @rpart_none2 p
  have hs := @rpart_some p
  have hl1 : (Lib.cut p [58]).1.length ≤ 400 := by have := cut_left_le (c := 58) p; omega
  have hl2 : (Lib.cut p [58]).2.1.length ≤ 400 := by have := cut_right_le (c := 58) p; omega
  generalize (Lib.cut p [58]).1 = L1 at hcut hn1 hn2 hs hl1
  generalize (Lib.cut p [58]).2.1 = L2 at hcut hn2 hs hl2
  generalize (Lib.cut p [58]).2.2 = L3 at hcut
  have hat := fun z hz => atoi_end L1 hl1 z hz
  have hpu := fun z hz => puint_end L2 hl2 z hz
  have HA := Lib.hid hA0
  have He := Lib.hid he
  have Hcut := Lib.hid hcut
  have Hat := Lib.hid hat
  have Hpu := Lib.hid hpu
  have Hn1 := Lib.hid hn1
  have Hn2 := Lib.hid hn2
  have Hs := Lib.hid hs
  clear hA0 he hcut hat hpu hn1 hn2 hs hl1 hl2
  go_enter Tryd.func16, Tryd.ntmps16
  go_wp2_with fail
  refine (Hcut.out _ (He.out.grow hbel)).mono ?_
  rintro e w1 ⟨rfl, n1, rfl⟩
  have hb1 := below_drewN hbel n1
  have HA1 := Lib.hid (HA.out.grow (below_drewN (Below.refl _ _) n1))
  go_wp2_with fail
  refine (Hat.out _ (He.out.grow hb1)).mono ?_
  rintro e w2 ⟨hb2, hcase⟩
  have hb02 := below_call hb1 hb2
  have HA2 := Lib.hid (HA1.out.grow hb2)
  rcases hcase with ⟨v, hv, rfl⟩ | ⟨hv, x, N, rfl⟩
  · have Hv := Lib.hid hv
    clear hv
    go_wp2_with fail
    refine (Hpu.out _ (He.out.grow hb02)).mono ?_
    rintro e w3 ⟨hb3, hcase⟩
    have hb03 := below_call hb02 hb3
    have HA3 := Lib.hid (HA2.out.grow hb3)
    rcases hcase with ⟨u, hu, rfl⟩ | ⟨hu, x, N, rfl⟩
    · have hlt : u < 4294967296 := by have := Lib.parseUintB_le hu; omega
      have Hu := Lib.hid hu
      clear hu
      have hwr : IntKind.u32.wrap (u : Int) = (u : Int) := by rw [IntKind.wrap_u32]; omega
      have Hlt := Lib.hid hlt
      clear hlt
      go_wp2_with (refine wpList_store_row rfl 43 (.tmp 2) (.tmp 35) rfl w.heap.size (iv v u) rfl rfl 43 _ HA3.out id_info rfl (iv_one _ _) ?_)
      have hend := HA3.out.setRow_ (iv v u)
      exact bodyPost_ret (v := .tuple #[idv v u, .bool true]) (results_cell_tmp Tryd.results16 _ _ w.heap.size 43 (iv v u) (0, 0) _ _ rfl rfl hend Tryd.underlying43 rfl id_info) rfl ⟨below_setRow hb03 (by omega) _, Or.inl ⟨v, u, Hlt.out, Hs.out v u Hv.out Hu.out, rfl⟩⟩
    · have Hu := Lib.hid hu
      clear hu
      go_wp2_with (refine wpList_store_row rfl 43 (.tmp 2) (.tmp 31) rfl w.heap.size (iv 0 0) rfl rfl 43 _ HA3.out id_info rfl (iv_one _ _) ?_)
      have hend := HA3.out.setRow_ (iv 0 0)
      exact bodyPost_ret (v := .tuple #[idv 0 0, .bool false]) (results_cell_tmp Tryd.results16 _ _ w.heap.size 43 (iv 0 0) (0, 0) _ _ rfl rfl hend Tryd.underlying43 rfl id_info) rfl ⟨below_setRow hb03 (by omega) _, Or.inr ⟨Hn2.out v Hv.out Hu.out, 0, 0, rfl⟩⟩
  · have Hv := Lib.hid hv
    clear hv
    go_wp2_with (refine wpList_store_row rfl 43 (.tmp 2) (.tmp 23) rfl w.heap.size (iv 0 0) rfl rfl 43 _ HA2.out id_info rfl (iv_one _ _) ?_)
    have hend := HA2.out.setRow_ (iv 0 0)
    exact bodyPost_ret (v := .tuple #[idv 0 0, .bool false]) (results_cell_tmp Tryd.results16 _ _ w.heap.size 43 (iv 0 0) (0, 0) _ _ rfl rfl hend Tryd.underlying43 rfl id_info) rfl ⟨below_setRow hb02 (by omega) _, Or.inr ⟨Hn1.out Hv.out, 0, 0, rfl⟩⟩
end Go.Proofs.YtnokdbblmgggaaaDoor
