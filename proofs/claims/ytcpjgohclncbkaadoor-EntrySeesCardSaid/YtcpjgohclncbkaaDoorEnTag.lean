/-
  path.Tag.
-/
import Derived.Test.YtcpjgohclncbkaaDoorPaMath
import Derived.Test.YtcpjgohclncbkaaDoorFmtUint
import Derived.Test.YtcpjgohclncbkaaDoorRegions
import Derived.Test.YtcpjgohclncbkaaDoorVeBase
namespace Go.Proofs.YtcpjgohclncbkaaDoor
open Go.RowKit
set_option maxRecDepth 100000

theorem decDigits_le (u : Nat) (h : u < 18446744073709551616) : (Lib.decDigits u).length ≤ 20 := by
  rw [Lib.decDigits_length]
  have h1 := Lib.numDigits_eq
  by_cases h0 : u < 10
  · have := Lib.decDigits_length u
    rw [Lib.decDigits_one h0] at this
    simp at this
    omega
  · have := h1 u (by omega) (by omega)
    split at this <;> omega

/-- A name with the number of an event behind it, whatever the replica. -/
def tagI (name : List UInt8) (r : Int) (s : Nat) : List UInt8 := name ++ 126 :: (Lib.itoa r ++ 46 :: Lib.decDigits s)
theorem tagI_nat (name : List UInt8) (r s : Nat) : tagI name (r : Int) s = tagT name r s := by unfold tagI tagT tagB; rw [Lib.itoa_nonneg]
theorem itoa_le {r : Int} (hr : I64 r) : (Lib.itoa r).length ≤ 21 := by
  have h1 : (-9223372036854775808 : Int) ≤ r := hr.1
  have h2 : r ≤ (9223372036854775807 : Int) := hr.2
  unfold Lib.itoa
  split
  · have := decDigits_le r.natAbs (by omega)
    simp only [List.length_cons]
    omega
  · have := decDigits_le r.toNat (by omega)
    omega
theorem itoaI_any {r : Int} (hr : I64 r) (w : World) (htab : Pow w) :
    Calls Tryd.prog 68 #[.int .i64 r] w fun e w' => e = .returned (str (Lib.itoa r)) ∧ Below w.heap.size w w' := by
  refine (Tryd.strconv_Itoa r hr.1 hr.2 w htab).mono ?_
  rintro e w' ⟨rfl, k, os, rfl⟩
  exact ⟨rfl, Lib.below_grow _ _ (Nat.le_refl _) _ _⟩
set_option maxHeartbeats 2000000 in
theorem tag_any (name : List UInt8) (n : Int) (s : Nat) (hn : I64 n) (hs : s < 4294967296) (hl : name.length ≤ 400) (w : World) (hp : Pow w) :
    Calls Tryd.prog 51 #[.string ⟨name.toArray⟩, idv n s] w fun e w' => e = .returned (.string ⟨(tagI name n s).toArray⟩) ∧ Below w.heap.size w w' := by
  have hA0 : Blk (w.alloc (.cells (idC n s) 25)) w.heap.size 25 (idC n s) := Blk.new w _ _
  have hbel : Below w.heap.size w (w.alloc (.cells (idC n s) 25)) := (Below.refl _ _).alloc (Nat.le_refl _) _
  have hit := fun z hz => itoaI_any hn z hz
  have hfu := fun z hz => fmtuint_any s (by omega) z hz
  have hd1 := itoa_le hn
  have hd2 := decDigits_le s (by omega)
  have hT : tagI name n s = name ++ [126] ++ Lib.itoa n ++ [46] ++ Lib.decDigits s := by unfold tagI; simp
  generalize Lib.itoa n = D1 at hit hd1 hT
  generalize Lib.decDigits s = D2 at hfu hd2 hT
  have add1 : ∀ u : World, (Op.stringOp .add ⟨name.toArray⟩ ⟨#[126]⟩).run Tryd.prog u = .ok (str (name ++ [126])) u := fun u => run_str_add u name [126] (by simp; omega)
  have add2 : ∀ u : World, (Op.stringOp .add ⟨(name ++ [126]).toArray⟩ ⟨D1.toArray⟩).run Tryd.prog u = .ok (str (name ++ [126] ++ D1)) u := fun u => run_str_add u (name ++ [126]) D1 (by simp; omega)
  have add3 : ∀ u : World, (Op.stringOp .add ⟨(name ++ [126] ++ D1).toArray⟩ ⟨#[46]⟩).run Tryd.prog u = .ok (str (name ++ [126] ++ D1 ++ [46])) u := fun u => run_str_add u (name ++ [126] ++ D1) [46] (by simp; omega)
  have add4 : ∀ u : World, (Op.stringOp .add ⟨(name ++ [126] ++ D1 ++ [46]).toArray⟩ ⟨D2.toArray⟩).run Tryd.prog u = .ok (str (tagI name n s)) u := fun u => by
    rw [hT]; exact run_str_add u (name ++ [126] ++ D1 ++ [46]) D2 (by simp; omega)
  generalize name ++ [126] ++ D1 ++ [46] = X3 at add3 add4
  generalize name ++ [126] ++ D1 = X2 at add2 add3
  generalize name ++ [126] = X1 at add1 add2
  generalize tagI name n s = TT at add4 ⊢
  unfold str at add1 add2 add3 add4
  have hwr : IntKind.u64.wrap (s : Int) = (s : Int) := by rw [IntKind.wrap_u64] <;> omega
  have hc0 : ∀ y : Ext (w.alloc (.cells (idC n s) 25)), y.now.cell? ⟨w.heap.size, 0, none⟩ = some (.int .i64 n) := fun y => by rw [(hA0.grow y.out).cell]; rfl
  have hc1 : ∀ y : Ext (w.alloc (.cells (idC n s) 25)), y.now.cell? ⟨w.heap.size, 1, none⟩ = some (.int .u32 (s : Int)) := fun y => by rw [(hA0.grow y.out).cell]; rfl
  have hit2 : ∀ (z : World), Pow z → Calls Tryd.prog 68 #[.int .i64 n] z fun e w' => e = .returned (.string ⟨D1.toArray⟩) ∧ Below z.heap.size z w' := hit
  have hfu2 : ∀ (z : World), Pow z → Calls Tryd.prog 69 #[.int .u64 (s : Int), .int .i64 10] z fun e w' => e = .returned (.string ⟨D2.toArray⟩) ∧ Below z.heap.size z w' := hfu
  have Hit := Lib.hid hit2
  have Hfu := Lib.hid hfu2
  have Hp := Lib.hid hp
  have Hbel := Lib.hid hbel
  clear hit hfu hit2 hfu2 hd1 hd2 hT hA0 hp hn hs hl hbel
  unfold idC at *
  unfold idv
  go_enter Tryd.func51, Tryd.ntmps51
  go_wp2_with fail
  refine wp_region_grow (by kernel_rfl) (by kernel_rfl) ?_
  repeat (first | go_big_quiet_step ((first | (go_at_call 68; exact calls_grow (Hit.out _ (Hp.out.grow (below_call Hbel.out (Ext.out _))))) | (go_at_call 69; exact calls_grow (Hfu.out _ (Hp.out.grow (below_call Hbel.out (Ext.out _))))))) | quiet_step ((first | (go_at_call 68; exact calls_grow (Hit.out _ (Hp.out.grow (below_call Hbel.out (Ext.out _))))) | (go_at_call 69; exact calls_grow (Hfu.out _ (Hp.out.grow (below_call Hbel.out (Ext.out _))))))))
  refine wpQuiet_nil ?_
  rintro _ ⟨⟨w6, hb6⟩, rfl⟩
  go_wp2
  go_ret
  exact ⟨rfl, below_call Hbel.out hb6⟩

end Go.Proofs.YtcpjgohclncbkaaDoor
