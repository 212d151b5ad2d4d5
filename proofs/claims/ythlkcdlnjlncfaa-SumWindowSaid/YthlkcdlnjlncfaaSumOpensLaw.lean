/-
  The walk of SumOpens.
-/
import Derived.Test.YthlkcdlnjlncfaaQuiet
import Derived.Test.YthlkcdlnjlncfaaLives02
import Derived.Test.YthlkcdlnjlncfaaRefSum
import Derived.Test.YthlkcdlnjlncfaaSumKit
import Derived.Test.YthlkcdlnjlncfaaGrow
namespace Go.Proofs.Ythlkcdlnjlncfaa
open Go.RowKit
set_option maxRecDepth 100000

theorem own_empty (w : World) : Own1 (w.alloc (.cells #[] 5)) w.heap.size 5 (.slice (some ⟨w.heap.size, 0, none⟩) 0 0) [] :=
  ⟨rfl, .inr ⟨w.heap.size, 0, #[], rfl, Nat.le_refl _, Blk.new _ _ _, by simp, by unfold maxLen; omega, by simp, by simp⟩⟩
theorem IsB.take {w : World} {ok : Nat → Prop} {A : Option Addr} {n c : Nat} {l : List UInt8} (h : IsB w ok (.slice A n c) l) (k : Nat) (hk : k ≤ l.length) : IsB w ok (.slice A k c) (l.take k) := by
  obtain ⟨A', c', e, h1, h2, h3⟩ := h
  cases e
  exact ⟨A, c, by rw [List.length_take, Nat.min_eq_left hk], by rw [List.length_take]; omega, h2, by rw [List.map_take]; exact h3.take⟩
/-- Whether a text is what Seal makes of its beginning. -/
theorem sealed_text (X : List UInt8) (h : 4 ≤ X.length) : (X.take (X.length - 4) ++ sumB (X.take (X.length - 4)) = X) = (sealedB X = true) := by
  apply propext
  unfold sealedB
  rw [beq_iff_eq]
  constructor
  · intro h'
    have := congrArg (List.drop (X.length - 4)) h'
    rw [List.drop_left' (by rw [List.length_take]; omega)] at this
    exact this.symm
  · intro h'
    rw [← h', List.take_append_drop]

theorem sumopens_long (v : Value) (b : List UInt8) (sealed : Bool) (w : World) (hv : IsB w (fun _ => True) v b) (hlong : 2000 < b.length) :
    Calls Try.prog 4 #[v, .bool sealed] w fun e w' => e = .returned (.bool true) ∧ Below w.heap.size w w' := by
  obtain ⟨A, c, rfl, hc, hm, hr⟩ := hv
  clear hr hm
  go_enter Try.func4, Try.ntmps4
  go_wp2_with fail
  refine (lives_any _).mono ?_
  rintro e w1 ⟨rfl, hb1⟩
  go_wp2_with fail
  refine (lives_any _).mono ?_
  rintro e w2 ⟨rfl, hb2⟩
  go_wp2_with fail
  go_ret
  exact ⟨rfl, hb1.trans (hb2.mono hb1.size)⟩
set_option maxHeartbeats 1000000 in
theorem sumopens_cut (v : Value) (b X : List UInt8) (hX : X = b) (hs : X.length < 4) (w : World) (hv : IsB w (fun _ => True) v b) (hshort : b.length ≤ 2000) :
    Calls Try.prog 4 #[v, .bool false] w fun e w' => e = .returned (.bool true) ∧ Below w.heap.size w w' := by
  have Hv := Lib.hid hv
  obtain ⟨A, c, rfl, hc, hm, hr⟩ := hv
  clear hr hm
  go_enter Try.func4, Try.ntmps4
  go_wp2_with fail
  refine (lives_any _).mono ?_
  rintro e w1 ⟨rfl, hb1⟩
  have hba : Below w.heap.size w (w1.alloc (.cells #[] 5)) := hb1.alloc hb1.size _
  obtain ⟨A0, c0, e0, hc0, hm0, hr0⟩ := Hv.out
  cases e0
  have Hr0 := Lib.hid hr0
  clear hr0 hm0 hc0
  go_wp2_with (at_builtin; refine wpList_app1 _ elemB rfl (.tmp 17) (.tmp 18) rfl w1.heap.size _ [] rfl (own_empty w1) (fun _ => True) A b.length c (b.map u8) (List.length_map _) rfl (Hr0.out.grow hba) (u8_oneCell _) (by simp; omega) (by simp; omega) (by simp) ?_; intro v1 w2 hown1 hg1 _; have hb2 := hba.trans ((own_empty w1).below_of hg1 hba.size hb1.size); rw [List.nil_append] at hown1; clear hg1)
  have hxl : X.length ≤ 2004 := by rw [hX]; omega
  have hx : Own1 w2 w1.heap.size 5 v1 (X.map u8) := by rw [hX]; exact hown1
  have hbx := hb2
  clear hX hown1
  refine (open_any _ _ X _ hx.isB (by omega)).mono ?_
  rintro e w5 ⟨h, hb5⟩
  rw [if_pos hs] at h
  subst h
  obtain ⟨Ax, cx, rfl, hcx, hmx, hrx⟩ := hx.isB
  clear hx hrx
  unfold maxLen at hmx
  go_wp2_with fail
  go_ret
  exact ⟨by simp, hbx.trans (hb5.mono hbx.size)⟩

set_option maxHeartbeats 1000000 in
theorem sumopens_bad (v : Value) (b X : List UInt8) (hX : X = b) (hs : 4 ≤ X.length) (hsd : sealedB X = false) (w : World) (hv : IsB w (fun _ => True) v b) (hshort : b.length ≤ 2000) :
    Calls Try.prog 4 #[v, .bool false] w fun e w' => e = .returned (.bool true) ∧ Below w.heap.size w w' := by
  have Hv := Lib.hid hv
  obtain ⟨A, c, rfl, hc, hm, hr⟩ := hv
  clear hr hm
  go_enter Try.func4, Try.ntmps4
  go_wp2_with fail
  refine (lives_any _).mono ?_
  rintro e w1 ⟨rfl, hb1⟩
  have hba : Below w.heap.size w (w1.alloc (.cells #[] 5)) := hb1.alloc hb1.size _
  obtain ⟨A0, c0, e0, hc0, hm0, hr0⟩ := Hv.out
  cases e0
  have Hr0 := Lib.hid hr0
  clear hr0 hm0 hc0
  go_wp2_with (at_builtin; refine wpList_app1 _ elemB rfl (.tmp 17) (.tmp 18) rfl w1.heap.size _ [] rfl (own_empty w1) (fun _ => True) A b.length c (b.map u8) (List.length_map _) rfl (Hr0.out.grow hba) (u8_oneCell _) (by simp; omega) (by simp; omega) (by simp) ?_; intro v1 w2 hown1 hg1 _; have hb2 := hba.trans ((own_empty w1).below_of hg1 hba.size hb1.size); rw [List.nil_append] at hown1; clear hg1)
  have hxl : X.length ≤ 2004 := by rw [hX]; omega
  have hx : Own1 w2 w1.heap.size 5 v1 (X.map u8) := by rw [hX]; exact hown1
  have hbx := hb2
  clear hX hown1
  have Hsd := Lib.hid hsd
  have hne : ¬ (X.take (X.length - 4) ++ sumB (X.take (X.length - 4)) = X) := by rw [sealed_text X hs, hsd]; decide
  have Hne := Lib.hid hne
  clear hsd hne
  refine (open_broken _ _ X _ hx.isB hs (by omega) Hsd.out).mono ?_
  rintro e w5 ⟨rfl, hb5⟩
  obtain ⟨Ax, cx, rfl, hcx, hmx, hrx⟩ := hx.isB
  have hxB : IsB w5 (fun _ => True) (.slice Ax X.length cx) X := ⟨Ax, cx, rfl, hcx, hmx, (hrx.grow hb5).weaken fun _ _ => trivial⟩
  have hle : X.length - 4 ≤ X.length := Nat.sub_le _ _
  have hcva : ∀ y : Ext w5, (convert 22 9 (.slice Ax (X.length - 4) cx)).run Try.prog y.now = .ok (str (X.take (X.length - 4))) y.now := fun y => conv_str ((hxB.grow y.out).take _ hle)
  have hcvb : ∀ y : Ext w5, (convert 22 9 (.slice Ax X.length cx)).run Try.prog y.now = .ok (str X) y.now := fun y => conv_str (hxB.grow y.out)
  have htk : (X.take (X.length - 4)).length ≤ 1099511627776 := by rw [List.length_take]; omega
  clear hx hrx
  unfold maxLen at hmx
  go_wp2_with fail
  refine wp_region_grow (by kernel_rfl) (by kernel_rfl) ?_
  repeat (first | go_big_quiet_step ((go_at_call 14; exact calls_grow (refseal_any _ _ htk))) | quiet_step ((go_at_call 14; exact calls_grow (refseal_any _ _ htk))))
  refine wpQuiet_nil ?_
  rintro w6 ⟨⟨_, hb6⟩, rfl⟩
  have hb16 := (hbx.trans (hb5.mono hbx.size)).trans (hb6.mono (Nat.le_trans hbx.size hb5.size))
  have ht : (!(X.take (X.length - 4) ++ sumB (X.take (X.length - 4)) == X)) = true := by simpa using Hne.out
  go_wp2_with fail
  · go_ret
    exact ⟨by simp, hb16⟩
  · have h2 : (!(X.take (X.length - 4) ++ sumB (X.take (X.length - 4)) == X)) = false := by assumption
    rw [ht] at h2
    cases h2

set_option maxHeartbeats 1000000 in
theorem sumopens_ok (v : Value) (b X : List UInt8) (hX : X = b) (hs : 4 ≤ X.length) (hsd : sealedB X = true) (w : World) (hv : IsB w (fun _ => True) v b) (hshort : b.length ≤ 2000) :
    Calls Try.prog 4 #[v, .bool false] w fun e w' => e = .returned (.bool true) ∧ Below w.heap.size w w' := by
  have Hv := Lib.hid hv
  obtain ⟨A, c, rfl, hc, hm, hr⟩ := hv
  clear hr hm
  go_enter Try.func4, Try.ntmps4
  go_wp2_with fail
  refine (lives_any _).mono ?_
  rintro e w1 ⟨rfl, hb1⟩
  have hba : Below w.heap.size w (w1.alloc (.cells #[] 5)) := hb1.alloc hb1.size _
  obtain ⟨A0, c0, e0, hc0, hm0, hr0⟩ := Hv.out
  cases e0
  have Hr0 := Lib.hid hr0
  clear hr0 hm0 hc0
  go_wp2_with (at_builtin; refine wpList_app1 _ elemB rfl (.tmp 17) (.tmp 18) rfl w1.heap.size _ [] rfl (own_empty w1) (fun _ => True) A b.length c (b.map u8) (List.length_map _) rfl (Hr0.out.grow hba) (u8_oneCell _) (by simp; omega) (by simp; omega) (by simp) ?_; intro v1 w2 hown1 hg1 _; have hb2 := hba.trans ((own_empty w1).below_of hg1 hba.size hb1.size); rw [List.nil_append] at hown1; clear hg1)
  have hxl : X.length ≤ 2004 := by rw [hX]; omega
  have hx : Own1 w2 w1.heap.size 5 v1 (X.map u8) := by rw [hX]; exact hown1
  have hbx := hb2
  clear hX hown1
  have Hsd := Lib.hid hsd
  have heq : X.take (X.length - 4) ++ sumB (X.take (X.length - 4)) = X := by rw [sealed_text X hs, hsd]
  have Heq := Lib.hid heq
  clear hsd heq
  refine (open_any _ _ X _ hx.isB (by omega)).mono ?_
  rintro e w5 ⟨h, hb5⟩
  rw [if_neg (by omega), if_pos Hsd.out] at h
  obtain ⟨y, rfl, hy⟩ := h
  obtain ⟨Ax, cx, rfl, hcx, hmx, hrx⟩ := hx.isB
  have hxB : IsB w5 (fun _ => True) (.slice Ax X.length cx) X := ⟨Ax, cx, rfl, hcx, hmx, (hrx.grow hb5).weaken fun _ _ => trivial⟩
  have hle : X.length - 4 ≤ X.length := Nat.sub_le _ _
  have hcva : ∀ y : Ext w5, (convert 22 9 (.slice Ax (X.length - 4) cx)).run Try.prog y.now = .ok (str (X.take (X.length - 4))) y.now := fun y => conv_str ((hxB.grow y.out).take _ hle)
  have hcvb : ∀ y : Ext w5, (convert 22 9 (.slice Ax X.length cx)).run Try.prog y.now = .ok (str X) y.now := fun y => conv_str (hxB.grow y.out)
  have htk : (X.take (X.length - 4)).length ≤ 1099511627776 := by rw [List.length_take]; omega
  clear hx hrx
  unfold maxLen at hmx
  go_wp2_with fail
  refine wp_region_grow (by kernel_rfl) (by kernel_rfl) ?_
  repeat (first | go_big_quiet_step ((go_at_call 14; exact calls_grow (refseal_any _ _ htk))) | quiet_step ((go_at_call 14; exact calls_grow (refseal_any _ _ htk))))
  refine wpQuiet_nil ?_
  rintro w6 ⟨⟨_, hb6⟩, rfl⟩
  have hb16 := (hbx.trans (hb5.mono hbx.size)).trans (hb6.mono (Nat.le_trans hbx.size hb5.size))
  have ht : (!(X.take (X.length - 4) ++ sumB (X.take (X.length - 4)) == X)) = false := by simpa using Heq.out
  go_wp2_with fail
  · have h2 : (!(X.take (X.length - 4) ++ sumB (X.take (X.length - 4)) == X)) = true := by assumption
    rw [ht] at h2
    cases h2
  clear ht hcva hcvb
  have hcvy : ∀ n, (convert 22 9 y).run Try.prog (w6.drewN n) = .ok (str (X.take (X.length - 4))) (w6.drewN n) := fun n => conv_str ((hy.isB.grow hb6).drewN n)
  have hcva : ∀ n, (convert 22 9 (.slice Ax (X.length - 4) cx)).run Try.prog (w6.drewN n) = .ok (str (X.take (X.length - 4))) (w6.drewN n) := fun n => conv_str (((hxB.grow hb6).take _ hle).drewN n)
  clear hy hxB
  go_quiet (fail)
  go_wp2
  go_ret
  exact ⟨by simp, below_drewN hb16 _⟩

set_option maxHeartbeats 1000000 in
theorem sumopens_ok_sealed (v : Value) (b X : List UInt8) (hX : X = b ++ sumB b) (hs : 4 ≤ X.length) (hsd : sealedB X = true) (w : World) (hv : IsB w (fun _ => True) v b) (hshort : b.length ≤ 2000) :
    Calls Try.prog 4 #[v, .bool true] w fun e w' => e = .returned (.bool true) ∧ Below w.heap.size w w' := by
  have Hv := Lib.hid hv
  obtain ⟨A, c, rfl, hc, hm, hr⟩ := hv
  clear hr hm
  go_enter Try.func4, Try.ntmps4
  go_wp2_with fail
  refine (lives_any _).mono ?_
  rintro e w1 ⟨rfl, hb1⟩
  have hba : Below w.heap.size w (w1.alloc (.cells #[] 5)) := hb1.alloc hb1.size _
  obtain ⟨A0, c0, e0, hc0, hm0, hr0⟩ := Hv.out
  cases e0
  have Hr0 := Lib.hid hr0
  clear hr0 hm0 hc0
  go_wp2_with (at_builtin; refine wpList_app1 _ elemB rfl (.tmp 17) (.tmp 18) rfl w1.heap.size _ [] rfl (own_empty w1) (fun _ => True) A b.length c (b.map u8) (List.length_map _) rfl (Hr0.out.grow hba) (u8_oneCell _) (by simp; omega) (by simp; omega) (by simp) ?_; intro v1 w2 hown1 hg1 _; have hb2 := hba.trans ((own_empty w1).below_of hg1 hba.size hb1.size); rw [List.nil_append] at hown1; clear hg1)
  clear hown1
  refine (seal_any _ _ b _ (Hv.out.grow hb2) (by omega)).mono ?_
  rintro e w3 ⟨x3, rfl, hx3, hb3⟩
  have hb13 := hb2.trans (hb3.mono hb2.size)
  rw [← hX] at hx3
  have hxl : X.length ≤ 2004 := by rw [hX, List.length_append, sumB_length]; omega
  have hcv1 : ∀ y : Ext w3, (convert 22 9 x3).run Try.prog y.now = .ok (str X) y.now := fun y => conv_str (hx3.isB.grow y.out)
  have hcv2 : ∀ y : Ext w3, (convert 22 9 (.slice A b.length c)).run Try.prog y.now = .ok (str b) y.now := fun y => conv_str ((Hv.out.grow hb13).grow y.out)
  have hrs : ∀ W : World, Calls Try.prog 14 #[str b] W _ := fun W => refseal_any b W (by omega)
  rw [← hX] at hrs
  have HX := Lib.hid hX
  clear hX
  go_wp2_with fail
  refine wp_region_grow (by kernel_rfl) (by kernel_rfl) ?_
  repeat (first | go_big_quiet_step ((go_at_call 14; exact calls_grow (hrs _))) | quiet_step ((go_at_call 14; exact calls_grow (hrs _))))
  refine wpQuiet_nil ?_
  rintro _ ⟨⟨w4, hb4⟩, rfl⟩
  have hbx := hb13.trans (hb4.mono hb13.size)
  have hx := hx3.grow hb4
  clear hcv1 hcv2 hrs hx3
  go_wp2_with fail
  have Hsd := Lib.hid hsd
  have heq : X.take (X.length - 4) ++ sumB (X.take (X.length - 4)) = X := by rw [sealed_text X hs, hsd]
  have Heq := Lib.hid heq
  clear hsd heq
  refine (open_any _ _ X _ hx.isB (by omega)).mono ?_
  rintro e w5 ⟨h, hb5⟩
  rw [if_neg (by omega), if_pos Hsd.out] at h
  obtain ⟨y, rfl, hy⟩ := h
  obtain ⟨Ax, cx, rfl, hcx, hmx, hrx⟩ := hx.isB
  have hxB : IsB w5 (fun _ => True) (.slice Ax X.length cx) X := ⟨Ax, cx, rfl, hcx, hmx, (hrx.grow hb5).weaken fun _ _ => trivial⟩
  have hle : X.length - 4 ≤ X.length := Nat.sub_le _ _
  have hcva : ∀ y : Ext w5, (convert 22 9 (.slice Ax (X.length - 4) cx)).run Try.prog y.now = .ok (str (X.take (X.length - 4))) y.now := fun y => conv_str ((hxB.grow y.out).take _ hle)
  have hcvb : ∀ y : Ext w5, (convert 22 9 (.slice Ax X.length cx)).run Try.prog y.now = .ok (str X) y.now := fun y => conv_str (hxB.grow y.out)
  have htk : (X.take (X.length - 4)).length ≤ 1099511627776 := by rw [List.length_take]; omega
  clear hx hrx
  unfold maxLen at hmx
  go_wp2_with fail
  refine wp_region_grow (by kernel_rfl) (by kernel_rfl) ?_
  repeat (first | go_big_quiet_step ((go_at_call 14; exact calls_grow (refseal_any _ _ htk))) | quiet_step ((go_at_call 14; exact calls_grow (refseal_any _ _ htk))))
  refine wpQuiet_nil ?_
  rintro w6 ⟨⟨_, hb6⟩, rfl⟩
  have hb16 := (hbx.trans (hb5.mono hbx.size)).trans (hb6.mono (Nat.le_trans hbx.size hb5.size))
  have ht : (!(X.take (X.length - 4) ++ sumB (X.take (X.length - 4)) == X)) = false := by simpa using Heq.out
  go_wp2_with fail
  · have h2 : (!(X.take (X.length - 4) ++ sumB (X.take (X.length - 4)) == X)) = true := by assumption
    rw [ht] at h2
    cases h2
  clear ht hcva hcvb
  have hcvy : ∀ n, (convert 22 9 y).run Try.prog (w6.drewN n) = .ok (str (X.take (X.length - 4))) (w6.drewN n) := fun n => conv_str ((hy.isB.grow hb6).drewN n)
  have hcva : ∀ n, (convert 22 9 (.slice Ax (X.length - 4) cx)).run Try.prog (w6.drewN n) = .ok (str (X.take (X.length - 4))) (w6.drewN n) := fun n => conv_str (((hxB.grow hb6).take _ hle).drewN n)
  clear hy hxB
  go_quiet (fail)
  go_wp2
  go_ret
  exact ⟨by simp, below_drewN hb16 _⟩

theorem sumopens_walk (v : Value) (b : List UInt8) (sealed : Bool) (w : World) (hv : IsB w (fun _ => True) v b) :
    Calls Try.prog 4 #[v, .bool sealed] w fun e w' => e = .returned (.bool true) ∧ Below w.heap.size w w' := by
  by_cases hlong : 2000 < b.length
  · exact sumopens_long v b sealed w hv hlong
  · cases sealed with
    | true =>
      have hl : (b ++ sumB b).length = b.length + 4 := by rw [List.length_append, sumB_length]
      exact sumopens_ok_sealed v b _ rfl (by omega) (sealedB_seal b) w hv (by omega)
    | false =>
      by_cases hs : b.length < 4
      · exact sumopens_cut v b _ rfl hs w hv (by omega)
      · cases hsd : sealedB b with
        | true => exact sumopens_ok v b _ rfl (by omega) hsd w hv (by omega)
        | false => exact sumopens_bad v b _ rfl (by omega) hsd w hv (by omega)
end Go.Proofs.Ythlkcdlnjlncfaa
