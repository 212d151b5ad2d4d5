/-
  version.sized, Patch, Cut; the document's zeros, Patch, Cut.
-/
import Derived.Test.YtnehoabeameioaaVeKit
import Derived.BigQuiet
import Derived.Deep.Cut
import Derived.Deep.DeepCutAuto
import Derived.Deep.DeepMust
namespace Go.Proofs.Ytnehoabeameioaa
open Go.RowKit
set_option maxRecDepth 100000

/-- The first n bytes, and zeros where there are fewer. -/
def sizedB (d : List UInt8) (n : Nat) : List UInt8 := d.take n ++ List.replicate (n - d.length) 0
theorem sizedB_length (d : List UInt8) (n : Nat) : (sizedB d n).length = n := by unfold sizedB; rw [List.length_append, List.length_take, List.length_replicate]; omega
def putB (d : List UInt8) (off : Nat) (s : List UInt8) : List UInt8 := splice (sizedB d (max d.length (off + s.length))) off s
theorem putB_length (d : List UInt8) (off : Nat) (s : List UInt8) : (putB d off s).length = max d.length (off + s.length) := by
  unfold putB
  rw [length_splice _ _ _ (by rw [sizedB_length]; omega), sizedB_length]
def patchV (d : List UInt8) (off : Int) (s : List UInt8) : List UInt8 × Int := if off < 0 ∨ 200 < d.length ∨ 200 < off + s.length then ([], 4) else (putB d off.toNat s, 0)
def cutV (d : List UInt8) (n : Int) : List UInt8 × Int := if n < 0 ∨ 200 < n then ([], 4) else (sizedB d n.toNat, 0)

theorem sized_any (d : List UInt8) (n : Nat) (hn : n ≤ 1000) (w : World) :
    Calls Try.prog 28 #[str d, .int .i64 (n : Int)] w fun e w' => e = .returned (.slice (some ⟨w.heap.size, 0, none⟩) n n) ∧ Blk w' w.heap.size 5 ((sizedB d n).map u8).toArray ∧ Below w.heap.size w w' := by
  have hmk := fun u => run_bytesN n (by omega) u
  obtain ⟨Z, hZ⟩ : ∃ Z : Array Value, Z = Array.replicate n (.int .u8 0) := ⟨_, rfl⟩
  rw [← hZ] at hmk
  have hba : Below w.heap.size w (w.alloc (.cells Z 5)) := (Below.refl _ _).alloc (Nat.le_refl _) _
  have hblk0 : Blk (w.alloc (.cells Z 5)) w.heap.size 5 ((List.replicate n (0 : UInt8)).map u8).toArray := by
    have := Blk.new w 5 Z
    rw [hZ] at this ⊢
    have e := zeros_u8 0 n
    rw [List.replicate_zero, List.nil_append] at e
    rw [e]
    exact this
  have hfit : 0 + (d.take n).length ≤ ((List.replicate n (0 : UInt8)).map u8).length := by rw [List.length_map, List.length_replicate, List.length_take]; omega
  have hspl : splice ((List.replicate n (0 : UInt8)).map u8) 0 ((d.take n).map u8) = (sizedB d n).map u8 := by
    unfold splice sizedB
    rw [List.take_zero, List.nil_append, List.map_append, List.length_map, Nat.zero_add, ← List.map_drop, List.drop_replicate, List.length_take]
    congr 3
    omega
  have Hba := Lib.hid hba
  have Hblk := Lib.hid hblk0
  have Hfit := Lib.hid hfit
  have Hspl := Lib.hid hspl
  clear hZ hba hblk0 hfit hspl
  go_enter Try.func28, Try.ntmps28
  go_wp2_with (with_reducible refine wpList_copy_str rfl (.tmp 8) (.tmp 9) 58 9 rfl 5 Try.underlying58 size_u8 w.heap.size 0 n n d rfl rfl _ 5 Hblk.out Hfit.out ?_; intro w5 hblk5 hfr5)
  go_ret
  exact ⟨rfl, (show Blk w5 w.heap.size 5 ((sizedB d n).map u8).toArray by rw [← Hspl.out]; exact hblk5), Hba.out.trans (hfr5.below (fun k (hk : k = w.heap.size) => by omega) Hba.out.size)⟩

theorem conv_blk {w : World} {g : Nat} {l : List UInt8} {c : Nat} (h : Blk w g 5 (l.map u8).toArray) : (convert 58 9 (.slice (some ⟨g, 0, none⟩) l.length c)).run Try.prog w = .ok (str l) w :=
  run_bytes_str 58 9 5 Try.underlying58 Try.underlying5 Try.underlying9 (by have := h.rd (fun _ => True) trivial; simpa using this)

theorem cut_any (d : List UInt8) (n : Int) (w : World) :
    Calls Try.prog 11 #[str d, .int .i64 n] w fun e w' => e = .returned (.tuple #[str (cutV d n).1, .int .i64 (cutV d n).2]) ∧ Below w.heap.size w w' := by
  obtain ⟨R, hR⟩ : ∃ R, R = cutV d n := ⟨_, rfl⟩
  rw [← hR]
  by_cases h0 : n < 0
  · have hR2 : R = ([], 4) := by rw [hR]; unfold cutV; rw [if_pos (.inl h0)]
    subst hR2
    clear hR
    go_enter Try.func11, Try.ntmps11
    go_wp2_with fail
    go_ret2
    exact ⟨rfl, Below.refl _ _⟩
  · by_cases h1 : 200 < n
    · have hR2 : R = ([], 4) := by rw [hR]; unfold cutV; rw [if_pos (.inr h1)]
      subst hR2
      clear hR
      go_enter Try.func11, Try.ntmps11
      go_wp2_with fail
      go_ret2
      exact ⟨rfl, Below.refl _ _⟩
    · obtain ⟨m, rfl⟩ : ∃ m : Nat, n = (m : Int) := ⟨n.toNat, by omega⟩
      have hm : m ≤ 200 := by omega
      have hR2 : R = (sizedB d m, 0) := by rw [hR]; unfold cutV; rw [if_neg (by omega), Int.toNat_natCast]
      have Hs := Lib.hid fun z => sized_any d m (by omega) z
      have hlen := sizedB_length d m
      have HR := Lib.hid hR2
      have Hlen := Lib.hid hlen
      clear hR hR2 hlen
      go_enter Try.func11, Try.ntmps11
      go_upto_region 3 with fail
      go_wp2_with (go_at_call 28; go_must (refine (Hs.out _).mono ?_; rintro e1 w1 ⟨rfl, hb1, hbel1⟩; have hcv := conv_blk (c := m) hb1; rw [Hlen.out] at hcv))
      go_ret2
      rw [HR.out]
      exact ⟨rfl, hbel1⟩

theorem patch_any (d : List UInt8) (off : Int) (s : List UInt8) (w : World) (hs : s.length ≤ 1000) (hd : d.length ≤ 1000) (ho : off ≤ 9223372036854775807) :
    Calls Try.prog 9 #[str d, .int .i64 off, str s] w fun e w' => e = .returned (.tuple #[str (patchV d off s).1, .int .i64 (patchV d off s).2]) ∧ Below w.heap.size w w' := by
  obtain ⟨R, hR⟩ : ∃ R, R = patchV d off s := ⟨_, rfl⟩
  rw [← hR]
  by_cases h0 : off < 0
  · have hR2 : R = ([], 4) := by rw [hR]; unfold patchV; rw [if_pos (.inl h0)]
    subst hR2
    clear hR
    go_enter Try.func9, Try.ntmps9
    go_wp2_with fail
    go_ret2
    exact ⟨rfl, Below.refl _ _⟩
  · by_cases h1 : 200 < d.length
    · have hR2 : R = ([], 4) := by rw [hR]; unfold patchV; rw [if_pos (.inr (.inl h1))]
      subst hR2
      clear hR
      go_enter Try.func9, Try.ntmps9
      go_wp2_with fail
      go_ret2
      exact ⟨rfl, Below.refl _ _⟩
    · by_cases h2 : 200 < off + s.length
      · have hR2 : R = ([], 4) := by rw [hR]; unfold patchV; rw [if_pos (.inr (.inr h2))]
        have hgt : (200 - off < (s.length : Int)) := by omega
        subst hR2
        clear hR
        go_enter Try.func9, Try.ntmps9
        go_wp2_with fail
        go_ret2
        exact ⟨rfl, Below.refl _ _⟩
      · obtain ⟨m, rfl⟩ : ∃ m : Nat, off = (m : Int) := ⟨off.toNat, by omega⟩
        have hms : m + s.length ≤ 200 := by omega
        have hR2 : R = (putB d m s, 0) := by rw [hR]; unfold patchV; rw [if_neg (by omega), Int.toNat_natCast]
        obtain ⟨N, hN⟩ : ∃ N, N = max d.length (m + s.length) := ⟨_, rfl⟩
        have hNi : max (d.length : Int) ((m : Int) + (s.length : Int)) = (N : Int) := by omega
        have Hs := Lib.hid fun z => sized_any d N (by omega) z
        have hlen := putB_length d m s
        rw [← hN] at hlen
        have hfit : m + (s.take (N - m)).length ≤ ((sizedB d N).map u8).length := by rw [List.length_map, sizedB_length, List.length_take]; omega
        have hspl : splice ((sizedB d N).map u8) m ((s.take (N - m)).map u8) = (putB d m s).map u8 := by
          rw [List.take_of_length_le (by omega)]
          unfold putB splice
          rw [← hN, List.map_append, List.map_append, List.map_take, List.map_drop, List.length_map]
        have hmN : m ≤ N := by omega
        have hNm : ¬ (N : Int) < (m : Int) := by omega
        have HR := Lib.hid hR2
        have Hlen := Lib.hid hlen
        have Hfit := Lib.hid hfit
        have Hspl := Lib.hid hspl
        clear hR hR2 hlen hfit hspl hN h2
        go_enter Try.func9, Try.ntmps9
        go_upto_region 5 with (go_at_call 28; go_must (refine (Hs.out _).mono ?_; rintro e1 w1 ⟨rfl, hb1, hbel1⟩))
        by_cases hmN2 : m = N
        · subst hmN2
          have hs0 : s.length = 0 := by omega
          obtain rfl : s = [] := List.eq_nil_of_length_eq_zero hs0
          have hspl0 : (putB d m []) = sizedB d m := by
            have := Hspl.out
            rw [List.take_nil, List.map_nil] at this
            unfold splice at this
            rw [List.nil_append, List.length_nil, Nat.add_zero, List.take_append_drop] at this
            have hinj : Function.Injective u8 := fun a b h => by
              unfold u8 at h
              injection h with _ h
              exact UInt8.toNat_inj.1 (by omega)
            exact (List.map_inj_right (fun a b h => hinj h)).1 this.symm
          have hsp0 : splice ((sizedB d m).map u8) 0 ((([] : List UInt8).take 0).map u8) = (putB d m []).map u8 := by
            rw [List.take_nil, List.map_nil]
            unfold splice
            rw [List.take_zero, List.nil_append, List.nil_append, List.length_nil, Nat.add_zero, List.drop_zero, hspl0]
          have Hsp0 := Lib.hid hsp0
          have Hb1 := Lib.hid hb1
          clear hb1 hspl0 hsp0
          go_wp2_with (with_reducible refine wpList_copy_str rfl (.tmp 36) (.tmp 37) 58 9 rfl 5 Try.underlying58 size_u8 w.heap.size 0 0 0 [] rfl rfl _ 5 Hb1.out (by simp) ?_; intro w5 hblk5 hfr5; rw [Hsp0.out] at hblk5; have hcv := conv_blk (c := m) hblk5; rw [Hlen.out] at hcv)
          go_ret2
          rw [HR.out]
          exact ⟨rfl, hbel1.trans (hfr5.below (fun k (hk : k = w.heap.size) => by omega) hbel1.size)⟩
        · have hmlt : ¬ N = m := by omega
          have Hb1 := Lib.hid hb1
          clear hb1
          go_wp2_with (with_reducible refine wpList_copy_str rfl (.tmp 36) (.tmp 37) 58 9 rfl 5 Try.underlying58 size_u8 w.heap.size m (N - m) (N - m) s rfl rfl _ 5 Hb1.out Hfit.out ?_; intro w5 hblk5 hfr5; rw [Hspl.out] at hblk5; have hcv := conv_blk (c := N) hblk5; rw [Hlen.out] at hcv)
          go_ret2
          rw [HR.out]
          exact ⟨rfl, hbel1.trans (hfr5.below (fun k (hk : k = w.heap.size) => by omega) hbel1.size)⟩
end Go.Proofs.Ytnehoabeameioaa
