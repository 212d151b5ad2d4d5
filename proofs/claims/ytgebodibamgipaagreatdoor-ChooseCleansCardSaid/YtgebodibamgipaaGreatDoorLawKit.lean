/-
  From a law's walk to its given statement: what a walk leaves ('it answers true, and memory has only grown') is the row's post; the arguments opened to bytes, lists of bytes, texts, numbers.
-/
import Derived.Test.YtgebodibamgipaaGreatDoorRows
import Derived.Test.YtgebodibamgipaaGreatDoorWordsB
import Derived.ProofKit
import Derived.OpenShut
import Derived.JoinedCond
import Derived.Deep.Slices
namespace Go.Proofs.YtgebodibamgipaaGreatDoor
open Go.ChangeShapes Go.WideShapes Go.ChangeAt Go.RowKit
open Go.ChangeMaps (open_string shut_string)

theorem Tryz.own : ownKnob Tryz.prog.godebug = none := by kernel_rfl
theorem Tryz.laidOut : laidOutB Tryz.prog = true := by kernel_rfl

section
variable {H : Type} {enc : TypeId × Value → H} {P : Program}

theorem trodAll_below (hl : laidOutB P = true) {W W' : World} (hb : Below W.heap.size W W') :
    ∀ {ts : List TypeId} {vs : List Value} {ds : List (DataW H)} {p : List MemPlace}, (∀ t ∈ ts, P.readableRec t = true ∧ t < P.types.size) → DataW.TrodAll enc P W 0 (fun _ => true) true ts vs ds p → (∀ x ∈ p, x.block < W.heap.size) →
      DataW.TrodAll enc P W' 0 (fun b => decide (b < W.heap.size)) true ts vs ds p
  | [], _, _, _, _, h, _ => by
    obtain ⟨rfl, rfl, rfl⟩ := trodAll_nil h
    exact trodAll_mk0
  | t :: ts, _, _, _, ht, h, hp => by
    obtain ⟨v, vs1, d, ds1, a, b, rfl, rfl, rfl, h1, h2⟩ := trodAll_cons h
    have h3 := Below.trod hl (ht t (by simp)).1 (ht t (by simp)).2 h1 hb (fun x hx => hp x (List.mem_append.2 (.inl hx)))
    exact trodAll_cons_mk h3 (trodAll_below hl hb (fun u hu => ht u (by simp [hu])) h2 (fun x hx => hp x (List.mem_append.2 (.inr hx))))

/-- What a law's walk leaves is the row's post. -/
theorem post_law {f : Func} {s : ChangeSpec} {W W' : World} {args : Array Value} {ds gs : List (DataW H)} {before : List MemPlace} {bt : TypeId}
    (hW : DataW.Whole enc P f.params.toList s.vars false W args.toList ds gs before) (hs : s.vars = []) (hfn : s.fn H (ds ++ gs) = { results := [.lit (.bool true)], args := ds })
    (hrt : f.resultTypes = #[bt]) (hbt : P.underlying bt = some .bool) (hl : laidOutB P = true) (ht : (f.params.toList.all fun t => P.readableRec t && decide (t < P.types.size)) = true) (hb : Below W.heap.size W W') :
    s.post enc P f false true false false W args (.bool true) W' := by
  have hlt : ∀ x ∈ before, x.block < W.heap.size := fun x hx => hW.lt x hx
  have hW' := hW
  obtain ⟨p, q, hA, hV, hpq, _, _⟩ := hW
  rw [hs] at hV
  obtain ⟨hgs, hq⟩ := trodVars_none hV
  subst hq
  rw [List.append_nil] at hpq
  subst hpq
  refine ⟨ds, gs, before, [], before, [], hW', ?_, ?_, ?_, ?_, fun h => by cases h⟩
  · rw [hfn, hrt]
    exact trodAll_cons_mk (shut_bool hbt _) trodAll_mk0
  · rw [hfn]
    exact trodAll_below hl hb (fun t h => by simpa using List.all_eq_true.1 ht t h) hA hlt
  · rw [hfn, hs]
    rfl
  · exact World.keptBut_mono (fun x hx => ⟨hx, .inr (.inl hx)⟩) (hb.frame (· ∈ before))

variable {w : World} {base b0 : Nat} {sp : Nat → Bool} {held : Bool} {r : Reach}
theorem zs_bytes (zs : List Int) (hw : ∀ n ∈ zs, (Lit.int .u8 n).wf = true) : zs.map (Value.int .u8) = (zs.map (fun n => UInt8.ofNat n.toNat)).map u8 := by
  rw [List.map_map]
  apply List.map_congr_left
  intro n hn
  have := hw n hn
  simp [Lit.wf, IntKind.min, IntKind.max, IntKind.signed, IntKind.bits] at this
  simp only [Function.comp_apply, u8]
  congr 1
  rw [UInt8.toNat_ofNat']
  omega

/-- A slice of bytes among the arguments. -/
theorem trod_bytes {t e : TypeId} {fuel : Nat} {v : Value} {x : DataW H × List MemPlace} (ht : P.underlying t = some (.slice e)) (he : P.underlying e = some (.int .u8)) (hc : P.cellsOf e = 1)
    (hv : ∃ a len cap, v = .slice a len cap) (h : DataW.trod enc P w base sp held fuel t [v] = some x) : ∃ l, IsB w (fun _ => True) v l := by
  rcases open_ints ht he hc h with ⟨hcs, _⟩ | ⟨a, len, cap, zs, hcs, _, hl, hm, hz, _, hcell, hw⟩
  · obtain rfl : v = .slice none 0 0 := by simpa using hcs
    exact ⟨[], none, 0, rfl, Nat.le_refl _, Nat.zero_le _, Rd.nil⟩
  · obtain rfl : v = .slice (some a) len cap := by simpa using hcs
    have hlz : len ≤ zs.length := by rw [hz]; split <;> omega
    refine ⟨(zs.take len).map (fun n => UInt8.ofNat n.toNat), some a, cap, ?_, ?_, hm, ?_⟩
    · rw [List.length_map, List.length_take, Nat.min_eq_left hlz]
    · rw [List.length_map, List.length_take, Nat.min_eq_left hlz]; exact hl
    · rw [← zs_bytes _ (fun n hn => hw n (List.mem_of_mem_take hn))]
      intro _
      refine ⟨a, rfl, trivial, fun j u hu => ?_⟩
      rw [List.getElem?_map, List.getElem?_take] at hu
      split at hu
      · have hj : j < zs.length := by omega
        rw [hcell j hj]
        rw [List.getElem?_eq_getElem hj] at hu
        simp only [Option.map_some, Option.some.injEq] at hu
        rw [← hu]
        simp [List.getD, hj]
      · simp at hu
theorem open_bytes {t e : TypeId} {v : Value} {d : DataW H} {ps : List MemPlace} (ht : P.underlying t = some (.slice e)) (he : P.underlying e = some (.int .u8)) (hc : P.cellsOf e = 1)
    (hval : Value.okWide P w r b0 t v) (hd : DataW.Trod enc P w base sp held t v d ps) : ∃ l, IsB w (fun _ => True) v l := by
  obtain ⟨fuel, hf⟩ := hd
  obtain ⟨a, len, cap, rfl⟩ := okWide_slice ht hval
  exact trod_bytes ht he hc ⟨_, _, _, rfl⟩ hf

/-- A slice of slices of bytes. -/
theorem open_bytess {tt t e : TypeId} {v : Value} {d : DataW H} {ps : List MemPlace} (htt : P.underlying tt = some (.slice t)) (ht : P.underlying t = some (.slice e)) (he : P.underlying e = some (.int .u8)) (hc : P.cellsOf e = 1) (hct : P.cellsOf t = 1)
    (hval : Value.okWide P w r b0 tt v) (hd : DataW.Trod enc P w base sp held tt v d ps) : ∃ L, IsBB w (fun _ => True) v L := by
  obtain ⟨fuel, hf⟩ := hd
  obtain ⟨a0, len0, cap0, rfl⟩ := okWide_slice htt hval
  rcases Go.Deep.open_slice htt hf with ⟨hcs, _⟩ | ⟨a, len, cap, m, n, D, Pl, hcs, _, hl, hm, hmm, _, hi⟩
  · have : Value.slice a0 len0 cap0 = .slice none 0 0 := by simpa [Value.cells] using hcs
    rw [this]
    exact ⟨[], none, 0, [], rfl, rfl, Nat.le_refl _, Nat.zero_le _, Rd.nil, fun i hi => by simp at hi⟩
  · have : Value.slice a0 len0 cap0 = .slice (some a) len cap := by simpa [Value.cells] using hcs
    rw [this]
    have hlm : len ≤ m := by rw [hmm]; split <;> omega
    have key : ∀ i, i < len → ∃ u l, w.cell? (a.add i) = some u ∧ IsB w (fun _ => True) u l := by
      intro i hil
      obtain ⟨cs', hc', ht'⟩ := hi i (by omega)
      rw [hct, Nat.mul_one] at hc'
      obtain ⟨_, hcl, hat⟩ := World.cells?_some hc'
      have h0 := hat 0 (by omega)
      rw [add_zero'] at h0
      match cs', hcl with
      | [u], _ =>
        have hu : w.cell? (a.add i) = some u := by simpa using h0
        have hus : ∃ x y z, u = .slice x y z := by
          rcases open_ints ht he hc ht' with ⟨hcs, _⟩ | ⟨a, len, cap, zs, hcs, _⟩
          · exact ⟨none, 0, 0, by simpa using hcs⟩
          · exact ⟨some a, len, cap, by simpa using hcs⟩
        obtain ⟨l, hl⟩ := trod_bytes ht he hc hus ht'
        exact ⟨u, l, hu, hl⟩
    have hex : ∀ k, k ≤ len → ∃ (vs : List Value) (L : List (List UInt8)), vs.length = k ∧ L.length = k ∧ (∀ i (h : i < vs.length), w.cell? (a.add i) = some vs[i]) ∧ ∀ (i : Nat) (h : i < L.length) (h' : i < vs.length), IsB w (fun _ => True) vs[i] L[i] := by
      intro k
      induction k with
      | zero => intro _; exact ⟨[], [], rfl, rfl, fun i h => by simp at h, fun i h => by simp at h⟩
      | succ k ih =>
        intro hk
        obtain ⟨vs, L, h1, h2, h3, h4⟩ := ih (by omega)
        obtain ⟨u, l, hu, hul⟩ := key k (by omega)
        refine ⟨vs ++ [u], L ++ [l], by simp [h1], by simp [h2], fun i h => ?_, fun i h h' => ?_⟩
        · rw [List.length_append, List.length_singleton] at h
          by_cases hik : i < vs.length
          · rw [List.getElem_append_left hik]; exact h3 i hik
          · obtain rfl : i = vs.length := by omega
            simp only [List.getElem_append_right (Nat.le_refl _), Nat.sub_self, List.getElem_cons_zero]
            rw [h1]; exact hu
        · rw [List.length_append, List.length_singleton] at h
          by_cases hik : i < L.length
          · rw [List.getElem_append_left hik, List.getElem_append_left (by omega)]; exact h4 i hik (by omega)
          · obtain rfl : i = L.length := by omega
            rw [List.getElem_append_right (Nat.le_refl _), List.getElem_append_right (by omega)]
            simpa [h1, h2] using hul
    obtain ⟨vs, L, h1, h2, h3, h4⟩ := hex len (Nat.le_refl _)
    refine ⟨L, some a, cap, vs, by rw [h2], by omega, by omega, hm, fun _ => ⟨a, rfl, trivial, fun j u hu => ?_⟩, h4⟩
    obtain ⟨hj, rfl⟩ := List.getElem?_eq_some_iff.1 hu
    exact h3 j hj
end
end Go.Proofs.YtgebodibamgipaaGreatDoor
