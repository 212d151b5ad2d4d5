/-
  The argument of KeepAtomic that tells of a cut, opened.
-/
import Derived.Test.YtdmbmkjiffhbcaaGreatKArgOpen
import Derived.Test.YtdmbmkjiffhbcaaGreatDevChoice
namespace Go.Proofs.YtdmbmkjiffhbcaaGreat
open Go.ChangeShapes Go.WideShapes Go.ChangeAt Go.RowKit
set_option maxRecDepth 100000

structure OpK where
  kind : Int
  puts : List PutM
  after : Int
  choice : Choice
def kOpK : Kind OpK := (kPair (kInt .i64) (kPair (kSlice kPut) (kPair (kInt .i64) kChoice))).of fun o => (o.kind, o.puts, o.after, o.choice)
theorem opens_opkk : Opens Tryz.prog 27 kOpK := by
  refine Opens.of (K := kPair (kInt .i64) (kPair (kSlice kPut) (kPair (kInt .i64) kChoice))) (Opens.struct Tryz.underlying27 (by kernel_rfl) ?_) (fun o : OpK => (o.kind, o.puts, o.after, o.choice)) (fun x => ⟨x.1, x.2.1, x.2.2.1, x.2.2.2⟩) (fun _ => rfl)
  exact OpenFs.cons rfl (by kernel_rfl) (Opens.int Tryz.underlying3) (OpenFs.cons rfl (by kernel_rfl) opens_putsl (OpenFs.cons rfl (by kernel_rfl) (Opens.int Tryz.underlying3) (OpenFs.one rfl (by kernel_rfl) opens_choice)))
/-- Such a value. -/
def IsOpK (w : World) (ok : Nat → Prop) (v : Value) (o : OpK) : Prop :=
  ∃ Ap np Ak nk, v = .agg #[.int .i64 o.kind, .slice Ap o.puts.length np, .int .i64 o.after, .slice Ak o.choice.kept.length nk, .int .i64 o.choice.torn, .int .i64 o.choice.half] ∧ IsL (kInt .i64) w ok (.slice Ak o.choice.kept.length nk) o.choice.kept
section
variable {H : Type} {enc : TypeId × Value → H} {w : World} {r : Reach} {b0 base : Nat} {sp : Nat → Bool} {held : Bool} {v : Value} {d : DataW H} {ps : List MemPlace}
theorem open_opk (hval : Value.okWide Tryz.prog w r b0 27 v) (hd : DataW.Trod enc Tryz.prog w base sp held 27 v d ps) : ∃ c, IsOpK w (fun _ => True) v c := by
  obtain ⟨fuel, hf⟩ := hd
  obtain ⟨cs, rfl, hsz⟩ := okWide_struct Tryz.underlying27 hval
  obtain ⟨c, hc⟩ := opens_opkk hf
  obtain ⟨a, b, hcs, ⟨ha, _⟩, p, q, hb, hp, p2, q2, hq, ⟨hp2, _⟩, hq2⟩ := hc
  obtain ⟨Ap, np, ds, hp1, _⟩ := hp
  obtain ⟨e1, e2, hq3, hk, f1, f2, he2, ⟨hf1, hw1⟩, hf2, hw2⟩ := hq2
  obtain ⟨A, n, dk, hk1, hrest⟩ := hk
  refine ⟨c, Ap, np, A, n, ?_, ⟨A, n, dk, rfl, hrest⟩⟩
  have ha' : a = [.int .i64 c.kind] := ha
  have hp1' : p = [.slice Ap c.puts.length np] := hp1
  have hp2' : p2 = [.int .i64 c.after] := hp2
  have hk1' : e1 = [.slice A c.choice.kept.length n] := hk1
  have hf1' : f1 = [.int .i64 c.choice.torn] := hf1
  have hf2' : f2 = [.int .i64 c.choice.half] := hf2
  have : cs.toList = [.int .i64 c.kind, .slice Ap c.puts.length np, .int .i64 c.after, .slice A c.choice.kept.length n, .int .i64 c.choice.torn, .int .i64 c.choice.half] := by
    have h0 : cs.toList = a ++ b := hcs
    rw [h0, hb, hq, hq3, he2, ha', hp1', hp2', hk1', hf1', hf2']
    rfl
  rw [show cs = cs.toList.toArray by simp, this]
end
end Go.Proofs.YtdmbmkjiffhbcaaGreat
