/-
  No cell of these rows narrows 'for every input' (looked for: loops, veiled, ifaces, maps, wideKeys, modest, calm, conditions, laid).
  DERIVED. THE GIVEN ROWS OF THIS SEAT. 7 by the template 'for every input the law returns true; each argument reads behind the call as it read before'; 0 by the template 'total and deterministic' (their statements: YthlkcdlnjlncfaaTotals.lean).
  GIVEN WITH THE SEED: the statements are not yours to turn. If you find one false, say at which input.
  Laid BY PROGRAM, IN A SANDBOX (cutbox-rows.mjs): the forced cells as the released guide's own fill.sh prints them over the translation 16fe15c609f034c8… (all of the seat's roots in one cut). By AI agents, Wed Nov 11 2026. No macro, syntax, notation, axiom, sorry.
-/
import Derived.Test.YthlkcdlnjlncfaaChecked
import GoSem.Claim
import GoSem.ClaimJoined
import GoSem.ClaimMapViews
import Derived.JoinedTies
import Derived.KernelRfl
namespace Go.Proofs.Ythlkcdlnjlncfaa
/- THE CELL 'sum', in the pinned program and in every row, IS THE sha256 OF THE DUMP (.gsa) THAT YthlkcdlnjlncfaaProg.lean LOADS. Nothing in Lean hashes anything: it is a label: what it is worth is what the hold of that sum in a sandbox is worth. -/
noncomputable def Try.pinned : Pinned := { name := "ythlkcdlnjlncfaa", sum := "16fe15c609f034c874871a5a63bf7e294247adbc0c51ac3eb038c5a99a6a023f", checked := Try.checked }
namespace Rows
def none {H : Type} : Left H := { results := [], args := [] }

/-- 'wardshiplaw02.SumSums': WHATEVER THE INPUT: true; the input reads as it did. -/
def sumSumsSpec : ChangeSpec := { name := "sumSums", fn := fun _ => fun
  | [d] => { results := [.lit (.bool true)], args := [d] }
  | _ => none }
def sumSumsRow : OpenClaim := { program := "ythlkcdlnjlncfaa", sum := "16fe15c609f034c874871a5a63bf7e294247adbc0c51ac3eb038c5a99a6a023f", func := "wardship/wardshiplaw02.SumSums", spec := "sumSums", apart := false }
def SumSumsSaid : Prop := sumSumsRow.holds Try.pinned (OpenSpec.ofChange sumSumsSpec)

/-- ITS FALSE NEIGHBOUR: 'it returns false'. Refute it at one input. -/
def sumSumsWrong : ChangeSpec := { name := "sumSums", fn := fun _ => fun
  | [d] => { results := [.lit (.bool false)], args := [d] }
  | _ => none }
def SumSumsWrongFalsely : Prop := sumSumsRow.holds Try.pinned (OpenSpec.ofChange sumSumsWrong)

/-- 'wardshiplaw02.SumOpens': WHATEVER THE INPUT: true; the input reads as it did. -/
def sumOpensSpec : ChangeSpec := { name := "sumOpens", fn := fun _ => fun
  | [d1, d2] => { results := [.lit (.bool true)], args := [d1, d2] }
  | _ => none }
def sumOpensRow : OpenClaim := { program := "ythlkcdlnjlncfaa", sum := "16fe15c609f034c874871a5a63bf7e294247adbc0c51ac3eb038c5a99a6a023f", func := "wardship/wardshiplaw02.SumOpens", spec := "sumOpens", apart := false }
def SumOpensSaid : Prop := sumOpensRow.holds Try.pinned (OpenSpec.ofChange sumOpensSpec)

/-- ITS FALSE NEIGHBOUR: 'it returns false'. Refute it at one input. -/
def sumOpensWrong : ChangeSpec := { name := "sumOpens", fn := fun _ => fun
  | [d1, d2] => { results := [.lit (.bool false)], args := [d1, d2] }
  | _ => none }
def SumOpensWrongFalsely : Prop := sumOpensRow.holds Try.pinned (OpenSpec.ofChange sumOpensWrong)

/-- 'wardshiplaw02.SumByte': WHATEVER THE INPUT: true; the input reads as it did. -/
def sumByteSpec : ChangeSpec := { name := "sumByte", fn := fun _ => fun
  | [d1, d2, d3] => { results := [.lit (.bool true)], args := [d1, d2, d3] }
  | _ => none }
def sumByteRow : OpenClaim := { program := "ythlkcdlnjlncfaa", sum := "16fe15c609f034c874871a5a63bf7e294247adbc0c51ac3eb038c5a99a6a023f", func := "wardship/wardshiplaw02.SumByte", spec := "sumByte", apart := false }
def SumByteSaid : Prop := sumByteRow.holds Try.pinned (OpenSpec.ofChange sumByteSpec)

/-- ITS FALSE NEIGHBOUR: 'it returns false'. Refute it at one input. -/
def sumByteWrong : ChangeSpec := { name := "sumByte", fn := fun _ => fun
  | [d1, d2, d3] => { results := [.lit (.bool false)], args := [d1, d2, d3] }
  | _ => none }
def SumByteWrongFalsely : Prop := sumByteRow.holds Try.pinned (OpenSpec.ofChange sumByteWrong)

/-- 'wardshiplaw02.SumSwap': WHATEVER THE INPUT: true; the input reads as it did. -/
def sumSwapSpec : ChangeSpec := { name := "sumSwap", fn := fun _ => fun
  | [d1, d2] => { results := [.lit (.bool true)], args := [d1, d2] }
  | _ => none }
def sumSwapRow : OpenClaim := { program := "ythlkcdlnjlncfaa", sum := "16fe15c609f034c874871a5a63bf7e294247adbc0c51ac3eb038c5a99a6a023f", func := "wardship/wardshiplaw02.SumSwap", spec := "sumSwap", apart := false }
def SumSwapSaid : Prop := sumSwapRow.holds Try.pinned (OpenSpec.ofChange sumSwapSpec)

/-- ITS FALSE NEIGHBOUR: 'it returns false'. Refute it at one input. -/
def sumSwapWrong : ChangeSpec := { name := "sumSwap", fn := fun _ => fun
  | [d1, d2] => { results := [.lit (.bool false)], args := [d1, d2] }
  | _ => none }
def SumSwapWrongFalsely : Prop := sumSwapRow.holds Try.pinned (OpenSpec.ofChange sumSwapWrong)

/-- 'wardshiplaw02.SumRolls': WHATEVER THE INPUT: true; the input reads as it did. -/
def sumRollsSpec : ChangeSpec := { name := "sumRolls", fn := fun _ => fun
  | [d1, d2, d3] => { results := [.lit (.bool true)], args := [d1, d2, d3] }
  | _ => none }
def sumRollsRow : OpenClaim := { program := "ythlkcdlnjlncfaa", sum := "16fe15c609f034c874871a5a63bf7e294247adbc0c51ac3eb038c5a99a6a023f", func := "wardship/wardshiplaw02.SumRolls", spec := "sumRolls", apart := false }
def SumRollsSaid : Prop := sumRollsRow.holds Try.pinned (OpenSpec.ofChange sumRollsSpec)

/-- ITS FALSE NEIGHBOUR: 'it returns false'. Refute it at one input. -/
def sumRollsWrong : ChangeSpec := { name := "sumRolls", fn := fun _ => fun
  | [d1, d2, d3] => { results := [.lit (.bool false)], args := [d1, d2, d3] }
  | _ => none }
def SumRollsWrongFalsely : Prop := sumRollsRow.holds Try.pinned (OpenSpec.ofChange sumRollsWrong)

/-- 'wardshiplaw02.SumWindow': WHATEVER THE INPUT: true; the input reads as it did. -/
def sumWindowSpec : ChangeSpec := { name := "sumWindow", fn := fun _ => fun
  | [d1, d2] => { results := [.lit (.bool true)], args := [d1, d2] }
  | _ => none }
def sumWindowRow : OpenClaim := { program := "ythlkcdlnjlncfaa", sum := "16fe15c609f034c874871a5a63bf7e294247adbc0c51ac3eb038c5a99a6a023f", func := "wardship/wardshiplaw02.SumWindow", spec := "sumWindow", apart := false }
def SumWindowSaid : Prop := sumWindowRow.holds Try.pinned (OpenSpec.ofChange sumWindowSpec)

/-- ITS FALSE NEIGHBOUR: 'it returns false'. Refute it at one input. -/
def sumWindowWrong : ChangeSpec := { name := "sumWindow", fn := fun _ => fun
  | [d1, d2] => { results := [.lit (.bool false)], args := [d1, d2] }
  | _ => none }
def SumWindowWrongFalsely : Prop := sumWindowRow.holds Try.pinned (OpenSpec.ofChange sumWindowWrong)

/-- 'wardshiplaw02.SumTwice': WHATEVER THE INPUT: true; the input reads as it did. -/
def sumTwiceSpec : ChangeSpec := { name := "sumTwice", fn := fun _ => fun
  | [d] => { results := [.lit (.bool true)], args := [d] }
  | _ => none }
def sumTwiceRow : OpenClaim := { program := "ythlkcdlnjlncfaa", sum := "16fe15c609f034c874871a5a63bf7e294247adbc0c51ac3eb038c5a99a6a023f", func := "wardship/wardshiplaw02.SumTwice", spec := "sumTwice", apart := false }
def SumTwiceSaid : Prop := sumTwiceRow.holds Try.pinned (OpenSpec.ofChange sumTwiceSpec)

/-- ITS FALSE NEIGHBOUR: 'it returns false'. Refute it at one input. -/
def sumTwiceWrong : ChangeSpec := { name := "sumTwice", fn := fun _ => fun
  | [d] => { results := [.lit (.bool false)], args := [d] }
  | _ => none }
def SumTwiceWrongFalsely : Prop := sumTwiceRow.holds Try.pinned (OpenSpec.ofChange sumTwiceWrong)

/- THE SECOND FORM. 'bulk': how many values and letters a reading holds, each counted each time it is reached (what is shared counts as often as it is met; a slice's spare places count too). A statement '..UptoSaid' is the law's where the arguments, and the package variables that the reading takes, are together of bulk at most 1048576: NARROWER than '..Said'. Prove '..Said' where nothing that the law and all that it calls make is longer than what came in: it says more and counts as full. Else prove '..UptoSaid'. A law counts once. -/
mutual
def uptoBulk {H : Type} : DataW H → Nat
  | .lit (.string bytes) => bytes.length + 1
  | .lit _ => 1
  | .nil => 1
  | .ptr d => uptoBulk d + 1
  | .slice elems spare => uptoBulkAll elems + uptoBulkAll spare + 1
  | .agg parts => uptoBulkAll parts + 1
  | .iface _ d => uptoBulk d + 1
  | .map entries => uptoBulkEntries entries + 1
  | .held _ => 1
def uptoBulkAll {H : Type} : List (DataW H) → Nat
  | [] => 0
  | d :: r => uptoBulk d + uptoBulkAll r
def uptoBulkEntries {H : Type} : List (Lit × DataW H) → Nat
  | [] => 0
  | x :: r => uptoBulkEntry x + uptoBulkEntries r
def uptoBulkEntry {H : Type} : Lit × DataW H → Nat
  | (.string bytes, d) => bytes.length + uptoBulk d + 1
  | (_, d) => uptoBulk d + 1
 end
def uptoSmall : (H : Type) → List (DataW H) → Bool := fun _ ds => decide (uptoBulkAll ds ≤ 1048576)
def OpenSpec.upto (s : _root_.Go.ChangeSpec) : _root_.Go.OpenSpec := { _root_.Go.OpenSpec.ofChange s with cond := some uptoSmall }

/-- 'wardshiplaw02.SumSums', WHERE WHAT IT READS IS OF BULK AT MOST 1048576: true; the input reads as it did. -/
def sumSumsUptoRow : OpenClaim := { program := "ythlkcdlnjlncfaa", sum := "16fe15c609f034c874871a5a63bf7e294247adbc0c51ac3eb038c5a99a6a023f", func := "wardship/wardshiplaw02.SumSums", spec := "sumSums", apart := false, narrowed := true }
def SumSumsUptoSaid : Prop := sumSumsUptoRow.holds Try.pinned (OpenSpec.upto sumSumsSpec)

/-- 'wardshiplaw02.SumOpens', WHERE WHAT IT READS IS OF BULK AT MOST 1048576: true; the input reads as it did. -/
def sumOpensUptoRow : OpenClaim := { program := "ythlkcdlnjlncfaa", sum := "16fe15c609f034c874871a5a63bf7e294247adbc0c51ac3eb038c5a99a6a023f", func := "wardship/wardshiplaw02.SumOpens", spec := "sumOpens", apart := false, narrowed := true }
def SumOpensUptoSaid : Prop := sumOpensUptoRow.holds Try.pinned (OpenSpec.upto sumOpensSpec)

/-- 'wardshiplaw02.SumByte', WHERE WHAT IT READS IS OF BULK AT MOST 1048576: true; the input reads as it did. -/
def sumByteUptoRow : OpenClaim := { program := "ythlkcdlnjlncfaa", sum := "16fe15c609f034c874871a5a63bf7e294247adbc0c51ac3eb038c5a99a6a023f", func := "wardship/wardshiplaw02.SumByte", spec := "sumByte", apart := false, narrowed := true }
def SumByteUptoSaid : Prop := sumByteUptoRow.holds Try.pinned (OpenSpec.upto sumByteSpec)

/-- 'wardshiplaw02.SumSwap', WHERE WHAT IT READS IS OF BULK AT MOST 1048576: true; the input reads as it did. -/
def sumSwapUptoRow : OpenClaim := { program := "ythlkcdlnjlncfaa", sum := "16fe15c609f034c874871a5a63bf7e294247adbc0c51ac3eb038c5a99a6a023f", func := "wardship/wardshiplaw02.SumSwap", spec := "sumSwap", apart := false, narrowed := true }
def SumSwapUptoSaid : Prop := sumSwapUptoRow.holds Try.pinned (OpenSpec.upto sumSwapSpec)

/-- 'wardshiplaw02.SumRolls', WHERE WHAT IT READS IS OF BULK AT MOST 1048576: true; the input reads as it did. -/
def sumRollsUptoRow : OpenClaim := { program := "ythlkcdlnjlncfaa", sum := "16fe15c609f034c874871a5a63bf7e294247adbc0c51ac3eb038c5a99a6a023f", func := "wardship/wardshiplaw02.SumRolls", spec := "sumRolls", apart := false, narrowed := true }
def SumRollsUptoSaid : Prop := sumRollsUptoRow.holds Try.pinned (OpenSpec.upto sumRollsSpec)

/-- 'wardshiplaw02.SumWindow', WHERE WHAT IT READS IS OF BULK AT MOST 1048576: true; the input reads as it did. -/
def sumWindowUptoRow : OpenClaim := { program := "ythlkcdlnjlncfaa", sum := "16fe15c609f034c874871a5a63bf7e294247adbc0c51ac3eb038c5a99a6a023f", func := "wardship/wardshiplaw02.SumWindow", spec := "sumWindow", apart := false, narrowed := true }
def SumWindowUptoSaid : Prop := sumWindowUptoRow.holds Try.pinned (OpenSpec.upto sumWindowSpec)

/-- 'wardshiplaw02.SumTwice', WHERE WHAT IT READS IS OF BULK AT MOST 1048576: true; the input reads as it did. -/
def sumTwiceUptoRow : OpenClaim := { program := "ythlkcdlnjlncfaa", sum := "16fe15c609f034c874871a5a63bf7e294247adbc0c51ac3eb038c5a99a6a023f", func := "wardship/wardshiplaw02.SumTwice", spec := "sumTwice", apart := false, narrowed := true }
def SumTwiceUptoSaid : Prop := sumTwiceUptoRow.holds Try.pinned (OpenSpec.upto sumTwiceSpec)

end Rows
end Go.Proofs.Ythlkcdlnjlncfaa
