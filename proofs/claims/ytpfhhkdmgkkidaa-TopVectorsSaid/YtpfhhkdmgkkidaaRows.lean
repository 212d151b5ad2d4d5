/-
  No cell of these rows narrows 'for every input' (looked for: loops, veiled, ifaces, maps, wideKeys, modest, calm, conditions, laid).
  DERIVED. THE GIVEN ROWS OF THIS SEAT. 6 by the template 'for every input the law returns true; each argument reads behind the call as it read before'; 0 by the template 'total and deterministic' (their statements: YtpfhhkdmgkkidaaTotals.lean).
  GIVEN WITH THE SEED: the statements are not yours to turn. If you find one false, say at which input.
  Laid BY PROGRAM, IN A SANDBOX (cutbox-rows.mjs): the forced cells as the released guide's own fill.sh prints them over the translation f1daf333f21c24bc… (all of the seat's roots in one cut). By AI agents, Wed Nov 11 2026. No macro, syntax, notation, axiom, sorry.
-/
import Derived.Test.YtpfhhkdmgkkidaaChecked
import GoSem.Claim
import GoSem.ClaimJoined
import GoSem.ClaimMapViews
import Derived.JoinedTies
import Derived.KernelRfl
namespace Go.Proofs.Ytpfhhkdmgkkidaa
/- THE CELL 'sum', in the pinned program and in every row, IS THE sha256 OF THE DUMP (.gsa) THAT YtpfhhkdmgkkidaaProg.lean LOADS. Nothing in Lean hashes anything: it is a label: what it is worth is what the hold of that sum in a sandbox is worth. -/
noncomputable def Try.pinned : Pinned := { name := "ytpfhhkdmgkkidaa", sum := "f1daf333f21c24bc7eed213db95ce9d7dcadece3e59916ceee3e2564e3f8c1f9", checked := Try.checked }
namespace Rows
def none {H : Type} : Left H := { results := [], args := [] }

/-- 'wardshiplaw07.SpanShrinks': WHATEVER THE INPUT: true; the input reads as it did. -/
def spanShrinksSpec : ChangeSpec := { name := "spanShrinks", fn := fun _ => fun
  | [d1, d2] => { results := [.lit (.bool true)], args := [d1, d2] }
  | _ => none }
def spanShrinksRow : OpenClaim := { program := "ytpfhhkdmgkkidaa", sum := "f1daf333f21c24bc7eed213db95ce9d7dcadece3e59916ceee3e2564e3f8c1f9", func := "wardship/wardshiplaw07.SpanShrinks", spec := "spanShrinks", recurses := true, apart := false }
def SpanShrinksSaid : Prop := spanShrinksRow.holds Try.pinned (OpenSpec.ofChange spanShrinksSpec)

/-- ITS FALSE NEIGHBOUR: 'it returns false'. Refute it at one input. -/
def spanShrinksWrong : ChangeSpec := { name := "spanShrinks", fn := fun _ => fun
  | [d1, d2] => { results := [.lit (.bool false)], args := [d1, d2] }
  | _ => none }
def SpanShrinksWrongFalsely : Prop := spanShrinksRow.holds Try.pinned (OpenSpec.ofChange spanShrinksWrong)

/-- 'wardshiplaw07.SpanGrows': WHATEVER THE INPUT: true; the input reads as it did. -/
def spanGrowsSpec : ChangeSpec := { name := "spanGrows", fn := fun _ => fun
  | [d1, d2, d3] => { results := [.lit (.bool true)], args := [d1, d2, d3] }
  | _ => none }
def spanGrowsRow : OpenClaim := { program := "ytpfhhkdmgkkidaa", sum := "f1daf333f21c24bc7eed213db95ce9d7dcadece3e59916ceee3e2564e3f8c1f9", func := "wardship/wardshiplaw07.SpanGrows", spec := "spanGrows", recurses := true, apart := false }
def SpanGrowsSaid : Prop := spanGrowsRow.holds Try.pinned (OpenSpec.ofChange spanGrowsSpec)

/-- ITS FALSE NEIGHBOUR: 'it returns false'. Refute it at one input. -/
def spanGrowsWrong : ChangeSpec := { name := "spanGrows", fn := fun _ => fun
  | [d1, d2, d3] => { results := [.lit (.bool false)], args := [d1, d2, d3] }
  | _ => none }
def SpanGrowsWrongFalsely : Prop := spanGrowsRow.holds Try.pinned (OpenSpec.ofChange spanGrowsWrong)

/-- 'wardshiplaw07.SpanOrders': WHATEVER THE INPUT: true; the input reads as it did. -/
def spanOrdersSpec : ChangeSpec := { name := "spanOrders", fn := fun _ => fun
  | [d1, d2, d3] => { results := [.lit (.bool true)], args := [d1, d2, d3] }
  | _ => none }
def spanOrdersRow : OpenClaim := { program := "ytpfhhkdmgkkidaa", sum := "f1daf333f21c24bc7eed213db95ce9d7dcadece3e59916ceee3e2564e3f8c1f9", func := "wardship/wardshiplaw07.SpanOrders", spec := "spanOrders", apart := false }
def SpanOrdersSaid : Prop := spanOrdersRow.holds Try.pinned (OpenSpec.ofChange spanOrdersSpec)

/-- ITS FALSE NEIGHBOUR: 'it returns false'. Refute it at one input. -/
def spanOrdersWrong : ChangeSpec := { name := "spanOrders", fn := fun _ => fun
  | [d1, d2, d3] => { results := [.lit (.bool false)], args := [d1, d2, d3] }
  | _ => none }
def SpanOrdersWrongFalsely : Prop := spanOrdersRow.holds Try.pinned (OpenSpec.ofChange spanOrdersWrong)

/-- 'wardshiplaw07.SpanSmall': WHATEVER THE INPUT: true; the input reads as it did. -/
def spanSmallSpec : ChangeSpec := { name := "spanSmall", fn := fun _ => fun
  | [d1, d2, d3] => { results := [.lit (.bool true)], args := [d1, d2, d3] }
  | _ => none }
def spanSmallRow : OpenClaim := { program := "ytpfhhkdmgkkidaa", sum := "f1daf333f21c24bc7eed213db95ce9d7dcadece3e59916ceee3e2564e3f8c1f9", func := "wardship/wardshiplaw07.SpanSmall", spec := "spanSmall", apart := false }
def SpanSmallSaid : Prop := spanSmallRow.holds Try.pinned (OpenSpec.ofChange spanSmallSpec)

/-- ITS FALSE NEIGHBOUR: 'it returns false'. Refute it at one input. -/
def spanSmallWrong : ChangeSpec := { name := "spanSmall", fn := fun _ => fun
  | [d1, d2, d3] => { results := [.lit (.bool false)], args := [d1, d2, d3] }
  | _ => none }
def SpanSmallWrongFalsely : Prop := spanSmallRow.holds Try.pinned (OpenSpec.ofChange spanSmallWrong)

/-- 'wardshiplaw07.SpanBack': WHATEVER THE INPUT: true; the input reads as it did. -/
def spanBackSpec : ChangeSpec := { name := "spanBack", fn := fun _ => fun
  | [d1, d2, d3] => { results := [.lit (.bool true)], args := [d1, d2, d3] }
  | _ => none }
def spanBackRow : OpenClaim := { program := "ytpfhhkdmgkkidaa", sum := "f1daf333f21c24bc7eed213db95ce9d7dcadece3e59916ceee3e2564e3f8c1f9", func := "wardship/wardshiplaw07.SpanBack", spec := "spanBack", apart := false }
def SpanBackSaid : Prop := spanBackRow.holds Try.pinned (OpenSpec.ofChange spanBackSpec)

/-- ITS FALSE NEIGHBOUR: 'it returns false'. Refute it at one input. -/
def spanBackWrong : ChangeSpec := { name := "spanBack", fn := fun _ => fun
  | [d1, d2, d3] => { results := [.lit (.bool false)], args := [d1, d2, d3] }
  | _ => none }
def SpanBackWrongFalsely : Prop := spanBackRow.holds Try.pinned (OpenSpec.ofChange spanBackWrong)

/-- 'wardshiptop.TopVectors': WHATEVER THE INPUT: true; the input reads as it did. -/
def topVectorsSpec : ChangeSpec := { name := "topVectors", fn := fun _ => fun
  | [d1, d2, d3] => { results := [.lit (.bool true)], args := [d1, d2, d3] }
  | _ => none }
def topVectorsRow : OpenClaim := { program := "ytpfhhkdmgkkidaa", sum := "f1daf333f21c24bc7eed213db95ce9d7dcadece3e59916ceee3e2564e3f8c1f9", func := "wardship/wardshiptop.TopVectors", spec := "topVectors", apart := false }
def TopVectorsSaid : Prop := topVectorsRow.holds Try.pinned (OpenSpec.ofChange topVectorsSpec)

/-- ITS FALSE NEIGHBOUR: 'it returns false'. Refute it at one input. -/
def topVectorsWrong : ChangeSpec := { name := "topVectors", fn := fun _ => fun
  | [d1, d2, d3] => { results := [.lit (.bool false)], args := [d1, d2, d3] }
  | _ => none }
def TopVectorsWrongFalsely : Prop := topVectorsRow.holds Try.pinned (OpenSpec.ofChange topVectorsWrong)

/- THE SECOND FORM. 'bulk': how many values and letters a reading holds, each counted each time it is reached (what is shared counts as often as it is met; a slice's spare places count too). A statement '..UptoSaid' is the law's where the arguments, and the package variables that the reading takes, are together of bulk at most 1048576: NARROWER than '..Said'. Prove '..Said' where nothing that the law and all that it calls make is longer than what came in: it says more and counts as full. Else prove '..UptoSaid'. A law counts once. -/
mutual
def uptoBulk {H : Type} : DataW H → Nat
  | .lit (.string bytes) => bytes.length + 1
  | .lit _ => 1
  | .nil => 1
  | .ptr d => uptoBulk d + 1
  | .slice elems spare => uptoBulkAll elems + uptoBulkAll spare + 1
  | .agg parts => uptoBulkAll parts + 1
  | .iface _ d => uptoBulk d + 1
  | .map entries => uptoBulkEntries entries + 1
  | .held _ => 1
def uptoBulkAll {H : Type} : List (DataW H) → Nat
  | [] => 0
  | d :: r => uptoBulk d + uptoBulkAll r
def uptoBulkEntries {H : Type} : List (Lit × DataW H) → Nat
  | [] => 0
  | x :: r => uptoBulkEntry x + uptoBulkEntries r
def uptoBulkEntry {H : Type} : Lit × DataW H → Nat
  | (.string bytes, d) => bytes.length + uptoBulk d + 1
  | (_, d) => uptoBulk d + 1
 end
def uptoSmall : (H : Type) → List (DataW H) → Bool := fun _ ds => decide (uptoBulkAll ds ≤ 1048576)
def OpenSpec.upto (s : _root_.Go.ChangeSpec) : _root_.Go.OpenSpec := { _root_.Go.OpenSpec.ofChange s with cond := some uptoSmall }

/-- 'wardshiplaw07.SpanShrinks', WHERE WHAT IT READS IS OF BULK AT MOST 1048576: true; the input reads as it did. -/
def spanShrinksUptoRow : OpenClaim := { program := "ytpfhhkdmgkkidaa", sum := "f1daf333f21c24bc7eed213db95ce9d7dcadece3e59916ceee3e2564e3f8c1f9", func := "wardship/wardshiplaw07.SpanShrinks", spec := "spanShrinks", recurses := true, apart := false, narrowed := true }
def SpanShrinksUptoSaid : Prop := spanShrinksUptoRow.holds Try.pinned (OpenSpec.upto spanShrinksSpec)

/-- 'wardshiplaw07.SpanGrows', WHERE WHAT IT READS IS OF BULK AT MOST 1048576: true; the input reads as it did. -/
def spanGrowsUptoRow : OpenClaim := { program := "ytpfhhkdmgkkidaa", sum := "f1daf333f21c24bc7eed213db95ce9d7dcadece3e59916ceee3e2564e3f8c1f9", func := "wardship/wardshiplaw07.SpanGrows", spec := "spanGrows", recurses := true, apart := false, narrowed := true }
def SpanGrowsUptoSaid : Prop := spanGrowsUptoRow.holds Try.pinned (OpenSpec.upto spanGrowsSpec)

/-- 'wardshiplaw07.SpanOrders', WHERE WHAT IT READS IS OF BULK AT MOST 1048576: true; the input reads as it did. -/
def spanOrdersUptoRow : OpenClaim := { program := "ytpfhhkdmgkkidaa", sum := "f1daf333f21c24bc7eed213db95ce9d7dcadece3e59916ceee3e2564e3f8c1f9", func := "wardship/wardshiplaw07.SpanOrders", spec := "spanOrders", apart := false, narrowed := true }
def SpanOrdersUptoSaid : Prop := spanOrdersUptoRow.holds Try.pinned (OpenSpec.upto spanOrdersSpec)

/-- 'wardshiplaw07.SpanSmall', WHERE WHAT IT READS IS OF BULK AT MOST 1048576: true; the input reads as it did. -/
def spanSmallUptoRow : OpenClaim := { program := "ytpfhhkdmgkkidaa", sum := "f1daf333f21c24bc7eed213db95ce9d7dcadece3e59916ceee3e2564e3f8c1f9", func := "wardship/wardshiplaw07.SpanSmall", spec := "spanSmall", apart := false, narrowed := true }
def SpanSmallUptoSaid : Prop := spanSmallUptoRow.holds Try.pinned (OpenSpec.upto spanSmallSpec)

/-- 'wardshiplaw07.SpanBack', WHERE WHAT IT READS IS OF BULK AT MOST 1048576: true; the input reads as it did. -/
def spanBackUptoRow : OpenClaim := { program := "ytpfhhkdmgkkidaa", sum := "f1daf333f21c24bc7eed213db95ce9d7dcadece3e59916ceee3e2564e3f8c1f9", func := "wardship/wardshiplaw07.SpanBack", spec := "spanBack", apart := false, narrowed := true }
def SpanBackUptoSaid : Prop := spanBackUptoRow.holds Try.pinned (OpenSpec.upto spanBackSpec)

/-- 'wardshiptop.TopVectors', WHERE WHAT IT READS IS OF BULK AT MOST 1048576: true; the input reads as it did. -/
def topVectorsUptoRow : OpenClaim := { program := "ytpfhhkdmgkkidaa", sum := "f1daf333f21c24bc7eed213db95ce9d7dcadece3e59916ceee3e2564e3f8c1f9", func := "wardship/wardshiptop.TopVectors", spec := "topVectors", apart := false, narrowed := true }
def TopVectorsUptoSaid : Prop := topVectorsUptoRow.holds Try.pinned (OpenSpec.upto topVectorsSpec)

end Rows
end Go.Proofs.Ytpfhhkdmgkkidaa
