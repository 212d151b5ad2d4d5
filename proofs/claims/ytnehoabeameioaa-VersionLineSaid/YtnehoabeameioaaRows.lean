/-
  No cell of these rows narrows 'for every input' (looked for: loops, veiled, ifaces, maps, wideKeys, modest, calm, conditions, laid).
  DERIVED. THE GIVEN ROWS OF THIS SEAT. 5 by the template 'for every input the law returns true; each argument reads behind the call as it read before'; 0 by the template 'total and deterministic' (their statements: YtnehoabeameioaaTotals.lean).
  GIVEN WITH THE SEED: the statements are not yours to turn. If you find one false, say at which input.
  Laid BY PROGRAM, IN A SANDBOX (cutbox-rows.mjs): the forced cells as the released guide's own fill.sh prints them over the translation f8d6d0576bca1ff5… (all of the seat's roots in one cut). By AI agents, Wed Nov 11 2026. No macro, syntax, notation, axiom, sorry.
-/
import Derived.Test.YtnehoabeameioaaChecked
import GoSem.Claim
import GoSem.ClaimJoined
import GoSem.ClaimMapViews
import Derived.JoinedTies
import Derived.KernelRfl
namespace Go.Proofs.Ytnehoabeameioaa
/- THE CELL 'sum', in the pinned program and in every row, IS THE sha256 OF THE DUMP (.gsa) THAT YtnehoabeameioaaProg.lean LOADS. Nothing in Lean hashes anything: it is a label: what it is worth is what the hold of that sum in a sandbox is worth. -/
noncomputable def Try.pinned : Pinned := { name := "ytnehoabeameioaa", sum := "f8d6d0576bca1ff5c750bd4c41442125e0c93082365e7528d792f96b959bc841", checked := Try.checked }
namespace Rows
def none {H : Type} : Left H := { results := [], args := [] }

/-- 'wardshiplaw11.VersionBytes': WHATEVER THE INPUT: true; the input reads as it did. -/
def versionBytesSpec : ChangeSpec := { name := "versionBytes", fn := fun _ => fun
  | [d1, d2, d3] => { results := [.lit (.bool true)], args := [d1, d2, d3] }
  | _ => none }
def versionBytesRow : OpenClaim := { program := "ytnehoabeameioaa", sum := "f8d6d0576bca1ff5c750bd4c41442125e0c93082365e7528d792f96b959bc841", func := "wardship/wardshiplaw11.VersionBytes", spec := "versionBytes", inPlace := ["slices.overlaps[wardship/api.Version]"], unfollowed := true, recurses := true, apart := false }
def VersionBytesSaid : Prop := versionBytesRow.holds Try.pinned (OpenSpec.ofChange versionBytesSpec)

/-- ITS FALSE NEIGHBOUR: 'it returns false'. Refute it at one input. -/
def versionBytesWrong : ChangeSpec := { name := "versionBytes", fn := fun _ => fun
  | [d1, d2, d3] => { results := [.lit (.bool false)], args := [d1, d2, d3] }
  | _ => none }
def VersionBytesWrongFalsely : Prop := versionBytesRow.holds Try.pinned (OpenSpec.ofChange versionBytesWrong)

/-- 'wardshiplaw11.VersionAdds': WHATEVER THE INPUT: true; the input reads as it did. -/
def versionAddsSpec : ChangeSpec := { name := "versionAdds", fn := fun _ => fun
  | [d1, d2, d3] => { results := [.lit (.bool true)], args := [d1, d2, d3] }
  | _ => none }
def versionAddsRow : OpenClaim := { program := "ytnehoabeameioaa", sum := "f8d6d0576bca1ff5c750bd4c41442125e0c93082365e7528d792f96b959bc841", func := "wardship/wardshiplaw11.VersionAdds", spec := "versionAdds", inPlace := ["slices.overlaps[wardship/api.Version]"], unfollowed := true, recurses := true, apart := false }
def VersionAddsSaid : Prop := versionAddsRow.holds Try.pinned (OpenSpec.ofChange versionAddsSpec)

/-- ITS FALSE NEIGHBOUR: 'it returns false'. Refute it at one input. -/
def versionAddsWrong : ChangeSpec := { name := "versionAdds", fn := fun _ => fun
  | [d1, d2, d3] => { results := [.lit (.bool false)], args := [d1, d2, d3] }
  | _ => none }
def VersionAddsWrongFalsely : Prop := versionAddsRow.holds Try.pinned (OpenSpec.ofChange versionAddsWrong)

/-- 'wardshiplaw11.VersionSweeps': WHATEVER THE INPUT: true; the input reads as it did. -/
def versionSweepsSpec : ChangeSpec := { name := "versionSweeps", fn := fun _ => fun
  | [d1, d2] => { results := [.lit (.bool true)], args := [d1, d2] }
  | _ => none }
def versionSweepsRow : OpenClaim := { program := "ytnehoabeameioaa", sum := "f8d6d0576bca1ff5c750bd4c41442125e0c93082365e7528d792f96b959bc841", func := "wardship/wardshiplaw11.VersionSweeps", spec := "versionSweeps", inPlace := ["slices.overlaps[wardship/api.Version]"], unfollowed := true, recurses := true, apart := false }
def VersionSweepsSaid : Prop := versionSweepsRow.holds Try.pinned (OpenSpec.ofChange versionSweepsSpec)

/-- ITS FALSE NEIGHBOUR: 'it returns false'. Refute it at one input. -/
def versionSweepsWrong : ChangeSpec := { name := "versionSweeps", fn := fun _ => fun
  | [d1, d2] => { results := [.lit (.bool false)], args := [d1, d2] }
  | _ => none }
def VersionSweepsWrongFalsely : Prop := versionSweepsRow.holds Try.pinned (OpenSpec.ofChange versionSweepsWrong)

/-- 'wardshiplaw11.VersionHeads': WHATEVER THE INPUT: true; the input reads as it did. -/
def versionHeadsSpec : ChangeSpec := { name := "versionHeads", fn := fun _ => fun
  | [d1, d2, d3] => { results := [.lit (.bool true)], args := [d1, d2, d3] }
  | _ => none }
def versionHeadsRow : OpenClaim := { program := "ytnehoabeameioaa", sum := "f8d6d0576bca1ff5c750bd4c41442125e0c93082365e7528d792f96b959bc841", func := "wardship/wardshiplaw11.VersionHeads", spec := "versionHeads", inPlace := ["slices.overlaps[wardship/api.Version]"], unfollowed := true, recurses := true, apart := false }
def VersionHeadsSaid : Prop := versionHeadsRow.holds Try.pinned (OpenSpec.ofChange versionHeadsSpec)

/-- ITS FALSE NEIGHBOUR: 'it returns false'. Refute it at one input. -/
def versionHeadsWrong : ChangeSpec := { name := "versionHeads", fn := fun _ => fun
  | [d1, d2, d3] => { results := [.lit (.bool false)], args := [d1, d2, d3] }
  | _ => none }
def VersionHeadsWrongFalsely : Prop := versionHeadsRow.holds Try.pinned (OpenSpec.ofChange versionHeadsWrong)

/-- 'wardshiplaw11.VersionLine': WHATEVER THE INPUT: true; the input reads as it did. -/
def versionLineSpec : ChangeSpec := { name := "versionLine", fn := fun _ => fun
  | [d1, d2] => { results := [.lit (.bool true)], args := [d1, d2] }
  | _ => none }
def versionLineRow : OpenClaim := { program := "ytnehoabeameioaa", sum := "f8d6d0576bca1ff5c750bd4c41442125e0c93082365e7528d792f96b959bc841", func := "wardship/wardshiplaw11.VersionLine", spec := "versionLine", inPlace := ["slices.overlaps[wardship/api.Version]"], unfollowed := true, recurses := true, apart := false }
def VersionLineSaid : Prop := versionLineRow.holds Try.pinned (OpenSpec.ofChange versionLineSpec)

/-- ITS FALSE NEIGHBOUR: 'it returns false'. Refute it at one input. -/
def versionLineWrong : ChangeSpec := { name := "versionLine", fn := fun _ => fun
  | [d1, d2] => { results := [.lit (.bool false)], args := [d1, d2] }
  | _ => none }
def VersionLineWrongFalsely : Prop := versionLineRow.holds Try.pinned (OpenSpec.ofChange versionLineWrong)

/- THE SECOND FORM. 'bulk': how many values and letters a reading holds, each counted each time it is reached (what is shared counts as often as it is met; a slice's spare places count too). A statement '..UptoSaid' is the law's where the arguments, and the package variables that the reading takes, are together of bulk at most 1048576: NARROWER than '..Said'. Prove '..Said' where nothing that the law and all that it calls make is longer than what came in: it says more and counts as full. Else prove '..UptoSaid'. A law counts once. -/
mutual
def uptoBulk {H : Type} : DataW H → Nat
  | .lit (.string bytes) => bytes.length + 1
  | .lit _ => 1
  | .nil => 1
  | .ptr d => uptoBulk d + 1
  | .slice elems spare => uptoBulkAll elems + uptoBulkAll spare + 1
  | .agg parts => uptoBulkAll parts + 1
  | .iface _ d => uptoBulk d + 1
  | .map entries => uptoBulkEntries entries + 1
  | .held _ => 1
def uptoBulkAll {H : Type} : List (DataW H) → Nat
  | [] => 0
  | d :: r => uptoBulk d + uptoBulkAll r
def uptoBulkEntries {H : Type} : List (Lit × DataW H) → Nat
  | [] => 0
  | x :: r => uptoBulkEntry x + uptoBulkEntries r
def uptoBulkEntry {H : Type} : Lit × DataW H → Nat
  | (.string bytes, d) => bytes.length + uptoBulk d + 1
  | (_, d) => uptoBulk d + 1
 end
def uptoSmall : (H : Type) → List (DataW H) → Bool := fun _ ds => decide (uptoBulkAll ds ≤ 1048576)
def OpenSpec.upto (s : _root_.Go.ChangeSpec) : _root_.Go.OpenSpec := { _root_.Go.OpenSpec.ofChange s with cond := some uptoSmall }

/-- 'wardshiplaw11.VersionBytes', WHERE WHAT IT READS IS OF BULK AT MOST 1048576: true; the input reads as it did. -/
def versionBytesUptoRow : OpenClaim := { program := "ytnehoabeameioaa", sum := "f8d6d0576bca1ff5c750bd4c41442125e0c93082365e7528d792f96b959bc841", func := "wardship/wardshiplaw11.VersionBytes", spec := "versionBytes", inPlace := ["slices.overlaps[wardship/api.Version]"], unfollowed := true, recurses := true, apart := false, narrowed := true }
def VersionBytesUptoSaid : Prop := versionBytesUptoRow.holds Try.pinned (OpenSpec.upto versionBytesSpec)

/-- 'wardshiplaw11.VersionAdds', WHERE WHAT IT READS IS OF BULK AT MOST 1048576: true; the input reads as it did. -/
def versionAddsUptoRow : OpenClaim := { program := "ytnehoabeameioaa", sum := "f8d6d0576bca1ff5c750bd4c41442125e0c93082365e7528d792f96b959bc841", func := "wardship/wardshiplaw11.VersionAdds", spec := "versionAdds", inPlace := ["slices.overlaps[wardship/api.Version]"], unfollowed := true, recurses := true, apart := false, narrowed := true }
def VersionAddsUptoSaid : Prop := versionAddsUptoRow.holds Try.pinned (OpenSpec.upto versionAddsSpec)

/-- 'wardshiplaw11.VersionSweeps', WHERE WHAT IT READS IS OF BULK AT MOST 1048576: true; the input reads as it did. -/
def versionSweepsUptoRow : OpenClaim := { program := "ytnehoabeameioaa", sum := "f8d6d0576bca1ff5c750bd4c41442125e0c93082365e7528d792f96b959bc841", func := "wardship/wardshiplaw11.VersionSweeps", spec := "versionSweeps", inPlace := ["slices.overlaps[wardship/api.Version]"], unfollowed := true, recurses := true, apart := false, narrowed := true }
def VersionSweepsUptoSaid : Prop := versionSweepsUptoRow.holds Try.pinned (OpenSpec.upto versionSweepsSpec)

/-- 'wardshiplaw11.VersionHeads', WHERE WHAT IT READS IS OF BULK AT MOST 1048576: true; the input reads as it did. -/
def versionHeadsUptoRow : OpenClaim := { program := "ytnehoabeameioaa", sum := "f8d6d0576bca1ff5c750bd4c41442125e0c93082365e7528d792f96b959bc841", func := "wardship/wardshiplaw11.VersionHeads", spec := "versionHeads", inPlace := ["slices.overlaps[wardship/api.Version]"], unfollowed := true, recurses := true, apart := false, narrowed := true }
def VersionHeadsUptoSaid : Prop := versionHeadsUptoRow.holds Try.pinned (OpenSpec.upto versionHeadsSpec)

/-- 'wardshiplaw11.VersionLine', WHERE WHAT IT READS IS OF BULK AT MOST 1048576: true; the input reads as it did. -/
def versionLineUptoRow : OpenClaim := { program := "ytnehoabeameioaa", sum := "f8d6d0576bca1ff5c750bd4c41442125e0c93082365e7528d792f96b959bc841", func := "wardship/wardshiplaw11.VersionLine", spec := "versionLine", inPlace := ["slices.overlaps[wardship/api.Version]"], unfollowed := true, recurses := true, apart := false, narrowed := true }
def VersionLineUptoSaid : Prop := versionLineUptoRow.holds Try.pinned (OpenSpec.upto versionLineSpec)

end Rows
end Go.Proofs.Ytnehoabeameioaa
