/-
  No cell of these rows narrows 'for every input' (looked for: loops, veiled, ifaces, maps, wideKeys, modest, calm, conditions, laid).
  DERIVED. THE GIVEN ROWS OF THIS SEAT. 5 by the template 'for every input the law returns true; each argument reads behind the call as it read before'; 0 by the template 'total and deterministic' (their statements: YtfemdclfplgbfaaTotals.lean).
  GIVEN WITH THE SEED: the statements are not yours to turn. If you find one false, say at which input.
  Laid BY PROGRAM, IN A SANDBOX (cutbox-rows.mjs): the forced cells as the released guide's own fill.sh prints them over the translation dc28560d04d32d74… (all of the seat's roots in one cut). By AI agents, Wed Nov 11 2026. No macro, syntax, notation, axiom, sorry.
-/
import Derived.Test.YtfemdclfplgbfaaChecked
import GoSem.Claim
import GoSem.ClaimJoined
import GoSem.ClaimMapViews
import Derived.JoinedTies
import Derived.KernelRfl
namespace Go.Proofs.Ytfemdclfplgbfaa
/- THE CELL 'sum', in the pinned program and in every row, IS THE sha256 OF THE DUMP (.gsa) THAT YtfemdclfplgbfaaProg.lean LOADS. Nothing in Lean hashes anything: it is a label: what it is worth is what the hold of that sum in a sandbox is worth. -/
noncomputable def Try.pinned : Pinned := { name := "ytfemdclfplgbfaa", sum := "dc28560d04d32d74fc21f9661177584fea7b6f9480bf18d05a1c73f6fc88c2d9", checked := Try.checked }
namespace Rows
def none {H : Type} : Left H := { results := [], args := [] }

/-- 'versionmaplaw3.SlotsNew': WHATEVER THE INPUT: true; the input reads as it did. -/
def slotsNewSpec : ChangeSpec := { name := "slotsNew", fn := fun _ => fun
  | [d1, d2] => { results := [.lit (.bool true)], args := [d1, d2] }
  | _ => none }
def slotsNewRow : OpenClaim := { program := "ytfemdclfplgbfaa", sum := "dc28560d04d32d74fc21f9661177584fea7b6f9480bf18d05a1c73f6fc88c2d9", func := "versionmap/versionmaplaw3.SlotsNew", spec := "slotsNew", apart := false }
def SlotsNewSaid : Prop := slotsNewRow.holds Try.pinned (OpenSpec.ofChange slotsNewSpec)

/-- ITS FALSE NEIGHBOUR: 'it returns false'. Refute it at one input. -/
def slotsNewWrong : ChangeSpec := { name := "slotsNew", fn := fun _ => fun
  | [d1, d2] => { results := [.lit (.bool false)], args := [d1, d2] }
  | _ => none }
def SlotsNewWrongFalsely : Prop := slotsNewRow.holds Try.pinned (OpenSpec.ofChange slotsNewWrong)

/-- 'versionmaplaw3.SlotsAgree': WHATEVER THE INPUT: true; the input reads as it did. -/
def slotsAgreeSpec : ChangeSpec := { name := "slotsAgree", fn := fun _ => fun
  | [d1, d2] => { results := [.lit (.bool true)], args := [d1, d2] }
  | _ => none }
def slotsAgreeRow : OpenClaim := { program := "ytfemdclfplgbfaa", sum := "dc28560d04d32d74fc21f9661177584fea7b6f9480bf18d05a1c73f6fc88c2d9", func := "versionmap/versionmaplaw3.SlotsAgree", spec := "slotsAgree", apart := false }
def SlotsAgreeSaid : Prop := slotsAgreeRow.holds Try.pinned (OpenSpec.ofChange slotsAgreeSpec)

/-- ITS FALSE NEIGHBOUR: 'it returns false'. Refute it at one input. -/
def slotsAgreeWrong : ChangeSpec := { name := "slotsAgree", fn := fun _ => fun
  | [d1, d2] => { results := [.lit (.bool false)], args := [d1, d2] }
  | _ => none }
def SlotsAgreeWrongFalsely : Prop := slotsAgreeRow.holds Try.pinned (OpenSpec.ofChange slotsAgreeWrong)

/-- 'versionmaplaw3.SlotsPartition': WHATEVER THE INPUT: true; the input reads as it did. -/
def slotsPartitionSpec : ChangeSpec := { name := "slotsPartition", fn := fun _ => fun
  | [d1, d2] => { results := [.lit (.bool true)], args := [d1, d2] }
  | _ => none }
def slotsPartitionRow : OpenClaim := { program := "ytfemdclfplgbfaa", sum := "dc28560d04d32d74fc21f9661177584fea7b6f9480bf18d05a1c73f6fc88c2d9", func := "versionmap/versionmaplaw3.SlotsPartition", spec := "slotsPartition", apart := false }
def SlotsPartitionSaid : Prop := slotsPartitionRow.holds Try.pinned (OpenSpec.ofChange slotsPartitionSpec)

/-- ITS FALSE NEIGHBOUR: 'it returns false'. Refute it at one input. -/
def slotsPartitionWrong : ChangeSpec := { name := "slotsPartition", fn := fun _ => fun
  | [d1, d2] => { results := [.lit (.bool false)], args := [d1, d2] }
  | _ => none }
def SlotsPartitionWrongFalsely : Prop := slotsPartitionRow.holds Try.pinned (OpenSpec.ofChange slotsPartitionWrong)

/-- 'versionmaplaw3.SlotsNeverTwice': WHATEVER THE INPUT: true; the input reads as it did. -/
def slotsNeverTwiceSpec : ChangeSpec := { name := "slotsNeverTwice", fn := fun _ => fun
  | [d1, d2] => { results := [.lit (.bool true)], args := [d1, d2] }
  | _ => none }
def slotsNeverTwiceRow : OpenClaim := { program := "ytfemdclfplgbfaa", sum := "dc28560d04d32d74fc21f9661177584fea7b6f9480bf18d05a1c73f6fc88c2d9", func := "versionmap/versionmaplaw3.SlotsNeverTwice", spec := "slotsNeverTwice", apart := false }
def SlotsNeverTwiceSaid : Prop := slotsNeverTwiceRow.holds Try.pinned (OpenSpec.ofChange slotsNeverTwiceSpec)

/-- ITS FALSE NEIGHBOUR: 'it returns false'. Refute it at one input. -/
def slotsNeverTwiceWrong : ChangeSpec := { name := "slotsNeverTwice", fn := fun _ => fun
  | [d1, d2] => { results := [.lit (.bool false)], args := [d1, d2] }
  | _ => none }
def SlotsNeverTwiceWrongFalsely : Prop := slotsNeverTwiceRow.holds Try.pinned (OpenSpec.ofChange slotsNeverTwiceWrong)

/-- 'versionmaplaw3.SlotsAreReusedFirst': WHATEVER THE INPUT: true; the input reads as it did. -/
def slotsAreReusedFirstSpec : ChangeSpec := { name := "slotsAreReusedFirst", fn := fun _ => fun
  | [d1, d2, d3] => { results := [.lit (.bool true)], args := [d1, d2, d3] }
  | _ => none }
def slotsAreReusedFirstRow : OpenClaim := { program := "ytfemdclfplgbfaa", sum := "dc28560d04d32d74fc21f9661177584fea7b6f9480bf18d05a1c73f6fc88c2d9", func := "versionmap/versionmaplaw3.SlotsAreReusedFirst", spec := "slotsAreReusedFirst", apart := false }
def SlotsAreReusedFirstSaid : Prop := slotsAreReusedFirstRow.holds Try.pinned (OpenSpec.ofChange slotsAreReusedFirstSpec)

/-- ITS FALSE NEIGHBOUR: 'it returns false'. Refute it at one input. -/
def slotsAreReusedFirstWrong : ChangeSpec := { name := "slotsAreReusedFirst", fn := fun _ => fun
  | [d1, d2, d3] => { results := [.lit (.bool false)], args := [d1, d2, d3] }
  | _ => none }
def SlotsAreReusedFirstWrongFalsely : Prop := slotsAreReusedFirstRow.holds Try.pinned (OpenSpec.ofChange slotsAreReusedFirstWrong)

/- THE SECOND FORM. 'bulk': how many values and letters a reading holds, each counted each time it is reached (what is shared counts as often as it is met; a slice's spare places count too). A statement '..UptoSaid' is the law's where the arguments, and the package variables that the reading takes, are together of bulk at most 1048576: NARROWER than '..Said'. Prove '..Said' where nothing that the law and all that it calls make is longer than what came in: it says more and counts as full. Else prove '..UptoSaid'. A law counts once. -/
mutual
def uptoBulk {H : Type} : DataW H → Nat
  | .lit (.string bytes) => bytes.length + 1
  | .lit _ => 1
  | .nil => 1
  | .ptr d => uptoBulk d + 1
  | .slice elems spare => uptoBulkAll elems + uptoBulkAll spare + 1
  | .agg parts => uptoBulkAll parts + 1
  | .iface _ d => uptoBulk d + 1
  | .map entries => uptoBulkEntries entries + 1
  | .held _ => 1
def uptoBulkAll {H : Type} : List (DataW H) → Nat
  | [] => 0
  | d :: r => uptoBulk d + uptoBulkAll r
def uptoBulkEntries {H : Type} : List (Lit × DataW H) → Nat
  | [] => 0
  | x :: r => uptoBulkEntry x + uptoBulkEntries r
def uptoBulkEntry {H : Type} : Lit × DataW H → Nat
  | (.string bytes, d) => bytes.length + uptoBulk d + 1
  | (_, d) => uptoBulk d + 1
 end
def uptoSmall : (H : Type) → List (DataW H) → Bool := fun _ ds => decide (uptoBulkAll ds ≤ 1048576)
def OpenSpec.upto (s : _root_.Go.ChangeSpec) : _root_.Go.OpenSpec := { _root_.Go.OpenSpec.ofChange s with cond := some uptoSmall }

/-- 'versionmaplaw3.SlotsNew', WHERE WHAT IT READS IS OF BULK AT MOST 1048576: true; the input reads as it did. -/
def slotsNewUptoRow : OpenClaim := { program := "ytfemdclfplgbfaa", sum := "dc28560d04d32d74fc21f9661177584fea7b6f9480bf18d05a1c73f6fc88c2d9", func := "versionmap/versionmaplaw3.SlotsNew", spec := "slotsNew", apart := false, narrowed := true }
def SlotsNewUptoSaid : Prop := slotsNewUptoRow.holds Try.pinned (OpenSpec.upto slotsNewSpec)

/-- 'versionmaplaw3.SlotsAgree', WHERE WHAT IT READS IS OF BULK AT MOST 1048576: true; the input reads as it did. -/
def slotsAgreeUptoRow : OpenClaim := { program := "ytfemdclfplgbfaa", sum := "dc28560d04d32d74fc21f9661177584fea7b6f9480bf18d05a1c73f6fc88c2d9", func := "versionmap/versionmaplaw3.SlotsAgree", spec := "slotsAgree", apart := false, narrowed := true }
def SlotsAgreeUptoSaid : Prop := slotsAgreeUptoRow.holds Try.pinned (OpenSpec.upto slotsAgreeSpec)

/-- 'versionmaplaw3.SlotsPartition', WHERE WHAT IT READS IS OF BULK AT MOST 1048576: true; the input reads as it did. -/
def slotsPartitionUptoRow : OpenClaim := { program := "ytfemdclfplgbfaa", sum := "dc28560d04d32d74fc21f9661177584fea7b6f9480bf18d05a1c73f6fc88c2d9", func := "versionmap/versionmaplaw3.SlotsPartition", spec := "slotsPartition", apart := false, narrowed := true }
def SlotsPartitionUptoSaid : Prop := slotsPartitionUptoRow.holds Try.pinned (OpenSpec.upto slotsPartitionSpec)

/-- 'versionmaplaw3.SlotsNeverTwice', WHERE WHAT IT READS IS OF BULK AT MOST 1048576: true; the input reads as it did. -/
def slotsNeverTwiceUptoRow : OpenClaim := { program := "ytfemdclfplgbfaa", sum := "dc28560d04d32d74fc21f9661177584fea7b6f9480bf18d05a1c73f6fc88c2d9", func := "versionmap/versionmaplaw3.SlotsNeverTwice", spec := "slotsNeverTwice", apart := false, narrowed := true }
def SlotsNeverTwiceUptoSaid : Prop := slotsNeverTwiceUptoRow.holds Try.pinned (OpenSpec.upto slotsNeverTwiceSpec)

/-- 'versionmaplaw3.SlotsAreReusedFirst', WHERE WHAT IT READS IS OF BULK AT MOST 1048576: true; the input reads as it did. -/
def slotsAreReusedFirstUptoRow : OpenClaim := { program := "ytfemdclfplgbfaa", sum := "dc28560d04d32d74fc21f9661177584fea7b6f9480bf18d05a1c73f6fc88c2d9", func := "versionmap/versionmaplaw3.SlotsAreReusedFirst", spec := "slotsAreReusedFirst", apart := false, narrowed := true }
def SlotsAreReusedFirstUptoSaid : Prop := slotsAreReusedFirstUptoRow.holds Try.pinned (OpenSpec.upto slotsAreReusedFirstSpec)

end Rows
end Go.Proofs.Ytfemdclfplgbfaa
