/-
  No cell of these rows narrows 'for every input' (looked for: loops, veiled, ifaces, maps, wideKeys, modest, calm, conditions, laid).
  DERIVED. THE GIVEN ROWS OF THIS SEAT. 4 by the template 'for every input the law returns true; each argument reads behind the call as it read before'; 0 by the template 'total and deterministic' (their statements: YtigogohcelgggaaTotals.lean).
  GIVEN WITH THE SEED: the statements are not yours to turn. If you find one false, say at which input.
  Laid BY PROGRAM, IN A SANDBOX (cutbox-rows.mjs): the forced cells as the released guide's own fill.sh prints them over the translation ea5907405a39c5c3… (all of the seat's roots in one cut). By AI agents, Wed Nov 11 2026. No macro, syntax, notation, axiom, sorry.
-/
import Derived.Test.YtigogohcelgggaaChecked
import GoSem.Claim
import GoSem.ClaimJoined
import GoSem.ClaimMapViews
import Derived.JoinedTies
import Derived.KernelRfl
namespace Go.Proofs.Ytigogohcelgggaa
/- THE CELL 'sum', in the pinned program and in every row, IS THE sha256 OF THE DUMP (.gsa) THAT YtigogohcelgggaaProg.lean LOADS. Nothing in Lean hashes anything: it is a label: what it is worth is what the hold of that sum in a sandbox is worth. -/
noncomputable def Try.pinned : Pinned := { name := "ytigogohcelgggaa", sum := "ea5907405a39c5c339531319416e6ecc1b769c4fbe874e4a615b5b1a75c4fc23", checked := Try.checked }
namespace Rows
def none {H : Type} : Left H := { results := [], args := [] }

/-- 'versionmaplaw9.LookupGets': WHATEVER THE INPUT: true; the input reads as it did. -/
def lookupGetsSpec : ChangeSpec := { name := "lookupGets", fn := fun _ => fun
  | [d1, d2, d3] => { results := [.lit (.bool true)], args := [d1, d2, d3] }
  | _ => none }
def lookupGetsRow : OpenClaim := { program := "ytigogohcelgggaa", sum := "ea5907405a39c5c339531319416e6ecc1b769c4fbe874e4a615b5b1a75c4fc23", func := "versionmap/versionmaplaw9.LookupGets", spec := "lookupGets", recurses := true, apart := false }
def LookupGetsSaid : Prop := lookupGetsRow.holds Try.pinned (OpenSpec.ofChange lookupGetsSpec)

/-- ITS FALSE NEIGHBOUR: 'it returns false'. Refute it at one input. -/
def lookupGetsWrong : ChangeSpec := { name := "lookupGets", fn := fun _ => fun
  | [d1, d2, d3] => { results := [.lit (.bool false)], args := [d1, d2, d3] }
  | _ => none }
def LookupGetsWrongFalsely : Prop := lookupGetsRow.holds Try.pinned (OpenSpec.ofChange lookupGetsWrong)

/-- 'versionmaplaw9.LookupNearest': WHATEVER THE INPUT: true; the input reads as it did. -/
def lookupNearestSpec : ChangeSpec := { name := "lookupNearest", fn := fun _ => fun
  | [d1, d2, d3, d4] => { results := [.lit (.bool true)], args := [d1, d2, d3, d4] }
  | _ => none }
def lookupNearestRow : OpenClaim := { program := "ytigogohcelgggaa", sum := "ea5907405a39c5c339531319416e6ecc1b769c4fbe874e4a615b5b1a75c4fc23", func := "versionmap/versionmaplaw9.LookupNearest", spec := "lookupNearest", recurses := true, apart := false }
def LookupNearestSaid : Prop := lookupNearestRow.holds Try.pinned (OpenSpec.ofChange lookupNearestSpec)

/-- ITS FALSE NEIGHBOUR: 'it returns false'. Refute it at one input. -/
def lookupNearestWrong : ChangeSpec := { name := "lookupNearest", fn := fun _ => fun
  | [d1, d2, d3, d4] => { results := [.lit (.bool false)], args := [d1, d2, d3, d4] }
  | _ => none }
def LookupNearestWrongFalsely : Prop := lookupNearestRow.holds Try.pinned (OpenSpec.ofChange lookupNearestWrong)

/-- 'versionmaplaw9.LookupNeighbors': WHATEVER THE INPUT: true; the input reads as it did. -/
def lookupNeighborsSpec : ChangeSpec := { name := "lookupNeighbors", fn := fun _ => fun
  | [d1, d2, d3] => { results := [.lit (.bool true)], args := [d1, d2, d3] }
  | _ => none }
def lookupNeighborsRow : OpenClaim := { program := "ytigogohcelgggaa", sum := "ea5907405a39c5c339531319416e6ecc1b769c4fbe874e4a615b5b1a75c4fc23", func := "versionmap/versionmaplaw9.LookupNeighbors", spec := "lookupNeighbors", recurses := true, apart := false }
def LookupNeighborsSaid : Prop := lookupNeighborsRow.holds Try.pinned (OpenSpec.ofChange lookupNeighborsSpec)

/-- ITS FALSE NEIGHBOUR: 'it returns false'. Refute it at one input. -/
def lookupNeighborsWrong : ChangeSpec := { name := "lookupNeighbors", fn := fun _ => fun
  | [d1, d2, d3] => { results := [.lit (.bool false)], args := [d1, d2, d3] }
  | _ => none }
def LookupNeighborsWrongFalsely : Prop := lookupNeighborsRow.holds Try.pinned (OpenSpec.ofChange lookupNeighborsWrong)

/-- 'versionmaplaw9.LookupPath': WHATEVER THE INPUT: true; the input reads as it did. -/
def lookupPathSpec : ChangeSpec := { name := "lookupPath", fn := fun _ => fun
  | [d1, d2, d3, d4] => { results := [.lit (.bool true)], args := [d1, d2, d3, d4] }
  | _ => none }
def lookupPathRow : OpenClaim := { program := "ytigogohcelgggaa", sum := "ea5907405a39c5c339531319416e6ecc1b769c4fbe874e4a615b5b1a75c4fc23", func := "versionmap/versionmaplaw9.LookupPath", spec := "lookupPath", recurses := true, apart := false }
def LookupPathSaid : Prop := lookupPathRow.holds Try.pinned (OpenSpec.ofChange lookupPathSpec)

/-- ITS FALSE NEIGHBOUR: 'it returns false'. Refute it at one input. -/
def lookupPathWrong : ChangeSpec := { name := "lookupPath", fn := fun _ => fun
  | [d1, d2, d3, d4] => { results := [.lit (.bool false)], args := [d1, d2, d3, d4] }
  | _ => none }
def LookupPathWrongFalsely : Prop := lookupPathRow.holds Try.pinned (OpenSpec.ofChange lookupPathWrong)

/- THE SECOND FORM. 'bulk': how many values and letters a reading holds, each counted each time it is reached (what is shared counts as often as it is met; a slice's spare places count too). A statement '..UptoSaid' is the law's where the arguments, and the package variables that the reading takes, are together of bulk at most 1048576: NARROWER than '..Said'. Prove '..Said' where nothing that the law and all that it calls make is longer than what came in: it says more and counts as full. Else prove '..UptoSaid'. A law counts once. -/
mutual
def uptoBulk {H : Type} : DataW H → Nat
  | .lit (.string bytes) => bytes.length + 1
  | .lit _ => 1
  | .nil => 1
  | .ptr d => uptoBulk d + 1
  | .slice elems spare => uptoBulkAll elems + uptoBulkAll spare + 1
  | .agg parts => uptoBulkAll parts + 1
  | .iface _ d => uptoBulk d + 1
  | .map entries => uptoBulkEntries entries + 1
  | .held _ => 1
def uptoBulkAll {H : Type} : List (DataW H) → Nat
  | [] => 0
  | d :: r => uptoBulk d + uptoBulkAll r
def uptoBulkEntries {H : Type} : List (Lit × DataW H) → Nat
  | [] => 0
  | x :: r => uptoBulkEntry x + uptoBulkEntries r
def uptoBulkEntry {H : Type} : Lit × DataW H → Nat
  | (.string bytes, d) => bytes.length + uptoBulk d + 1
  | (_, d) => uptoBulk d + 1
 end
def uptoSmall : (H : Type) → List (DataW H) → Bool := fun _ ds => decide (uptoBulkAll ds ≤ 1048576)
def OpenSpec.upto (s : _root_.Go.ChangeSpec) : _root_.Go.OpenSpec := { _root_.Go.OpenSpec.ofChange s with cond := some uptoSmall }

/-- 'versionmaplaw9.LookupGets', WHERE WHAT IT READS IS OF BULK AT MOST 1048576: true; the input reads as it did. -/
def lookupGetsUptoRow : OpenClaim := { program := "ytigogohcelgggaa", sum := "ea5907405a39c5c339531319416e6ecc1b769c4fbe874e4a615b5b1a75c4fc23", func := "versionmap/versionmaplaw9.LookupGets", spec := "lookupGets", recurses := true, apart := false, narrowed := true }
def LookupGetsUptoSaid : Prop := lookupGetsUptoRow.holds Try.pinned (OpenSpec.upto lookupGetsSpec)

/-- 'versionmaplaw9.LookupNearest', WHERE WHAT IT READS IS OF BULK AT MOST 1048576: true; the input reads as it did. -/
def lookupNearestUptoRow : OpenClaim := { program := "ytigogohcelgggaa", sum := "ea5907405a39c5c339531319416e6ecc1b769c4fbe874e4a615b5b1a75c4fc23", func := "versionmap/versionmaplaw9.LookupNearest", spec := "lookupNearest", recurses := true, apart := false, narrowed := true }
def LookupNearestUptoSaid : Prop := lookupNearestUptoRow.holds Try.pinned (OpenSpec.upto lookupNearestSpec)

/-- 'versionmaplaw9.LookupNeighbors', WHERE WHAT IT READS IS OF BULK AT MOST 1048576: true; the input reads as it did. -/
def lookupNeighborsUptoRow : OpenClaim := { program := "ytigogohcelgggaa", sum := "ea5907405a39c5c339531319416e6ecc1b769c4fbe874e4a615b5b1a75c4fc23", func := "versionmap/versionmaplaw9.LookupNeighbors", spec := "lookupNeighbors", recurses := true, apart := false, narrowed := true }
def LookupNeighborsUptoSaid : Prop := lookupNeighborsUptoRow.holds Try.pinned (OpenSpec.upto lookupNeighborsSpec)

/-- 'versionmaplaw9.LookupPath', WHERE WHAT IT READS IS OF BULK AT MOST 1048576: true; the input reads as it did. -/
def lookupPathUptoRow : OpenClaim := { program := "ytigogohcelgggaa", sum := "ea5907405a39c5c339531319416e6ecc1b769c4fbe874e4a615b5b1a75c4fc23", func := "versionmap/versionmaplaw9.LookupPath", spec := "lookupPath", recurses := true, apart := false, narrowed := true }
def LookupPathUptoSaid : Prop := lookupPathUptoRow.holds Try.pinned (OpenSpec.upto lookupPathSpec)

end Rows
end Go.Proofs.Ytigogohcelgggaa
