/-
  No cell of these rows narrows 'for every input' (looked for: loops, veiled, ifaces, maps, wideKeys, modest, calm, conditions, laid).
  DERIVED. THE GIVEN ROWS OF THIS SEAT. 2 by the template 'for every input the law returns true; each argument reads behind the call as it read before'; 0 by the template 'total and deterministic' (their statements: YtnimbgcploohiaaGreatTotals.lean).
  GIVEN WITH THE SEED: the statements are not yours to turn. If you find one false, say at which input.
  Laid BY PROGRAM, IN A SANDBOX (cutbox-rows.mjs): the forced cells as the released guide's own fill.sh prints them over the translation e3445323dcc3cfbf… (all of the seat's roots in one cut). By AI agents, Wed Nov 11 2026. No macro, syntax, notation, axiom, sorry.
-/
import Derived.Test.YtnimbgcploohiaaGreatChecked
import GoSem.Claim
import GoSem.ClaimJoined
import GoSem.ClaimMapViews
import Derived.JoinedTies
import Derived.KernelRfl
namespace Go.Proofs.YtnimbgcploohiaaGreat
/- THE CELL 'sum', in the pinned program and in every row, IS THE sha256 OF THE DUMP (.gsa) THAT YtnimbgcploohiaaGreatProg.lean LOADS. Nothing in Lean hashes anything: it is a label: what it is worth is what the hold of that sum in a sandbox is worth. -/
noncomputable def Tryz.pinned : Pinned := { name := "ytnimbgcploohiaagreat", sum := "e3445323dcc3cfbf3f694985877a06c6c43394b2416178d38d3a5f9f8c0a961e", checked := Tryz.checked }
namespace Rows
def none {H : Type} : Left H := { results := [], args := [] }

/-- 'versionmaplaw15.BulkCuts': WHATEVER THE INPUT: true; the input reads as it did. -/
def bulkCutsSpec : ChangeSpec := { name := "bulkCuts", fn := fun _ => fun
  | [d1, d2, d3, d4, d5, d6, d7, d8] => { results := [.lit (.bool true)], args := [d1, d2, d3, d4, d5, d6, d7, d8] }
  | _ => none }
def bulkCutsRow : OpenClaim := { program := "ytnimbgcploohiaagreat", sum := "e3445323dcc3cfbf3f694985877a06c6c43394b2416178d38d3a5f9f8c0a961e", func := "versionmap/versionmaplaw15.BulkCuts", spec := "bulkCuts", recurses := true, apart := false }
def BulkCutsSaid : Prop := bulkCutsRow.holds Tryz.pinned (OpenSpec.ofChange bulkCutsSpec)

/-- ITS FALSE NEIGHBOUR: 'it returns false'. Refute it at one input. -/
def bulkCutsWrong : ChangeSpec := { name := "bulkCuts", fn := fun _ => fun
  | [d1, d2, d3, d4, d5, d6, d7, d8] => { results := [.lit (.bool false)], args := [d1, d2, d3, d4, d5, d6, d7, d8] }
  | _ => none }
def BulkCutsWrongFalsely : Prop := bulkCutsRow.holds Tryz.pinned (OpenSpec.ofChange bulkCutsWrong)

/-- 'versionmaplaw15.BulkPartsJoin': WHATEVER THE INPUT: true; the input reads as it did. -/
def bulkPartsJoinSpec : ChangeSpec := { name := "bulkPartsJoin", fn := fun _ => fun
  | [d1, d2, d3, d4] => { results := [.lit (.bool true)], args := [d1, d2, d3, d4] }
  | _ => none }
def bulkPartsJoinRow : OpenClaim := { program := "ytnimbgcploohiaagreat", sum := "e3445323dcc3cfbf3f694985877a06c6c43394b2416178d38d3a5f9f8c0a961e", func := "versionmap/versionmaplaw15.BulkPartsJoin", spec := "bulkPartsJoin", recurses := true, apart := false }
def BulkPartsJoinSaid : Prop := bulkPartsJoinRow.holds Tryz.pinned (OpenSpec.ofChange bulkPartsJoinSpec)

/-- ITS FALSE NEIGHBOUR: 'it returns false'. Refute it at one input. -/
def bulkPartsJoinWrong : ChangeSpec := { name := "bulkPartsJoin", fn := fun _ => fun
  | [d1, d2, d3, d4] => { results := [.lit (.bool false)], args := [d1, d2, d3, d4] }
  | _ => none }
def BulkPartsJoinWrongFalsely : Prop := bulkPartsJoinRow.holds Tryz.pinned (OpenSpec.ofChange bulkPartsJoinWrong)

/- THE SECOND FORM. 'bulk': how many values and letters a reading holds, each counted each time it is reached (what is shared counts as often as it is met; a slice's spare places count too). A statement '..UptoSaid' is the law's where the arguments, and the package variables that the reading takes, are together of bulk at most 1048576: NARROWER than '..Said'. Prove '..Said' where nothing that the law and all that it calls make is longer than what came in: it says more and counts as full. Else prove '..UptoSaid'. A law counts once. -/
mutual
def uptoBulk {H : Type} : DataW H → Nat
  | .lit (.string bytes) => bytes.length + 1
  | .lit _ => 1
  | .nil => 1
  | .ptr d => uptoBulk d + 1
  | .slice elems spare => uptoBulkAll elems + uptoBulkAll spare + 1
  | .agg parts => uptoBulkAll parts + 1
  | .iface _ d => uptoBulk d + 1
  | .map entries => uptoBulkEntries entries + 1
  | .held _ => 1
def uptoBulkAll {H : Type} : List (DataW H) → Nat
  | [] => 0
  | d :: r => uptoBulk d + uptoBulkAll r
def uptoBulkEntries {H : Type} : List (Lit × DataW H) → Nat
  | [] => 0
  | x :: r => uptoBulkEntry x + uptoBulkEntries r
def uptoBulkEntry {H : Type} : Lit × DataW H → Nat
  | (.string bytes, d) => bytes.length + uptoBulk d + 1
  | (_, d) => uptoBulk d + 1
 end
def uptoSmall : (H : Type) → List (DataW H) → Bool := fun _ ds => decide (uptoBulkAll ds ≤ 1048576)
def OpenSpec.upto (s : _root_.Go.ChangeSpec) : _root_.Go.OpenSpec := { _root_.Go.OpenSpec.ofChange s with cond := some uptoSmall }

/-- 'versionmaplaw15.BulkCuts', WHERE WHAT IT READS IS OF BULK AT MOST 1048576: true; the input reads as it did. -/
def bulkCutsUptoRow : OpenClaim := { program := "ytnimbgcploohiaagreat", sum := "e3445323dcc3cfbf3f694985877a06c6c43394b2416178d38d3a5f9f8c0a961e", func := "versionmap/versionmaplaw15.BulkCuts", spec := "bulkCuts", recurses := true, apart := false, narrowed := true }
def BulkCutsUptoSaid : Prop := bulkCutsUptoRow.holds Tryz.pinned (OpenSpec.upto bulkCutsSpec)

/-- 'versionmaplaw15.BulkPartsJoin', WHERE WHAT IT READS IS OF BULK AT MOST 1048576: true; the input reads as it did. -/
def bulkPartsJoinUptoRow : OpenClaim := { program := "ytnimbgcploohiaagreat", sum := "e3445323dcc3cfbf3f694985877a06c6c43394b2416178d38d3a5f9f8c0a961e", func := "versionmap/versionmaplaw15.BulkPartsJoin", spec := "bulkPartsJoin", recurses := true, apart := false, narrowed := true }
def BulkPartsJoinUptoSaid : Prop := bulkPartsJoinUptoRow.holds Tryz.pinned (OpenSpec.upto bulkPartsJoinSpec)

end Rows
end Go.Proofs.YtnimbgcploohiaaGreat
