/-
  No cell of these rows narrows 'for every input' (looked for: loops, veiled, ifaces, maps, wideKeys, modest, calm, conditions, laid).
  DERIVED. THE GIVEN ROWS OF THIS SEAT. 3 by the template 'for every input the law returns true; each argument reads behind the call as it read before'; 0 by the template 'total and deterministic' (their statements: YtnimbgcploohiaaTotals.lean).
  GIVEN WITH THE SEED: the statements are not yours to turn. If you find one false, say at which input.
  Laid BY PROGRAM, IN A SANDBOX (cutbox-rows.mjs): the forced cells as the released guide's own fill.sh prints them over the translation 9443b8bd15f1b706… (all of the seat's roots in one cut). By AI agents, Wed Nov 11 2026. No macro, syntax, notation, axiom, sorry.
-/
import Derived.Test.YtnimbgcploohiaaChecked
import GoSem.Claim
import GoSem.ClaimJoined
import GoSem.ClaimMapViews
import Derived.JoinedTies
import Derived.KernelRfl
namespace Go.Proofs.Ytnimbgcploohiaa
/- THE CELL 'sum', in the pinned program and in every row, IS THE sha256 OF THE DUMP (.gsa) THAT YtnimbgcploohiaaProg.lean LOADS. Nothing in Lean hashes anything: it is a label: what it is worth is what the hold of that sum in a sandbox is worth. -/
noncomputable def Try.pinned : Pinned := { name := "ytnimbgcploohiaa", sum := "9443b8bd15f1b706067743149d96613fe7011a3faaf7e332c9d3aa035ed16df0", checked := Try.checked }
namespace Rows
def none {H : Type} : Left H := { results := [], args := [] }

/-- 'versionmaplaw15.BulkBuilds': WHATEVER THE INPUT: true; the input reads as it did. -/
def bulkBuildsSpec : ChangeSpec := { name := "bulkBuilds", fn := fun _ => fun
  | [d1, d2, d3] => { results := [.lit (.bool true)], args := [d1, d2, d3] }
  | _ => none }
def bulkBuildsRow : OpenClaim := { program := "ytnimbgcploohiaa", sum := "9443b8bd15f1b706067743149d96613fe7011a3faaf7e332c9d3aa035ed16df0", func := "versionmap/versionmaplaw15.BulkBuilds", spec := "bulkBuilds", recurses := true, apart := false }
def BulkBuildsSaid : Prop := bulkBuildsRow.holds Try.pinned (OpenSpec.ofChange bulkBuildsSpec)

/-- ITS FALSE NEIGHBOUR: 'it returns false'. Refute it at one input. -/
def bulkBuildsWrong : ChangeSpec := { name := "bulkBuilds", fn := fun _ => fun
  | [d1, d2, d3] => { results := [.lit (.bool false)], args := [d1, d2, d3] }
  | _ => none }
def BulkBuildsWrongFalsely : Prop := bulkBuildsRow.holds Try.pinned (OpenSpec.ofChange bulkBuildsWrong)

/-- 'versionmaplaw15.BulkLists': WHATEVER THE INPUT: true; the input reads as it did. -/
def bulkListsSpec : ChangeSpec := { name := "bulkLists", fn := fun _ => fun
  | [d1, d2, d3, d4, d5, d6, d7] => { results := [.lit (.bool true)], args := [d1, d2, d3, d4, d5, d6, d7] }
  | _ => none }
def bulkListsRow : OpenClaim := { program := "ytnimbgcploohiaa", sum := "9443b8bd15f1b706067743149d96613fe7011a3faaf7e332c9d3aa035ed16df0", func := "versionmap/versionmaplaw15.BulkLists", spec := "bulkLists", recurses := true, apart := false }
def BulkListsSaid : Prop := bulkListsRow.holds Try.pinned (OpenSpec.ofChange bulkListsSpec)

/-- ITS FALSE NEIGHBOUR: 'it returns false'. Refute it at one input. -/
def bulkListsWrong : ChangeSpec := { name := "bulkLists", fn := fun _ => fun
  | [d1, d2, d3, d4, d5, d6, d7] => { results := [.lit (.bool false)], args := [d1, d2, d3, d4, d5, d6, d7] }
  | _ => none }
def BulkListsWrongFalsely : Prop := bulkListsRow.holds Try.pinned (OpenSpec.ofChange bulkListsWrong)

/-- 'versionmaplaw15.BulkSlicesRank': WHATEVER THE INPUT: true; the input reads as it did. -/
def bulkSlicesRankSpec : ChangeSpec := { name := "bulkSlicesRank", fn := fun _ => fun
  | [d1, d2, d3, d4] => { results := [.lit (.bool true)], args := [d1, d2, d3, d4] }
  | _ => none }
def bulkSlicesRankRow : OpenClaim := { program := "ytnimbgcploohiaa", sum := "9443b8bd15f1b706067743149d96613fe7011a3faaf7e332c9d3aa035ed16df0", func := "versionmap/versionmaplaw15.BulkSlicesRank", spec := "bulkSlicesRank", recurses := true, apart := false }
def BulkSlicesRankSaid : Prop := bulkSlicesRankRow.holds Try.pinned (OpenSpec.ofChange bulkSlicesRankSpec)

/-- ITS FALSE NEIGHBOUR: 'it returns false'. Refute it at one input. -/
def bulkSlicesRankWrong : ChangeSpec := { name := "bulkSlicesRank", fn := fun _ => fun
  | [d1, d2, d3, d4] => { results := [.lit (.bool false)], args := [d1, d2, d3, d4] }
  | _ => none }
def BulkSlicesRankWrongFalsely : Prop := bulkSlicesRankRow.holds Try.pinned (OpenSpec.ofChange bulkSlicesRankWrong)

/- THE SECOND FORM. 'bulk': how many values and letters a reading holds, each counted each time it is reached (what is shared counts as often as it is met; a slice's spare places count too). A statement '..UptoSaid' is the law's where the arguments, and the package variables that the reading takes, are together of bulk at most 1048576: NARROWER than '..Said'. Prove '..Said' where nothing that the law and all that it calls make is longer than what came in: it says more and counts as full. Else prove '..UptoSaid'. A law counts once. -/
mutual
def uptoBulk {H : Type} : DataW H → Nat
  | .lit (.string bytes) => bytes.length + 1
  | .lit _ => 1
  | .nil => 1
  | .ptr d => uptoBulk d + 1
  | .slice elems spare => uptoBulkAll elems + uptoBulkAll spare + 1
  | .agg parts => uptoBulkAll parts + 1
  | .iface _ d => uptoBulk d + 1
  | .map entries => uptoBulkEntries entries + 1
  | .held _ => 1
def uptoBulkAll {H : Type} : List (DataW H) → Nat
  | [] => 0
  | d :: r => uptoBulk d + uptoBulkAll r
def uptoBulkEntries {H : Type} : List (Lit × DataW H) → Nat
  | [] => 0
  | x :: r => uptoBulkEntry x + uptoBulkEntries r
def uptoBulkEntry {H : Type} : Lit × DataW H → Nat
  | (.string bytes, d) => bytes.length + uptoBulk d + 1
  | (_, d) => uptoBulk d + 1
 end
def uptoSmall : (H : Type) → List (DataW H) → Bool := fun _ ds => decide (uptoBulkAll ds ≤ 1048576)
def OpenSpec.upto (s : _root_.Go.ChangeSpec) : _root_.Go.OpenSpec := { _root_.Go.OpenSpec.ofChange s with cond := some uptoSmall }

/-- 'versionmaplaw15.BulkBuilds', WHERE WHAT IT READS IS OF BULK AT MOST 1048576: true; the input reads as it did. -/
def bulkBuildsUptoRow : OpenClaim := { program := "ytnimbgcploohiaa", sum := "9443b8bd15f1b706067743149d96613fe7011a3faaf7e332c9d3aa035ed16df0", func := "versionmap/versionmaplaw15.BulkBuilds", spec := "bulkBuilds", recurses := true, apart := false, narrowed := true }
def BulkBuildsUptoSaid : Prop := bulkBuildsUptoRow.holds Try.pinned (OpenSpec.upto bulkBuildsSpec)

/-- 'versionmaplaw15.BulkLists', WHERE WHAT IT READS IS OF BULK AT MOST 1048576: true; the input reads as it did. -/
def bulkListsUptoRow : OpenClaim := { program := "ytnimbgcploohiaa", sum := "9443b8bd15f1b706067743149d96613fe7011a3faaf7e332c9d3aa035ed16df0", func := "versionmap/versionmaplaw15.BulkLists", spec := "bulkLists", recurses := true, apart := false, narrowed := true }
def BulkListsUptoSaid : Prop := bulkListsUptoRow.holds Try.pinned (OpenSpec.upto bulkListsSpec)

/-- 'versionmaplaw15.BulkSlicesRank', WHERE WHAT IT READS IS OF BULK AT MOST 1048576: true; the input reads as it did. -/
def bulkSlicesRankUptoRow : OpenClaim := { program := "ytnimbgcploohiaa", sum := "9443b8bd15f1b706067743149d96613fe7011a3faaf7e332c9d3aa035ed16df0", func := "versionmap/versionmaplaw15.BulkSlicesRank", spec := "bulkSlicesRank", recurses := true, apart := false, narrowed := true }
def BulkSlicesRankUptoSaid : Prop := bulkSlicesRankUptoRow.holds Try.pinned (OpenSpec.upto bulkSlicesRankSpec)

end Rows
end Go.Proofs.Ytnimbgcploohiaa
