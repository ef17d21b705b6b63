/-
  No cell of these rows narrows 'for every input' (looked for: loops, veiled, ifaces, maps, wideKeys, modest, calm, conditions, laid).
  DERIVED. THE GIVEN ROWS OF THIS SEAT. 5 by the template 'for every input the law returns true; each argument reads behind the call as it read before'; 0 by the template 'total and deterministic' (their statements: YtckkmmdibgoajaaGreatTotals.lean).
  GIVEN WITH THE SEED: the statements are not yours to turn. If you find one false, say at which input.
  Laid BY PROGRAM, IN A SANDBOX (cutbox-rows.mjs): the forced cells as the released guide's own fill.sh prints them over the translation a584bc585db3b841… (all of the seat's roots in one cut). By AI agents, Wed Nov 11 2026. No macro, syntax, notation, axiom, sorry.
-/
import Derived.Test.YtckkmmdibgoajaaGreatChecked
import GoSem.Claim
import GoSem.ClaimJoined
import GoSem.ClaimMapViews
import Derived.JoinedTies
import Derived.KernelRfl
namespace Go.Proofs.YtckkmmdibgoajaaGreat
/- THE CELL 'sum', in the pinned program and in every row, IS THE sha256 OF THE DUMP (.gsa) THAT YtckkmmdibgoajaaGreatProg.lean LOADS. Nothing in Lean hashes anything: it is a label: what it is worth is what the hold of that sum in a sandbox is worth. -/
noncomputable def Tryz.pinned : Pinned := { name := "ytckkmmdibgoajaagreat", sum := "a584bc585db3b841c07601d850a7c44ee8fbb91a892a11a9aa3cbb643d2db81c", checked := Tryz.checked }
namespace Rows
def none {H : Type} : Left H := { results := [], args := [] }

/-- 'versionmaplaw14.UpdateInserts': WHATEVER THE INPUT: true; the input reads as it did. -/
def updateInsertsSpec : ChangeSpec := { name := "updateInserts", fn := fun _ => fun
  | [d1, d2, d3, d4, d5] => { results := [.lit (.bool true)], args := [d1, d2, d3, d4, d5] }
  | _ => none }
def updateInsertsRow : OpenClaim := { program := "ytckkmmdibgoajaagreat", sum := "a584bc585db3b841c07601d850a7c44ee8fbb91a892a11a9aa3cbb643d2db81c", func := "versionmap/versionmaplaw14.UpdateInserts", spec := "updateInserts", recurses := true, apart := false }
def UpdateInsertsSaid : Prop := updateInsertsRow.holds Tryz.pinned (OpenSpec.ofChange updateInsertsSpec)

/-- ITS FALSE NEIGHBOUR: 'it returns false'. Refute it at one input. -/
def updateInsertsWrong : ChangeSpec := { name := "updateInserts", fn := fun _ => fun
  | [d1, d2, d3, d4, d5] => { results := [.lit (.bool false)], args := [d1, d2, d3, d4, d5] }
  | _ => none }
def UpdateInsertsWrongFalsely : Prop := updateInsertsRow.holds Tryz.pinned (OpenSpec.ofChange updateInsertsWrong)

/-- 'versionmaplaw14.UpdateDeletes': WHATEVER THE INPUT: true; the input reads as it did. -/
def updateDeletesSpec : ChangeSpec := { name := "updateDeletes", fn := fun _ => fun
  | [d1, d2, d3, d4, d5] => { results := [.lit (.bool true)], args := [d1, d2, d3, d4, d5] }
  | _ => none }
def updateDeletesRow : OpenClaim := { program := "ytckkmmdibgoajaagreat", sum := "a584bc585db3b841c07601d850a7c44ee8fbb91a892a11a9aa3cbb643d2db81c", func := "versionmap/versionmaplaw14.UpdateDeletes", spec := "updateDeletes", recurses := true, apart := false }
def UpdateDeletesSaid : Prop := updateDeletesRow.holds Tryz.pinned (OpenSpec.ofChange updateDeletesSpec)

/-- ITS FALSE NEIGHBOUR: 'it returns false'. Refute it at one input. -/
def updateDeletesWrong : ChangeSpec := { name := "updateDeletes", fn := fun _ => fun
  | [d1, d2, d3, d4, d5] => { results := [.lit (.bool false)], args := [d1, d2, d3, d4, d5] }
  | _ => none }
def UpdateDeletesWrongFalsely : Prop := updateDeletesRow.holds Tryz.pinned (OpenSpec.ofChange updateDeletesWrong)

/-- 'versionmaplaw13.JoinJoins': WHATEVER THE INPUT: true; the input reads as it did. -/
def joinJoinsSpec : ChangeSpec := { name := "joinJoins", fn := fun _ => fun
  | [d1, d2, d3, d4, d5, d6, d7] => { results := [.lit (.bool true)], args := [d1, d2, d3, d4, d5, d6, d7] }
  | _ => none }
def joinJoinsRow : OpenClaim := { program := "ytckkmmdibgoajaagreat", sum := "a584bc585db3b841c07601d850a7c44ee8fbb91a892a11a9aa3cbb643d2db81c", func := "versionmap/versionmaplaw13.JoinJoins", spec := "joinJoins", recurses := true, apart := false }
def JoinJoinsSaid : Prop := joinJoinsRow.holds Tryz.pinned (OpenSpec.ofChange joinJoinsSpec)

/-- ITS FALSE NEIGHBOUR: 'it returns false'. Refute it at one input. -/
def joinJoinsWrong : ChangeSpec := { name := "joinJoins", fn := fun _ => fun
  | [d1, d2, d3, d4, d5, d6, d7] => { results := [.lit (.bool false)], args := [d1, d2, d3, d4, d5, d6, d7] }
  | _ => none }
def JoinJoinsWrongFalsely : Prop := joinJoinsRow.holds Tryz.pinned (OpenSpec.ofChange joinJoinsWrong)

/-- 'versionmaplaw13.JoinConcatenates': WHATEVER THE INPUT: true; the input reads as it did. -/
def joinConcatenatesSpec : ChangeSpec := { name := "joinConcatenates", fn := fun _ => fun
  | [d1, d2, d3, d4, d5, d6] => { results := [.lit (.bool true)], args := [d1, d2, d3, d4, d5, d6] }
  | _ => none }
def joinConcatenatesRow : OpenClaim := { program := "ytckkmmdibgoajaagreat", sum := "a584bc585db3b841c07601d850a7c44ee8fbb91a892a11a9aa3cbb643d2db81c", func := "versionmap/versionmaplaw13.JoinConcatenates", spec := "joinConcatenates", recurses := true, apart := false }
def JoinConcatenatesSaid : Prop := joinConcatenatesRow.holds Tryz.pinned (OpenSpec.ofChange joinConcatenatesSpec)

/-- ITS FALSE NEIGHBOUR: 'it returns false'. Refute it at one input. -/
def joinConcatenatesWrong : ChangeSpec := { name := "joinConcatenates", fn := fun _ => fun
  | [d1, d2, d3, d4, d5, d6] => { results := [.lit (.bool false)], args := [d1, d2, d3, d4, d5, d6] }
  | _ => none }
def JoinConcatenatesWrongFalsely : Prop := joinConcatenatesRow.holds Tryz.pinned (OpenSpec.ofChange joinConcatenatesWrong)

/-- 'versionmaplaw13.JoinSplits': WHATEVER THE INPUT: true; the input reads as it did. -/
def joinSplitsSpec : ChangeSpec := { name := "joinSplits", fn := fun _ => fun
  | [d1, d2, d3, d4, d5] => { results := [.lit (.bool true)], args := [d1, d2, d3, d4, d5] }
  | _ => none }
def joinSplitsRow : OpenClaim := { program := "ytckkmmdibgoajaagreat", sum := "a584bc585db3b841c07601d850a7c44ee8fbb91a892a11a9aa3cbb643d2db81c", func := "versionmap/versionmaplaw13.JoinSplits", spec := "joinSplits", recurses := true, apart := false }
def JoinSplitsSaid : Prop := joinSplitsRow.holds Tryz.pinned (OpenSpec.ofChange joinSplitsSpec)

/-- ITS FALSE NEIGHBOUR: 'it returns false'. Refute it at one input. -/
def joinSplitsWrong : ChangeSpec := { name := "joinSplits", fn := fun _ => fun
  | [d1, d2, d3, d4, d5] => { results := [.lit (.bool false)], args := [d1, d2, d3, d4, d5] }
  | _ => none }
def JoinSplitsWrongFalsely : Prop := joinSplitsRow.holds Tryz.pinned (OpenSpec.ofChange joinSplitsWrong)

/- THE SECOND FORM. 'bulk': how many values and letters a reading holds, each counted each time it is reached (what is shared counts as often as it is met; a slice's spare places count too). A statement '..UptoSaid' is the law's where the arguments, and the package variables that the reading takes, are together of bulk at most 1048576: NARROWER than '..Said'. Prove '..Said' where nothing that the law and all that it calls make is longer than what came in: it says more and counts as full. Else prove '..UptoSaid'. A law counts once. -/
mutual
def uptoBulk {H : Type} : DataW H → Nat
  | .lit (.string bytes) => bytes.length + 1
  | .lit _ => 1
  | .nil => 1
  | .ptr d => uptoBulk d + 1
  | .slice elems spare => uptoBulkAll elems + uptoBulkAll spare + 1
  | .agg parts => uptoBulkAll parts + 1
  | .iface _ d => uptoBulk d + 1
  | .map entries => uptoBulkEntries entries + 1
  | .held _ => 1
def uptoBulkAll {H : Type} : List (DataW H) → Nat
  | [] => 0
  | d :: r => uptoBulk d + uptoBulkAll r
def uptoBulkEntries {H : Type} : List (Lit × DataW H) → Nat
  | [] => 0
  | x :: r => uptoBulkEntry x + uptoBulkEntries r
def uptoBulkEntry {H : Type} : Lit × DataW H → Nat
  | (.string bytes, d) => bytes.length + uptoBulk d + 1
  | (_, d) => uptoBulk d + 1
 end
def uptoSmall : (H : Type) → List (DataW H) → Bool := fun _ ds => decide (uptoBulkAll ds ≤ 1048576)
def OpenSpec.upto (s : _root_.Go.ChangeSpec) : _root_.Go.OpenSpec := { _root_.Go.OpenSpec.ofChange s with cond := some uptoSmall }

/-- 'versionmaplaw14.UpdateInserts', WHERE WHAT IT READS IS OF BULK AT MOST 1048576: true; the input reads as it did. -/
def updateInsertsUptoRow : OpenClaim := { program := "ytckkmmdibgoajaagreat", sum := "a584bc585db3b841c07601d850a7c44ee8fbb91a892a11a9aa3cbb643d2db81c", func := "versionmap/versionmaplaw14.UpdateInserts", spec := "updateInserts", recurses := true, apart := false, narrowed := true }
def UpdateInsertsUptoSaid : Prop := updateInsertsUptoRow.holds Tryz.pinned (OpenSpec.upto updateInsertsSpec)

/-- 'versionmaplaw14.UpdateDeletes', WHERE WHAT IT READS IS OF BULK AT MOST 1048576: true; the input reads as it did. -/
def updateDeletesUptoRow : OpenClaim := { program := "ytckkmmdibgoajaagreat", sum := "a584bc585db3b841c07601d850a7c44ee8fbb91a892a11a9aa3cbb643d2db81c", func := "versionmap/versionmaplaw14.UpdateDeletes", spec := "updateDeletes", recurses := true, apart := false, narrowed := true }
def UpdateDeletesUptoSaid : Prop := updateDeletesUptoRow.holds Tryz.pinned (OpenSpec.upto updateDeletesSpec)

/-- 'versionmaplaw13.JoinJoins', WHERE WHAT IT READS IS OF BULK AT MOST 1048576: true; the input reads as it did. -/
def joinJoinsUptoRow : OpenClaim := { program := "ytckkmmdibgoajaagreat", sum := "a584bc585db3b841c07601d850a7c44ee8fbb91a892a11a9aa3cbb643d2db81c", func := "versionmap/versionmaplaw13.JoinJoins", spec := "joinJoins", recurses := true, apart := false, narrowed := true }
def JoinJoinsUptoSaid : Prop := joinJoinsUptoRow.holds Tryz.pinned (OpenSpec.upto joinJoinsSpec)

/-- 'versionmaplaw13.JoinConcatenates', WHERE WHAT IT READS IS OF BULK AT MOST 1048576: true; the input reads as it did. -/
def joinConcatenatesUptoRow : OpenClaim := { program := "ytckkmmdibgoajaagreat", sum := "a584bc585db3b841c07601d850a7c44ee8fbb91a892a11a9aa3cbb643d2db81c", func := "versionmap/versionmaplaw13.JoinConcatenates", spec := "joinConcatenates", recurses := true, apart := false, narrowed := true }
def JoinConcatenatesUptoSaid : Prop := joinConcatenatesUptoRow.holds Tryz.pinned (OpenSpec.upto joinConcatenatesSpec)

/-- 'versionmaplaw13.JoinSplits', WHERE WHAT IT READS IS OF BULK AT MOST 1048576: true; the input reads as it did. -/
def joinSplitsUptoRow : OpenClaim := { program := "ytckkmmdibgoajaagreat", sum := "a584bc585db3b841c07601d850a7c44ee8fbb91a892a11a9aa3cbb643d2db81c", func := "versionmap/versionmaplaw13.JoinSplits", spec := "joinSplits", recurses := true, apart := false, narrowed := true }
def JoinSplitsUptoSaid : Prop := joinSplitsUptoRow.holds Tryz.pinned (OpenSpec.upto joinSplitsSpec)

end Rows
end Go.Proofs.YtckkmmdibgoajaaGreat
