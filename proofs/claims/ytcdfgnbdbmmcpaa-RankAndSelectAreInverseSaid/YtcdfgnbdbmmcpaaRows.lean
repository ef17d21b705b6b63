/-
  No cell of these rows narrows 'for every input' (looked for: loops, veiled, ifaces, maps, wideKeys, modest, calm, conditions, laid).
  DERIVED. THE GIVEN ROWS OF THIS SEAT. 3 by the template 'for every input the law returns true; each argument reads behind the call as it read before'; 0 by the template 'total and deterministic' (their statements: YtcdfgnbdbmmcpaaTotals.lean).
  GIVEN WITH THE SEED: the statements are not yours to turn. If you find one false, say at which input.
  Laid BY PROGRAM, IN A SANDBOX (cutbox-rows.mjs): the forced cells as the released guide's own fill.sh prints them over the translation 37c7a24887d5ff2e… (all of the seat's roots in one cut). By AI agents, Wed Nov 11 2026. No macro, syntax, notation, axiom, sorry.
-/
import Derived.Test.YtcdfgnbdbmmcpaaChecked
import GoSem.Claim
import GoSem.ClaimJoined
import GoSem.ClaimMapViews
import Derived.JoinedTies
import Derived.KernelRfl
namespace Go.Proofs.Ytcdfgnbdbmmcpaa
/- THE CELL 'sum', in the pinned program and in every row, IS THE sha256 OF THE DUMP (.gsa) THAT YtcdfgnbdbmmcpaaProg.lean LOADS. Nothing in Lean hashes anything: it is a label: what it is worth is what the hold of that sum in a sandbox is worth. -/
noncomputable def Try.pinned : Pinned := { name := "ytcdfgnbdbmmcpaa", sum := "37c7a24887d5ff2ef8275956a0b0e6a114d587abefd7f81142a114982526efe1", checked := Try.checked }
namespace Rows
def none {H : Type} : Left H := { results := [], args := [] }

/-- 'versionmaplaw10.RankAgrees': WHATEVER THE INPUT: true; the input reads as it did. -/
def rankAgreesSpec : ChangeSpec := { name := "rankAgrees", fn := fun _ => fun
  | [d1, d2, d3, d4, d5, d6] => { results := [.lit (.bool true)], args := [d1, d2, d3, d4, d5, d6] }
  | _ => none }
def rankAgreesRow : OpenClaim := { program := "ytcdfgnbdbmmcpaa", sum := "37c7a24887d5ff2ef8275956a0b0e6a114d587abefd7f81142a114982526efe1", func := "versionmap/versionmaplaw10.RankAgrees", spec := "rankAgrees", recurses := true, apart := false }
def RankAgreesSaid : Prop := rankAgreesRow.holds Try.pinned (OpenSpec.ofChange rankAgreesSpec)

/-- ITS FALSE NEIGHBOUR: 'it returns false'. Refute it at one input. -/
def rankAgreesWrong : ChangeSpec := { name := "rankAgrees", fn := fun _ => fun
  | [d1, d2, d3, d4, d5, d6] => { results := [.lit (.bool false)], args := [d1, d2, d3, d4, d5, d6] }
  | _ => none }
def RankAgreesWrongFalsely : Prop := rankAgreesRow.holds Try.pinned (OpenSpec.ofChange rankAgreesWrong)

/-- 'versionmaplaw10.RankAndSelectAreInverse': WHATEVER THE INPUT: true; the input reads as it did. -/
def rankAndSelectAreInverseSpec : ChangeSpec := { name := "rankAndSelectAreInverse", fn := fun _ => fun
  | [d1, d2, d3] => { results := [.lit (.bool true)], args := [d1, d2, d3] }
  | _ => none }
def rankAndSelectAreInverseRow : OpenClaim := { program := "ytcdfgnbdbmmcpaa", sum := "37c7a24887d5ff2ef8275956a0b0e6a114d587abefd7f81142a114982526efe1", func := "versionmap/versionmaplaw10.RankAndSelectAreInverse", spec := "rankAndSelectAreInverse", recurses := true, apart := false }
def RankAndSelectAreInverseSaid : Prop := rankAndSelectAreInverseRow.holds Try.pinned (OpenSpec.ofChange rankAndSelectAreInverseSpec)

/-- ITS FALSE NEIGHBOUR: 'it returns false'. Refute it at one input. -/
def rankAndSelectAreInverseWrong : ChangeSpec := { name := "rankAndSelectAreInverse", fn := fun _ => fun
  | [d1, d2, d3] => { results := [.lit (.bool false)], args := [d1, d2, d3] }
  | _ => none }
def RankAndSelectAreInverseWrongFalsely : Prop := rankAndSelectAreInverseRow.holds Try.pinned (OpenSpec.ofChange rankAndSelectAreInverseWrong)

/-- 'versionmaplaw10.RankCountsAdd': WHATEVER THE INPUT: true; the input reads as it did. -/
def rankCountsAddSpec : ChangeSpec := { name := "rankCountsAdd", fn := fun _ => fun
  | [d1, d2, d3, d4, d5] => { results := [.lit (.bool true)], args := [d1, d2, d3, d4, d5] }
  | _ => none }
def rankCountsAddRow : OpenClaim := { program := "ytcdfgnbdbmmcpaa", sum := "37c7a24887d5ff2ef8275956a0b0e6a114d587abefd7f81142a114982526efe1", func := "versionmap/versionmaplaw10.RankCountsAdd", spec := "rankCountsAdd", recurses := true, apart := false }
def RankCountsAddSaid : Prop := rankCountsAddRow.holds Try.pinned (OpenSpec.ofChange rankCountsAddSpec)

/-- ITS FALSE NEIGHBOUR: 'it returns false'. Refute it at one input. -/
def rankCountsAddWrong : ChangeSpec := { name := "rankCountsAdd", fn := fun _ => fun
  | [d1, d2, d3, d4, d5] => { results := [.lit (.bool false)], args := [d1, d2, d3, d4, d5] }
  | _ => none }
def RankCountsAddWrongFalsely : Prop := rankCountsAddRow.holds Try.pinned (OpenSpec.ofChange rankCountsAddWrong)

/- THE SECOND FORM. 'bulk': how many values and letters a reading holds, each counted each time it is reached (what is shared counts as often as it is met; a slice's spare places count too). A statement '..UptoSaid' is the law's where the arguments, and the package variables that the reading takes, are together of bulk at most 1048576: NARROWER than '..Said'. Prove '..Said' where nothing that the law and all that it calls make is longer than what came in: it says more and counts as full. Else prove '..UptoSaid'. A law counts once. -/
mutual
def uptoBulk {H : Type} : DataW H → Nat
  | .lit (.string bytes) => bytes.length + 1
  | .lit _ => 1
  | .nil => 1
  | .ptr d => uptoBulk d + 1
  | .slice elems spare => uptoBulkAll elems + uptoBulkAll spare + 1
  | .agg parts => uptoBulkAll parts + 1
  | .iface _ d => uptoBulk d + 1
  | .map entries => uptoBulkEntries entries + 1
  | .held _ => 1
def uptoBulkAll {H : Type} : List (DataW H) → Nat
  | [] => 0
  | d :: r => uptoBulk d + uptoBulkAll r
def uptoBulkEntries {H : Type} : List (Lit × DataW H) → Nat
  | [] => 0
  | x :: r => uptoBulkEntry x + uptoBulkEntries r
def uptoBulkEntry {H : Type} : Lit × DataW H → Nat
  | (.string bytes, d) => bytes.length + uptoBulk d + 1
  | (_, d) => uptoBulk d + 1
 end
def uptoSmall : (H : Type) → List (DataW H) → Bool := fun _ ds => decide (uptoBulkAll ds ≤ 1048576)
def OpenSpec.upto (s : _root_.Go.ChangeSpec) : _root_.Go.OpenSpec := { _root_.Go.OpenSpec.ofChange s with cond := some uptoSmall }

/-- 'versionmaplaw10.RankAgrees', WHERE WHAT IT READS IS OF BULK AT MOST 1048576: true; the input reads as it did. -/
def rankAgreesUptoRow : OpenClaim := { program := "ytcdfgnbdbmmcpaa", sum := "37c7a24887d5ff2ef8275956a0b0e6a114d587abefd7f81142a114982526efe1", func := "versionmap/versionmaplaw10.RankAgrees", spec := "rankAgrees", recurses := true, apart := false, narrowed := true }
def RankAgreesUptoSaid : Prop := rankAgreesUptoRow.holds Try.pinned (OpenSpec.upto rankAgreesSpec)

/-- 'versionmaplaw10.RankAndSelectAreInverse', WHERE WHAT IT READS IS OF BULK AT MOST 1048576: true; the input reads as it did. -/
def rankAndSelectAreInverseUptoRow : OpenClaim := { program := "ytcdfgnbdbmmcpaa", sum := "37c7a24887d5ff2ef8275956a0b0e6a114d587abefd7f81142a114982526efe1", func := "versionmap/versionmaplaw10.RankAndSelectAreInverse", spec := "rankAndSelectAreInverse", recurses := true, apart := false, narrowed := true }
def RankAndSelectAreInverseUptoSaid : Prop := rankAndSelectAreInverseUptoRow.holds Try.pinned (OpenSpec.upto rankAndSelectAreInverseSpec)

/-- 'versionmaplaw10.RankCountsAdd', WHERE WHAT IT READS IS OF BULK AT MOST 1048576: true; the input reads as it did. -/
def rankCountsAddUptoRow : OpenClaim := { program := "ytcdfgnbdbmmcpaa", sum := "37c7a24887d5ff2ef8275956a0b0e6a114d587abefd7f81142a114982526efe1", func := "versionmap/versionmaplaw10.RankCountsAdd", spec := "rankCountsAdd", recurses := true, apart := false, narrowed := true }
def RankCountsAddUptoSaid : Prop := rankCountsAddUptoRow.holds Try.pinned (OpenSpec.upto rankCountsAddSpec)

end Rows
end Go.Proofs.Ytcdfgnbdbmmcpaa
