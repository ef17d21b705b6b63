/-
  No cell of these rows narrows 'for every input' (looked for: loops, veiled, ifaces, maps, wideKeys, modest, calm, conditions, laid).
  DERIVED. THE GIVEN ROWS OF THIS SEAT. 5 by the template 'for every input the law returns true; each argument reads behind the call as it read before'; 0 by the template 'total and deterministic' (their statements: YtfihklpofmcfgaaGreatTotals.lean).
  GIVEN WITH THE SEED: the statements are not yours to turn. If you find one false, say at which input.
  Laid BY PROGRAM, IN A SANDBOX (cutbox-rows.mjs): the forced cells as the released guide's own fill.sh prints them over the translation 6e11ebb4a18b5184… (all of the seat's roots in one cut). By AI agents, Wed Nov 11 2026. No macro, syntax, notation, axiom, sorry.
-/
import Derived.Test.YtfihklpofmcfgaaGreatChecked
import GoSem.Claim
import GoSem.ClaimJoined
import GoSem.ClaimMapViews
import Derived.JoinedTies
import Derived.KernelRfl
namespace Go.Proofs.YtfihklpofmcfgaaGreat
/- THE CELL 'sum', in the pinned program and in every row, IS THE sha256 OF THE DUMP (.gsa) THAT YtfihklpofmcfgaaGreatProg.lean LOADS. Nothing in Lean hashes anything: it is a label: what it is worth is what the hold of that sum in a sandbox is worth. -/
noncomputable def Tryz.pinned : Pinned := { name := "ytfihklpofmcfgaagreat", sum := "6e11ebb4a18b51843c2e060abafe5efc519e27a624d4e767176b9cf7df87c0ea", checked := Tryz.checked }
namespace Rows
def none {H : Type} : Left H := { results := [], args := [] }

/-- 'versionmaplaw16.SetopsUnion': WHATEVER THE INPUT: true; the input reads as it did. -/
def setopsUnionSpec : ChangeSpec := { name := "setopsUnion", fn := fun _ => fun
  | [d1, d2, d3, d4, d5, d6] => { results := [.lit (.bool true)], args := [d1, d2, d3, d4, d5, d6] }
  | _ => none }
def setopsUnionRow : OpenClaim := { program := "ytfihklpofmcfgaagreat", sum := "6e11ebb4a18b51843c2e060abafe5efc519e27a624d4e767176b9cf7df87c0ea", func := "versionmap/versionmaplaw16.SetopsUnion", spec := "setopsUnion", recurses := true, apart := false }
def SetopsUnionSaid : Prop := setopsUnionRow.holds Tryz.pinned (OpenSpec.ofChange setopsUnionSpec)

/-- ITS FALSE NEIGHBOUR: 'it returns false'. Refute it at one input. -/
def setopsUnionWrong : ChangeSpec := { name := "setopsUnion", fn := fun _ => fun
  | [d1, d2, d3, d4, d5, d6] => { results := [.lit (.bool false)], args := [d1, d2, d3, d4, d5, d6] }
  | _ => none }
def SetopsUnionWrongFalsely : Prop := setopsUnionRow.holds Tryz.pinned (OpenSpec.ofChange setopsUnionWrong)

/-- 'versionmaplaw16.SetopsIntersect': WHATEVER THE INPUT: true; the input reads as it did. -/
def setopsIntersectSpec : ChangeSpec := { name := "setopsIntersect", fn := fun _ => fun
  | [d1, d2, d3, d4, d5, d6] => { results := [.lit (.bool true)], args := [d1, d2, d3, d4, d5, d6] }
  | _ => none }
def setopsIntersectRow : OpenClaim := { program := "ytfihklpofmcfgaagreat", sum := "6e11ebb4a18b51843c2e060abafe5efc519e27a624d4e767176b9cf7df87c0ea", func := "versionmap/versionmaplaw16.SetopsIntersect", spec := "setopsIntersect", recurses := true, apart := false }
def SetopsIntersectSaid : Prop := setopsIntersectRow.holds Tryz.pinned (OpenSpec.ofChange setopsIntersectSpec)

/-- ITS FALSE NEIGHBOUR: 'it returns false'. Refute it at one input. -/
def setopsIntersectWrong : ChangeSpec := { name := "setopsIntersect", fn := fun _ => fun
  | [d1, d2, d3, d4, d5, d6] => { results := [.lit (.bool false)], args := [d1, d2, d3, d4, d5, d6] }
  | _ => none }
def SetopsIntersectWrongFalsely : Prop := setopsIntersectRow.holds Tryz.pinned (OpenSpec.ofChange setopsIntersectWrong)

/-- 'versionmaplaw16.SetopsSubtract': WHATEVER THE INPUT: true; the input reads as it did. -/
def setopsSubtractSpec : ChangeSpec := { name := "setopsSubtract", fn := fun _ => fun
  | [d1, d2, d3, d4, d5, d6] => { results := [.lit (.bool true)], args := [d1, d2, d3, d4, d5, d6] }
  | _ => none }
def setopsSubtractRow : OpenClaim := { program := "ytfihklpofmcfgaagreat", sum := "6e11ebb4a18b51843c2e060abafe5efc519e27a624d4e767176b9cf7df87c0ea", func := "versionmap/versionmaplaw16.SetopsSubtract", spec := "setopsSubtract", recurses := true, apart := false }
def SetopsSubtractSaid : Prop := setopsSubtractRow.holds Tryz.pinned (OpenSpec.ofChange setopsSubtractSpec)

/-- ITS FALSE NEIGHBOUR: 'it returns false'. Refute it at one input. -/
def setopsSubtractWrong : ChangeSpec := { name := "setopsSubtract", fn := fun _ => fun
  | [d1, d2, d3, d4, d5, d6] => { results := [.lit (.bool false)], args := [d1, d2, d3, d4, d5, d6] }
  | _ => none }
def SetopsSubtractWrongFalsely : Prop := setopsSubtractRow.holds Tryz.pinned (OpenSpec.ofChange setopsSubtractWrong)

/-- 'versionmaplaw16.SetopsAlgebra': WHATEVER THE INPUT: true; the input reads as it did. -/
def setopsAlgebraSpec : ChangeSpec := { name := "setopsAlgebra", fn := fun _ => fun
  | [d1, d2, d3, d4] => { results := [.lit (.bool true)], args := [d1, d2, d3, d4] }
  | _ => none }
def setopsAlgebraRow : OpenClaim := { program := "ytfihklpofmcfgaagreat", sum := "6e11ebb4a18b51843c2e060abafe5efc519e27a624d4e767176b9cf7df87c0ea", func := "versionmap/versionmaplaw16.SetopsAlgebra", spec := "setopsAlgebra", recurses := true, apart := false }
def SetopsAlgebraSaid : Prop := setopsAlgebraRow.holds Tryz.pinned (OpenSpec.ofChange setopsAlgebraSpec)

/-- ITS FALSE NEIGHBOUR: 'it returns false'. Refute it at one input. -/
def setopsAlgebraWrong : ChangeSpec := { name := "setopsAlgebra", fn := fun _ => fun
  | [d1, d2, d3, d4] => { results := [.lit (.bool false)], args := [d1, d2, d3, d4] }
  | _ => none }
def SetopsAlgebraWrongFalsely : Prop := setopsAlgebraRow.holds Tryz.pinned (OpenSpec.ofChange setopsAlgebraWrong)

/-- 'versionmaplaw16.SetopsDistribute': WHATEVER THE INPUT: true; the input reads as it did. -/
def setopsDistributeSpec : ChangeSpec := { name := "setopsDistribute", fn := fun _ => fun
  | [d1, d2, d3] => { results := [.lit (.bool true)], args := [d1, d2, d3] }
  | _ => none }
def setopsDistributeRow : OpenClaim := { program := "ytfihklpofmcfgaagreat", sum := "6e11ebb4a18b51843c2e060abafe5efc519e27a624d4e767176b9cf7df87c0ea", func := "versionmap/versionmaplaw16.SetopsDistribute", spec := "setopsDistribute", recurses := true, apart := false }
def SetopsDistributeSaid : Prop := setopsDistributeRow.holds Tryz.pinned (OpenSpec.ofChange setopsDistributeSpec)

/-- ITS FALSE NEIGHBOUR: 'it returns false'. Refute it at one input. -/
def setopsDistributeWrong : ChangeSpec := { name := "setopsDistribute", fn := fun _ => fun
  | [d1, d2, d3] => { results := [.lit (.bool false)], args := [d1, d2, d3] }
  | _ => none }
def SetopsDistributeWrongFalsely : Prop := setopsDistributeRow.holds Tryz.pinned (OpenSpec.ofChange setopsDistributeWrong)

/- THE SECOND FORM. 'bulk': how many values and letters a reading holds, each counted each time it is reached (what is shared counts as often as it is met; a slice's spare places count too). A statement '..UptoSaid' is the law's where the arguments, and the package variables that the reading takes, are together of bulk at most 1048576: NARROWER than '..Said'. Prove '..Said' where nothing that the law and all that it calls make is longer than what came in: it says more and counts as full. Else prove '..UptoSaid'. A law counts once. -/
mutual
def uptoBulk {H : Type} : DataW H → Nat
  | .lit (.string bytes) => bytes.length + 1
  | .lit _ => 1
  | .nil => 1
  | .ptr d => uptoBulk d + 1
  | .slice elems spare => uptoBulkAll elems + uptoBulkAll spare + 1
  | .agg parts => uptoBulkAll parts + 1
  | .iface _ d => uptoBulk d + 1
  | .map entries => uptoBulkEntries entries + 1
  | .held _ => 1
def uptoBulkAll {H : Type} : List (DataW H) → Nat
  | [] => 0
  | d :: r => uptoBulk d + uptoBulkAll r
def uptoBulkEntries {H : Type} : List (Lit × DataW H) → Nat
  | [] => 0
  | x :: r => uptoBulkEntry x + uptoBulkEntries r
def uptoBulkEntry {H : Type} : Lit × DataW H → Nat
  | (.string bytes, d) => bytes.length + uptoBulk d + 1
  | (_, d) => uptoBulk d + 1
 end
def uptoSmall : (H : Type) → List (DataW H) → Bool := fun _ ds => decide (uptoBulkAll ds ≤ 1048576)
def OpenSpec.upto (s : _root_.Go.ChangeSpec) : _root_.Go.OpenSpec := { _root_.Go.OpenSpec.ofChange s with cond := some uptoSmall }

/-- 'versionmaplaw16.SetopsUnion', WHERE WHAT IT READS IS OF BULK AT MOST 1048576: true; the input reads as it did. -/
def setopsUnionUptoRow : OpenClaim := { program := "ytfihklpofmcfgaagreat", sum := "6e11ebb4a18b51843c2e060abafe5efc519e27a624d4e767176b9cf7df87c0ea", func := "versionmap/versionmaplaw16.SetopsUnion", spec := "setopsUnion", recurses := true, apart := false, narrowed := true }
def SetopsUnionUptoSaid : Prop := setopsUnionUptoRow.holds Tryz.pinned (OpenSpec.upto setopsUnionSpec)

/-- 'versionmaplaw16.SetopsIntersect', WHERE WHAT IT READS IS OF BULK AT MOST 1048576: true; the input reads as it did. -/
def setopsIntersectUptoRow : OpenClaim := { program := "ytfihklpofmcfgaagreat", sum := "6e11ebb4a18b51843c2e060abafe5efc519e27a624d4e767176b9cf7df87c0ea", func := "versionmap/versionmaplaw16.SetopsIntersect", spec := "setopsIntersect", recurses := true, apart := false, narrowed := true }
def SetopsIntersectUptoSaid : Prop := setopsIntersectUptoRow.holds Tryz.pinned (OpenSpec.upto setopsIntersectSpec)

/-- 'versionmaplaw16.SetopsSubtract', WHERE WHAT IT READS IS OF BULK AT MOST 1048576: true; the input reads as it did. -/
def setopsSubtractUptoRow : OpenClaim := { program := "ytfihklpofmcfgaagreat", sum := "6e11ebb4a18b51843c2e060abafe5efc519e27a624d4e767176b9cf7df87c0ea", func := "versionmap/versionmaplaw16.SetopsSubtract", spec := "setopsSubtract", recurses := true, apart := false, narrowed := true }
def SetopsSubtractUptoSaid : Prop := setopsSubtractUptoRow.holds Tryz.pinned (OpenSpec.upto setopsSubtractSpec)

/-- 'versionmaplaw16.SetopsAlgebra', WHERE WHAT IT READS IS OF BULK AT MOST 1048576: true; the input reads as it did. -/
def setopsAlgebraUptoRow : OpenClaim := { program := "ytfihklpofmcfgaagreat", sum := "6e11ebb4a18b51843c2e060abafe5efc519e27a624d4e767176b9cf7df87c0ea", func := "versionmap/versionmaplaw16.SetopsAlgebra", spec := "setopsAlgebra", recurses := true, apart := false, narrowed := true }
def SetopsAlgebraUptoSaid : Prop := setopsAlgebraUptoRow.holds Tryz.pinned (OpenSpec.upto setopsAlgebraSpec)

/-- 'versionmaplaw16.SetopsDistribute', WHERE WHAT IT READS IS OF BULK AT MOST 1048576: true; the input reads as it did. -/
def setopsDistributeUptoRow : OpenClaim := { program := "ytfihklpofmcfgaagreat", sum := "6e11ebb4a18b51843c2e060abafe5efc519e27a624d4e767176b9cf7df87c0ea", func := "versionmap/versionmaplaw16.SetopsDistribute", spec := "setopsDistribute", recurses := true, apart := false, narrowed := true }
def SetopsDistributeUptoSaid : Prop := setopsDistributeUptoRow.holds Tryz.pinned (OpenSpec.upto setopsDistributeSpec)

end Rows
end Go.Proofs.YtfihklpofmcfgaaGreat
