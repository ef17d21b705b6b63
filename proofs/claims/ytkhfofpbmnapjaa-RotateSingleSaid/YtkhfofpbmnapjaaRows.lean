/-
  No cell of these rows narrows 'for every input' (looked for: loops, veiled, ifaces, maps, wideKeys, modest, calm, conditions, laid).
  DERIVED. THE GIVEN ROWS OF THIS SEAT. 4 by the template 'for every input the law returns true; each argument reads behind the call as it read before'; 0 by the template 'total and deterministic' (their statements: YtkhfofpbmnapjaaTotals.lean).
  GIVEN WITH THE SEED: the statements are not yours to turn. If you find one false, say at which input.
  Laid BY PROGRAM, IN A SANDBOX (cutbox-rows.mjs): the forced cells as the released guide's own fill.sh prints them over the translation 06551789f0085ed5… (all of the seat's roots in one cut). By AI agents, Wed Nov 11 2026. No macro, syntax, notation, axiom, sorry.
-/
import Derived.Test.YtkhfofpbmnapjaaChecked
import GoSem.Claim
import GoSem.ClaimJoined
import GoSem.ClaimMapViews
import Derived.JoinedTies
import Derived.KernelRfl
namespace Go.Proofs.Ytkhfofpbmnapjaa
/- THE CELL 'sum', in the pinned program and in every row, IS THE sha256 OF THE DUMP (.gsa) THAT YtkhfofpbmnapjaaProg.lean LOADS. Nothing in Lean hashes anything: it is a label: what it is worth is what the hold of that sum in a sandbox is worth. -/
noncomputable def Try.pinned : Pinned := { name := "ytkhfofpbmnapjaa", sum := "06551789f0085ed524c16556768d2dc79328d5c57b19c82e768d4f5060d5ea85", checked := Try.checked }
namespace Rows
def none {H : Type} : Left H := { results := [], args := [] }

/-- 'versionmaplaw12.RotateSingle': WHATEVER THE INPUT: true; the input reads as it did. -/
def rotateSingleSpec : ChangeSpec := { name := "rotateSingle", fn := fun _ => fun
  | [d1, d2, d3, d4] => { results := [.lit (.bool true)], args := [d1, d2, d3, d4] }
  | _ => none }
def rotateSingleRow : OpenClaim := { program := "ytkhfofpbmnapjaa", sum := "06551789f0085ed524c16556768d2dc79328d5c57b19c82e768d4f5060d5ea85", func := "versionmap/versionmaplaw12.RotateSingle", spec := "rotateSingle", apart := false }
def RotateSingleSaid : Prop := rotateSingleRow.holds Try.pinned (OpenSpec.ofChange rotateSingleSpec)

/-- ITS FALSE NEIGHBOUR: 'it returns false'. Refute it at one input. -/
def rotateSingleWrong : ChangeSpec := { name := "rotateSingle", fn := fun _ => fun
  | [d1, d2, d3, d4] => { results := [.lit (.bool false)], args := [d1, d2, d3, d4] }
  | _ => none }
def RotateSingleWrongFalsely : Prop := rotateSingleRow.holds Try.pinned (OpenSpec.ofChange rotateSingleWrong)

/-- 'versionmaplaw12.RotateDouble': WHATEVER THE INPUT: true; the input reads as it did. -/
def rotateDoubleSpec : ChangeSpec := { name := "rotateDouble", fn := fun _ => fun
  | [d1, d2, d3, d4] => { results := [.lit (.bool true)], args := [d1, d2, d3, d4] }
  | _ => none }
def rotateDoubleRow : OpenClaim := { program := "ytkhfofpbmnapjaa", sum := "06551789f0085ed524c16556768d2dc79328d5c57b19c82e768d4f5060d5ea85", func := "versionmap/versionmaplaw12.RotateDouble", spec := "rotateDouble", apart := false }
def RotateDoubleSaid : Prop := rotateDoubleRow.holds Try.pinned (OpenSpec.ofChange rotateDoubleSpec)

/-- ITS FALSE NEIGHBOUR: 'it returns false'. Refute it at one input. -/
def rotateDoubleWrong : ChangeSpec := { name := "rotateDouble", fn := fun _ => fun
  | [d1, d2, d3, d4] => { results := [.lit (.bool false)], args := [d1, d2, d3, d4] }
  | _ => none }
def RotateDoubleWrongFalsely : Prop := rotateDoubleRow.holds Try.pinned (OpenSpec.ofChange rotateDoubleWrong)

/-- 'versionmaplaw12.RotateKeepsOrder': WHATEVER THE INPUT: true; the input reads as it did. -/
def rotateKeepsOrderSpec : ChangeSpec := { name := "rotateKeepsOrder", fn := fun _ => fun
  | [d1, d2, d3] => { results := [.lit (.bool true)], args := [d1, d2, d3] }
  | _ => none }
def rotateKeepsOrderRow : OpenClaim := { program := "ytkhfofpbmnapjaa", sum := "06551789f0085ed524c16556768d2dc79328d5c57b19c82e768d4f5060d5ea85", func := "versionmap/versionmaplaw12.RotateKeepsOrder", spec := "rotateKeepsOrder", recurses := true, apart := false }
def RotateKeepsOrderSaid : Prop := rotateKeepsOrderRow.holds Try.pinned (OpenSpec.ofChange rotateKeepsOrderSpec)

/-- ITS FALSE NEIGHBOUR: 'it returns false'. Refute it at one input. -/
def rotateKeepsOrderWrong : ChangeSpec := { name := "rotateKeepsOrder", fn := fun _ => fun
  | [d1, d2, d3] => { results := [.lit (.bool false)], args := [d1, d2, d3] }
  | _ => none }
def RotateKeepsOrderWrongFalsely : Prop := rotateKeepsOrderRow.holds Try.pinned (OpenSpec.ofChange rotateKeepsOrderWrong)

/-- 'versionmaplaw12.RotateBack': WHATEVER THE INPUT: true; the input reads as it did. -/
def rotateBackSpec : ChangeSpec := { name := "rotateBack", fn := fun _ => fun
  | [d1, d2, d3] => { results := [.lit (.bool true)], args := [d1, d2, d3] }
  | _ => none }
def rotateBackRow : OpenClaim := { program := "ytkhfofpbmnapjaa", sum := "06551789f0085ed524c16556768d2dc79328d5c57b19c82e768d4f5060d5ea85", func := "versionmap/versionmaplaw12.RotateBack", spec := "rotateBack", recurses := true, apart := false }
def RotateBackSaid : Prop := rotateBackRow.holds Try.pinned (OpenSpec.ofChange rotateBackSpec)

/-- ITS FALSE NEIGHBOUR: 'it returns false'. Refute it at one input. -/
def rotateBackWrong : ChangeSpec := { name := "rotateBack", fn := fun _ => fun
  | [d1, d2, d3] => { results := [.lit (.bool false)], args := [d1, d2, d3] }
  | _ => none }
def RotateBackWrongFalsely : Prop := rotateBackRow.holds Try.pinned (OpenSpec.ofChange rotateBackWrong)

/- THE SECOND FORM. 'bulk': how many values and letters a reading holds, each counted each time it is reached (what is shared counts as often as it is met; a slice's spare places count too). A statement '..UptoSaid' is the law's where the arguments, and the package variables that the reading takes, are together of bulk at most 1048576: NARROWER than '..Said'. Prove '..Said' where nothing that the law and all that it calls make is longer than what came in: it says more and counts as full. Else prove '..UptoSaid'. A law counts once. -/
mutual
def uptoBulk {H : Type} : DataW H → Nat
  | .lit (.string bytes) => bytes.length + 1
  | .lit _ => 1
  | .nil => 1
  | .ptr d => uptoBulk d + 1
  | .slice elems spare => uptoBulkAll elems + uptoBulkAll spare + 1
  | .agg parts => uptoBulkAll parts + 1
  | .iface _ d => uptoBulk d + 1
  | .map entries => uptoBulkEntries entries + 1
  | .held _ => 1
def uptoBulkAll {H : Type} : List (DataW H) → Nat
  | [] => 0
  | d :: r => uptoBulk d + uptoBulkAll r
def uptoBulkEntries {H : Type} : List (Lit × DataW H) → Nat
  | [] => 0
  | x :: r => uptoBulkEntry x + uptoBulkEntries r
def uptoBulkEntry {H : Type} : Lit × DataW H → Nat
  | (.string bytes, d) => bytes.length + uptoBulk d + 1
  | (_, d) => uptoBulk d + 1
 end
def uptoSmall : (H : Type) → List (DataW H) → Bool := fun _ ds => decide (uptoBulkAll ds ≤ 1048576)
def OpenSpec.upto (s : _root_.Go.ChangeSpec) : _root_.Go.OpenSpec := { _root_.Go.OpenSpec.ofChange s with cond := some uptoSmall }

/-- 'versionmaplaw12.RotateSingle', WHERE WHAT IT READS IS OF BULK AT MOST 1048576: true; the input reads as it did. -/
def rotateSingleUptoRow : OpenClaim := { program := "ytkhfofpbmnapjaa", sum := "06551789f0085ed524c16556768d2dc79328d5c57b19c82e768d4f5060d5ea85", func := "versionmap/versionmaplaw12.RotateSingle", spec := "rotateSingle", apart := false, narrowed := true }
def RotateSingleUptoSaid : Prop := rotateSingleUptoRow.holds Try.pinned (OpenSpec.upto rotateSingleSpec)

/-- 'versionmaplaw12.RotateDouble', WHERE WHAT IT READS IS OF BULK AT MOST 1048576: true; the input reads as it did. -/
def rotateDoubleUptoRow : OpenClaim := { program := "ytkhfofpbmnapjaa", sum := "06551789f0085ed524c16556768d2dc79328d5c57b19c82e768d4f5060d5ea85", func := "versionmap/versionmaplaw12.RotateDouble", spec := "rotateDouble", apart := false, narrowed := true }
def RotateDoubleUptoSaid : Prop := rotateDoubleUptoRow.holds Try.pinned (OpenSpec.upto rotateDoubleSpec)

/-- 'versionmaplaw12.RotateKeepsOrder', WHERE WHAT IT READS IS OF BULK AT MOST 1048576: true; the input reads as it did. -/
def rotateKeepsOrderUptoRow : OpenClaim := { program := "ytkhfofpbmnapjaa", sum := "06551789f0085ed524c16556768d2dc79328d5c57b19c82e768d4f5060d5ea85", func := "versionmap/versionmaplaw12.RotateKeepsOrder", spec := "rotateKeepsOrder", recurses := true, apart := false, narrowed := true }
def RotateKeepsOrderUptoSaid : Prop := rotateKeepsOrderUptoRow.holds Try.pinned (OpenSpec.upto rotateKeepsOrderSpec)

/-- 'versionmaplaw12.RotateBack', WHERE WHAT IT READS IS OF BULK AT MOST 1048576: true; the input reads as it did. -/
def rotateBackUptoRow : OpenClaim := { program := "ytkhfofpbmnapjaa", sum := "06551789f0085ed524c16556768d2dc79328d5c57b19c82e768d4f5060d5ea85", func := "versionmap/versionmaplaw12.RotateBack", spec := "rotateBack", recurses := true, apart := false, narrowed := true }
def RotateBackUptoSaid : Prop := rotateBackUptoRow.holds Try.pinned (OpenSpec.upto rotateBackSpec)

end Rows
end Go.Proofs.Ytkhfofpbmnapjaa
