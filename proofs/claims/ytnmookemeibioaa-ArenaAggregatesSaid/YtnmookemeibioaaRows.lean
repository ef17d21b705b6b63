/-
  No cell of these rows narrows 'for every input' (looked for: loops, veiled, ifaces, maps, wideKeys, modest, calm, conditions, laid).
  DERIVED. THE GIVEN ROWS OF THIS SEAT. 7 by the template 'for every input the law returns true; each argument reads behind the call as it read before'; 0 by the template 'total and deterministic' (their statements: YtnmookemeibioaaTotals.lean).
  GIVEN WITH THE SEED: the statements are not yours to turn. If you find one false, say at which input.
  Laid BY PROGRAM, IN A SANDBOX (cutbox-rows.mjs): the forced cells as the released guide's own fill.sh prints them over the translation 9fd48a7fbb5993da… (all of the seat's roots in one cut). By AI agents, Wed Nov 11 2026. No macro, syntax, notation, axiom, sorry.
-/
import Derived.Test.YtnmookemeibioaaChecked
import GoSem.Claim
import GoSem.ClaimJoined
import GoSem.ClaimMapViews
import Derived.JoinedTies
import Derived.KernelRfl
namespace Go.Proofs.Ytnmookemeibioaa
/- THE CELL 'sum', in the pinned program and in every row, IS THE sha256 OF THE DUMP (.gsa) THAT YtnmookemeibioaaProg.lean LOADS. Nothing in Lean hashes anything: it is a label: what it is worth is what the hold of that sum in a sandbox is worth. -/
noncomputable def Try.pinned : Pinned := { name := "ytnmookemeibioaa", sum := "9fd48a7fbb5993da2b7827766b9e282c60a603086cd25a71e8e8856a82503cad", checked := Try.checked }
namespace Rows
def none {H : Type} : Left H := { results := [], args := [] }

/-- 'versionmaplaw5.ArenaNew': WHATEVER THE INPUT: true; the input reads as it did. -/
def arenaNewSpec : ChangeSpec := { name := "arenaNew", fn := fun _ => fun
  | [d1, d2] => { results := [.lit (.bool true)], args := [d1, d2] }
  | _ => none }
def arenaNewRow : OpenClaim := { program := "ytnmookemeibioaa", sum := "9fd48a7fbb5993da2b7827766b9e282c60a603086cd25a71e8e8856a82503cad", func := "versionmap/versionmaplaw5.ArenaNew", spec := "arenaNew", apart := false }
def ArenaNewSaid : Prop := arenaNewRow.holds Try.pinned (OpenSpec.ofChange arenaNewSpec)

/-- ITS FALSE NEIGHBOUR: 'it returns false'. Refute it at one input. -/
def arenaNewWrong : ChangeSpec := { name := "arenaNew", fn := fun _ => fun
  | [d1, d2] => { results := [.lit (.bool false)], args := [d1, d2] }
  | _ => none }
def ArenaNewWrongFalsely : Prop := arenaNewRow.holds Try.pinned (OpenSpec.ofChange arenaNewWrong)

/-- 'versionmaplaw5.ArenaAgrees': WHATEVER THE INPUT: true; the input reads as it did. -/
def arenaAgreesSpec : ChangeSpec := { name := "arenaAgrees", fn := fun _ => fun
  | [d1, d2] => { results := [.lit (.bool true)], args := [d1, d2] }
  | _ => none }
def arenaAgreesRow : OpenClaim := { program := "ytnmookemeibioaa", sum := "9fd48a7fbb5993da2b7827766b9e282c60a603086cd25a71e8e8856a82503cad", func := "versionmap/versionmaplaw5.ArenaAgrees", spec := "arenaAgrees", recurses := true, apart := false }
def ArenaAgreesSaid : Prop := arenaAgreesRow.holds Try.pinned (OpenSpec.ofChange arenaAgreesSpec)

/-- ITS FALSE NEIGHBOUR: 'it returns false'. Refute it at one input. -/
def arenaAgreesWrong : ChangeSpec := { name := "arenaAgrees", fn := fun _ => fun
  | [d1, d2] => { results := [.lit (.bool false)], args := [d1, d2] }
  | _ => none }
def ArenaAgreesWrongFalsely : Prop := arenaAgreesRow.holds Try.pinned (OpenSpec.ofChange arenaAgreesWrong)

/-- 'versionmaplaw5.ArenaIsConsistent': WHATEVER THE INPUT: true; the input reads as it did. -/
def arenaIsConsistentSpec : ChangeSpec := { name := "arenaIsConsistent", fn := fun _ => fun
  | [d1, d2] => { results := [.lit (.bool true)], args := [d1, d2] }
  | _ => none }
def arenaIsConsistentRow : OpenClaim := { program := "ytnmookemeibioaa", sum := "9fd48a7fbb5993da2b7827766b9e282c60a603086cd25a71e8e8856a82503cad", func := "versionmap/versionmaplaw5.ArenaIsConsistent", spec := "arenaIsConsistent", apart := false }
def ArenaIsConsistentSaid : Prop := arenaIsConsistentRow.holds Try.pinned (OpenSpec.ofChange arenaIsConsistentSpec)

/-- ITS FALSE NEIGHBOUR: 'it returns false'. Refute it at one input. -/
def arenaIsConsistentWrong : ChangeSpec := { name := "arenaIsConsistent", fn := fun _ => fun
  | [d1, d2] => { results := [.lit (.bool false)], args := [d1, d2] }
  | _ => none }
def ArenaIsConsistentWrongFalsely : Prop := arenaIsConsistentRow.holds Try.pinned (OpenSpec.ofChange arenaIsConsistentWrong)

/-- 'versionmaplaw5.ArenaNothingLeaks': WHATEVER THE INPUT: true; the input reads as it did. -/
def arenaNothingLeaksSpec : ChangeSpec := { name := "arenaNothingLeaks", fn := fun _ => fun
  | [d1, d2] => { results := [.lit (.bool true)], args := [d1, d2] }
  | _ => none }
def arenaNothingLeaksRow : OpenClaim := { program := "ytnmookemeibioaa", sum := "9fd48a7fbb5993da2b7827766b9e282c60a603086cd25a71e8e8856a82503cad", func := "versionmap/versionmaplaw5.ArenaNothingLeaks", spec := "arenaNothingLeaks", apart := false }
def ArenaNothingLeaksSaid : Prop := arenaNothingLeaksRow.holds Try.pinned (OpenSpec.ofChange arenaNothingLeaksSpec)

/-- ITS FALSE NEIGHBOUR: 'it returns false'. Refute it at one input. -/
def arenaNothingLeaksWrong : ChangeSpec := { name := "arenaNothingLeaks", fn := fun _ => fun
  | [d1, d2] => { results := [.lit (.bool false)], args := [d1, d2] }
  | _ => none }
def ArenaNothingLeaksWrongFalsely : Prop := arenaNothingLeaksRow.holds Try.pinned (OpenSpec.ofChange arenaNothingLeaksWrong)

/-- 'versionmaplaw5.ArenaAggregates': WHATEVER THE INPUT: true; the input reads as it did. -/
def arenaAggregatesSpec : ChangeSpec := { name := "arenaAggregates", fn := fun _ => fun
  | [d1, d2] => { results := [.lit (.bool true)], args := [d1, d2] }
  | _ => none }
def arenaAggregatesRow : OpenClaim := { program := "ytnmookemeibioaa", sum := "9fd48a7fbb5993da2b7827766b9e282c60a603086cd25a71e8e8856a82503cad", func := "versionmap/versionmaplaw5.ArenaAggregates", spec := "arenaAggregates", apart := false }
def ArenaAggregatesSaid : Prop := arenaAggregatesRow.holds Try.pinned (OpenSpec.ofChange arenaAggregatesSpec)

/-- ITS FALSE NEIGHBOUR: 'it returns false'. Refute it at one input. -/
def arenaAggregatesWrong : ChangeSpec := { name := "arenaAggregates", fn := fun _ => fun
  | [d1, d2] => { results := [.lit (.bool false)], args := [d1, d2] }
  | _ => none }
def ArenaAggregatesWrongFalsely : Prop := arenaAggregatesRow.holds Try.pinned (OpenSpec.ofChange arenaAggregatesWrong)

/-- 'versionmaplaw5.ArenaDeepRelease': WHATEVER THE INPUT: true; the input reads as it did. -/
def arenaDeepReleaseSpec : ChangeSpec := { name := "arenaDeepRelease", fn := fun _ => fun
  | [d1, d2] => { results := [.lit (.bool true)], args := [d1, d2] }
  | _ => none }
def arenaDeepReleaseRow : OpenClaim := { program := "ytnmookemeibioaa", sum := "9fd48a7fbb5993da2b7827766b9e282c60a603086cd25a71e8e8856a82503cad", func := "versionmap/versionmaplaw5.ArenaDeepRelease", spec := "arenaDeepRelease", apart := false }
def ArenaDeepReleaseSaid : Prop := arenaDeepReleaseRow.holds Try.pinned (OpenSpec.ofChange arenaDeepReleaseSpec)

/-- ITS FALSE NEIGHBOUR: 'it returns false'. Refute it at one input. -/
def arenaDeepReleaseWrong : ChangeSpec := { name := "arenaDeepRelease", fn := fun _ => fun
  | [d1, d2] => { results := [.lit (.bool false)], args := [d1, d2] }
  | _ => none }
def ArenaDeepReleaseWrongFalsely : Prop := arenaDeepReleaseRow.holds Try.pinned (OpenSpec.ofChange arenaDeepReleaseWrong)

/-- 'versionmaplaw5.ArenaSizeLimit': WHATEVER THE INPUT: true; the input reads as it did. -/
def arenaSizeLimitSpec : ChangeSpec := { name := "arenaSizeLimit", fn := fun _ => fun
  | [d] => { results := [.lit (.bool true)], args := [d] }
  | _ => none }
def arenaSizeLimitRow : OpenClaim := { program := "ytnmookemeibioaa", sum := "9fd48a7fbb5993da2b7827766b9e282c60a603086cd25a71e8e8856a82503cad", func := "versionmap/versionmaplaw5.ArenaSizeLimit", spec := "arenaSizeLimit", apart := false }
def ArenaSizeLimitSaid : Prop := arenaSizeLimitRow.holds Try.pinned (OpenSpec.ofChange arenaSizeLimitSpec)

/-- ITS FALSE NEIGHBOUR: 'it returns false'. Refute it at one input. -/
def arenaSizeLimitWrong : ChangeSpec := { name := "arenaSizeLimit", fn := fun _ => fun
  | [d] => { results := [.lit (.bool false)], args := [d] }
  | _ => none }
def ArenaSizeLimitWrongFalsely : Prop := arenaSizeLimitRow.holds Try.pinned (OpenSpec.ofChange arenaSizeLimitWrong)

/- THE SECOND FORM. 'bulk': how many values and letters a reading holds, each counted each time it is reached (what is shared counts as often as it is met; a slice's spare places count too). A statement '..UptoSaid' is the law's where the arguments, and the package variables that the reading takes, are together of bulk at most 1048576: NARROWER than '..Said'. Prove '..Said' where nothing that the law and all that it calls make is longer than what came in: it says more and counts as full. Else prove '..UptoSaid'. A law counts once. -/
mutual
def uptoBulk {H : Type} : DataW H → Nat
  | .lit (.string bytes) => bytes.length + 1
  | .lit _ => 1
  | .nil => 1
  | .ptr d => uptoBulk d + 1
  | .slice elems spare => uptoBulkAll elems + uptoBulkAll spare + 1
  | .agg parts => uptoBulkAll parts + 1
  | .iface _ d => uptoBulk d + 1
  | .map entries => uptoBulkEntries entries + 1
  | .held _ => 1
def uptoBulkAll {H : Type} : List (DataW H) → Nat
  | [] => 0
  | d :: r => uptoBulk d + uptoBulkAll r
def uptoBulkEntries {H : Type} : List (Lit × DataW H) → Nat
  | [] => 0
  | x :: r => uptoBulkEntry x + uptoBulkEntries r
def uptoBulkEntry {H : Type} : Lit × DataW H → Nat
  | (.string bytes, d) => bytes.length + uptoBulk d + 1
  | (_, d) => uptoBulk d + 1
 end
def uptoSmall : (H : Type) → List (DataW H) → Bool := fun _ ds => decide (uptoBulkAll ds ≤ 1048576)
def OpenSpec.upto (s : _root_.Go.ChangeSpec) : _root_.Go.OpenSpec := { _root_.Go.OpenSpec.ofChange s with cond := some uptoSmall }

/-- 'versionmaplaw5.ArenaNew', WHERE WHAT IT READS IS OF BULK AT MOST 1048576: true; the input reads as it did. -/
def arenaNewUptoRow : OpenClaim := { program := "ytnmookemeibioaa", sum := "9fd48a7fbb5993da2b7827766b9e282c60a603086cd25a71e8e8856a82503cad", func := "versionmap/versionmaplaw5.ArenaNew", spec := "arenaNew", apart := false, narrowed := true }
def ArenaNewUptoSaid : Prop := arenaNewUptoRow.holds Try.pinned (OpenSpec.upto arenaNewSpec)

/-- 'versionmaplaw5.ArenaAgrees', WHERE WHAT IT READS IS OF BULK AT MOST 1048576: true; the input reads as it did. -/
def arenaAgreesUptoRow : OpenClaim := { program := "ytnmookemeibioaa", sum := "9fd48a7fbb5993da2b7827766b9e282c60a603086cd25a71e8e8856a82503cad", func := "versionmap/versionmaplaw5.ArenaAgrees", spec := "arenaAgrees", recurses := true, apart := false, narrowed := true }
def ArenaAgreesUptoSaid : Prop := arenaAgreesUptoRow.holds Try.pinned (OpenSpec.upto arenaAgreesSpec)

/-- 'versionmaplaw5.ArenaIsConsistent', WHERE WHAT IT READS IS OF BULK AT MOST 1048576: true; the input reads as it did. -/
def arenaIsConsistentUptoRow : OpenClaim := { program := "ytnmookemeibioaa", sum := "9fd48a7fbb5993da2b7827766b9e282c60a603086cd25a71e8e8856a82503cad", func := "versionmap/versionmaplaw5.ArenaIsConsistent", spec := "arenaIsConsistent", apart := false, narrowed := true }
def ArenaIsConsistentUptoSaid : Prop := arenaIsConsistentUptoRow.holds Try.pinned (OpenSpec.upto arenaIsConsistentSpec)

/-- 'versionmaplaw5.ArenaNothingLeaks', WHERE WHAT IT READS IS OF BULK AT MOST 1048576: true; the input reads as it did. -/
def arenaNothingLeaksUptoRow : OpenClaim := { program := "ytnmookemeibioaa", sum := "9fd48a7fbb5993da2b7827766b9e282c60a603086cd25a71e8e8856a82503cad", func := "versionmap/versionmaplaw5.ArenaNothingLeaks", spec := "arenaNothingLeaks", apart := false, narrowed := true }
def ArenaNothingLeaksUptoSaid : Prop := arenaNothingLeaksUptoRow.holds Try.pinned (OpenSpec.upto arenaNothingLeaksSpec)

/-- 'versionmaplaw5.ArenaAggregates', WHERE WHAT IT READS IS OF BULK AT MOST 1048576: true; the input reads as it did. -/
def arenaAggregatesUptoRow : OpenClaim := { program := "ytnmookemeibioaa", sum := "9fd48a7fbb5993da2b7827766b9e282c60a603086cd25a71e8e8856a82503cad", func := "versionmap/versionmaplaw5.ArenaAggregates", spec := "arenaAggregates", apart := false, narrowed := true }
def ArenaAggregatesUptoSaid : Prop := arenaAggregatesUptoRow.holds Try.pinned (OpenSpec.upto arenaAggregatesSpec)

/-- 'versionmaplaw5.ArenaDeepRelease', WHERE WHAT IT READS IS OF BULK AT MOST 1048576: true; the input reads as it did. -/
def arenaDeepReleaseUptoRow : OpenClaim := { program := "ytnmookemeibioaa", sum := "9fd48a7fbb5993da2b7827766b9e282c60a603086cd25a71e8e8856a82503cad", func := "versionmap/versionmaplaw5.ArenaDeepRelease", spec := "arenaDeepRelease", apart := false, narrowed := true }
def ArenaDeepReleaseUptoSaid : Prop := arenaDeepReleaseUptoRow.holds Try.pinned (OpenSpec.upto arenaDeepReleaseSpec)

/-- 'versionmaplaw5.ArenaSizeLimit', WHERE WHAT IT READS IS OF BULK AT MOST 1048576: true; the input reads as it did. -/
def arenaSizeLimitUptoRow : OpenClaim := { program := "ytnmookemeibioaa", sum := "9fd48a7fbb5993da2b7827766b9e282c60a603086cd25a71e8e8856a82503cad", func := "versionmap/versionmaplaw5.ArenaSizeLimit", spec := "arenaSizeLimit", apart := false, narrowed := true }
def ArenaSizeLimitUptoSaid : Prop := arenaSizeLimitUptoRow.holds Try.pinned (OpenSpec.upto arenaSizeLimitSpec)

end Rows
end Go.Proofs.Ytnmookemeibioaa
