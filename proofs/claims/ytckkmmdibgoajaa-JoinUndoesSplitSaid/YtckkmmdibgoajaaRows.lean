/-
  No cell of these rows narrows 'for every input' (looked for: loops, veiled, ifaces, maps, wideKeys, modest, calm, conditions, laid).
  DERIVED. THE GIVEN ROWS OF THIS SEAT. 5 by the template 'for every input the law returns true; each argument reads behind the call as it read before'; 0 by the template 'total and deterministic' (their statements: YtckkmmdibgoajaaTotals.lean).
  GIVEN WITH THE SEED: the statements are not yours to turn. If you find one false, say at which input.
  Laid BY PROGRAM, IN A SANDBOX (cutbox-rows.mjs): the forced cells as the released guide's own fill.sh prints them over the translation feba8e5f26c2df36… (all of the seat's roots in one cut). By AI agents, Wed Nov 11 2026. No macro, syntax, notation, axiom, sorry.
-/
import Derived.Test.YtckkmmdibgoajaaChecked
import GoSem.Claim
import GoSem.ClaimJoined
import GoSem.ClaimMapViews
import Derived.JoinedTies
import Derived.KernelRfl
namespace Go.Proofs.Ytckkmmdibgoajaa
/- THE CELL 'sum', in the pinned program and in every row, IS THE sha256 OF THE DUMP (.gsa) THAT YtckkmmdibgoajaaProg.lean LOADS. Nothing in Lean hashes anything: it is a label: what it is worth is what the hold of that sum in a sandbox is worth. -/
noncomputable def Try.pinned : Pinned := { name := "ytckkmmdibgoajaa", sum := "feba8e5f26c2df368dade9437ce3c6b39916bc3bc371b36e4d65427bb0cc175f", checked := Try.checked }
namespace Rows
def none {H : Type} : Left H := { results := [], args := [] }

/-- 'versionmaplaw14.UpdateIncreases': WHATEVER THE INPUT: true; the input reads as it did. -/
def updateIncreasesSpec : ChangeSpec := { name := "updateIncreases", fn := fun _ => fun
  | [d1, d2, d3, d4, d5] => { results := [.lit (.bool true)], args := [d1, d2, d3, d4, d5] }
  | _ => none }
def updateIncreasesRow : OpenClaim := { program := "ytckkmmdibgoajaa", sum := "feba8e5f26c2df368dade9437ce3c6b39916bc3bc371b36e4d65427bb0cc175f", func := "versionmap/versionmaplaw14.UpdateIncreases", spec := "updateIncreases", recurses := true, apart := false }
def UpdateIncreasesSaid : Prop := updateIncreasesRow.holds Try.pinned (OpenSpec.ofChange updateIncreasesSpec)

/-- ITS FALSE NEIGHBOUR: 'it returns false'. Refute it at one input. -/
def updateIncreasesWrong : ChangeSpec := { name := "updateIncreases", fn := fun _ => fun
  | [d1, d2, d3, d4, d5] => { results := [.lit (.bool false)], args := [d1, d2, d3, d4, d5] }
  | _ => none }
def UpdateIncreasesWrongFalsely : Prop := updateIncreasesRow.holds Try.pinned (OpenSpec.ofChange updateIncreasesWrong)

/-- 'versionmaplaw14.UpdateSequence': WHATEVER THE INPUT: true; the input reads as it did. -/
def updateSequenceSpec : ChangeSpec := { name := "updateSequence", fn := fun _ => fun
  | [d1, d2] => { results := [.lit (.bool true)], args := [d1, d2] }
  | _ => none }
def updateSequenceRow : OpenClaim := { program := "ytckkmmdibgoajaa", sum := "feba8e5f26c2df368dade9437ce3c6b39916bc3bc371b36e4d65427bb0cc175f", func := "versionmap/versionmaplaw14.UpdateSequence", spec := "updateSequence", recurses := true, apart := false }
def UpdateSequenceSaid : Prop := updateSequenceRow.holds Try.pinned (OpenSpec.ofChange updateSequenceSpec)

/-- ITS FALSE NEIGHBOUR: 'it returns false'. Refute it at one input. -/
def updateSequenceWrong : ChangeSpec := { name := "updateSequence", fn := fun _ => fun
  | [d1, d2] => { results := [.lit (.bool false)], args := [d1, d2] }
  | _ => none }
def UpdateSequenceWrongFalsely : Prop := updateSequenceRow.holds Try.pinned (OpenSpec.ofChange updateSequenceWrong)

/-- 'versionmaplaw14.UpdateShares': WHATEVER THE INPUT: true; the input reads as it did. -/
def updateSharesSpec : ChangeSpec := { name := "updateShares", fn := fun _ => fun
  | [d1, d2, d3, d4] => { results := [.lit (.bool true)], args := [d1, d2, d3, d4] }
  | _ => none }
def updateSharesRow : OpenClaim := { program := "ytckkmmdibgoajaa", sum := "feba8e5f26c2df368dade9437ce3c6b39916bc3bc371b36e4d65427bb0cc175f", func := "versionmap/versionmaplaw14.UpdateShares", spec := "updateShares", recurses := true, apart := false }
def UpdateSharesSaid : Prop := updateSharesRow.holds Try.pinned (OpenSpec.ofChange updateSharesSpec)

/-- ITS FALSE NEIGHBOUR: 'it returns false'. Refute it at one input. -/
def updateSharesWrong : ChangeSpec := { name := "updateShares", fn := fun _ => fun
  | [d1, d2, d3, d4] => { results := [.lit (.bool false)], args := [d1, d2, d3, d4] }
  | _ => none }
def UpdateSharesWrongFalsely : Prop := updateSharesRow.holds Try.pinned (OpenSpec.ofChange updateSharesWrong)

/-- 'versionmaplaw14.UpdateCommutes': WHATEVER THE INPUT: true; the input reads as it did. -/
def updateCommutesSpec : ChangeSpec := { name := "updateCommutes", fn := fun _ => fun
  | [d1, d2, d3, d4, d5] => { results := [.lit (.bool true)], args := [d1, d2, d3, d4, d5] }
  | _ => none }
def updateCommutesRow : OpenClaim := { program := "ytckkmmdibgoajaa", sum := "feba8e5f26c2df368dade9437ce3c6b39916bc3bc371b36e4d65427bb0cc175f", func := "versionmap/versionmaplaw14.UpdateCommutes", spec := "updateCommutes", recurses := true, apart := false }
def UpdateCommutesSaid : Prop := updateCommutesRow.holds Try.pinned (OpenSpec.ofChange updateCommutesSpec)

/-- ITS FALSE NEIGHBOUR: 'it returns false'. Refute it at one input. -/
def updateCommutesWrong : ChangeSpec := { name := "updateCommutes", fn := fun _ => fun
  | [d1, d2, d3, d4, d5] => { results := [.lit (.bool false)], args := [d1, d2, d3, d4, d5] }
  | _ => none }
def UpdateCommutesWrongFalsely : Prop := updateCommutesRow.holds Try.pinned (OpenSpec.ofChange updateCommutesWrong)

/-- 'versionmaplaw13.JoinUndoesSplit': WHATEVER THE INPUT: true; the input reads as it did. -/
def joinUndoesSplitSpec : ChangeSpec := { name := "joinUndoesSplit", fn := fun _ => fun
  | [d1, d2, d3] => { results := [.lit (.bool true)], args := [d1, d2, d3] }
  | _ => none }
def joinUndoesSplitRow : OpenClaim := { program := "ytckkmmdibgoajaa", sum := "feba8e5f26c2df368dade9437ce3c6b39916bc3bc371b36e4d65427bb0cc175f", func := "versionmap/versionmaplaw13.JoinUndoesSplit", spec := "joinUndoesSplit", recurses := true, apart := false }
def JoinUndoesSplitSaid : Prop := joinUndoesSplitRow.holds Try.pinned (OpenSpec.ofChange joinUndoesSplitSpec)

/-- ITS FALSE NEIGHBOUR: 'it returns false'. Refute it at one input. -/
def joinUndoesSplitWrong : ChangeSpec := { name := "joinUndoesSplit", fn := fun _ => fun
  | [d1, d2, d3] => { results := [.lit (.bool false)], args := [d1, d2, d3] }
  | _ => none }
def JoinUndoesSplitWrongFalsely : Prop := joinUndoesSplitRow.holds Try.pinned (OpenSpec.ofChange joinUndoesSplitWrong)

/- THE SECOND FORM. 'bulk': how many values and letters a reading holds, each counted each time it is reached (what is shared counts as often as it is met; a slice's spare places count too). A statement '..UptoSaid' is the law's where the arguments, and the package variables that the reading takes, are together of bulk at most 1048576: NARROWER than '..Said'. Prove '..Said' where nothing that the law and all that it calls make is longer than what came in: it says more and counts as full. Else prove '..UptoSaid'. A law counts once. -/
mutual
def uptoBulk {H : Type} : DataW H → Nat
  | .lit (.string bytes) => bytes.length + 1
  | .lit _ => 1
  | .nil => 1
  | .ptr d => uptoBulk d + 1
  | .slice elems spare => uptoBulkAll elems + uptoBulkAll spare + 1
  | .agg parts => uptoBulkAll parts + 1
  | .iface _ d => uptoBulk d + 1
  | .map entries => uptoBulkEntries entries + 1
  | .held _ => 1
def uptoBulkAll {H : Type} : List (DataW H) → Nat
  | [] => 0
  | d :: r => uptoBulk d + uptoBulkAll r
def uptoBulkEntries {H : Type} : List (Lit × DataW H) → Nat
  | [] => 0
  | x :: r => uptoBulkEntry x + uptoBulkEntries r
def uptoBulkEntry {H : Type} : Lit × DataW H → Nat
  | (.string bytes, d) => bytes.length + uptoBulk d + 1
  | (_, d) => uptoBulk d + 1
 end
def uptoSmall : (H : Type) → List (DataW H) → Bool := fun _ ds => decide (uptoBulkAll ds ≤ 1048576)
def OpenSpec.upto (s : _root_.Go.ChangeSpec) : _root_.Go.OpenSpec := { _root_.Go.OpenSpec.ofChange s with cond := some uptoSmall }

/-- 'versionmaplaw14.UpdateIncreases', WHERE WHAT IT READS IS OF BULK AT MOST 1048576: true; the input reads as it did. -/
def updateIncreasesUptoRow : OpenClaim := { program := "ytckkmmdibgoajaa", sum := "feba8e5f26c2df368dade9437ce3c6b39916bc3bc371b36e4d65427bb0cc175f", func := "versionmap/versionmaplaw14.UpdateIncreases", spec := "updateIncreases", recurses := true, apart := false, narrowed := true }
def UpdateIncreasesUptoSaid : Prop := updateIncreasesUptoRow.holds Try.pinned (OpenSpec.upto updateIncreasesSpec)

/-- 'versionmaplaw14.UpdateSequence', WHERE WHAT IT READS IS OF BULK AT MOST 1048576: true; the input reads as it did. -/
def updateSequenceUptoRow : OpenClaim := { program := "ytckkmmdibgoajaa", sum := "feba8e5f26c2df368dade9437ce3c6b39916bc3bc371b36e4d65427bb0cc175f", func := "versionmap/versionmaplaw14.UpdateSequence", spec := "updateSequence", recurses := true, apart := false, narrowed := true }
def UpdateSequenceUptoSaid : Prop := updateSequenceUptoRow.holds Try.pinned (OpenSpec.upto updateSequenceSpec)

/-- 'versionmaplaw14.UpdateShares', WHERE WHAT IT READS IS OF BULK AT MOST 1048576: true; the input reads as it did. -/
def updateSharesUptoRow : OpenClaim := { program := "ytckkmmdibgoajaa", sum := "feba8e5f26c2df368dade9437ce3c6b39916bc3bc371b36e4d65427bb0cc175f", func := "versionmap/versionmaplaw14.UpdateShares", spec := "updateShares", recurses := true, apart := false, narrowed := true }
def UpdateSharesUptoSaid : Prop := updateSharesUptoRow.holds Try.pinned (OpenSpec.upto updateSharesSpec)

/-- 'versionmaplaw14.UpdateCommutes', WHERE WHAT IT READS IS OF BULK AT MOST 1048576: true; the input reads as it did. -/
def updateCommutesUptoRow : OpenClaim := { program := "ytckkmmdibgoajaa", sum := "feba8e5f26c2df368dade9437ce3c6b39916bc3bc371b36e4d65427bb0cc175f", func := "versionmap/versionmaplaw14.UpdateCommutes", spec := "updateCommutes", recurses := true, apart := false, narrowed := true }
def UpdateCommutesUptoSaid : Prop := updateCommutesUptoRow.holds Try.pinned (OpenSpec.upto updateCommutesSpec)

/-- 'versionmaplaw13.JoinUndoesSplit', WHERE WHAT IT READS IS OF BULK AT MOST 1048576: true; the input reads as it did. -/
def joinUndoesSplitUptoRow : OpenClaim := { program := "ytckkmmdibgoajaa", sum := "feba8e5f26c2df368dade9437ce3c6b39916bc3bc371b36e4d65427bb0cc175f", func := "versionmap/versionmaplaw13.JoinUndoesSplit", spec := "joinUndoesSplit", recurses := true, apart := false, narrowed := true }
def JoinUndoesSplitUptoSaid : Prop := joinUndoesSplitUptoRow.holds Try.pinned (OpenSpec.upto joinUndoesSplitSpec)

end Rows
end Go.Proofs.Ytckkmmdibgoajaa
