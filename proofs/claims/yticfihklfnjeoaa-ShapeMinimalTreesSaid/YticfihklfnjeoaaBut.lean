/- A step that changed one old block alone. -/
import Derived.Test.YticfihklfnjeoaaSlotsAt
import Derived.Test.YticfihklfnjeoaaRefNode
set_option linter.unusedVariables false
namespace Go.Proofs.Yticfihklfnjeoaa
open Go.RowKit
structure But (q : Nat) (w w' : World) : Prop where
  os : w'.os = w.os
  tape : w'.tape = w.tape
  output : w'.output = w.output
  size : w.heap.size ≤ w'.heap.size
  block : ∀ k, k < w.heap.size → k ≠ q → w'.heap[k]? = w.heap[k]?
section
variable {q : Nat} {w w' w0 : World}
theorem But.refl (q : Nat) (w : World) : But q w w := ⟨rfl, rfl, rfl, Nat.le_refl _, fun _ _ _ => rfl⟩
theorem But.trans {w1 : World} (h : But q w w1) (h' : But q w1 w') : But q w w' :=
  ⟨h'.os.trans h.os, h'.tape.trans h.tape, h'.output.trans h.output, Nat.le_trans h.size h'.size, fun k hk hne => (h'.block k (Nat.lt_of_lt_of_le hk h.size) hne).trans (h.block k hk hne)⟩
theorem But.of_below (h : Below w.heap.size w w') : But q w w' := ⟨h.os, h.tape, h.output, h.size, fun k hk _ => h.block k hk⟩
theorem But.below (h : But q w w') (hq : w.heap.size ≤ q) : Below w.heap.size w w' := ⟨h.os, h.tape, h.output, h.size, fun k hk => h.block k hk (by omega)⟩
theorem But.belowB {B : Nat} (h : But q w w') (hq : B ≤ q) (hB : B ≤ w.heap.size) : Below B w w' := ⟨h.os, h.tape, h.output, h.size, fun k hk => h.block k (by omega) (by omega)⟩
theorem But.set (w : World) (o : Nat) (v : Value) : But q w (w.setCell ⟨q, o, none⟩ v) := by
  have hb : Below q w (w.setCell ⟨q, o, none⟩ v) := (Below.refl q w).setCell (Nat.le_refl _) _
  exact ⟨hb.os, hb.tape, hb.output, hb.size, fun k hk hne => heap_setCell_other _ _ _ _ hne⟩
theorem But.row (h : But q w w') {k : Nat} {o : Obj} (hk : w.heap[k]? = some o) (hne : k ≠ q) : w'.heap[k]? = some o := (h.block k (Array.getElem?_eq_some_iff.1 hk).1 hne).trans hk
theorem SlotsAt.but {a : Option Addr} {n : Nat} {S : Nat → Sl} (h : SlotsAt w a n S) (hb : But q w w') (hq : ∀ b off, a = some ⟨b, off, none⟩ → b ≠ q) : SlotsAt w' a n S := by
  refine ⟨fun i hi => ?_, h.kid⟩
  obtain ⟨b, off, ha, hlt, hc⟩ := h.cell i hi
  refine ⟨b, off, ha, Nat.lt_of_lt_of_le hlt hb.size, fun j v hv => ?_⟩
  rw [← hc j v hv]
  exact World.cell?_of_block (w := w) (a := ⟨b, off + i * 11 + j, none⟩) (hb.block b hlt (hq b off ha))
end
end Go.Proofs.Yticfihklfnjeoaa
