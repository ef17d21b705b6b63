/- The reference's lists of entries: Rank, Get, Select and the nearest entries; plain, and their walks. The reference's nearest entries. -/
import Derived.Test.YtkhfofpbmnapjaaEns
import Derived.Test.YtkhfofpbmnapjaaSlotsAid
import Derived.Deep.DeepCutAuto
set_option linter.unusedVariables false
set_option linter.unusedSimpArgs false
namespace Go.Proofs.Ytkhfofpbmnapjaa
open Go.RowKit
/-! ### plain -/
def rankE (l : List En) (k : Int) : Nat := l.countP fun e => decide (e.key < k)
def getE (l : List En) (k : Int) : Option En := l.find? fun e => decide (e.key = k)
def selE (l : List En) (i : Int) : Option En := if 0 ≤ i then l[i.toNat]? else none
def floorE (l : List En) (k : Int) : Option En := if (getE l k).isSome then selE l (rankE l k) else selE l ((rankE l k : Int) - 1)
def ceilE (l : List En) (k : Int) : Option En := selE l (rankE l k)
def belowE (l : List En) (k : Int) : Option En := selE l ((rankE l k : Int) - 1)
def aboveE (l : List En) (k : Int) : Option En := if (getE l k).isSome then selE l ((rankE l k : Int) + 1) else selE l (rankE l k)
/-- the cells of an entry, of none zeros -/
def enA (o : Option En) : Array Value := #[.int .i64 (o.elim 0 (·.key)), .int .i64 (o.elim 0 (·.val))]
theorem rankE_le (l : List En) (k : Int) : rankE l k ≤ l.length := List.countP_le_length
theorem rankE_succ {l : List En} {j : Nat} {e : En} (h : l[j]? = some e) (k : Int) : rankE (l.take (j + 1)) k = rankE (l.take j) k + (if e.key < k then 1 else 0) := by
  obtain ⟨hj, he⟩ := List.getElem?_eq_some_iff.1 h
  unfold rankE
  rw [List.take_succ_eq_append_getElem hj, List.countP_append, he]
  congr 1
  by_cases hk : e.key < k <;> simp [hk]
theorem getE_step {l : List En} {j : Nat} {e : En} (h : l[j]? = some e) (k : Int) : getE (l.drop j) k = if e.key = k then some e else getE (l.drop (j + 1)) k := by
  obtain ⟨hj, he⟩ := List.getElem?_eq_some_iff.1 h
  unfold getE
  rw [List.drop_eq_getElem_cons hj, he, List.find?_cons]
  by_cases hk : e.key = k <;> simp [hk]
/-! ### walks -/
theorem below_newL (w : World) (o : Obj) : Below w.heap.size w (w.alloc o) := (Below.refl _ _).alloc (Nat.le_refl _) _
theorem EnsAt.at {w : World} {a : Option Addr} {l : List En} {j : Nat} {e : En} (h : EnsAt w a l) (he : l[j]? = some e) : ∃ b off, a = some ⟨b, off, none⟩ ∧ b < w.heap.size ∧ w.cell? ⟨b, off + j * 2, none⟩ = some (.int .i64 e.key) ∧ w.cell? ⟨b, off + j * 2 + 1, none⟩ = some (.int .i64 e.val) := h.cell j e he
end Go.Proofs.Ytkhfofpbmnapjaa
set_option linter.unusedVariables false
set_option linter.unusedSimpArgs false
namespace Go.Proofs.Ytkhfofpbmnapjaa
open Go.RowKit
theorem two_ofE {w : World} {g : Nat} {x y : Int} {ty : TypeId} (h : w.heap[g]? = some (.cells #[.int .i64 x, .int .i64 y] ty (0, 0))) : w.cell? ⟨g, 0, none⟩ = some (.int .i64 x) ∧ w.cell? ⟨g, 1, none⟩ = some (.int .i64 y) := by
  constructor <;> (rw [cell_of_row _ _ _ _ _ _ h]; rfl)
/-- the result's variable, written behind calls that made memory -/
theorem ret_box {w wx : World} {ty : TypeId} (hb : Below (w.alloc (Obj.cells #[Value.int .i64 0, .int .i64 0] ty)).heap.size (w.alloc (Obj.cells #[Value.int .i64 0, .int .i64 0] ty)) wx) :
    wx.heap[w.heap.size]? = some (.cells #[.int .i64 0, .int .i64 0] ty (0, 0)) ∧
    ∀ x y : Int, Below w.heap.size w ((wx.setCell ⟨w.heap.size, 0, none⟩ (.int .i64 x)).setCell ⟨w.heap.size, 1, none⟩ (.int .i64 y)) ∧
      ((wx.setCell ⟨w.heap.size, 0, none⟩ (.int .i64 x)).setCell ⟨w.heap.size, 1, none⟩ (.int .i64 y)).heap[w.heap.size]? = some (.cells #[.int .i64 x, .int .i64 y] ty (0, 0)) := by
  have hr : wx.heap[w.heap.size]? = some (.cells #[.int .i64 0, .int .i64 0] ty (0, 0)) := (hb.block _ (by simp)).trans (heap_alloc_new w _)
  have h0 : Below w.heap.size w wx := (below_newL w _).trans (hb.mono (by simp))
  refine ⟨hr, fun x y => ⟨(h0.setCell (Nat.le_refl _) _).setCell (Nat.le_refl _) _, ?_⟩⟩
  rw [heap_setCell_same _ _ 1 _ _ _ (heap_setCell_same _ _ 0 _ _ _ hr)]; rfl
theorem isSome_false {o : Option En} (h : o.isSome = false) : o = none := by cases o; rfl; cases h
end Go.Proofs.Ytkhfofpbmnapjaa
