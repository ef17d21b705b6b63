/- Which slots of a dump are reachable: the walk of the reference's marks. -/
import Derived.Test.YticfihklfnjeoaaDumpD
set_option linter.unusedVariables false
namespace Go.Proofs.Yticfihklfnjeoaa
open Go.RowKit

def MadeMarks (w : World) (S : Nat → Sl) (n : Nat) (rs : List Nat) (e : Ending) (w' : World) : Prop :=
  ∃ g B, e = .returned (.slice (some ⟨g, 0, none⟩) n n) ∧ w'.ownsRow w.heap.size 4 1 (.slice (some ⟨g, 0, none⟩) n n) n (boolR n B) ∧ (∀ j, j < n → (B j = true ↔ Rch S n rs (j + 1))) ∧ Below w.heap.size w w'
/-- the marks and the stack in memory -/
structure MarkRel (S : Nat → Sl) (n : Nat) (rs : List Nat) (q : Nat) (w1 : World) (gk : Nat) (x : Value) (B : Nat → Bool) (st : List Nat) (wr : World) : Prop where
  inv : MInv S n rs B st
  row : wr.ownsRow (q + 1) 4 1 (.slice (some ⟨q + 1, 0, none⟩) n n) n (boolR n B)
  val : ∃ a c, x = .slice a st.length c
  work : wr.ownsRow (q + 2) 30 1 x st.length (u32s st)
  lt : ∀ y ∈ st, y < 4294967296
  num : 3 * um n B + st.length ≤ gk
  big : gk ≤ 2000000
  below : Below (q + 1) w1 wr
section
variable {S : Nat → Sl} {n q gk gk' : Nat} {rs : List Nat} {w1 wr w' : World} {x x' : Value} {B : Nat → Bool} {st t : List Nat}
theorem MarkRel.from (h : MarkRel S n rs q w1 gk x B st wr) (hb : Below wr.heap.size wr w') (hs : q + 1 ≤ w1.heap.size) : MarkRel S n rs q w1 gk x B st w' :=
  ⟨h.inv, row_below h.row hb, h.val, row_below h.work hb, h.lt, h.num, h.big, h.below.trans (hb.mono (Nat.le_trans hs h.below.size))⟩
theorem MarkRel.pop {a : Option Addr} {c y : Nat} (h : MarkRel S n rs q w1 gk (.slice a (t.length + 1) c) B (t ++ [y]) wr) (hy : Al S n y → B (y - 1) = true) (hg : gk' < gk) (hg2 : 3 * um n B + t.length ≤ gk') : MarkRel S n rs q w1 gk' (.slice a t.length c) B t wr := by
  have hw := h.work
  rw [List.length_append] at hw
  obtain ⟨g, rfl⟩ := row_head hw (by simp)
  have h1 := row_cut hw (m := t.length) (by simp)
  rw [show (u32s (t ++ [y])).take t.length = u32s t by rw [u32s_app]; simp [u32s]] at h1
  exact ⟨h.inv.skip hy, h.row, ⟨_, _, rfl⟩, h1, fun z hz => h.lt z (by simp [hz]), hg2, by have := h.big; omega, h.below⟩
/-- a slot was marked, its children are not yet on the stack -/
structure MarkMid (n q : Nat) (w1 : World) (B : Nat → Bool) (x : Value) (t : List Nat) (wr : World) : Prop where
  row : wr.ownsRow (q + 1) 4 1 (.slice (some ⟨q + 1, 0, none⟩) n n) n (boolR n B)
  work : wr.ownsRow (q + 2) 30 1 x t.length (u32s t)
  below : Below (q + 1) w1 wr
theorem MarkMid.from (h : MarkMid n q w1 B x t wr) (hb : Below wr.heap.size wr w') (hs : q + 1 ≤ w1.heap.size) : MarkMid n q w1 B x t w' :=
  ⟨row_below h.row hb, row_below h.work hb, h.below.trans (hb.mono (Nat.le_trans hs h.below.size))⟩
theorem MarkRel.mid {a : Option Addr} {c j y : Nat} (h : MarkRel S n rs q w1 gk (.slice a (t ++ [y]).length c) B (t ++ [y]) wr) : MarkMid n q w1 (setB B j) (.slice a t.length c) t (wr.setCell ⟨q + 1, j, none⟩ (.bool true)) := by
  have hw := h.work
  rw [List.length_append] at hw
  obtain ⟨g, rfl⟩ := row_head hw (by simp)
  have h1 := row_cut hw (m := t.length) (by simp)
  rw [show (u32s (t ++ [y])).take t.length = u32s t by rw [u32s_app]; simp [u32s]] at h1
  refine ⟨?_, row_keep h1 fun k hk => heap_setCell_other _ _ _ _ ?_, h.below.setCell (Nat.le_refl _) _⟩
  · rw [← boolR_set]; exact (h.row.stored j _).1
  · have := row_from h1 k hk
    show k ≠ q + 1
    omega
theorem MarkMid.push {v : Value} {j : Nat} {w2 : World} (h : MarkMid n q w1 (setB B j) x t wr) (hr : MarkRel S n rs q w1 gk x' B (t ++ [j + 1]) w2) (hj : Al S n (j + 1)) (hb : B j = false) (hk : (S j).nd.left < 4294967296 ∧ (S j).nd.right < 4294967296)
    (hg : wr.grownBy w' x.ownBlock) (hv : w'.ownsRow (q + 2) 30 1 v (t.length + 2) (u32s t ++ [.int .u32 ((S j).nd.left : Int), .int .u32 ((S j).nd.right : Int)])) (h0 : 0 < gk) (hq : q + 1 ≤ w1.heap.size) :
    MarkRel S n rs q w1 (gk - 1) v (setB B j) (t ++ [(S j).nd.left, (S j).nd.right]) w' := by
  have hl : (t ++ [(S j).nd.left, (S j).nd.right]).length = t.length + 2 := by simp
  obtain ⟨a, c, hvv⟩ := row_val hv
  have hnum := hr.num
  rw [List.length_append] at hnum
  have hu := um_set B hb n (by have := hj.2.1; omega)
  refine ⟨hr.inv.mark hj, row_keep h.row fun k hk => hg.block k (row_lt h.row k hk).2 fun e => ?_, ⟨a, c, by rw [hl]; exact hvv⟩, ?_, fun y hy => ?_, ?_, by have := hr.big; omega, h.below.grown hg (Nat.le_trans hq h.below.size) fun k hk => ?_⟩
  · simp [Value.ownBlock] at hk; have := row_from h.work k e.symm; omega
  · rw [hl, u32s_app]; exact hv
  · rcases List.mem_append.1 hy with h1 | h1
    · exact hr.lt y (by simp [h1])
    · simp at h1; rcases h1 with rfl | rfl
      · exact hk.1
      · exact hk.2
  · rw [hl]; simp at hnum; omega
  · have := row_from h.work k hk; omega
end
end Go.Proofs.Yticfihklfnjeoaa
