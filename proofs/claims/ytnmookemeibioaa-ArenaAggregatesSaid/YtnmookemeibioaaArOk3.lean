/- The program's arena: the aggregates of a node. -/
import Derived.Test.YtnmookemeibioaaArOk2
set_option linter.unusedVariables false
namespace Go.Proofs.Ytnmookemeibioaa
open Go.RowKit
def Nd.add (x c : Nd) : Nd := if c.size = 0 then x else ⟨x.key, x.val, x.left, x.right, x.size + c.size, IntKind.i64.wrap (x.sum + c.sum), min x.mn c.mn, max x.mx c.mx⟩
theorem row8n {w : World} {g : Nat} {t : TypeId} {c0 c1 c2 c3 c4 c5 c6 c7 : Value} (h : w.heap[g]? = some (.cells #[c0, c1, c2, c3, c4, c5, c6, c7] t (0, 0))) :
    w.cell? ⟨g, 0, none⟩ = some c0 ∧ w.cell? ⟨g, 1, none⟩ = some c1 ∧ w.cell? ⟨g, 2, none⟩ = some c2 ∧ w.cell? ⟨g, 3, none⟩ = some c3 ∧ w.cell? ⟨g, 4, none⟩ = some c4 ∧ w.cell? ⟨g, 5, none⟩ = some c5 ∧ w.cell? ⟨g, 6, none⟩ = some c6 ∧ w.cell? ⟨g, 7, none⟩ = some c7 := by
  refine ⟨?_, ?_, ?_, ?_, ?_, ?_, ?_, ?_⟩ <;> (rw [cell_of_row _ _ _ _ _ _ h]; rfl)
theorem min_run (a b : Int) (w : World) (ts : Array TypeId) (t : TypeId) : (Builtin.min_ ts t #[.int .i64 a, .int .i64 b]).run Try.prog w = .ok (.int .i64 (min a b)) w := by
  have h : (if b < a then b else a) = min a b := by rw [Int.min_def]; split <;> split <;> omega
  rw [← h]
  simp [Builtin.min_, Builtin.min2]
theorem max_run (a b : Int) (w : World) (ts : Array TypeId) (t : TypeId) : (Builtin.max_ ts t #[.int .i64 a, .int .i64 b]).run Try.prog w = .ok (.int .i64 (max a b)) w := by
  have h : (if a < b then b else a) = max a b := by rw [Int.max_def]; split <;> split <;> omega
  rw [← h]
  simp [Builtin.max_, Builtin.max2]
def AddRes (w : World) (b : Nat) (x : Nd) (e : Ending) (w' : World) : Prop :=
  (∃ v, e = .returned v) ∧ w'.heap[b]? = some (.cells (nodA x) 50 (0, 0)) ∧ Alters (fun k => k = b) (fun k => k = b) w w'
theorem row_set1 {w : World} {b : Nat} {cs : Array Value} {t : TypeId} (h : w.heap[b]? = some (.cells cs t (0, 0))) (j : Nat) (v : Value) : (w.setCell ⟨b, j, none⟩ v).heap[b]? = some (.cells (cs.setIfInBounds j v) t (0, 0)) :=
  heap_setCell_same _ _ _ _ _ _ h
theorem alt_set1 {F F' : Nat → Prop} {w w' : World} {a : Addr} {v : Value} (h : Alters F F' w w') (hF : F' a.block) : Alters F F' w (w'.setCell a v) := h.trans (alters_set hF)
theorem alt_drew4 {F F' : Nat → Prop} {w w' : World} (h : Alters F F' w w') : Alters F F' w w'.drew.drew.drew.drew := ⟨h.os, h.tape, h.output, h.size, h.block, h.foot⟩
set_option maxHeartbeats 2000000 in
set_option maxRecDepth 100000 in
theorem a_addAgg (w : World) (b : Nat) (x c : Nd) (hb : w.heap[b]? = some (.cells (nodA x) 50 (0, 0))) (h1 : 0 ≤ x.size) (h2 : x.size ≤ 2147483647) (h3 : 0 ≤ c.size) (h4 : c.size ≤ 2147483647) :
    Calls Try.prog 66 #[.pointer (some ⟨b, 0, none⟩), .agg (nodA c)] w (AddRes w b (x.add c)) := by
  have hlt := (Array.getElem?_eq_some_iff.1 hb).1
  have hal := below_al w (Obj.cells (nodA c) 50)
  have hq := heap_alloc_new w (Obj.cells (nodA c) 50)
  have hb1 := (hal.block b hlt).trans hb
  have HA1 : Hid (Alters (fun k => k = b) (fun k => k = b) w (w.alloc (Obj.cells (nodA c) 50))) := .of_below hal
  clear hb hal
  go_enter Try.func66, Try.ntmps66
  unfold nodA
  go_upto_region 1 with fail
  rw [show #[Value.int .i64 c.key, .int .i64 c.val, .int .u32 (c.left : Int), .int .u32 (c.right : Int), .int .i64 c.size, .int .i64 c.sum, .int .i64 c.mn, .int .i64 c.mx] = nodA c from rfl]
  generalize w.alloc (Obj.cells (nodA c) 50) = w1 at hq hb1 HA1 ⊢
  obtain ⟨q, hqq⟩ : ∃ q, w.heap.size = q := ⟨_, rfl⟩
  rw [hqq] at hq hlt ⊢
  have HQQ := Lib.hid hqq
  have n1 : ¬ b = q := by omega
  have n2 : ¬ q = b := by omega
  clear hlt hqq
  have HQ := Lib.hid hq
  have HB := Lib.hid hb1
  unfold nodA at hq hb1
  obtain ⟨q0, q1, q2, q3, q4, q5, q6, q7⟩ := row8n hq
  obtain ⟨b0, b1, b2, b3, b4, b5, b6, b7⟩ := row8n hb1
  have f4 := frozen_of_row w1 b 4 _ _ hb1
  have f5 := frozen_of_row w1 b 5 _ _ hb1
  have f6 := frozen_of_row w1 b 6 _ _ hb1
  have f7 := frozen_of_row w1 b 7 _ _ hb1
  clear hq hb1
  by_cases hz : c.size = 0
  · have HZ := Lib.hid hz
    have hz2 : (c.size == 0) = true := by rw [hz]; rfl
    clear hz
    go_wp2_with fail
    refine bodyPost_ret (results_none rfl _ _ _) rfl ?_
    exact ⟨⟨_, rfl⟩, by unfold Nd.add; rw [if_pos HZ.out]; exact HB.out, HA1.out⟩
  · have HZ := Lib.hid hz
    have hz2 : (c.size == 0) = false := by simpa using hz
    clear hz
    go_upto_region 2 with fail
    go_region
    go_upto_region 3 with fail
    go_region
    have hmin := min_run x.mn c.mn
    have hmax := max_run x.mx c.mx
    go_upto_region 4 with fail
    go_region
    go_upto_region 5 with fail
    go_region
    go_wp2_with fail
    go_end0
    have e : ∀ W : World, W.drew.drew.drew.drew.heap[b]? = W.heap[b]? := fun _ => rfl
    refine ⟨⟨_, rfl⟩, ?_, alt_drew4 (alt_set1 (alt_set1 (alt_set1 (alt_set1 HA1.out rfl) rfl) rfl) rfl)⟩
    rw [e, row_set1 (row_set1 (row_set1 (row_set1 HB.out 4 _) 5 _) 6 _) 7 _]
    unfold Nd.add
    rw [if_neg HZ.out, show IntKind.i64.wrap (x.sum + c.sum) = wrap64 (x.sum + c.sum) from IntWalk.i64_left _]
    rfl
end Go.Proofs.Ytnmookemeibioaa
