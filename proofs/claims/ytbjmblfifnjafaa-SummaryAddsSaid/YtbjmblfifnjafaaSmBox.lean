/- Boxes of summaries; the program's summary of a value and its sum of two summaries. -/
import Derived.Test.YtbjmblfifnjafaaSmCon
import Derived.Test.YtbjmblfifnjafaaIns
import Derived.OwnWalk
import Derived.Deep.DeepCutAuto
set_option linter.unusedVariables false
set_option linter.unusedSimpArgs false
namespace Go.Proofs.Ytbjmblfifnjafaa
open Go.RowKit
section
variable {w w' : World} {a : Nat} {X Y : Sm}
/-- a world with four cells written -/
def put4 (w : World) (a : Nat) (Y : Sm) : World := (((w.setCell ⟨a, 0, none⟩ (.int .i64 Y.n)).setCell ⟨a, 1, none⟩ (.int .i64 Y.s)).setCell ⟨a, 2, none⟩ (.int .i64 Y.mn)).setCell ⟨a, 3, none⟩ (.int .i64 Y.mx)
theorem put4_size (w : World) (g : Nat) (Y : Sm) : (put4 w g Y).heap.size = w.heap.size := by simp [put4, World.setCell]
theorem put4_other (w : World) (g : Nat) (Y : Sm) {k : Nat} (hk : k ≠ g) : (put4 w g Y).heap[k]? = w.heap[k]? := by
  unfold put4
  rw [heap_setCell_other _ _ _ _ hk, heap_setCell_other _ _ _ _ hk, heap_setCell_other _ _ _ _ hk, heap_setCell_other _ _ _ _ hk]
theorem put4_same {t : TypeId} (h : w.heap[a]? = some (.cells (smA X) t (0, 0))) : (put4 w a Y).heap[a]? = some (.cells (smA Y) t (0, 0)) := by
  have h0 : (w.setCell ⟨a, 0, none⟩ (.int .i64 Y.n)).heap[a]? = some (.cells #[Value.int .i64 Y.n, .int .i64 X.s, .int .i64 X.mn, .int .i64 X.mx] t (0, 0)) := by rw [heap_setCell_same _ _ _ _ _ _ h]; rfl
  have h1 : ((w.setCell ⟨a, 0, none⟩ (.int .i64 Y.n)).setCell ⟨a, 1, none⟩ (.int .i64 Y.s)).heap[a]? = some (.cells #[Value.int .i64 Y.n, .int .i64 Y.s, .int .i64 X.mn, .int .i64 X.mx] t (0, 0)) := by rw [heap_setCell_same _ _ _ _ _ _ h0]; rfl
  have h2 : (((w.setCell ⟨a, 0, none⟩ (.int .i64 Y.n)).setCell ⟨a, 1, none⟩ (.int .i64 Y.s)).setCell ⟨a, 2, none⟩ (.int .i64 Y.mn)).heap[a]? = some (.cells #[Value.int .i64 Y.n, .int .i64 Y.s, .int .i64 Y.mn, .int .i64 X.mx] t (0, 0)) := by rw [heap_setCell_same _ _ _ _ _ _ h1]; rfl
  have h3 : ((((w.setCell ⟨a, 0, none⟩ (.int .i64 Y.n)).setCell ⟨a, 1, none⟩ (.int .i64 Y.s)).setCell ⟨a, 2, none⟩ (.int .i64 Y.mn)).setCell ⟨a, 3, none⟩ (.int .i64 Y.mx)).heap[a]? = some (.cells #[Value.int .i64 Y.n, .int .i64 Y.s, .int .i64 Y.mn, .int .i64 Y.mx] t (0, 0)) := by rw [heap_setCell_same _ _ _ _ _ _ h2]; rfl
  exact h3
theorem put4_below {n0 : Nat} (hw : n0 ≤ a) : Below n0 w (put4 w a Y) := (((((Below.refl _ _).setCell hw _).setCell hw _).setCell hw _).setCell hw _)
/-- four cells and their marks -/
def Row4 (w : World) (a : Nat) (X : Sm) : Prop :=
  (w.cell? ⟨a, 0, none⟩ = some (.int .i64 X.n) ∧ w.cell? ⟨a, 1, none⟩ = some (.int .i64 X.s) ∧ w.cell? ⟨a, 2, none⟩ = some (.int .i64 X.mn) ∧ w.cell? ⟨a, 3, none⟩ = some (.int .i64 X.mx)) ∧
  (w.frozen? ⟨a, 0, none⟩ = false ∧ w.frozen? ⟨a, 1, none⟩ = false ∧ w.frozen? ⟨a, 2, none⟩ = false ∧ w.frozen? ⟨a, 3, none⟩ = false)
theorem row4_of {t : TypeId} (h : w.heap[a]? = some (.cells (smA X) t (0, 0))) : Row4 w a X :=
  ⟨⟨by rw [cell_of_row _ _ _ _ _ _ h]; rfl, by rw [cell_of_row _ _ _ _ _ _ h]; rfl, by rw [cell_of_row _ _ _ _ _ _ h]; rfl, by rw [cell_of_row _ _ _ _ _ _ h]; rfl⟩, frozen_of_row _ _ _ _ _ h, frozen_of_row _ _ _ _ _ h, frozen_of_row _ _ _ _ _ h, frozen_of_row _ _ _ _ _ h⟩
theorem row4_z {t : TypeId} (h : w.heap[a]? = some (.cells #[.int .i64 0, .int .i64 0, .int .i64 0, .int .i64 0] t (0, 0))) : Row4 w a .z := row4_of (X := .z) h
end
section
variable {I : AImpl} {w wr wx : World} {F : Nat → Prop} {p : Value} {A : Ar} {rd : Int} {rs : List Row} {bs : List (Nat × Obj)}
theorem Ins.put4 {g : Nat} {X Y : Sm} (h : Ins I w F p A rd rs ((g, Obj.cells (smA X) 25 (0, 0)) :: bs) wr) : Ins I w F p A rd rs ((g, Obj.cells (smA Y) 25 (0, 0)) :: bs) (put4 wr g Y) :=
  h.set (put4_same (h.boxes _ (List.Mem.head _)).2) ⟨(put4_below (n0 := 0) (Nat.zero_le _)).os, (put4_below (n0 := 0) (Nat.zero_le _)).tape, (put4_below (n0 := 0) (Nat.zero_le _)).output, put4_size wr g Y, fun k hk => put4_other wr g Y hk⟩
theorem Ins.row4 {g : Nat} {X : Sm} (h : Ins I w F p A rd rs bs wr) (hm : (g, Obj.cells (smA X) 25 (0, 0)) ∈ bs) : Row4 wr g X := row4_of (h.boxes _ hm).2
end
theorem min_runT (a b : Int) (w : World) (ts : Array TypeId) (t : TypeId) : (Builtin.min_ ts t #[.int .i64 a, .int .i64 b]).run Try.prog w = .ok (.int .i64 (min a b)) w := by
  have h : (if b < a then b else a) = min a b := by rw [Int.min_def]; split <;> split <;> omega
  rw [← h]
  simp [Builtin.min_, Builtin.min2]
theorem max_runT (a b : Int) (w : World) (ts : Array TypeId) (t : TypeId) : (Builtin.max_ ts t #[.int .i64 a, .int .i64 b]).run Try.prog w = .ok (.int .i64 (max a b)) w := by
  have h : (if a < b then b else a) = max a b := by rw [Int.max_def]; split <;> split <;> omega
  rw [← h]
  simp [Builtin.max_, Builtin.max2]
/-- the summary of one value -/
def oneS (v : Int) : Sm := ⟨1, v, v, v⟩
theorem oneS_sum {e : En} (h : i64R e.val) : sumE [e] = oneS e.val := by
  have h1 := h.1
  have h2 := h.2
  show Sm.mk 1 (wrap64 (e.val + 0)) e.val e.val = _
  rw [show wrap64 (e.val + 0) = e.val by unfold wrap64; omega]
  rfl
set_option maxRecDepth 100000 in
theorem ofValue_any (v : Int) (w : World) : Calls Try.prog 26 #[.int .i64 v] w (Calm w (.agg (smA (oneS v)))) := by
  have hin : (Try.prog.info? 25).map (·.size) = some 4 := by kernel_rfl
  have HINF := Lib.hid hin
  have HU : Hid _ := Lib.hid Try.underlying25
  have hb := below_new7 w (Obj.cells #[.int .i64 0, .int .i64 0, .int .i64 0, .int .i64 0] 25)
  have hbx := heap_alloc_new w (Obj.cells #[.int .i64 0, .int .i64 0, .int .i64 0, .int .i64 0] 25)
  go_enter Try.func26, Try.ntmps26
  go_upto_region 1 with fail
  generalize w.alloc (Obj.cells #[.int .i64 0, .int .i64 0, .int .i64 0, .int .i64 0] 25) = w2 at hb hbx ⊢
  generalize hg : w.heap.size = g at hb hbx ⊢
  obtain ⟨⟨x0, x1, x2, x3⟩, f0, f1, f2, f3⟩ := row4_z hbx
  have HE : Hid (Below g w (put4 w2 g (oneS v)) ∧ (put4 w2 g (oneS v)).heap[g]? = some (.cells (smA (oneS v)) 25 (0, 0))) := ⟨hb.trans (put4_below (Nat.le_refl _)), put4_same (X := .z) hbx⟩
  have HGG := Lib.hid hg
  clear hb hbx hg hin
  go_wp2_with fail
  refine bodyPost_ret (results_cell_row rfl _ _ g 25 (smA (oneS v)) (0, 0) _ rfl HE.out.2 HU.out rfl HINF.out) rfl ?_
  exact ⟨rfl, by rw [HGG.out]; exact HE.out.1⟩
set_option maxHeartbeats 2000000 in
set_option maxRecDepth 100000 in
theorem addP_any (x y : Sm) (w : World) (hx : x.wf) (hy : y.wf) : Calls Try.prog 12 #[.agg (smA x), .agg (smA y)] w (Calm w (.agg (smA (addS x y)))) := by
  have hin : (Try.prog.info? 25).map (·.size) = some 4 := by kernel_rfl
  have HINF := Lib.hid hin
  have HU : Hid _ := Lib.hid Try.underlying25
  obtain ⟨w3, hw3⟩ : ∃ w3, ((w.alloc (Obj.cells (smA x) 25)).alloc (Obj.cells (smA y) 25)).alloc (Obj.cells (smA .z) 25) = w3 := ⟨_, rfl⟩
  have hb1 := below_new7 w (Obj.cells (smA x) 25)
  have hr1 := heap_alloc_new w (Obj.cells (smA x) 25)
  have hz1 : (w.alloc (Obj.cells (smA x) 25)).heap.size = w.heap.size + 1 := by simp
  have hb2 := below_new7 (w.alloc (Obj.cells (smA x) 25)) (Obj.cells (smA y) 25)
  have hr2 := heap_alloc_new (w.alloc (Obj.cells (smA x) 25)) (Obj.cells (smA y) 25)
  have hz2 : ((w.alloc (Obj.cells (smA x) 25)).alloc (Obj.cells (smA y) 25)).heap.size = w.heap.size + 2 := by simp
  have hb3 := below_new7 ((w.alloc (Obj.cells (smA x) 25)).alloc (Obj.cells (smA y) 25)) (Obj.cells (smA .z) 25)
  have hr3 := heap_alloc_new ((w.alloc (Obj.cells (smA x) 25)).alloc (Obj.cells (smA y) 25)) (Obj.cells (smA .z) 25)
  rw [hw3] at hb3 hr3
  rw [hz1] at hb2 hr2
  rw [hz2] at hb3 hr3
  have r1 : w3.heap[w.heap.size]? = some (.cells (smA x) 25 (0, 0)) := (hb3.block _ (by omega)).trans ((hb2.block _ (by omega)).trans hr1)
  have r2 : w3.heap[w.heap.size + 1]? = some (.cells (smA y) 25 (0, 0)) := (hb3.block _ (by omega)).trans hr2
  have hB : Below w.heap.size w w3 := hb1.trans ((hb2.mono (by omega)).trans (hb3.mono (by omega)))
  generalize h9 : w.heap.size = g at r1 r2 hr3 hB
  have HG : Hid (w.heap.size = g) := h9
  have HW3 : Hid (((w.alloc (Obj.cells #[Value.int .i64 x.n, .int .i64 x.s, .int .i64 x.mn, .int .i64 x.mx] 25)).alloc (Obj.cells #[Value.int .i64 y.n, .int .i64 y.s, .int .i64 y.mn, .int .i64 y.mx] 25)).alloc (Obj.cells #[.int .i64 0, .int .i64 0, .int .i64 0, .int .i64 0] 25) = w3) := hw3
  have HR3 : Hid (∀ s, Below g w (put4 w3 (g + 1 + 1) s) ∧ (put4 w3 (g + 1 + 1) s).heap[g + 1 + 1]? = some (.cells (smA s) 25 (0, 0))) := fun s => ⟨hB.trans (put4_below (by omega)), put4_same hr3⟩
  obtain ⟨⟨x0, x1, x2, x3⟩, -⟩ := row4_of r1
  obtain ⟨⟨y0, y1, y2, y3⟩, -⟩ := row4_of r2
  obtain ⟨⟨z0, z1, z2, z3⟩, f0, f1, f2, f3⟩ := row4_of hr3
  have HX : Hid x.wf := hx
  have HY : Hid y.wf := hy
  clear hb1 hr1 hz1 hb2 hr2 hz2 hb3 hr3 hw3 r1 r2 hB hx hy hin h9
  unfold smA
  go_enter Try.func12, Try.ntmps12
  go_upto_region 1 with fail
  rw [HW3.out, HG.out]
  by_cases h0 : x.n = 0
  · have q0 : (x.n == 0) = true := by simp [h0]
    have HE := HR3.out y
    have HA : Hid (addS x y = y) := if_pos h0
    clear h0 HR3
    go_wp2_with fail
    refine bodyPost_ret (results_cell_row rfl _ _ (g + 1 + 1) 25 (smA y) (0, 0) _ rfl HE.2 HU.out rfl HINF.out) rfl ?_
    rw [HA.out]
    exact ⟨rfl, by rw [HG.out]; exact HE.1⟩
  have q0 : (x.n == 0) = false := by simp [h0]
  by_cases h1 : y.n = 0
  · have q1 : (y.n == 0) = true := by simp [h1]
    have HE := HR3.out x
    have HA : Hid (addS x y = x) := (if_neg h0).trans (if_pos h1)
    clear h0 h1 HR3
    go_wp2_with fail
    refine bodyPost_ret (results_cell_row rfl _ _ (g + 1 + 1) 25 (smA x) (0, 0) _ rfl HE.2 HU.out rfl HINF.out) rfl ?_
    rw [HA.out]
    exact ⟨rfl, by rw [HG.out]; exact HE.1⟩
  have q1 : (y.n == 0) = false := by simp [h1]
  have HE := HR3.out (addS x y)
  have HA : Hid (addS x y = ⟨wrap64 (x.n + y.n), wrap64 (x.s + y.s), min x.mn y.mn, max x.mx y.mx⟩) := (if_neg h0).trans (if_neg h1)
  rw [HA.out] at HE
  have hmn := min_runT x.mn y.mn
  have hmx := max_runT x.mx y.mx
  generalize min x.mn y.mn = mn at HE HA hmn ⊢
  generalize max x.mx y.mx = mx at HE HA hmx ⊢
  clear h0 h1 HR3
  go_wp2_with fail
  refine bodyPost_ret (results_cell_row rfl _ _ (g + 1 + 1) 25 (smA ⟨wrap64 (x.n + y.n), wrap64 (x.s + y.s), mn, mx⟩) (0, 0) _ rfl HE.2 HU.out rfl HINF.out) rfl ?_
  rw [HA.out]
  exact ⟨rfl, by rw [HG.out]; exact HE.1⟩
end Go.Proofs.Ytbjmblfifnjafaa
