/- Boxes of nodes that a drawn region makes, among its calls. -/
import Derived.Test.YtkhfofpbmnapjaaRefNode
import Derived.Test.YtkhfofpbmnapjaaRefNear
set_option linter.unusedVariables false
set_option linter.unusedSimpArgs false
namespace Go.Proofs.Ytkhfofpbmnapjaa
open Go.RowKit
/-- boxes of nodes above a world -/
structure BX (w0 w : World) (D : List (Nat × Nd)) : Prop where
  below : Below w0.heap.size w0 w
  at_ : ∀ d ∈ D, w0.heap.size ≤ d.1 ∧ w.heap[d.1]? = some (.cells (ndRow d.2) 40 (0, 0))
  ne : D.Pairwise (fun x y => x.1 ≠ y.1)
section
variable {w0 w w' : World} {D : List (Nat × Nd)} {a b c : Nat} {X Y Z Y1 Y2 Y3 : Nd}
theorem BX.refl (w : World) : BX w w [] := ⟨Below.refl _ _, fun d hd => (by cases hd), List.Pairwise.nil⟩
theorem BX.drew (h : BX w0 w D) : BX w0 w.drew D := ⟨h.below.drew, h.at_, h.ne⟩
theorem BX.lt (h : BX w0 w D) {d : Nat × Nd} (hd : d ∈ D) : d.1 < w.heap.size := (Array.getElem?_eq_some_iff.1 (h.at_ d hd).2).1
theorem BX.calm (h : BX w0 w D) (hb : Below w.heap.size w w') : BX w0 w' D := ⟨h.below.trans (hb.mono h.below.size), fun d hd => ⟨(h.at_ d hd).1, (hb.block _ (h.lt hd)).trans (h.at_ d hd).2⟩, h.ne⟩
theorem BX.alloc (h : BX w0 w D) (x : Nd) : BX w0 (w.alloc (.cells (ndRow x) 40)) ((w.heap.size, x) :: D) := by
  have hb := below_newL w (.cells (ndRow x) 40)
  have h' := h.calm hb
  refine ⟨h'.below, fun d hd => ?_, List.pairwise_cons.2 ⟨fun d hd e => ?_, h.ne⟩⟩
  · rcases List.mem_cons.1 hd with rfl | hd
    · exact ⟨h.below.size, heap_alloc_new w _⟩
    · exact h'.at_ d hd
  · have := h.lt hd
    have e' : w.heap.size = d.1 := e
    omega
theorem BX.alloc0 (h : BX w0 w D) : BX w0 (w.alloc (.cells #[Value.int .i64 0, .int .i64 0, .int .u32 0, .int .u32 0, .int .i64 0, .int .i64 0, .int .i64 0, .int .i64 0] 40)) ((w.heap.size, Nd.zero) :: D) := h.alloc Nd.zero
theorem BX.less {D' : List (Nat × Nd)} (h : BX w0 w D) (hd : D'.Sublist D) : BX w0 w D' := ⟨h.below, fun d h1 => h.at_ d (hd.subset h1), h.ne.sublist hd⟩
theorem BX.perm {D' : List (Nat × Nd)} (h : BX w0 w D) (hp : D.Perm D') : BX w0 w D' := ⟨h.below, fun d hd => h.at_ d (hp.mem_iff.2 hd), hp.pairwise h.ne (fun e e' => e e'.symm)⟩
/-- a world with eight cells written -/
def put8 (w : World) (a : Nat) (Y : Nd) : World := ((((((((w.setCell ⟨a, 0, none⟩ (.int .i64 Y.key)).setCell ⟨a, 1, none⟩ (.int .i64 Y.val)).setCell ⟨a, 2, none⟩ (.int .u32 (Y.left : Int))).setCell ⟨a, 3, none⟩ (.int .u32 (Y.right : Int))).setCell ⟨a, 4, none⟩ (.int .i64 Y.size)).setCell ⟨a, 5, none⟩ (.int .i64 Y.sum)).setCell ⟨a, 6, none⟩ (.int .i64 Y.mn)).setCell ⟨a, 7, none⟩ (.int .i64 Y.mx))
theorem put8_size (w : World) (g : Nat) (Y : Nd) : (put8 w g Y).heap.size = w.heap.size := by simp [put8, World.setCell]
theorem put8_other (w : World) (g : Nat) (Y : Nd) {k : Nat} (hk : k ≠ g) : (put8 w g Y).heap[k]? = w.heap[k]? := by
  unfold put8
  rw [heap_setCell_other _ _ _ _ hk, heap_setCell_other _ _ _ _ hk, heap_setCell_other _ _ _ _ hk, heap_setCell_other _ _ _ _ hk, heap_setCell_other _ _ _ _ hk, heap_setCell_other _ _ _ _ hk, heap_setCell_other _ _ _ _ hk, heap_setCell_other _ _ _ _ hk]
theorem put8_same {t : TypeId} (h : w.heap[a]? = some (.cells (ndRow X) t (0, 0))) : (put8 w a Y).heap[a]? = some (.cells (ndRow Y) t (0, 0)) := by
  have h0 : (w.setCell ⟨a, 0, none⟩ (.int .i64 Y.key)).heap[a]? = some (.cells #[Value.int .i64 Y.key, .int .i64 X.val, .int .u32 (X.left : Int), .int .u32 (X.right : Int), .int .i64 X.size, .int .i64 X.sum, .int .i64 X.mn, .int .i64 X.mx] t (0, 0)) := by rw [heap_setCell_same _ _ _ _ _ _ h]; rfl
  have h1 : ((w.setCell ⟨a, 0, none⟩ (.int .i64 Y.key)).setCell ⟨a, 1, none⟩ (.int .i64 Y.val)).heap[a]? = some (.cells #[Value.int .i64 Y.key, .int .i64 Y.val, .int .u32 (X.left : Int), .int .u32 (X.right : Int), .int .i64 X.size, .int .i64 X.sum, .int .i64 X.mn, .int .i64 X.mx] t (0, 0)) := by rw [heap_setCell_same _ _ _ _ _ _ h0]; rfl
  have h2 : (((w.setCell ⟨a, 0, none⟩ (.int .i64 Y.key)).setCell ⟨a, 1, none⟩ (.int .i64 Y.val)).setCell ⟨a, 2, none⟩ (.int .u32 (Y.left : Int))).heap[a]? = some (.cells #[Value.int .i64 Y.key, .int .i64 Y.val, .int .u32 (Y.left : Int), .int .u32 (X.right : Int), .int .i64 X.size, .int .i64 X.sum, .int .i64 X.mn, .int .i64 X.mx] t (0, 0)) := by rw [heap_setCell_same _ _ _ _ _ _ h1]; rfl
  have h3 : ((((w.setCell ⟨a, 0, none⟩ (.int .i64 Y.key)).setCell ⟨a, 1, none⟩ (.int .i64 Y.val)).setCell ⟨a, 2, none⟩ (.int .u32 (Y.left : Int))).setCell ⟨a, 3, none⟩ (.int .u32 (Y.right : Int))).heap[a]? = some (.cells #[Value.int .i64 Y.key, .int .i64 Y.val, .int .u32 (Y.left : Int), .int .u32 (Y.right : Int), .int .i64 X.size, .int .i64 X.sum, .int .i64 X.mn, .int .i64 X.mx] t (0, 0)) := by rw [heap_setCell_same _ _ _ _ _ _ h2]; rfl
  have h4 : (((((w.setCell ⟨a, 0, none⟩ (.int .i64 Y.key)).setCell ⟨a, 1, none⟩ (.int .i64 Y.val)).setCell ⟨a, 2, none⟩ (.int .u32 (Y.left : Int))).setCell ⟨a, 3, none⟩ (.int .u32 (Y.right : Int))).setCell ⟨a, 4, none⟩ (.int .i64 Y.size)).heap[a]? = some (.cells #[Value.int .i64 Y.key, .int .i64 Y.val, .int .u32 (Y.left : Int), .int .u32 (Y.right : Int), .int .i64 Y.size, .int .i64 X.sum, .int .i64 X.mn, .int .i64 X.mx] t (0, 0)) := by rw [heap_setCell_same _ _ _ _ _ _ h3]; rfl
  have h5 : ((((((w.setCell ⟨a, 0, none⟩ (.int .i64 Y.key)).setCell ⟨a, 1, none⟩ (.int .i64 Y.val)).setCell ⟨a, 2, none⟩ (.int .u32 (Y.left : Int))).setCell ⟨a, 3, none⟩ (.int .u32 (Y.right : Int))).setCell ⟨a, 4, none⟩ (.int .i64 Y.size)).setCell ⟨a, 5, none⟩ (.int .i64 Y.sum)).heap[a]? = some (.cells #[Value.int .i64 Y.key, .int .i64 Y.val, .int .u32 (Y.left : Int), .int .u32 (Y.right : Int), .int .i64 Y.size, .int .i64 Y.sum, .int .i64 X.mn, .int .i64 X.mx] t (0, 0)) := by rw [heap_setCell_same _ _ _ _ _ _ h4]; rfl
  have h6 : (((((((w.setCell ⟨a, 0, none⟩ (.int .i64 Y.key)).setCell ⟨a, 1, none⟩ (.int .i64 Y.val)).setCell ⟨a, 2, none⟩ (.int .u32 (Y.left : Int))).setCell ⟨a, 3, none⟩ (.int .u32 (Y.right : Int))).setCell ⟨a, 4, none⟩ (.int .i64 Y.size)).setCell ⟨a, 5, none⟩ (.int .i64 Y.sum)).setCell ⟨a, 6, none⟩ (.int .i64 Y.mn)).heap[a]? = some (.cells #[Value.int .i64 Y.key, .int .i64 Y.val, .int .u32 (Y.left : Int), .int .u32 (Y.right : Int), .int .i64 Y.size, .int .i64 Y.sum, .int .i64 Y.mn, .int .i64 X.mx] t (0, 0)) := by rw [heap_setCell_same _ _ _ _ _ _ h5]; rfl
  have h7 : ((((((((w.setCell ⟨a, 0, none⟩ (.int .i64 Y.key)).setCell ⟨a, 1, none⟩ (.int .i64 Y.val)).setCell ⟨a, 2, none⟩ (.int .u32 (Y.left : Int))).setCell ⟨a, 3, none⟩ (.int .u32 (Y.right : Int))).setCell ⟨a, 4, none⟩ (.int .i64 Y.size)).setCell ⟨a, 5, none⟩ (.int .i64 Y.sum)).setCell ⟨a, 6, none⟩ (.int .i64 Y.mn)).setCell ⟨a, 7, none⟩ (.int .i64 Y.mx)).heap[a]? = some (.cells #[Value.int .i64 Y.key, .int .i64 Y.val, .int .u32 (Y.left : Int), .int .u32 (Y.right : Int), .int .i64 Y.size, .int .i64 Y.sum, .int .i64 Y.mn, .int .i64 Y.mx] t (0, 0)) := by rw [heap_setCell_same _ _ _ _ _ _ h6]; rfl
  exact h7
theorem put8_below {n0 : Nat} (hw : n0 ≤ a) : Below n0 w (put8 w a Y) := (((((((((Below.refl _ _).setCell hw _).setCell hw _).setCell hw _).setCell hw _).setCell hw _).setCell hw _).setCell hw _).setCell hw _)
theorem BX.put (h : BX w0 w ((a, X) :: D)) : BX w0 (put8 w a Y) ((a, Y) :: D) := by
  obtain ⟨h1, h2⟩ := List.pairwise_cons.1 h.ne
  have ha := h.at_ (a, X) (List.Mem.head _)
  refine ⟨h.below.trans (put8_below ha.1), fun d hd => ?_, List.pairwise_cons.2 ⟨h1, h2⟩⟩
  rcases List.mem_cons.1 hd with rfl | hd
  · exact ⟨ha.1, put8_same ha.2⟩
  · exact ⟨(h.at_ d (List.Mem.tail _ hd)).1, (put8_other w a Y (fun e => h1 d hd e.symm)).trans (h.at_ d (List.Mem.tail _ hd)).2⟩
/-- eight cells and their marks -/
def Row8 (w : World) (a : Nat) (X : Nd) : Prop :=
  (w.cell? ⟨a, 0, none⟩ = some (.int .i64 X.key) ∧ w.cell? ⟨a, 1, none⟩ = some (.int .i64 X.val) ∧ w.cell? ⟨a, 2, none⟩ = some (.int .u32 (X.left : Int)) ∧ w.cell? ⟨a, 3, none⟩ = some (.int .u32 (X.right : Int)) ∧ w.cell? ⟨a, 4, none⟩ = some (.int .i64 X.size) ∧ w.cell? ⟨a, 5, none⟩ = some (.int .i64 X.sum) ∧ w.cell? ⟨a, 6, none⟩ = some (.int .i64 X.mn) ∧ w.cell? ⟨a, 7, none⟩ = some (.int .i64 X.mx)) ∧
  (w.frozen? ⟨a, 0, none⟩ = false ∧ w.frozen? ⟨a, 1, none⟩ = false ∧ w.frozen? ⟨a, 2, none⟩ = false ∧ w.frozen? ⟨a, 3, none⟩ = false ∧ w.frozen? ⟨a, 4, none⟩ = false ∧ w.frozen? ⟨a, 5, none⟩ = false ∧ w.frozen? ⟨a, 6, none⟩ = false ∧ w.frozen? ⟨a, 7, none⟩ = false)
theorem row8_of {t : TypeId} (h : w.heap[a]? = some (.cells (ndRow X) t (0, 0))) : Row8 w a X :=
  ⟨⟨(by rw [cell_of_row _ _ _ _ _ _ h]; rfl), (by rw [cell_of_row _ _ _ _ _ _ h]; rfl), (by rw [cell_of_row _ _ _ _ _ _ h]; rfl), (by rw [cell_of_row _ _ _ _ _ _ h]; rfl), (by rw [cell_of_row _ _ _ _ _ _ h]; rfl), (by rw [cell_of_row _ _ _ _ _ _ h]; rfl), (by rw [cell_of_row _ _ _ _ _ _ h]; rfl), (by rw [cell_of_row _ _ _ _ _ _ h]; rfl)⟩,
   ⟨frozen_of_row w a 0 _ _ h, frozen_of_row w a 1 _ _ h, frozen_of_row w a 2 _ _ h, frozen_of_row w a 3 _ _ h, frozen_of_row w a 4 _ _ h, frozen_of_row w a 5 _ _ h, frozen_of_row w a 6 _ _ h, frozen_of_row w a 7 _ _ h⟩⟩
/-- the first box: its cells, and that it is none of the blocks to come -/
def Off (w : World) (q a : Nat) : Prop := a < w.heap.size ∧ ¬ a = w.heap.size ∧ ¬ w.heap.size = a ∧ a < w.heap.size + 1 ∧ ¬ a = w.heap.size + 1 ∧ ¬ w.heap.size + 1 = a ∧ ¬ q = a ∧ ¬ a = q
theorem old2 {n q : Nat} (h : q < n) : q < n + 1 + 1 ∧ ¬ q = n + 1 + 1 ∧ ¬ n + 1 + 1 = q ∧ ¬ q = n + 2 ∧ ¬ n + 2 = q := by omega
theorem BX.b1 {q : Nat} (h : BX w0 w ((a, X) :: D)) (hq : q < w0.heap.size) : Row8 w a X ∧ Off w q a := by
  have h1 := h.lt (List.Mem.head D)
  have h2 : a < w.heap.size := h1
  have h3 := (h.at_ _ (List.Mem.head D)).1
  have h4 : w0.heap.size ≤ a := h3
  exact ⟨row8_of (h.at_ _ (List.Mem.head D)).2, h2, by omega, by omega, by omega, by omega, by omega, by omega, by omega⟩
theorem BX.b2 {q : Nat} (h : BX w0 w ((b, Y) :: (a, X) :: D)) (hq : q < w0.heap.size) : (Row8 w a X ∧ Off w q a) ∧ ¬ a = b ∧ ¬ b = a := by
  have h1 : b ≠ a := (List.pairwise_cons.1 h.ne).1 (a, X) (List.Mem.head D)
  exact ⟨BX.b1 (h.less (List.sublist_cons_self _ _)) hq, fun e => h1 e.symm, h1⟩
theorem BX.b3 {q : Nat} (h : BX w0 w ((c, Z) :: (b, Y) :: (a, X) :: D)) (hq : q < w0.heap.size) : (Row8 w a X ∧ Off w q a) ∧ ¬ a = c ∧ ¬ c = a := by
  have h1 : c ≠ a := (List.pairwise_cons.1 h.ne).1 (a, X) (List.Mem.tail _ (List.Mem.head D))
  exact ⟨BX.b1 (h.less ((List.sublist_cons_self _ _).trans (List.sublist_cons_self _ _))) hq, fun e => h1 e.symm, h1⟩
theorem BX.ap1 {q : Nat} (h : BX w0 w ((a, X) :: D)) (hq : q < w0.heap.size) : ¬ q = a ∧ ¬ a = q := by
  have h3 : w0.heap.size ≤ a := (h.at_ _ (List.Mem.head _)).1
  omega
theorem BX.ap2 {q : Nat} (h : BX w0 w ((b, Y) :: (a, X) :: D)) (hq : q < w0.heap.size) : ¬ q = a ∧ ¬ a = q := BX.ap1 (h.less (List.sublist_cons_self _ _)) hq
theorem BX.ap3 {q : Nat} (h : BX w0 w ((c, Z) :: (b, Y) :: (a, X) :: D)) (hq : q < w0.heap.size) : ¬ q = a ∧ ¬ a = q := BX.ap2 (h.less (List.sublist_cons_self _ _)) hq
theorem BX.apart2 (h : BX w0 w ((b, Y) :: (a, X) :: D)) : ¬ a = b ∧ ¬ b = a := by
  have h1 : b ≠ a := (List.pairwise_cons.1 h.ne).1 (a, X) (List.Mem.head D)
  exact ⟨fun e => h1 e.symm, h1⟩
/-- an older block is none of the blocks to come -/
theorem BX.old {q : Nat} (h : BX w0 w D) (hq : q < w0.heap.size) : q < w.heap.size ∧ ¬ q = w.heap.size ∧ ¬ w.heap.size = q ∧ q < w.heap.size + 1 ∧ ¬ q = w.heap.size + 1 ∧ ¬ w.heap.size + 1 = q := by
  have := h.below.size
  exact ⟨by omega, by omega, by omega, by omega, by omega, by omega⟩
theorem sz_al (w : World) (o : Obj) : (w.alloc o).heap.size = w.heap.size + 1 := by simp
/-! ### the ends of a region with two boxes, Y1's and Y2's stores in this order -/
theorem bx12 (h : BX w0 w []) : BX w0 ((w.alloc (Obj.cells #[Value.int .i64 Y1.key, .int .i64 Y1.val, .int .u32 (Y1.left : Int), .int .u32 (Y1.right : Int), .int .i64 Y1.size, .int .i64 Y1.sum, .int .i64 Y1.mn, .int .i64 Y1.mx] 40)).alloc (Obj.cells #[Value.int .i64 Y2.key, .int .i64 Y2.val, .int .u32 (Y2.left : Int), .int .u32 (Y2.right : Int), .int .i64 Y2.size, .int .i64 Y2.sum, .int .i64 Y2.mn, .int .i64 Y2.mx] 40)) [(w.heap.size + 1, Y2), (w.heap.size, Y1)] := by
  have h1 := (h.alloc Y1).alloc Y2
  rw [sz_al] at h1
  exact h1
theorem bx21 (h : BX w0 w []) : BX w0 ((w.alloc (Obj.cells #[Value.int .i64 Y2.key, .int .i64 Y2.val, .int .u32 (Y2.left : Int), .int .u32 (Y2.right : Int), .int .i64 Y2.size, .int .i64 Y2.sum, .int .i64 Y2.mn, .int .i64 Y2.mx] 40)).alloc (Obj.cells #[Value.int .i64 Y1.key, .int .i64 Y1.val, .int .u32 (Y1.left : Int), .int .u32 (Y1.right : Int), .int .i64 Y1.size, .int .i64 Y1.sum, .int .i64 Y1.mn, .int .i64 Y1.mx] 40)) [(w.heap.size, Y2), (w.heap.size + 1, Y1)] := by
  have h1 := (h.alloc Y2).alloc Y1
  rw [sz_al] at h1
  exact h1.perm (List.Perm.swap _ _ _)
theorem bx3 (h : BX w0 w [(a, Nd.zero)]) : BX w0 (((((((((w.setCell ⟨a, 0, none⟩ (.int .i64 Y1.key)).setCell ⟨a, 1, none⟩ (.int .i64 Y1.val)).setCell ⟨a, 2, none⟩ (.int .u32 (Y1.left : Int))).setCell ⟨a, 3, none⟩ (.int .u32 (Y1.right : Int))).setCell ⟨a, 4, none⟩ (.int .i64 Y1.size)).setCell ⟨a, 5, none⟩ (.int .i64 Y1.sum)).setCell ⟨a, 6, none⟩ (.int .i64 Y1.mn)).setCell ⟨a, 7, none⟩ (.int .i64 Y1.mx)).alloc (Obj.cells #[Value.int .i64 Y2.key, .int .i64 Y2.val, .int .u32 (Y2.left : Int), .int .u32 (Y2.right : Int), .int .i64 Y2.size, .int .i64 Y2.sum, .int .i64 Y2.mn, .int .i64 Y2.mx] 40)) [(w.heap.size, Y2), (a, Y1)] := by
  have h1 := (h.put (Y := Y1)).alloc Y2
  rw [put8_size] at h1
  exact h1
theorem bx4 (h : BX w0 w [(a, Nd.zero)]) : BX w0 (((((((((w.setCell ⟨a, 0, none⟩ (.int .i64 Y2.key)).setCell ⟨a, 1, none⟩ (.int .i64 Y2.val)).setCell ⟨a, 2, none⟩ (.int .u32 (Y2.left : Int))).setCell ⟨a, 3, none⟩ (.int .u32 (Y2.right : Int))).setCell ⟨a, 4, none⟩ (.int .i64 Y2.size)).setCell ⟨a, 5, none⟩ (.int .i64 Y2.sum)).setCell ⟨a, 6, none⟩ (.int .i64 Y2.mn)).setCell ⟨a, 7, none⟩ (.int .i64 Y2.mx)).alloc (Obj.cells #[Value.int .i64 Y1.key, .int .i64 Y1.val, .int .u32 (Y1.left : Int), .int .u32 (Y1.right : Int), .int .i64 Y1.size, .int .i64 Y1.sum, .int .i64 Y1.mn, .int .i64 Y1.mx] 40)) [(a, Y2), (w.heap.size, Y1)] := by
  have h1 := (h.put (Y := Y2)).alloc Y1
  rw [put8_size] at h1
  exact h1.perm (List.Perm.swap _ _ _)
theorem bx5 (h : BX w0 w [(b, Nd.zero), (a, Nd.zero)]) : BX w0 ((((((((((((((((w.setCell ⟨a, 0, none⟩ (.int .i64 Y1.key)).setCell ⟨a, 1, none⟩ (.int .i64 Y1.val)).setCell ⟨a, 2, none⟩ (.int .u32 (Y1.left : Int))).setCell ⟨a, 3, none⟩ (.int .u32 (Y1.right : Int))).setCell ⟨a, 4, none⟩ (.int .i64 Y1.size)).setCell ⟨a, 5, none⟩ (.int .i64 Y1.sum)).setCell ⟨a, 6, none⟩ (.int .i64 Y1.mn)).setCell ⟨a, 7, none⟩ (.int .i64 Y1.mx)).setCell ⟨b, 0, none⟩ (.int .i64 Y2.key)).setCell ⟨b, 1, none⟩ (.int .i64 Y2.val)).setCell ⟨b, 2, none⟩ (.int .u32 (Y2.left : Int))).setCell ⟨b, 3, none⟩ (.int .u32 (Y2.right : Int))).setCell ⟨b, 4, none⟩ (.int .i64 Y2.size)).setCell ⟨b, 5, none⟩ (.int .i64 Y2.sum)).setCell ⟨b, 6, none⟩ (.int .i64 Y2.mn)).setCell ⟨b, 7, none⟩ (.int .i64 Y2.mx)) [(b, Y2), (a, Y1)] := (((h.perm (List.Perm.swap _ _ _)).put (Y := Y1)).perm (List.Perm.swap _ _ _)).put (Y := Y2)
theorem bx6 (h : BX w0 w [(b, Nd.zero), (a, Nd.zero)]) : BX w0 ((((((((((((((((w.setCell ⟨b, 0, none⟩ (.int .i64 Y1.key)).setCell ⟨b, 1, none⟩ (.int .i64 Y1.val)).setCell ⟨b, 2, none⟩ (.int .u32 (Y1.left : Int))).setCell ⟨b, 3, none⟩ (.int .u32 (Y1.right : Int))).setCell ⟨b, 4, none⟩ (.int .i64 Y1.size)).setCell ⟨b, 5, none⟩ (.int .i64 Y1.sum)).setCell ⟨b, 6, none⟩ (.int .i64 Y1.mn)).setCell ⟨b, 7, none⟩ (.int .i64 Y1.mx)).setCell ⟨a, 0, none⟩ (.int .i64 Y2.key)).setCell ⟨a, 1, none⟩ (.int .i64 Y2.val)).setCell ⟨a, 2, none⟩ (.int .u32 (Y2.left : Int))).setCell ⟨a, 3, none⟩ (.int .u32 (Y2.right : Int))).setCell ⟨a, 4, none⟩ (.int .i64 Y2.size)).setCell ⟨a, 5, none⟩ (.int .i64 Y2.sum)).setCell ⟨a, 6, none⟩ (.int .i64 Y2.mn)).setCell ⟨a, 7, none⟩ (.int .i64 Y2.mx)) [(a, Y2), (b, Y1)] := ((h.put (Y := Y1)).perm (List.Perm.swap _ _ _)).put (Y := Y2)
theorem BX.swap {x y : Nat × Nd} (h : BX w0 w (x :: y :: D)) : BX w0 w (y :: x :: D) := h.perm (List.Perm.swap _ _ _)
theorem BX.swap2 {x y z : Nat × Nd} (h : BX w0 w (x :: y :: z :: D)) : BX w0 w (x :: z :: y :: D) := h.perm ((List.Perm.swap _ _ _).cons _)
/-! ### the ends of a region with three boxes, stored in the order Y1, Y2, Y3: allocated ahead of the last call in the order of the first number, behind it in that of the second -/
theorem bz__123 (h : BX w0 w []) : BX w0 (((w.alloc (Obj.cells #[Value.int .i64 Y1.key, .int .i64 Y1.val, .int .u32 (Y1.left : Int), .int .u32 (Y1.right : Int), .int .i64 Y1.size, .int .i64 Y1.sum, .int .i64 Y1.mn, .int .i64 Y1.mx] 40)).alloc (Obj.cells #[Value.int .i64 Y2.key, .int .i64 Y2.val, .int .u32 (Y2.left : Int), .int .u32 (Y2.right : Int), .int .i64 Y2.size, .int .i64 Y2.sum, .int .i64 Y2.mn, .int .i64 Y2.mx] 40)).alloc (Obj.cells #[Value.int .i64 Y3.key, .int .i64 Y3.val, .int .u32 (Y3.left : Int), .int .u32 (Y3.right : Int), .int .i64 Y3.size, .int .i64 Y3.sum, .int .i64 Y3.mn, .int .i64 Y3.mx] 40)) [(w.heap.size + 2, Y3), (w.heap.size + 1, Y2), (w.heap.size, Y1)] := by
  have h1 := h
  replace h1 := h1.alloc Y1
  replace h1 := h1.alloc Y2
  replace h1 := h1.alloc Y3
  try simp only [sz_al, put8_size] at h1
  exact h1
theorem bz__132 (h : BX w0 w []) : BX w0 (((w.alloc (Obj.cells #[Value.int .i64 Y1.key, .int .i64 Y1.val, .int .u32 (Y1.left : Int), .int .u32 (Y1.right : Int), .int .i64 Y1.size, .int .i64 Y1.sum, .int .i64 Y1.mn, .int .i64 Y1.mx] 40)).alloc (Obj.cells #[Value.int .i64 Y3.key, .int .i64 Y3.val, .int .u32 (Y3.left : Int), .int .u32 (Y3.right : Int), .int .i64 Y3.size, .int .i64 Y3.sum, .int .i64 Y3.mn, .int .i64 Y3.mx] 40)).alloc (Obj.cells #[Value.int .i64 Y2.key, .int .i64 Y2.val, .int .u32 (Y2.left : Int), .int .u32 (Y2.right : Int), .int .i64 Y2.size, .int .i64 Y2.sum, .int .i64 Y2.mn, .int .i64 Y2.mx] 40)) [(w.heap.size + 1, Y3), (w.heap.size + 2, Y2), (w.heap.size, Y1)] := by
  have h1 := h
  replace h1 := h1.alloc Y1
  replace h1 := h1.alloc Y3
  replace h1 := h1.alloc Y2
  replace h1 := h1.swap
  try simp only [sz_al, put8_size] at h1
  exact h1
theorem bz__213 (h : BX w0 w []) : BX w0 (((w.alloc (Obj.cells #[Value.int .i64 Y2.key, .int .i64 Y2.val, .int .u32 (Y2.left : Int), .int .u32 (Y2.right : Int), .int .i64 Y2.size, .int .i64 Y2.sum, .int .i64 Y2.mn, .int .i64 Y2.mx] 40)).alloc (Obj.cells #[Value.int .i64 Y1.key, .int .i64 Y1.val, .int .u32 (Y1.left : Int), .int .u32 (Y1.right : Int), .int .i64 Y1.size, .int .i64 Y1.sum, .int .i64 Y1.mn, .int .i64 Y1.mx] 40)).alloc (Obj.cells #[Value.int .i64 Y3.key, .int .i64 Y3.val, .int .u32 (Y3.left : Int), .int .u32 (Y3.right : Int), .int .i64 Y3.size, .int .i64 Y3.sum, .int .i64 Y3.mn, .int .i64 Y3.mx] 40)) [(w.heap.size + 2, Y3), (w.heap.size, Y2), (w.heap.size + 1, Y1)] := by
  have h1 := h
  replace h1 := h1.alloc Y2
  replace h1 := h1.alloc Y1
  replace h1 := h1.alloc Y3
  replace h1 := h1.swap2
  try simp only [sz_al, put8_size] at h1
  exact h1
theorem bz__231 (h : BX w0 w []) : BX w0 (((w.alloc (Obj.cells #[Value.int .i64 Y2.key, .int .i64 Y2.val, .int .u32 (Y2.left : Int), .int .u32 (Y2.right : Int), .int .i64 Y2.size, .int .i64 Y2.sum, .int .i64 Y2.mn, .int .i64 Y2.mx] 40)).alloc (Obj.cells #[Value.int .i64 Y3.key, .int .i64 Y3.val, .int .u32 (Y3.left : Int), .int .u32 (Y3.right : Int), .int .i64 Y3.size, .int .i64 Y3.sum, .int .i64 Y3.mn, .int .i64 Y3.mx] 40)).alloc (Obj.cells #[Value.int .i64 Y1.key, .int .i64 Y1.val, .int .u32 (Y1.left : Int), .int .u32 (Y1.right : Int), .int .i64 Y1.size, .int .i64 Y1.sum, .int .i64 Y1.mn, .int .i64 Y1.mx] 40)) [(w.heap.size + 1, Y3), (w.heap.size, Y2), (w.heap.size + 2, Y1)] := by
  have h1 := h
  replace h1 := h1.alloc Y2
  replace h1 := h1.alloc Y3
  replace h1 := h1.alloc Y1
  replace h1 := h1.swap
  replace h1 := h1.swap2
  try simp only [sz_al, put8_size] at h1
  exact h1
theorem bz__312 (h : BX w0 w []) : BX w0 (((w.alloc (Obj.cells #[Value.int .i64 Y3.key, .int .i64 Y3.val, .int .u32 (Y3.left : Int), .int .u32 (Y3.right : Int), .int .i64 Y3.size, .int .i64 Y3.sum, .int .i64 Y3.mn, .int .i64 Y3.mx] 40)).alloc (Obj.cells #[Value.int .i64 Y1.key, .int .i64 Y1.val, .int .u32 (Y1.left : Int), .int .u32 (Y1.right : Int), .int .i64 Y1.size, .int .i64 Y1.sum, .int .i64 Y1.mn, .int .i64 Y1.mx] 40)).alloc (Obj.cells #[Value.int .i64 Y2.key, .int .i64 Y2.val, .int .u32 (Y2.left : Int), .int .u32 (Y2.right : Int), .int .i64 Y2.size, .int .i64 Y2.sum, .int .i64 Y2.mn, .int .i64 Y2.mx] 40)) [(w.heap.size, Y3), (w.heap.size + 2, Y2), (w.heap.size + 1, Y1)] := by
  have h1 := h
  replace h1 := h1.alloc Y3
  replace h1 := h1.alloc Y1
  replace h1 := h1.alloc Y2
  replace h1 := h1.swap2
  replace h1 := h1.swap
  try simp only [sz_al, put8_size] at h1
  exact h1
theorem bz__321 (h : BX w0 w []) : BX w0 (((w.alloc (Obj.cells #[Value.int .i64 Y3.key, .int .i64 Y3.val, .int .u32 (Y3.left : Int), .int .u32 (Y3.right : Int), .int .i64 Y3.size, .int .i64 Y3.sum, .int .i64 Y3.mn, .int .i64 Y3.mx] 40)).alloc (Obj.cells #[Value.int .i64 Y2.key, .int .i64 Y2.val, .int .u32 (Y2.left : Int), .int .u32 (Y2.right : Int), .int .i64 Y2.size, .int .i64 Y2.sum, .int .i64 Y2.mn, .int .i64 Y2.mx] 40)).alloc (Obj.cells #[Value.int .i64 Y1.key, .int .i64 Y1.val, .int .u32 (Y1.left : Int), .int .u32 (Y1.right : Int), .int .i64 Y1.size, .int .i64 Y1.sum, .int .i64 Y1.mn, .int .i64 Y1.mx] 40)) [(w.heap.size, Y3), (w.heap.size + 1, Y2), (w.heap.size + 2, Y1)] := by
  have h1 := h
  replace h1 := h1.alloc Y3
  replace h1 := h1.alloc Y2
  replace h1 := h1.alloc Y1
  replace h1 := h1.swap
  replace h1 := h1.swap2
  replace h1 := h1.swap
  try simp only [sz_al, put8_size] at h1
  exact h1
theorem bz_1_23 (h : BX w0 w [(a, Nd.zero)]) : BX w0 ((((((((((w.setCell ⟨a, 0, none⟩ (.int .i64 Y1.key)).setCell ⟨a, 1, none⟩ (.int .i64 Y1.val)).setCell ⟨a, 2, none⟩ (.int .u32 (Y1.left : Int))).setCell ⟨a, 3, none⟩ (.int .u32 (Y1.right : Int))).setCell ⟨a, 4, none⟩ (.int .i64 Y1.size)).setCell ⟨a, 5, none⟩ (.int .i64 Y1.sum)).setCell ⟨a, 6, none⟩ (.int .i64 Y1.mn)).setCell ⟨a, 7, none⟩ (.int .i64 Y1.mx)).alloc (Obj.cells #[Value.int .i64 Y2.key, .int .i64 Y2.val, .int .u32 (Y2.left : Int), .int .u32 (Y2.right : Int), .int .i64 Y2.size, .int .i64 Y2.sum, .int .i64 Y2.mn, .int .i64 Y2.mx] 40)).alloc (Obj.cells #[Value.int .i64 Y3.key, .int .i64 Y3.val, .int .u32 (Y3.left : Int), .int .u32 (Y3.right : Int), .int .i64 Y3.size, .int .i64 Y3.sum, .int .i64 Y3.mn, .int .i64 Y3.mx] 40)) [(w.heap.size + 1, Y3), (w.heap.size, Y2), (a, Y1)] := by
  have h1 := h
  replace h1 := h1.put (Y := Y1)
  replace h1 := h1.alloc Y2
  replace h1 := h1.alloc Y3
  try simp only [sz_al, put8_size] at h1
  exact h1
theorem bz_1_32 (h : BX w0 w [(a, Nd.zero)]) : BX w0 ((((((((((w.setCell ⟨a, 0, none⟩ (.int .i64 Y1.key)).setCell ⟨a, 1, none⟩ (.int .i64 Y1.val)).setCell ⟨a, 2, none⟩ (.int .u32 (Y1.left : Int))).setCell ⟨a, 3, none⟩ (.int .u32 (Y1.right : Int))).setCell ⟨a, 4, none⟩ (.int .i64 Y1.size)).setCell ⟨a, 5, none⟩ (.int .i64 Y1.sum)).setCell ⟨a, 6, none⟩ (.int .i64 Y1.mn)).setCell ⟨a, 7, none⟩ (.int .i64 Y1.mx)).alloc (Obj.cells #[Value.int .i64 Y3.key, .int .i64 Y3.val, .int .u32 (Y3.left : Int), .int .u32 (Y3.right : Int), .int .i64 Y3.size, .int .i64 Y3.sum, .int .i64 Y3.mn, .int .i64 Y3.mx] 40)).alloc (Obj.cells #[Value.int .i64 Y2.key, .int .i64 Y2.val, .int .u32 (Y2.left : Int), .int .u32 (Y2.right : Int), .int .i64 Y2.size, .int .i64 Y2.sum, .int .i64 Y2.mn, .int .i64 Y2.mx] 40)) [(w.heap.size, Y3), (w.heap.size + 1, Y2), (a, Y1)] := by
  have h1 := h
  replace h1 := h1.put (Y := Y1)
  replace h1 := h1.alloc Y3
  replace h1 := h1.alloc Y2
  replace h1 := h1.swap
  try simp only [sz_al, put8_size] at h1
  exact h1
theorem bz_2_13 (h : BX w0 w [(b, Nd.zero)]) : BX w0 ((((((((((w.setCell ⟨b, 0, none⟩ (.int .i64 Y2.key)).setCell ⟨b, 1, none⟩ (.int .i64 Y2.val)).setCell ⟨b, 2, none⟩ (.int .u32 (Y2.left : Int))).setCell ⟨b, 3, none⟩ (.int .u32 (Y2.right : Int))).setCell ⟨b, 4, none⟩ (.int .i64 Y2.size)).setCell ⟨b, 5, none⟩ (.int .i64 Y2.sum)).setCell ⟨b, 6, none⟩ (.int .i64 Y2.mn)).setCell ⟨b, 7, none⟩ (.int .i64 Y2.mx)).alloc (Obj.cells #[Value.int .i64 Y1.key, .int .i64 Y1.val, .int .u32 (Y1.left : Int), .int .u32 (Y1.right : Int), .int .i64 Y1.size, .int .i64 Y1.sum, .int .i64 Y1.mn, .int .i64 Y1.mx] 40)).alloc (Obj.cells #[Value.int .i64 Y3.key, .int .i64 Y3.val, .int .u32 (Y3.left : Int), .int .u32 (Y3.right : Int), .int .i64 Y3.size, .int .i64 Y3.sum, .int .i64 Y3.mn, .int .i64 Y3.mx] 40)) [(w.heap.size + 1, Y3), (b, Y2), (w.heap.size, Y1)] := by
  have h1 := h
  replace h1 := h1.put (Y := Y2)
  replace h1 := h1.alloc Y1
  replace h1 := h1.alloc Y3
  replace h1 := h1.swap2
  try simp only [sz_al, put8_size] at h1
  exact h1
theorem bz_2_31 (h : BX w0 w [(b, Nd.zero)]) : BX w0 ((((((((((w.setCell ⟨b, 0, none⟩ (.int .i64 Y2.key)).setCell ⟨b, 1, none⟩ (.int .i64 Y2.val)).setCell ⟨b, 2, none⟩ (.int .u32 (Y2.left : Int))).setCell ⟨b, 3, none⟩ (.int .u32 (Y2.right : Int))).setCell ⟨b, 4, none⟩ (.int .i64 Y2.size)).setCell ⟨b, 5, none⟩ (.int .i64 Y2.sum)).setCell ⟨b, 6, none⟩ (.int .i64 Y2.mn)).setCell ⟨b, 7, none⟩ (.int .i64 Y2.mx)).alloc (Obj.cells #[Value.int .i64 Y3.key, .int .i64 Y3.val, .int .u32 (Y3.left : Int), .int .u32 (Y3.right : Int), .int .i64 Y3.size, .int .i64 Y3.sum, .int .i64 Y3.mn, .int .i64 Y3.mx] 40)).alloc (Obj.cells #[Value.int .i64 Y1.key, .int .i64 Y1.val, .int .u32 (Y1.left : Int), .int .u32 (Y1.right : Int), .int .i64 Y1.size, .int .i64 Y1.sum, .int .i64 Y1.mn, .int .i64 Y1.mx] 40)) [(w.heap.size, Y3), (b, Y2), (w.heap.size + 1, Y1)] := by
  have h1 := h
  replace h1 := h1.put (Y := Y2)
  replace h1 := h1.alloc Y3
  replace h1 := h1.alloc Y1
  replace h1 := h1.swap
  replace h1 := h1.swap2
  try simp only [sz_al, put8_size] at h1
  exact h1
theorem bz_3_12 (h : BX w0 w [(c, Nd.zero)]) : BX w0 ((((((((((w.setCell ⟨c, 0, none⟩ (.int .i64 Y3.key)).setCell ⟨c, 1, none⟩ (.int .i64 Y3.val)).setCell ⟨c, 2, none⟩ (.int .u32 (Y3.left : Int))).setCell ⟨c, 3, none⟩ (.int .u32 (Y3.right : Int))).setCell ⟨c, 4, none⟩ (.int .i64 Y3.size)).setCell ⟨c, 5, none⟩ (.int .i64 Y3.sum)).setCell ⟨c, 6, none⟩ (.int .i64 Y3.mn)).setCell ⟨c, 7, none⟩ (.int .i64 Y3.mx)).alloc (Obj.cells #[Value.int .i64 Y1.key, .int .i64 Y1.val, .int .u32 (Y1.left : Int), .int .u32 (Y1.right : Int), .int .i64 Y1.size, .int .i64 Y1.sum, .int .i64 Y1.mn, .int .i64 Y1.mx] 40)).alloc (Obj.cells #[Value.int .i64 Y2.key, .int .i64 Y2.val, .int .u32 (Y2.left : Int), .int .u32 (Y2.right : Int), .int .i64 Y2.size, .int .i64 Y2.sum, .int .i64 Y2.mn, .int .i64 Y2.mx] 40)) [(c, Y3), (w.heap.size + 1, Y2), (w.heap.size, Y1)] := by
  have h1 := h
  replace h1 := h1.put (Y := Y3)
  replace h1 := h1.alloc Y1
  replace h1 := h1.alloc Y2
  replace h1 := h1.swap2
  replace h1 := h1.swap
  try simp only [sz_al, put8_size] at h1
  exact h1
theorem bz_3_21 (h : BX w0 w [(c, Nd.zero)]) : BX w0 ((((((((((w.setCell ⟨c, 0, none⟩ (.int .i64 Y3.key)).setCell ⟨c, 1, none⟩ (.int .i64 Y3.val)).setCell ⟨c, 2, none⟩ (.int .u32 (Y3.left : Int))).setCell ⟨c, 3, none⟩ (.int .u32 (Y3.right : Int))).setCell ⟨c, 4, none⟩ (.int .i64 Y3.size)).setCell ⟨c, 5, none⟩ (.int .i64 Y3.sum)).setCell ⟨c, 6, none⟩ (.int .i64 Y3.mn)).setCell ⟨c, 7, none⟩ (.int .i64 Y3.mx)).alloc (Obj.cells #[Value.int .i64 Y2.key, .int .i64 Y2.val, .int .u32 (Y2.left : Int), .int .u32 (Y2.right : Int), .int .i64 Y2.size, .int .i64 Y2.sum, .int .i64 Y2.mn, .int .i64 Y2.mx] 40)).alloc (Obj.cells #[Value.int .i64 Y1.key, .int .i64 Y1.val, .int .u32 (Y1.left : Int), .int .u32 (Y1.right : Int), .int .i64 Y1.size, .int .i64 Y1.sum, .int .i64 Y1.mn, .int .i64 Y1.mx] 40)) [(c, Y3), (w.heap.size, Y2), (w.heap.size + 1, Y1)] := by
  have h1 := h
  replace h1 := h1.put (Y := Y3)
  replace h1 := h1.alloc Y2
  replace h1 := h1.alloc Y1
  replace h1 := h1.swap
  replace h1 := h1.swap2
  replace h1 := h1.swap
  try simp only [sz_al, put8_size] at h1
  exact h1
theorem bz_12_3 (h : BX w0 w [(b, Nd.zero), (a, Nd.zero)]) : BX w0 (((((((((((((((((w.setCell ⟨a, 0, none⟩ (.int .i64 Y1.key)).setCell ⟨a, 1, none⟩ (.int .i64 Y1.val)).setCell ⟨a, 2, none⟩ (.int .u32 (Y1.left : Int))).setCell ⟨a, 3, none⟩ (.int .u32 (Y1.right : Int))).setCell ⟨a, 4, none⟩ (.int .i64 Y1.size)).setCell ⟨a, 5, none⟩ (.int .i64 Y1.sum)).setCell ⟨a, 6, none⟩ (.int .i64 Y1.mn)).setCell ⟨a, 7, none⟩ (.int .i64 Y1.mx)).setCell ⟨b, 0, none⟩ (.int .i64 Y2.key)).setCell ⟨b, 1, none⟩ (.int .i64 Y2.val)).setCell ⟨b, 2, none⟩ (.int .u32 (Y2.left : Int))).setCell ⟨b, 3, none⟩ (.int .u32 (Y2.right : Int))).setCell ⟨b, 4, none⟩ (.int .i64 Y2.size)).setCell ⟨b, 5, none⟩ (.int .i64 Y2.sum)).setCell ⟨b, 6, none⟩ (.int .i64 Y2.mn)).setCell ⟨b, 7, none⟩ (.int .i64 Y2.mx)).alloc (Obj.cells #[Value.int .i64 Y3.key, .int .i64 Y3.val, .int .u32 (Y3.left : Int), .int .u32 (Y3.right : Int), .int .i64 Y3.size, .int .i64 Y3.sum, .int .i64 Y3.mn, .int .i64 Y3.mx] 40)) [(w.heap.size, Y3), (b, Y2), (a, Y1)] := by
  have h1 := h
  replace h1 := h1.swap
  replace h1 := h1.put (Y := Y1)
  replace h1 := h1.swap
  replace h1 := h1.put (Y := Y2)
  replace h1 := h1.alloc Y3
  try simp only [sz_al, put8_size] at h1
  exact h1
theorem bz_13_2 (h : BX w0 w [(c, Nd.zero), (a, Nd.zero)]) : BX w0 (((((((((((((((((w.setCell ⟨a, 0, none⟩ (.int .i64 Y1.key)).setCell ⟨a, 1, none⟩ (.int .i64 Y1.val)).setCell ⟨a, 2, none⟩ (.int .u32 (Y1.left : Int))).setCell ⟨a, 3, none⟩ (.int .u32 (Y1.right : Int))).setCell ⟨a, 4, none⟩ (.int .i64 Y1.size)).setCell ⟨a, 5, none⟩ (.int .i64 Y1.sum)).setCell ⟨a, 6, none⟩ (.int .i64 Y1.mn)).setCell ⟨a, 7, none⟩ (.int .i64 Y1.mx)).setCell ⟨c, 0, none⟩ (.int .i64 Y3.key)).setCell ⟨c, 1, none⟩ (.int .i64 Y3.val)).setCell ⟨c, 2, none⟩ (.int .u32 (Y3.left : Int))).setCell ⟨c, 3, none⟩ (.int .u32 (Y3.right : Int))).setCell ⟨c, 4, none⟩ (.int .i64 Y3.size)).setCell ⟨c, 5, none⟩ (.int .i64 Y3.sum)).setCell ⟨c, 6, none⟩ (.int .i64 Y3.mn)).setCell ⟨c, 7, none⟩ (.int .i64 Y3.mx)).alloc (Obj.cells #[Value.int .i64 Y2.key, .int .i64 Y2.val, .int .u32 (Y2.left : Int), .int .u32 (Y2.right : Int), .int .i64 Y2.size, .int .i64 Y2.sum, .int .i64 Y2.mn, .int .i64 Y2.mx] 40)) [(c, Y3), (w.heap.size, Y2), (a, Y1)] := by
  have h1 := h
  replace h1 := h1.swap
  replace h1 := h1.put (Y := Y1)
  replace h1 := h1.swap
  replace h1 := h1.put (Y := Y3)
  replace h1 := h1.alloc Y2
  replace h1 := h1.swap
  try simp only [sz_al, put8_size] at h1
  exact h1
theorem bz_21_3 (h : BX w0 w [(a, Nd.zero), (b, Nd.zero)]) : BX w0 (((((((((((((((((w.setCell ⟨a, 0, none⟩ (.int .i64 Y1.key)).setCell ⟨a, 1, none⟩ (.int .i64 Y1.val)).setCell ⟨a, 2, none⟩ (.int .u32 (Y1.left : Int))).setCell ⟨a, 3, none⟩ (.int .u32 (Y1.right : Int))).setCell ⟨a, 4, none⟩ (.int .i64 Y1.size)).setCell ⟨a, 5, none⟩ (.int .i64 Y1.sum)).setCell ⟨a, 6, none⟩ (.int .i64 Y1.mn)).setCell ⟨a, 7, none⟩ (.int .i64 Y1.mx)).setCell ⟨b, 0, none⟩ (.int .i64 Y2.key)).setCell ⟨b, 1, none⟩ (.int .i64 Y2.val)).setCell ⟨b, 2, none⟩ (.int .u32 (Y2.left : Int))).setCell ⟨b, 3, none⟩ (.int .u32 (Y2.right : Int))).setCell ⟨b, 4, none⟩ (.int .i64 Y2.size)).setCell ⟨b, 5, none⟩ (.int .i64 Y2.sum)).setCell ⟨b, 6, none⟩ (.int .i64 Y2.mn)).setCell ⟨b, 7, none⟩ (.int .i64 Y2.mx)).alloc (Obj.cells #[Value.int .i64 Y3.key, .int .i64 Y3.val, .int .u32 (Y3.left : Int), .int .u32 (Y3.right : Int), .int .i64 Y3.size, .int .i64 Y3.sum, .int .i64 Y3.mn, .int .i64 Y3.mx] 40)) [(w.heap.size, Y3), (b, Y2), (a, Y1)] := by
  have h1 := h
  replace h1 := h1.put (Y := Y1)
  replace h1 := h1.swap
  replace h1 := h1.put (Y := Y2)
  replace h1 := h1.alloc Y3
  try simp only [sz_al, put8_size] at h1
  exact h1
theorem bz_23_1 (h : BX w0 w [(c, Nd.zero), (b, Nd.zero)]) : BX w0 (((((((((((((((((w.setCell ⟨b, 0, none⟩ (.int .i64 Y2.key)).setCell ⟨b, 1, none⟩ (.int .i64 Y2.val)).setCell ⟨b, 2, none⟩ (.int .u32 (Y2.left : Int))).setCell ⟨b, 3, none⟩ (.int .u32 (Y2.right : Int))).setCell ⟨b, 4, none⟩ (.int .i64 Y2.size)).setCell ⟨b, 5, none⟩ (.int .i64 Y2.sum)).setCell ⟨b, 6, none⟩ (.int .i64 Y2.mn)).setCell ⟨b, 7, none⟩ (.int .i64 Y2.mx)).setCell ⟨c, 0, none⟩ (.int .i64 Y3.key)).setCell ⟨c, 1, none⟩ (.int .i64 Y3.val)).setCell ⟨c, 2, none⟩ (.int .u32 (Y3.left : Int))).setCell ⟨c, 3, none⟩ (.int .u32 (Y3.right : Int))).setCell ⟨c, 4, none⟩ (.int .i64 Y3.size)).setCell ⟨c, 5, none⟩ (.int .i64 Y3.sum)).setCell ⟨c, 6, none⟩ (.int .i64 Y3.mn)).setCell ⟨c, 7, none⟩ (.int .i64 Y3.mx)).alloc (Obj.cells #[Value.int .i64 Y1.key, .int .i64 Y1.val, .int .u32 (Y1.left : Int), .int .u32 (Y1.right : Int), .int .i64 Y1.size, .int .i64 Y1.sum, .int .i64 Y1.mn, .int .i64 Y1.mx] 40)) [(c, Y3), (b, Y2), (w.heap.size, Y1)] := by
  have h1 := h
  replace h1 := h1.swap
  replace h1 := h1.put (Y := Y2)
  replace h1 := h1.swap
  replace h1 := h1.put (Y := Y3)
  replace h1 := h1.alloc Y1
  replace h1 := h1.swap
  replace h1 := h1.swap2
  try simp only [sz_al, put8_size] at h1
  exact h1
theorem bz_31_2 (h : BX w0 w [(a, Nd.zero), (c, Nd.zero)]) : BX w0 (((((((((((((((((w.setCell ⟨a, 0, none⟩ (.int .i64 Y1.key)).setCell ⟨a, 1, none⟩ (.int .i64 Y1.val)).setCell ⟨a, 2, none⟩ (.int .u32 (Y1.left : Int))).setCell ⟨a, 3, none⟩ (.int .u32 (Y1.right : Int))).setCell ⟨a, 4, none⟩ (.int .i64 Y1.size)).setCell ⟨a, 5, none⟩ (.int .i64 Y1.sum)).setCell ⟨a, 6, none⟩ (.int .i64 Y1.mn)).setCell ⟨a, 7, none⟩ (.int .i64 Y1.mx)).setCell ⟨c, 0, none⟩ (.int .i64 Y3.key)).setCell ⟨c, 1, none⟩ (.int .i64 Y3.val)).setCell ⟨c, 2, none⟩ (.int .u32 (Y3.left : Int))).setCell ⟨c, 3, none⟩ (.int .u32 (Y3.right : Int))).setCell ⟨c, 4, none⟩ (.int .i64 Y3.size)).setCell ⟨c, 5, none⟩ (.int .i64 Y3.sum)).setCell ⟨c, 6, none⟩ (.int .i64 Y3.mn)).setCell ⟨c, 7, none⟩ (.int .i64 Y3.mx)).alloc (Obj.cells #[Value.int .i64 Y2.key, .int .i64 Y2.val, .int .u32 (Y2.left : Int), .int .u32 (Y2.right : Int), .int .i64 Y2.size, .int .i64 Y2.sum, .int .i64 Y2.mn, .int .i64 Y2.mx] 40)) [(c, Y3), (w.heap.size, Y2), (a, Y1)] := by
  have h1 := h
  replace h1 := h1.put (Y := Y1)
  replace h1 := h1.swap
  replace h1 := h1.put (Y := Y3)
  replace h1 := h1.alloc Y2
  replace h1 := h1.swap
  try simp only [sz_al, put8_size] at h1
  exact h1
theorem bz_32_1 (h : BX w0 w [(b, Nd.zero), (c, Nd.zero)]) : BX w0 (((((((((((((((((w.setCell ⟨b, 0, none⟩ (.int .i64 Y2.key)).setCell ⟨b, 1, none⟩ (.int .i64 Y2.val)).setCell ⟨b, 2, none⟩ (.int .u32 (Y2.left : Int))).setCell ⟨b, 3, none⟩ (.int .u32 (Y2.right : Int))).setCell ⟨b, 4, none⟩ (.int .i64 Y2.size)).setCell ⟨b, 5, none⟩ (.int .i64 Y2.sum)).setCell ⟨b, 6, none⟩ (.int .i64 Y2.mn)).setCell ⟨b, 7, none⟩ (.int .i64 Y2.mx)).setCell ⟨c, 0, none⟩ (.int .i64 Y3.key)).setCell ⟨c, 1, none⟩ (.int .i64 Y3.val)).setCell ⟨c, 2, none⟩ (.int .u32 (Y3.left : Int))).setCell ⟨c, 3, none⟩ (.int .u32 (Y3.right : Int))).setCell ⟨c, 4, none⟩ (.int .i64 Y3.size)).setCell ⟨c, 5, none⟩ (.int .i64 Y3.sum)).setCell ⟨c, 6, none⟩ (.int .i64 Y3.mn)).setCell ⟨c, 7, none⟩ (.int .i64 Y3.mx)).alloc (Obj.cells #[Value.int .i64 Y1.key, .int .i64 Y1.val, .int .u32 (Y1.left : Int), .int .u32 (Y1.right : Int), .int .i64 Y1.size, .int .i64 Y1.sum, .int .i64 Y1.mn, .int .i64 Y1.mx] 40)) [(c, Y3), (b, Y2), (w.heap.size, Y1)] := by
  have h1 := h
  replace h1 := h1.put (Y := Y2)
  replace h1 := h1.swap
  replace h1 := h1.put (Y := Y3)
  replace h1 := h1.alloc Y1
  replace h1 := h1.swap
  replace h1 := h1.swap2
  try simp only [sz_al, put8_size] at h1
  exact h1
theorem bz_123_ (h : BX w0 w [(c, Nd.zero), (b, Nd.zero), (a, Nd.zero)]) : BX w0 ((((((((((((((((((((((((w.setCell ⟨a, 0, none⟩ (.int .i64 Y1.key)).setCell ⟨a, 1, none⟩ (.int .i64 Y1.val)).setCell ⟨a, 2, none⟩ (.int .u32 (Y1.left : Int))).setCell ⟨a, 3, none⟩ (.int .u32 (Y1.right : Int))).setCell ⟨a, 4, none⟩ (.int .i64 Y1.size)).setCell ⟨a, 5, none⟩ (.int .i64 Y1.sum)).setCell ⟨a, 6, none⟩ (.int .i64 Y1.mn)).setCell ⟨a, 7, none⟩ (.int .i64 Y1.mx)).setCell ⟨b, 0, none⟩ (.int .i64 Y2.key)).setCell ⟨b, 1, none⟩ (.int .i64 Y2.val)).setCell ⟨b, 2, none⟩ (.int .u32 (Y2.left : Int))).setCell ⟨b, 3, none⟩ (.int .u32 (Y2.right : Int))).setCell ⟨b, 4, none⟩ (.int .i64 Y2.size)).setCell ⟨b, 5, none⟩ (.int .i64 Y2.sum)).setCell ⟨b, 6, none⟩ (.int .i64 Y2.mn)).setCell ⟨b, 7, none⟩ (.int .i64 Y2.mx)).setCell ⟨c, 0, none⟩ (.int .i64 Y3.key)).setCell ⟨c, 1, none⟩ (.int .i64 Y3.val)).setCell ⟨c, 2, none⟩ (.int .u32 (Y3.left : Int))).setCell ⟨c, 3, none⟩ (.int .u32 (Y3.right : Int))).setCell ⟨c, 4, none⟩ (.int .i64 Y3.size)).setCell ⟨c, 5, none⟩ (.int .i64 Y3.sum)).setCell ⟨c, 6, none⟩ (.int .i64 Y3.mn)).setCell ⟨c, 7, none⟩ (.int .i64 Y3.mx)) [(c, Y3), (b, Y2), (a, Y1)] := by
  have h1 := h
  replace h1 := h1.swap2
  replace h1 := h1.swap
  replace h1 := h1.put (Y := Y1)
  replace h1 := h1.swap2
  replace h1 := h1.swap
  replace h1 := h1.put (Y := Y2)
  replace h1 := h1.swap2
  replace h1 := h1.swap
  replace h1 := h1.put (Y := Y3)
  exact h1
theorem bz_132_ (h : BX w0 w [(b, Nd.zero), (c, Nd.zero), (a, Nd.zero)]) : BX w0 ((((((((((((((((((((((((w.setCell ⟨a, 0, none⟩ (.int .i64 Y1.key)).setCell ⟨a, 1, none⟩ (.int .i64 Y1.val)).setCell ⟨a, 2, none⟩ (.int .u32 (Y1.left : Int))).setCell ⟨a, 3, none⟩ (.int .u32 (Y1.right : Int))).setCell ⟨a, 4, none⟩ (.int .i64 Y1.size)).setCell ⟨a, 5, none⟩ (.int .i64 Y1.sum)).setCell ⟨a, 6, none⟩ (.int .i64 Y1.mn)).setCell ⟨a, 7, none⟩ (.int .i64 Y1.mx)).setCell ⟨b, 0, none⟩ (.int .i64 Y2.key)).setCell ⟨b, 1, none⟩ (.int .i64 Y2.val)).setCell ⟨b, 2, none⟩ (.int .u32 (Y2.left : Int))).setCell ⟨b, 3, none⟩ (.int .u32 (Y2.right : Int))).setCell ⟨b, 4, none⟩ (.int .i64 Y2.size)).setCell ⟨b, 5, none⟩ (.int .i64 Y2.sum)).setCell ⟨b, 6, none⟩ (.int .i64 Y2.mn)).setCell ⟨b, 7, none⟩ (.int .i64 Y2.mx)).setCell ⟨c, 0, none⟩ (.int .i64 Y3.key)).setCell ⟨c, 1, none⟩ (.int .i64 Y3.val)).setCell ⟨c, 2, none⟩ (.int .u32 (Y3.left : Int))).setCell ⟨c, 3, none⟩ (.int .u32 (Y3.right : Int))).setCell ⟨c, 4, none⟩ (.int .i64 Y3.size)).setCell ⟨c, 5, none⟩ (.int .i64 Y3.sum)).setCell ⟨c, 6, none⟩ (.int .i64 Y3.mn)).setCell ⟨c, 7, none⟩ (.int .i64 Y3.mx)) [(c, Y3), (b, Y2), (a, Y1)] := by
  have h1 := h
  replace h1 := h1.swap2
  replace h1 := h1.swap
  replace h1 := h1.put (Y := Y1)
  replace h1 := h1.swap
  replace h1 := h1.put (Y := Y2)
  replace h1 := h1.swap2
  replace h1 := h1.swap
  replace h1 := h1.put (Y := Y3)
  exact h1
theorem bz_213_ (h : BX w0 w [(c, Nd.zero), (a, Nd.zero), (b, Nd.zero)]) : BX w0 ((((((((((((((((((((((((w.setCell ⟨a, 0, none⟩ (.int .i64 Y1.key)).setCell ⟨a, 1, none⟩ (.int .i64 Y1.val)).setCell ⟨a, 2, none⟩ (.int .u32 (Y1.left : Int))).setCell ⟨a, 3, none⟩ (.int .u32 (Y1.right : Int))).setCell ⟨a, 4, none⟩ (.int .i64 Y1.size)).setCell ⟨a, 5, none⟩ (.int .i64 Y1.sum)).setCell ⟨a, 6, none⟩ (.int .i64 Y1.mn)).setCell ⟨a, 7, none⟩ (.int .i64 Y1.mx)).setCell ⟨b, 0, none⟩ (.int .i64 Y2.key)).setCell ⟨b, 1, none⟩ (.int .i64 Y2.val)).setCell ⟨b, 2, none⟩ (.int .u32 (Y2.left : Int))).setCell ⟨b, 3, none⟩ (.int .u32 (Y2.right : Int))).setCell ⟨b, 4, none⟩ (.int .i64 Y2.size)).setCell ⟨b, 5, none⟩ (.int .i64 Y2.sum)).setCell ⟨b, 6, none⟩ (.int .i64 Y2.mn)).setCell ⟨b, 7, none⟩ (.int .i64 Y2.mx)).setCell ⟨c, 0, none⟩ (.int .i64 Y3.key)).setCell ⟨c, 1, none⟩ (.int .i64 Y3.val)).setCell ⟨c, 2, none⟩ (.int .u32 (Y3.left : Int))).setCell ⟨c, 3, none⟩ (.int .u32 (Y3.right : Int))).setCell ⟨c, 4, none⟩ (.int .i64 Y3.size)).setCell ⟨c, 5, none⟩ (.int .i64 Y3.sum)).setCell ⟨c, 6, none⟩ (.int .i64 Y3.mn)).setCell ⟨c, 7, none⟩ (.int .i64 Y3.mx)) [(c, Y3), (b, Y2), (a, Y1)] := by
  have h1 := h
  replace h1 := h1.swap
  replace h1 := h1.put (Y := Y1)
  replace h1 := h1.swap2
  replace h1 := h1.swap
  replace h1 := h1.put (Y := Y2)
  replace h1 := h1.swap2
  replace h1 := h1.swap
  replace h1 := h1.put (Y := Y3)
  exact h1
theorem bz_231_ (h : BX w0 w [(a, Nd.zero), (c, Nd.zero), (b, Nd.zero)]) : BX w0 ((((((((((((((((((((((((w.setCell ⟨a, 0, none⟩ (.int .i64 Y1.key)).setCell ⟨a, 1, none⟩ (.int .i64 Y1.val)).setCell ⟨a, 2, none⟩ (.int .u32 (Y1.left : Int))).setCell ⟨a, 3, none⟩ (.int .u32 (Y1.right : Int))).setCell ⟨a, 4, none⟩ (.int .i64 Y1.size)).setCell ⟨a, 5, none⟩ (.int .i64 Y1.sum)).setCell ⟨a, 6, none⟩ (.int .i64 Y1.mn)).setCell ⟨a, 7, none⟩ (.int .i64 Y1.mx)).setCell ⟨b, 0, none⟩ (.int .i64 Y2.key)).setCell ⟨b, 1, none⟩ (.int .i64 Y2.val)).setCell ⟨b, 2, none⟩ (.int .u32 (Y2.left : Int))).setCell ⟨b, 3, none⟩ (.int .u32 (Y2.right : Int))).setCell ⟨b, 4, none⟩ (.int .i64 Y2.size)).setCell ⟨b, 5, none⟩ (.int .i64 Y2.sum)).setCell ⟨b, 6, none⟩ (.int .i64 Y2.mn)).setCell ⟨b, 7, none⟩ (.int .i64 Y2.mx)).setCell ⟨c, 0, none⟩ (.int .i64 Y3.key)).setCell ⟨c, 1, none⟩ (.int .i64 Y3.val)).setCell ⟨c, 2, none⟩ (.int .u32 (Y3.left : Int))).setCell ⟨c, 3, none⟩ (.int .u32 (Y3.right : Int))).setCell ⟨c, 4, none⟩ (.int .i64 Y3.size)).setCell ⟨c, 5, none⟩ (.int .i64 Y3.sum)).setCell ⟨c, 6, none⟩ (.int .i64 Y3.mn)).setCell ⟨c, 7, none⟩ (.int .i64 Y3.mx)) [(c, Y3), (b, Y2), (a, Y1)] := by
  have h1 := h
  replace h1 := h1.put (Y := Y1)
  replace h1 := h1.swap2
  replace h1 := h1.swap
  replace h1 := h1.put (Y := Y2)
  replace h1 := h1.swap2
  replace h1 := h1.swap
  replace h1 := h1.put (Y := Y3)
  exact h1
theorem bz_312_ (h : BX w0 w [(b, Nd.zero), (a, Nd.zero), (c, Nd.zero)]) : BX w0 ((((((((((((((((((((((((w.setCell ⟨a, 0, none⟩ (.int .i64 Y1.key)).setCell ⟨a, 1, none⟩ (.int .i64 Y1.val)).setCell ⟨a, 2, none⟩ (.int .u32 (Y1.left : Int))).setCell ⟨a, 3, none⟩ (.int .u32 (Y1.right : Int))).setCell ⟨a, 4, none⟩ (.int .i64 Y1.size)).setCell ⟨a, 5, none⟩ (.int .i64 Y1.sum)).setCell ⟨a, 6, none⟩ (.int .i64 Y1.mn)).setCell ⟨a, 7, none⟩ (.int .i64 Y1.mx)).setCell ⟨b, 0, none⟩ (.int .i64 Y2.key)).setCell ⟨b, 1, none⟩ (.int .i64 Y2.val)).setCell ⟨b, 2, none⟩ (.int .u32 (Y2.left : Int))).setCell ⟨b, 3, none⟩ (.int .u32 (Y2.right : Int))).setCell ⟨b, 4, none⟩ (.int .i64 Y2.size)).setCell ⟨b, 5, none⟩ (.int .i64 Y2.sum)).setCell ⟨b, 6, none⟩ (.int .i64 Y2.mn)).setCell ⟨b, 7, none⟩ (.int .i64 Y2.mx)).setCell ⟨c, 0, none⟩ (.int .i64 Y3.key)).setCell ⟨c, 1, none⟩ (.int .i64 Y3.val)).setCell ⟨c, 2, none⟩ (.int .u32 (Y3.left : Int))).setCell ⟨c, 3, none⟩ (.int .u32 (Y3.right : Int))).setCell ⟨c, 4, none⟩ (.int .i64 Y3.size)).setCell ⟨c, 5, none⟩ (.int .i64 Y3.sum)).setCell ⟨c, 6, none⟩ (.int .i64 Y3.mn)).setCell ⟨c, 7, none⟩ (.int .i64 Y3.mx)) [(c, Y3), (b, Y2), (a, Y1)] := by
  have h1 := h
  replace h1 := h1.swap
  replace h1 := h1.put (Y := Y1)
  replace h1 := h1.swap
  replace h1 := h1.put (Y := Y2)
  replace h1 := h1.swap2
  replace h1 := h1.swap
  replace h1 := h1.put (Y := Y3)
  exact h1
theorem bz_321_ (h : BX w0 w [(a, Nd.zero), (b, Nd.zero), (c, Nd.zero)]) : BX w0 ((((((((((((((((((((((((w.setCell ⟨a, 0, none⟩ (.int .i64 Y1.key)).setCell ⟨a, 1, none⟩ (.int .i64 Y1.val)).setCell ⟨a, 2, none⟩ (.int .u32 (Y1.left : Int))).setCell ⟨a, 3, none⟩ (.int .u32 (Y1.right : Int))).setCell ⟨a, 4, none⟩ (.int .i64 Y1.size)).setCell ⟨a, 5, none⟩ (.int .i64 Y1.sum)).setCell ⟨a, 6, none⟩ (.int .i64 Y1.mn)).setCell ⟨a, 7, none⟩ (.int .i64 Y1.mx)).setCell ⟨b, 0, none⟩ (.int .i64 Y2.key)).setCell ⟨b, 1, none⟩ (.int .i64 Y2.val)).setCell ⟨b, 2, none⟩ (.int .u32 (Y2.left : Int))).setCell ⟨b, 3, none⟩ (.int .u32 (Y2.right : Int))).setCell ⟨b, 4, none⟩ (.int .i64 Y2.size)).setCell ⟨b, 5, none⟩ (.int .i64 Y2.sum)).setCell ⟨b, 6, none⟩ (.int .i64 Y2.mn)).setCell ⟨b, 7, none⟩ (.int .i64 Y2.mx)).setCell ⟨c, 0, none⟩ (.int .i64 Y3.key)).setCell ⟨c, 1, none⟩ (.int .i64 Y3.val)).setCell ⟨c, 2, none⟩ (.int .u32 (Y3.left : Int))).setCell ⟨c, 3, none⟩ (.int .u32 (Y3.right : Int))).setCell ⟨c, 4, none⟩ (.int .i64 Y3.size)).setCell ⟨c, 5, none⟩ (.int .i64 Y3.sum)).setCell ⟨c, 6, none⟩ (.int .i64 Y3.mn)).setCell ⟨c, 7, none⟩ (.int .i64 Y3.mx)) [(c, Y3), (b, Y2), (a, Y1)] := by
  have h1 := h
  replace h1 := h1.put (Y := Y1)
  replace h1 := h1.swap
  replace h1 := h1.put (Y := Y2)
  replace h1 := h1.swap2
  replace h1 := h1.swap
  replace h1 := h1.put (Y := Y3)
  exact h1
end
end Go.Proofs.Ytkhfofpbmnapjaa
