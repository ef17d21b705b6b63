/- The client of layer 5's statements reads nodes: two boxes are made and filled. -/
import Derived.Test.YtnmookemeibioaaArAgg0
import Derived.Test.YtnmookemeibioaaRefArY
set_option linter.unusedVariables false
namespace Go.Proofs.Ytnmookemeibioaa
open Go.RowKit
theorem PB.alloc0 {I : AImpl} {B q : Nat} {w0 w : World} {p x : Value} {A : Ar} {rd : Int} {l : List Nat} {D : List (Nat × Nd)} (h : PB I B w0 w q p x A rd l D) :
    PB I B w0 (w.alloc (Obj.cells #[Value.int .i64 0, .int .i64 0, .int .u32 0, .int .u32 0, .int .i64 0, .int .i64 0, .int .i64 0, .int .i64 0] 50)) q p x A rd l (D ++ [(w.heap.size, Nd.zero)]) := h.alloc Nd.zero
theorem PB.drew {I : AImpl} {B q : Nat} {w0 w : World} {p x : Value} {A : Ar} {rd : Int} {l : List Nat} {D : List (Nat × Nd)} (h : PB I B w0 w q p x A rd l D) : PB I B w0 w.drew q p x A rd l D := h.calm (Below.refl _ _).drew
theorem frozen8 {w : World} {q : Nat} {cs : Array Value} {t : TypeId} (h : w.heap[q]? = some (.cells cs t (0, 0))) :
    w.frozen? ⟨q, 0, none⟩ = false ∧ w.frozen? ⟨q, 1, none⟩ = false ∧ w.frozen? ⟨q, 2, none⟩ = false ∧ w.frozen? ⟨q, 3, none⟩ = false ∧ w.frozen? ⟨q, 4, none⟩ = false ∧ w.frozen? ⟨q, 5, none⟩ = false ∧ w.frozen? ⟨q, 6, none⟩ = false ∧ w.frozen? ⟨q, 7, none⟩ = false :=
  ⟨frozen_of_row w q 0 _ _ h, frozen_of_row w q 1 _ _ h, frozen_of_row w q 2 _ _ h, frozen_of_row w q 3 _ _ h, frozen_of_row w q 4 _ _ h, frozen_of_row w q 5 _ _ h, frozen_of_row w q 6 _ _ h, frozen_of_row w q 7 _ _ h⟩
theorem set8of8 {w : World} {q : Nat} {t : TypeId} {X : Nd} {v0 v1 v2 v3 v4 v5 v6 v7 : Value} (h : w.heap[q]? = some (.cells (ndA X) t (0, 0))) :
    ((((((((w.setCell ⟨q, 0, none⟩ v0).setCell ⟨q, 1, none⟩ v1).setCell ⟨q, 2, none⟩ v2).setCell ⟨q, 3, none⟩ v3).setCell ⟨q, 4, none⟩ v4).setCell ⟨q, 5, none⟩ v5).setCell ⟨q, 6, none⟩ v6).setCell ⟨q, 7, none⟩ v7).heap[q]? = some (.cells #[v0, v1, v2, v3, v4, v5, v6, v7] t (0, 0)) := by
  have h0 : (w.setCell ⟨q, 0, none⟩ v0).heap[q]? = some (.cells #[v0, (.int .i64 X.val), (.int .u32 (X.left : Int)), (.int .u32 (X.right : Int)), (.int .i64 X.size), (.int .i64 X.sum), (.int .i64 X.mn), (.int .i64 X.mx)] t (0, 0)) := by rw [heap_setCell_same _ _ _ _ _ _ h]; rfl
  have h1 : ((w.setCell ⟨q, 0, none⟩ v0).setCell ⟨q, 1, none⟩ v1).heap[q]? = some (.cells #[v0, v1, (.int .u32 (X.left : Int)), (.int .u32 (X.right : Int)), (.int .i64 X.size), (.int .i64 X.sum), (.int .i64 X.mn), (.int .i64 X.mx)] t (0, 0)) := by rw [heap_setCell_same _ _ _ _ _ _ h0]; rfl
  have h2 : (((w.setCell ⟨q, 0, none⟩ v0).setCell ⟨q, 1, none⟩ v1).setCell ⟨q, 2, none⟩ v2).heap[q]? = some (.cells #[v0, v1, v2, (.int .u32 (X.right : Int)), (.int .i64 X.size), (.int .i64 X.sum), (.int .i64 X.mn), (.int .i64 X.mx)] t (0, 0)) := by rw [heap_setCell_same _ _ _ _ _ _ h1]; rfl
  have h3 : ((((w.setCell ⟨q, 0, none⟩ v0).setCell ⟨q, 1, none⟩ v1).setCell ⟨q, 2, none⟩ v2).setCell ⟨q, 3, none⟩ v3).heap[q]? = some (.cells #[v0, v1, v2, v3, (.int .i64 X.size), (.int .i64 X.sum), (.int .i64 X.mn), (.int .i64 X.mx)] t (0, 0)) := by rw [heap_setCell_same _ _ _ _ _ _ h2]; rfl
  have h4 : (((((w.setCell ⟨q, 0, none⟩ v0).setCell ⟨q, 1, none⟩ v1).setCell ⟨q, 2, none⟩ v2).setCell ⟨q, 3, none⟩ v3).setCell ⟨q, 4, none⟩ v4).heap[q]? = some (.cells #[v0, v1, v2, v3, v4, (.int .i64 X.sum), (.int .i64 X.mn), (.int .i64 X.mx)] t (0, 0)) := by rw [heap_setCell_same _ _ _ _ _ _ h3]; rfl
  have h5 : ((((((w.setCell ⟨q, 0, none⟩ v0).setCell ⟨q, 1, none⟩ v1).setCell ⟨q, 2, none⟩ v2).setCell ⟨q, 3, none⟩ v3).setCell ⟨q, 4, none⟩ v4).setCell ⟨q, 5, none⟩ v5).heap[q]? = some (.cells #[v0, v1, v2, v3, v4, v5, (.int .i64 X.mn), (.int .i64 X.mx)] t (0, 0)) := by rw [heap_setCell_same _ _ _ _ _ _ h4]; rfl
  have h6 : (((((((w.setCell ⟨q, 0, none⟩ v0).setCell ⟨q, 1, none⟩ v1).setCell ⟨q, 2, none⟩ v2).setCell ⟨q, 3, none⟩ v3).setCell ⟨q, 4, none⟩ v4).setCell ⟨q, 5, none⟩ v5).setCell ⟨q, 6, none⟩ v6).heap[q]? = some (.cells #[v0, v1, v2, v3, v4, v5, v6, (.int .i64 X.mx)] t (0, 0)) := by rw [heap_setCell_same _ _ _ _ _ _ h5]; rfl
  have h7 : ((((((((w.setCell ⟨q, 0, none⟩ v0).setCell ⟨q, 1, none⟩ v1).setCell ⟨q, 2, none⟩ v2).setCell ⟨q, 3, none⟩ v3).setCell ⟨q, 4, none⟩ v4).setCell ⟨q, 5, none⟩ v5).setCell ⟨q, 6, none⟩ v6).setCell ⟨q, 7, none⟩ v7).heap[q]? = some (.cells #[v0, v1, v2, v3, v4, v5, v6, v7] t (0, 0)) := by rw [heap_setCell_same _ _ _ _ _ _ h6]; rfl
  exact h7
theorem PB.put8 {I : AImpl} {B q : Nat} {w0 w : World} {p x : Value} {A : Ar} {rd : Int} {l : List Nat} {D D' : List (Nat × Nd)} (h : PB I B w0 w q p x A rd l D) {g : Nat} {X Y : Nd} (hg : (g, X) ∈ D) (hD : ∀ d ∈ D', d = (g, Y) ∨ (d ∈ D ∧ d.1 ≠ g)) :
    PB I B w0 ((((((((w.setCell ⟨g, 0, none⟩ (.int .i64 Y.key)).setCell ⟨g, 1, none⟩ (.int .i64 Y.val)).setCell ⟨g, 2, none⟩ (.int .u32 (Y.left : Int))).setCell ⟨g, 3, none⟩ (.int .u32 (Y.right : Int))).setCell ⟨g, 4, none⟩ (.int .i64 Y.size)).setCell ⟨g, 5, none⟩ (.int .i64 Y.sum)).setCell ⟨g, 6, none⟩ (.int .i64 Y.mn)).setCell ⟨g, 7, none⟩ (.int .i64 Y.mx)) q p x A rd l D' :=
  h.put hg (set8of8 (h.boxes _ hg).1) (by
    have h1 := alters_cells (F := fun k => k = g) (g := g) rfl [.int .i64 Y.key, .int .i64 Y.val, .int .u32 (Y.left : Int), .int .u32 (Y.right : Int), .int .i64 Y.size, .int .i64 Y.sum, .int .i64 Y.mn, .int .i64 Y.mx] w 0
    exact h1) hD
/-- the box that was made last; the one before it -/
theorem PB.last {I : AImpl} {B q : Nat} {w0 w : World} {p x : Value} {A : Ar} {rd : Int} {l : List Nat} {D : List (Nat × Nd)} {y : Nat} {X : Nd} (h : PB I B w0 w q p x A rd l (D ++ [(y, X)])) : w.heap[y]? = some (.cells (ndA X) 50 (0, 0)) ∧ y < w.heap.size :=
  ⟨(h.boxes (y, X) (List.mem_append_right _ (List.Mem.head _))).1, h.lt (d := (y, X)) (List.mem_append_right _ (List.Mem.head _))⟩
theorem PB.last2 {I : AImpl} {B q : Nat} {w0 w : World} {p x : Value} {A : Ar} {rd : Int} {l : List Nat} {D : List (Nat × Nd)} {y z : Nat} {X Z : Nd} (h : PB I B w0 w q p x A rd l ((D ++ [(y, X)]) ++ [(z, Z)])) : w.heap[y]? = some (.cells (ndA X) 50 (0, 0)) ∧ y < w.heap.size :=
  ⟨(h.boxes (y, X) (List.mem_append_left _ (List.mem_append_right _ (List.Mem.head _)))).1, h.lt (d := (y, X)) (List.mem_append_left _ (List.mem_append_right _ (List.Mem.head _)))⟩
def BelowCut (I : AImpl) (B q : Nat) (w0 : World) (p x : Value) (A : Ar) (rd : Int) (l : List Nat) (g : Nat) (X : Nd) (s10 s11 : Value) (wx : World) : Prop :=
  ∃ (g1 g2 : Nat) (rd' : Int), s10 = .pointer (some ⟨g1, 0, none⟩) ∧ s11 = .pointer (some ⟨g2, 0, none⟩) ∧ rd ≤ rd' ∧ rd' ≤ rd + 2 ∧ PB I B w0 wx q p x A rd' l [(g, X), (g1, A.nd X.left), (g2, A.nd X.right)]
theorem apart4 {y n : Nat} (h : y < n) : (¬ y = n) ∧ (¬ n = y) ∧ (¬ y = n + 1) ∧ (¬ n + 1 = y) ∧ y < n ∧ y < n + 1 := ⟨by omega, by omega, by omega, by omega, h, by omega⟩
theorem size_alloc1 (w : World) (o : Obj) : (w.alloc o).heap.size = w.heap.size + 1 := by simp
section
variable {I : AImpl} {B q : Nat} {w0 w : World} {p x : Value} {A : Ar} {rd : Int} {l : List Nat} {D : List (Nat × Nd)} {g a b : Nat} {X Y Y1 Y2 : Nd}
/-- a world with eight cells written -/
def put8W (w : World) (g : Nat) (Y : Nd) : World := ((((((((w.setCell ⟨g, 0, none⟩ (.int .i64 Y.key)).setCell ⟨g, 1, none⟩ (.int .i64 Y.val)).setCell ⟨g, 2, none⟩ (.int .u32 (Y.left : Int))).setCell ⟨g, 3, none⟩ (.int .u32 (Y.right : Int))).setCell ⟨g, 4, none⟩ (.int .i64 Y.size)).setCell ⟨g, 5, none⟩ (.int .i64 Y.sum)).setCell ⟨g, 6, none⟩ (.int .i64 Y.mn)).setCell ⟨g, 7, none⟩ (.int .i64 Y.mx))
theorem put8_size (w : World) (g : Nat) (Y : Nd) : (put8W w g Y).heap.size = w.heap.size := by simp [put8W, World.setCell]
theorem close12 (h : PB I B w0 w q p x A rd l [(g, X)]) : PB I B w0 ((w.alloc (Obj.cells (ndA Y1) 50)).alloc (Obj.cells (ndA Y2) 50)) q p x A rd l [(g, X), (w.heap.size, Y1), (w.heap.size + 1, Y2)] := by
  have h1 := (h.alloc Y1).alloc Y2
  rw [size_alloc1] at h1
  exact h1
theorem close21 (h : PB I B w0 w q p x A rd l [(g, X)]) : PB I B w0 ((w.alloc (Obj.cells (ndA Y2) 50)).alloc (Obj.cells (ndA Y1) 50)) q p x A rd l [(g, X), (w.heap.size + 1, Y1), (w.heap.size, Y2)] :=
  (close12 h).less fun d hd => by simp at hd ⊢; rcases hd with h | h | h <;> simp [h]
theorem close3 (h : PB I B w0 w q p x A rd l [(g, X), (a, Nd.zero)]) (hga : ¬ g = a) : PB I B w0 ((put8W w a Y1).alloc (Obj.cells (ndA Y2) 50)) q p x A rd l [(g, X), (a, Y1), (w.heap.size, Y2)] := by
  have h1 := PB.put8 h (g := a) (X := Nd.zero) (Y := Y1) (D' := [(g, X), (a, Y1)]) (by simp) (fun d hd => by
    simp at hd
    rcases hd with rfl | rfl
    · exact .inr ⟨by simp, hga⟩
    · exact .inl rfl)
  have h2 : PB I B w0 (put8W w a Y1) q p x A rd l [(g, X), (a, Y1)] := h1
  have h3 := h2.alloc Y2
  rw [put8_size] at h3
  exact h3
theorem close4 (h : PB I B w0 w q p x A rd l [(g, X), (a, Nd.zero)]) (hga : ¬ g = a) : PB I B w0 ((put8W w a Y2).alloc (Obj.cells (ndA Y1) 50)) q p x A rd l [(g, X), (w.heap.size, Y1), (a, Y2)] :=
  (close3 h hga).less fun d hd => by simp at hd ⊢; rcases hd with h | h | h <;> simp [h]
theorem close5 (h : PB I B w0 w q p x A rd l [(g, X), (a, Nd.zero), (b, Nd.zero)]) (hga : ¬ g = a) (hgb : ¬ g = b) (hab : ¬ a = b) : PB I B w0 (put8W (put8W w a Y1) b Y2) q p x A rd l [(g, X), (a, Y1), (b, Y2)] := by
  have h1 := PB.put8 h (g := a) (X := Nd.zero) (Y := Y1) (D' := [(g, X), (a, Y1), (b, Nd.zero)]) (by simp) (fun d hd => by
    simp at hd
    rcases hd with rfl | rfl | rfl
    · exact .inr ⟨by simp, hga⟩
    · exact .inl rfl
    · exact .inr ⟨by simp, fun e => hab e.symm⟩)
  have h2 : PB I B w0 (put8W w a Y1) q p x A rd l [(g, X), (a, Y1), (b, Nd.zero)] := h1
  exact PB.put8 h2 (g := b) (X := Nd.zero) (Y := Y2) (by simp) (fun d hd => by
    simp at hd
    rcases hd with rfl | rfl | rfl
    · exact .inr ⟨by simp, hgb⟩
    · exact .inr ⟨by simp, hab⟩
    · exact .inl rfl)
/-- the boxes in the other order -/
theorem PB.swap (h : PB I B w0 w q p x A rd l [(g, X), (a, Nd.zero), (b, Nd.zero)]) : PB I B w0 w q p x A rd l [(g, X), (b, Nd.zero), (a, Nd.zero)] :=
  h.less fun d hd => by simp at hd ⊢; rcases hd with h | h | h <;> simp [h]
end
section
variable {I : AImpl} {B q : Nat} {w0 w : World} {p x : Value} {A : Ar} {rd : Int} {l : List Nat} {g a b : Nat} {X Y1 Y2 : Nd}
theorem cl12 (h : PB I B w0 w q p x A rd l [(g, X)]) : PB I B w0 ((w.alloc (Obj.cells #[Value.int .i64 Y1.key, .int .i64 Y1.val, .int .u32 (Y1.left : Int), .int .u32 (Y1.right : Int), .int .i64 Y1.size, .int .i64 Y1.sum, .int .i64 Y1.mn, .int .i64 Y1.mx] 50)).alloc (Obj.cells #[Value.int .i64 Y2.key, .int .i64 Y2.val, .int .u32 (Y2.left : Int), .int .u32 (Y2.right : Int), .int .i64 Y2.size, .int .i64 Y2.sum, .int .i64 Y2.mn, .int .i64 Y2.mx] 50)) q p x A rd l [(g, X), (w.heap.size, Y1), (w.heap.size + 1, Y2)] := close12 h
theorem cl21 (h : PB I B w0 w q p x A rd l [(g, X)]) : PB I B w0 ((w.alloc (Obj.cells #[Value.int .i64 Y2.key, .int .i64 Y2.val, .int .u32 (Y2.left : Int), .int .u32 (Y2.right : Int), .int .i64 Y2.size, .int .i64 Y2.sum, .int .i64 Y2.mn, .int .i64 Y2.mx] 50)).alloc (Obj.cells #[Value.int .i64 Y1.key, .int .i64 Y1.val, .int .u32 (Y1.left : Int), .int .u32 (Y1.right : Int), .int .i64 Y1.size, .int .i64 Y1.sum, .int .i64 Y1.mn, .int .i64 Y1.mx] 50)) q p x A rd l [(g, X), (w.heap.size + 1, Y1), (w.heap.size, Y2)] := close21 h
theorem cl3 (h : PB I B w0 w q p x A rd l [(g, X), (a, Nd.zero)]) (hga : ¬ g = a) : PB I B w0 (((((((((w.setCell ⟨a, 0, none⟩ (.int .i64 Y1.key)).setCell ⟨a, 1, none⟩ (.int .i64 Y1.val)).setCell ⟨a, 2, none⟩ (.int .u32 (Y1.left : Int))).setCell ⟨a, 3, none⟩ (.int .u32 (Y1.right : Int))).setCell ⟨a, 4, none⟩ (.int .i64 Y1.size)).setCell ⟨a, 5, none⟩ (.int .i64 Y1.sum)).setCell ⟨a, 6, none⟩ (.int .i64 Y1.mn)).setCell ⟨a, 7, none⟩ (.int .i64 Y1.mx)).alloc (Obj.cells #[Value.int .i64 Y2.key, .int .i64 Y2.val, .int .u32 (Y2.left : Int), .int .u32 (Y2.right : Int), .int .i64 Y2.size, .int .i64 Y2.sum, .int .i64 Y2.mn, .int .i64 Y2.mx] 50)) q p x A rd l [(g, X), (a, Y1), (w.heap.size, Y2)] := close3 h hga
theorem cl4 (h : PB I B w0 w q p x A rd l [(g, X), (a, Nd.zero)]) (hga : ¬ g = a) : PB I B w0 (((((((((w.setCell ⟨a, 0, none⟩ (.int .i64 Y2.key)).setCell ⟨a, 1, none⟩ (.int .i64 Y2.val)).setCell ⟨a, 2, none⟩ (.int .u32 (Y2.left : Int))).setCell ⟨a, 3, none⟩ (.int .u32 (Y2.right : Int))).setCell ⟨a, 4, none⟩ (.int .i64 Y2.size)).setCell ⟨a, 5, none⟩ (.int .i64 Y2.sum)).setCell ⟨a, 6, none⟩ (.int .i64 Y2.mn)).setCell ⟨a, 7, none⟩ (.int .i64 Y2.mx)).alloc (Obj.cells #[Value.int .i64 Y1.key, .int .i64 Y1.val, .int .u32 (Y1.left : Int), .int .u32 (Y1.right : Int), .int .i64 Y1.size, .int .i64 Y1.sum, .int .i64 Y1.mn, .int .i64 Y1.mx] 50)) q p x A rd l [(g, X), (w.heap.size, Y1), (a, Y2)] := close4 h hga
theorem cl5 (h : PB I B w0 w q p x A rd l [(g, X), (a, Nd.zero), (b, Nd.zero)]) (hga : ¬ g = a) (hgb : ¬ g = b) (hab : ¬ a = b) : PB I B w0 ((((((((((((((((w.setCell ⟨a, 0, none⟩ (.int .i64 Y1.key)).setCell ⟨a, 1, none⟩ (.int .i64 Y1.val)).setCell ⟨a, 2, none⟩ (.int .u32 (Y1.left : Int))).setCell ⟨a, 3, none⟩ (.int .u32 (Y1.right : Int))).setCell ⟨a, 4, none⟩ (.int .i64 Y1.size)).setCell ⟨a, 5, none⟩ (.int .i64 Y1.sum)).setCell ⟨a, 6, none⟩ (.int .i64 Y1.mn)).setCell ⟨a, 7, none⟩ (.int .i64 Y1.mx)).setCell ⟨b, 0, none⟩ (.int .i64 Y2.key)).setCell ⟨b, 1, none⟩ (.int .i64 Y2.val)).setCell ⟨b, 2, none⟩ (.int .u32 (Y2.left : Int))).setCell ⟨b, 3, none⟩ (.int .u32 (Y2.right : Int))).setCell ⟨b, 4, none⟩ (.int .i64 Y2.size)).setCell ⟨b, 5, none⟩ (.int .i64 Y2.sum)).setCell ⟨b, 6, none⟩ (.int .i64 Y2.mn)).setCell ⟨b, 7, none⟩ (.int .i64 Y2.mx)) q p x A rd l [(g, X), (a, Y1), (b, Y2)] := close5 h hga hgb hab
theorem cl6 (h : PB I B w0 w q p x A rd l [(g, X), (a, Nd.zero), (b, Nd.zero)]) (hga : ¬ g = a) (hgb : ¬ g = b) (hab : ¬ a = b) : PB I B w0 ((((((((((((((((w.setCell ⟨b, 0, none⟩ (.int .i64 Y1.key)).setCell ⟨b, 1, none⟩ (.int .i64 Y1.val)).setCell ⟨b, 2, none⟩ (.int .u32 (Y1.left : Int))).setCell ⟨b, 3, none⟩ (.int .u32 (Y1.right : Int))).setCell ⟨b, 4, none⟩ (.int .i64 Y1.size)).setCell ⟨b, 5, none⟩ (.int .i64 Y1.sum)).setCell ⟨b, 6, none⟩ (.int .i64 Y1.mn)).setCell ⟨b, 7, none⟩ (.int .i64 Y1.mx)).setCell ⟨a, 0, none⟩ (.int .i64 Y2.key)).setCell ⟨a, 1, none⟩ (.int .i64 Y2.val)).setCell ⟨a, 2, none⟩ (.int .u32 (Y2.left : Int))).setCell ⟨a, 3, none⟩ (.int .u32 (Y2.right : Int))).setCell ⟨a, 4, none⟩ (.int .i64 Y2.size)).setCell ⟨a, 5, none⟩ (.int .i64 Y2.sum)).setCell ⟨a, 6, none⟩ (.int .i64 Y2.mn)).setCell ⟨a, 7, none⟩ (.int .i64 Y2.mx)) q p x A rd l [(g, X), (b, Y1), (a, Y2)] := close5 h.swap hgb hga (fun e => hab e.symm)
end
/-- what is reckoned from the children -/
theorem agg_facts {A : Ar} {held : Nat → Nat} {i : Nat} (hI : A.Inv [] held) (ha : A.Agg) (hon : A.σ.on i = true) :
    (0 ≤ (A.nd (A.nd i).left).size ∧ (A.nd (A.nd i).left).size ≤ 2147483647) ∧ (0 ≤ (A.nd (A.nd i).right).size ∧ (A.nd (A.nd i).right).size ≤ 2147483647) ∧
      (A.nd i).size = 1 + (A.nd (A.nd i).left).size + (A.nd (A.nd i).right).size ∧ (A.nd i).sum = wrap64 (wrap64 ((A.nd i).val + (A.nd (A.nd i).left).sum) + (A.nd (A.nd i).right).sum) ∧
      (A.nd i).mn = (if (A.nd i).right = 0 then (if (A.nd i).left = 0 then (A.nd i).val else min (A.nd i).val (A.nd (A.nd i).left).mn) else min (if (A.nd i).left = 0 then (A.nd i).val else min (A.nd i).val (A.nd (A.nd i).left).mn) (A.nd (A.nd i).right).mn) ∧
      (A.nd i).mx = (if (A.nd i).right = 0 then (if (A.nd i).left = 0 then (A.nd i).val else max (A.nd i).val (A.nd (A.nd i).left).mx) else max (if (A.nd i).left = 0 then (A.nd i).val else max (A.nd i).val (A.nd (A.nd i).left).mx) (A.nd (A.nd i).right).mx) := by
  have hoff : ∀ j, A.σ.on j = false → A.nd j = Nd.zero := fun j hj => (hI.off j hj).2
  have h0 : A.nd 0 = Nd.zero := hoff 0 (by cases hq : A.σ.on 0 with | false => rfl | true => have := hI.ok.on 0 hq; omega)
  have hn := ha.node i hon
  have hsz := node_sizes ha hoff
  have k1 : ∀ j, A.sz j = (A.nd j).size := fun j => by
    unfold Ar.sz
    split
    · rename_i e; rw [e, h0]; rfl
    · rfl
  have k2 : ∀ j, A.sm j = (A.nd j).sum := fun j => by
    unfold Ar.sm
    split
    · rename_i e; rw [e, h0]; rfl
    · rfl
  have kw : ∀ x, IntKind.i64.wrap x = wrap64 x := fun x => IntWalk.i64_left _
  refine ⟨hsz _, hsz _, ?_, ?_, ?_, ?_⟩
  · have := congrArg Nd.size hn
    rw [this]
    show 1 + A.sz _ + A.sz _ = _
    rw [k1, k1]
  · have := congrArg Nd.sum hn
    rw [this]
    show IntKind.i64.wrap (IntKind.i64.wrap (_ + A.sm _) + A.sm _) = _
    rw [k2, k2, kw, kw]
  · exact congrArg Nd.mn hn
  · exact congrArg Nd.mx hn
end Go.Proofs.Ytnmookemeibioaa
