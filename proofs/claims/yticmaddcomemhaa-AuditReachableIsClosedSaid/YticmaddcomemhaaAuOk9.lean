/- The program's audit: Check. -/
import Derived.Test.YticmaddcomemhaaAuOk8
import Derived.Test.YticmaddcomemhaaAuCon
import Derived.Deep.RegionHeld3
import Derived.Laws.MakeOwn
set_option linter.unusedVariables false
set_option linter.unusedSimpArgs false
namespace Go.Proofs.Yticmaddcomemhaa
open Go.RowKit
theorem blk_after {W w' : World} {k : Nat} {o : Obj} (hb : Below W.heap.size W w') (h : W.heap[k]? = some o) : w'.heap[k]? = some o := (hb.block k (Array.getElem?_eq_some_iff.1 h).1).trans h
/-- the checker's box when it is made -/
def box0 : Obj := .cells #[.slice none 0 0, .slice none 0 0, .slice none 0 0, .slice none 0 0, .slice none 0 0, .slice none 0 0] 58
theorem alloc_drew (w : World) (o : Obj) : ((w.alloc o).drew).heap[w.heap.size]? = some o := heap_alloc_new w o
theorem alloc2_drew_old (w : World) (o o' : Obj) : (((w.alloc o).alloc o').drew).heap[w.heap.size]? = some o := heap_alloc2_old w o o'
theorem alloc2_drew_new (w : World) (o o' : Obj) : (((w.alloc o).alloc o').drew).heap[w.heap.size + 1]? = some o' := heap_alloc2_new w o o'
theorem bk {W w' : World} {q k : Nat} {o : Obj} (hb : Below W.heap.size W w') (h : W.heap[k]? = some o) (hk : q ≤ k) : ∃ kb, k = kb ∧ w'.heap[kb]? = some o ∧ q ≤ kb := ⟨k, rfl, blk_after hb h, hk⟩
theorem blk_name {w : World} {k : Nat} {o : Obj} (h : w.heap[k]? = some o) : ∃ kb, k = kb ∧ w.heap[kb]? = some o := ⟨k, rfl, h⟩
theorem box0_cells {w : World} {k : Nat} (h : w.heap[k]? = some box0) : w.cell? ⟨k, 0, none⟩ = some (.slice none 0 0) ∧ w.cell? ⟨k, 1, none⟩ = some (.slice none 0 0) ∧ w.cell? ⟨k, 2, none⟩ = some (.slice none 0 0) ∧ w.cell? ⟨k, 3, none⟩ = some (.slice none 0 0) ∧ w.cell? ⟨k, 4, none⟩ = some (.slice none 0 0) ∧ w.cell? ⟨k, 5, none⟩ = some (.slice none 0 0) ∧
    w.frozen? ⟨k, 0, none⟩ = false ∧ w.frozen? ⟨k, 1, none⟩ = false ∧ w.frozen? ⟨k, 2, none⟩ = false ∧ w.frozen? ⟨k, 3, none⟩ = false ∧ w.frozen? ⟨k, 4, none⟩ = false ∧ w.frozen? ⟨k, 5, none⟩ = false := by
  unfold box0 at h
  refine ⟨?_, ?_, ?_, ?_, ?_, ?_, frozen_of_row _ _ _ _ _ h, frozen_of_row _ _ _ _ _ h, frozen_of_row _ _ _ _ _ h, frozen_of_row _ _ _ _ _ h, frozen_of_row _ _ _ _ _ h, frozen_of_row _ _ _ _ _ h⟩ <;> (rw [cell_of_row _ _ _ _ _ _ h]; rfl)
/-- what Check lays at first: the checker in its box, counts and marks -/
structure CkB (q Z0 : Nat) (w1 : World) (a b : Option Addr) (n c m d gL gE gM : Nat) (M : Nat → Bool) (f g : Nat → Nat) (wr : World) : Prop where
  box : wr.heap[q]? = some (.cells #[.slice a n c, .slice b m d, .slice (some ⟨gL, 0, none⟩) n n, .slice (some ⟨gE, 0, none⟩) n n, .slice (some ⟨gM, 0, none⟩) n n, .slice none 0 0] 58 (0, 0))
  rL : wr.ownsRow Z0 3 1 (.slice (some ⟨gL, 0, none⟩) n n) n (natR n f)
  rE : wr.ownsRow Z0 3 1 (.slice (some ⟨gE, 0, none⟩) n n) n (natR n g)
  rM : wr.ownsRow Z0 4 1 (.slice (some ⟨gM, 0, none⟩) n n) n (boolR n M)
  ne : gL ≠ gE
  below : Below Z0 w1 wr
  hq : Z0 ≤ q
section
variable {q Z0 n c m d gL gE gM : Nat} {w1 wr w' : World} {a b : Option Addr} {M : Nat → Bool} {f g f' g' : Nat → Nat}
theorem CkB.apart (h : CkB q Z0 w1 a b n c m d gL gE gM M f g wr) : gL ≠ q ∧ gE ≠ q ∧ gM ≠ q ∧ gL ≠ gM ∧ gE ≠ gM := by
  obtain ⟨x1, h1⟩ := row_blk h.rL
  obtain ⟨x2, h2⟩ := row_blk h.rE
  obtain ⟨x3, h3⟩ := row_blk h.rM
  have hb := h.box
  refine ⟨fun e => ?_, fun e => ?_, fun e => ?_, fun e => ?_, fun e => ?_⟩
  · rw [e, hb] at h1; simp at h1
  · rw [e, hb] at h2; simp at h2
  · rw [e, hb] at h3; simp at h3
  · rw [e, h3] at h1; simp at h1
  · rw [e, h3] at h2; simp at h2
theorem CkB.addL (h : CkB q Z0 w1 a b n c m d gL gE gM M f g wr) (ho : OnlyB gL wr w') (hr : w'.ownsRow Z0 3 1 (.slice (some ⟨gL, 0, none⟩) n n) n (natR n f')) : CkB q Z0 w1 a b n c m d gL gE gM M f' g w' := by
  obtain ⟨h1, h2, h3, h4, h5⟩ := h.apart
  refine ⟨(ho.block q h1.symm).trans h.box, hr, row_keep h.rE fun k hk => ?_, row_keep h.rM fun k hk => ?_, h.ne, ho.below h.below (row_from h.rL gL rfl), h.hq⟩
  · simp [Value.ownBlock] at hk; subst hk; exact ho.block _ h.ne.symm
  · simp [Value.ownBlock] at hk; subst hk; exact ho.block _ h4.symm
theorem CkB.addE (h : CkB q Z0 w1 a b n c m d gL gE gM M f g wr) (ho : OnlyB gE wr w') (hr : w'.ownsRow Z0 3 1 (.slice (some ⟨gE, 0, none⟩) n n) n (natR n g')) : CkB q Z0 w1 a b n c m d gL gE gM M f g' w' := by
  obtain ⟨h1, h2, h3, h4, h5⟩ := h.apart
  refine ⟨(ho.block q h2.symm).trans h.box, row_keep h.rL fun k hk => ?_, hr, row_keep h.rM fun k hk => ?_, h.ne, ho.below h.below (row_from h.rE gE rfl), h.hq⟩
  · simp [Value.ownBlock] at hk; subst hk; exact ho.block _ h.ne
  · simp [Value.ownBlock] at hk; subst hk; exact ho.block _ h5.symm
theorem CkB.cells (h : CkB q Z0 w1 a b n c m d gL gE gM M f g wr) : wr.cell? ⟨q, 2, none⟩ = some (.slice (some ⟨gL, 0, none⟩) n n) ∧ wr.cell? ⟨q, 3, none⟩ = some (.slice (some ⟨gE, 0, none⟩) n n) := by
  refine ⟨?_, ?_⟩ <;> (rw [cell_of_row _ _ _ _ _ _ h.box]; rfl)
theorem plus1_count {l : List Nat} {j : Nat} (h : j < l.length) : (fun i => plus1 (fun i => (l.take j).count (i + 1)) (l.getD j 0) i) = fun i => (l.take (j + 1)).count (i + 1) := by
  funext i
  rw [count_step h]
  rfl
theorem plus1_ecount {S : Nat → Sl} {n : Nat} {l : List Nat} {j : Nat} (h : j < l.length) : (fun i => plus1 (fun i => eg S n (i + 1) + (l.take j).count (i + 1)) (l.getD j 0) i) = fun i => eg S n (i + 1) + (l.take (j + 1)).count (i + 1) := by
  funext i
  rw [count_step h, ← Nat.add_assoc]
  rfl
theorem boolR_ext {B R : Nat → Bool} (h : ∀ j, j < n → B j = R j) : boolR n B = boolR n R := by
  unfold boolR
  refine List.map_congr_left fun i hi => ?_
  rw [List.mem_range] at hi
  rw [h i hi]
end
def ChkCut (Z0 : Nat) (w1 : World) (a b : Option Addr) (n c m d : Nat) (S : Nat → Sl) (rs : List Nat) (s5 : Value) (wx : World) : Prop :=
  ∃ (q gL gE gM : Nat) (M : Nat → Bool), s5 = .pointer (some ⟨q, 0, none⟩) ∧ CkB q Z0 w1 a b n c m d gL gE gM M (fun _ => 0) (fun i => eg S n (i + 1)) wx ∧ ∀ j, j < n → (M j = true ↔ Rch S n rs (j + 1))
theorem sz_a1 (w : World) (o : Obj) : (w.alloc o).heap.size = w.heap.size + 1 := by simp
theorem sz_a2 (w : World) (o o' : Obj) : ((w.alloc o).alloc o').heap.size = w.heap.size + 2 := by simp
theorem sz_d1 (w : World) (o : Obj) : (w.alloc o).drew.heap.size = w.heap.size + 1 := sz_a1 w o
theorem sz_d2 (w : World) (o o' : Obj) : ((w.alloc o).alloc o').drew.heap.size = w.heap.size + 2 := sz_a2 w o o'
section
variable {Z0 n c m d gL gE gM kb : Nat} {w1 wM : World} {a b : Option Addr} {S : Nat → Sl} {rs : List Nat} {CZ : Array Value} {M : Nat → Bool}
theorem cz_row {w : World} (hC : CZ.toList = natR n (fun _ => 0) ∧ CZ.size = n) (hn : n ≤ maxLen) (h : w.heap[gL]? = some (.cells CZ 3 (0, 0))) (hg : Z0 ≤ gL) : w.ownsRow Z0 3 1 (.slice (some ⟨gL, 0, none⟩) n n) n (natR n fun _ => 0) := by
  refine ⟨by simp [natR], .inr ⟨gL, n, CZ, rfl, hg, h, Nat.le_refl _, hn, by rw [hC.2]; omega, ?_⟩⟩
  rw [hC.1, Nat.mul_one, List.take_of_length_le (by simp [natR])]
theorem row_max {w : World} {B k : Nat} {e : TypeId} {xs : List Value} (h : w.ownsRow B e 1 (.slice (some ⟨k, 0, none⟩) n n) n xs) : n ≤ maxLen := (row_caps h).2
theorem fin_A (hC : CZ.toList = natR n (fun _ => 0) ∧ CZ.size = n) (hE : wM.ownsRow Z0 3 1 (.slice (some ⟨gE, 0, none⟩) n n) n (natR n fun i => eg S n (i + 1))) (hM : wM.ownsRow Z0 4 1 (.slice (some ⟨gM, 0, none⟩) n n) n (boolR n M)) (hR : ∀ j, j < n → (M j = true ↔ Rch S n rs (j + 1)))
    (hl : wM.heap[gL]? = some (.cells CZ 3 (0, 0))) (hne : gL ≠ gE) (hb : Below Z0 w1 wM) (hg : Z0 ≤ gL) :
    ChkCut Z0 w1 a b n c m d S rs (.pointer (some ⟨wM.heap.size, 0, none⟩)) (wM.alloc (Obj.cells #[.slice a n c, .slice b m d, .slice (some ⟨gL, 0, none⟩) n n, .slice (some ⟨gE, 0, none⟩) n n, .slice (some ⟨gM, 0, none⟩) n n, .slice none 0 0] 58)) := by
  have h1 := below_new wM (Obj.cells #[.slice a n c, .slice b m d, .slice (some ⟨gL, 0, none⟩) n n, .slice (some ⟨gE, 0, none⟩) n n, .slice (some ⟨gM, 0, none⟩) n n, .slice none 0 0] 58)
  have hlt := (Array.getElem?_eq_some_iff.1 hl).1
  exact ⟨_, gL, gE, gM, M, rfl, ⟨heap_alloc_new wM _, row_below (cz_row hC (row_max hE) hl hg) h1, row_below hE h1, row_below hM h1, hne, hb.trans (h1.mono (by omega)), by omega⟩, hR⟩
theorem fin_C (hC : CZ.toList = natR n (fun _ => 0) ∧ CZ.size = n) (hE : wM.ownsRow Z0 3 1 (.slice (some ⟨gE, 0, none⟩) n n) n (natR n fun i => eg S n (i + 1))) (hM : wM.ownsRow Z0 4 1 (.slice (some ⟨gM, 0, none⟩) n n) n (boolR n M)) (hR : ∀ j, j < n → (M j = true ↔ Rch S n rs (j + 1)))
    (hb : Below Z0 w1 wM) (hz : Z0 ≤ wM.heap.size) :
    ChkCut Z0 w1 a b n c m d S rs (.pointer (some ⟨wM.heap.size + 1, 0, none⟩)) ((wM.alloc (Obj.cells CZ 3)).alloc (Obj.cells #[.slice a n c, .slice b m d, .slice (some ⟨wM.heap.size, 0, none⟩) n n, .slice (some ⟨gE, 0, none⟩) n n, .slice (some ⟨gM, 0, none⟩) n n, .slice none 0 0] 58)) := by
  have h1 := below_new wM (Obj.cells CZ 3)
  have h2 := (row_lt hE gE rfl).2
  have := fin_A (a := a) (b := b) (c := c) (m := m) (d := d) (rs := rs) (S := S) hC (row_below hE h1) (row_below hM h1) hR (heap_alloc_new wM _) (by omega) (hb.trans (h1.mono hz)) hz
  rw [sz_a1] at this
  exact this
theorem fin_D (hC : CZ.toList = natR n (fun _ => 0) ∧ CZ.size = n) (hE : wM.ownsRow Z0 3 1 (.slice (some ⟨gE, 0, none⟩) n n) n (natR n fun i => eg S n (i + 1))) (hM : wM.ownsRow Z0 4 1 (.slice (some ⟨gM, 0, none⟩) n n) n (boolR n M)) (hR : ∀ j, j < n → (M j = true ↔ Rch S n rs (j + 1)))
    (hb : Below Z0 w1 wM) (hz : Z0 ≤ wM.heap.size) :
    ChkCut Z0 w1 a b n c m d S rs (.pointer (some ⟨wM.heap.size, 0, none⟩)) ((wM.alloc (Obj.cells #[.slice a n c, .slice b m d, .slice (some ⟨wM.heap.size + 1, 0, none⟩) n n, .slice (some ⟨gE, 0, none⟩) n n, .slice (some ⟨gM, 0, none⟩) n n, .slice none 0 0] 58)).alloc (Obj.cells CZ 3)) := by
  have h1 := below_new wM (Obj.cells #[.slice a n c, .slice b m d, .slice (some ⟨wM.heap.size + 1, 0, none⟩) n n, .slice (some ⟨gE, 0, none⟩) n n, .slice (some ⟨gM, 0, none⟩) n n, .slice none 0 0] 58)
  have h2 := below_new (wM.alloc (Obj.cells #[.slice a n c, .slice b m d, .slice (some ⟨wM.heap.size + 1, 0, none⟩) n n, .slice (some ⟨gE, 0, none⟩) n n, .slice (some ⟨gM, 0, none⟩) n n, .slice none 0 0] 58)) (Obj.cells CZ 3)
  have h12 := below_chain h1 h2
  have h3 := (row_lt hE gE rfl).2
  exact ⟨_, wM.heap.size + 1, gE, gM, M, rfl, ⟨heap_alloc2_old wM _ _, cz_row hC (row_max hE) (heap_alloc2_new wM _ _) (by omega), row_below hE h12, row_below hM h12, by omega, hb.trans (h12.mono hz), hz⟩, hR⟩
theorem set_six {w : World} {k : Nat} {d0 d1 d2 d3 d4 d5 : Value} (h : w.heap[k]? = some box0) :
    ((((((w.setCell ⟨k, 0, none⟩ d0).setCell ⟨k, 1, none⟩ d1).setCell ⟨k, 2, none⟩ d2).setCell ⟨k, 3, none⟩ d3).setCell ⟨k, 4, none⟩ d4).setCell ⟨k, 5, none⟩ d5).heap[k]? = some (.cells #[d0, d1, d2, d3, d4, d5] 58 (0, 0)) := by
  unfold box0 at h
  have e0 : (w.setCell ⟨k, 0, none⟩ d0).heap[k]? = some (.cells #[d0, Value.slice none 0 0, Value.slice none 0 0, Value.slice none 0 0, Value.slice none 0 0, Value.slice none 0 0] 58 (0, 0)) := (heap_setCell_same w k 0 _ _ d0 h).trans (by rfl)
  have e1 : ((w.setCell ⟨k, 0, none⟩ d0).setCell ⟨k, 1, none⟩ d1).heap[k]? = some (.cells #[d0, d1, Value.slice none 0 0, Value.slice none 0 0, Value.slice none 0 0, Value.slice none 0 0] 58 (0, 0)) := (heap_setCell_same (w.setCell ⟨k, 0, none⟩ d0) k 1 _ _ d1 e0).trans (by rfl)
  have e2 : (((w.setCell ⟨k, 0, none⟩ d0).setCell ⟨k, 1, none⟩ d1).setCell ⟨k, 2, none⟩ d2).heap[k]? = some (.cells #[d0, d1, d2, Value.slice none 0 0, Value.slice none 0 0, Value.slice none 0 0] 58 (0, 0)) := (heap_setCell_same ((w.setCell ⟨k, 0, none⟩ d0).setCell ⟨k, 1, none⟩ d1) k 2 _ _ d2 e1).trans (by rfl)
  have e3 : ((((w.setCell ⟨k, 0, none⟩ d0).setCell ⟨k, 1, none⟩ d1).setCell ⟨k, 2, none⟩ d2).setCell ⟨k, 3, none⟩ d3).heap[k]? = some (.cells #[d0, d1, d2, d3, Value.slice none 0 0, Value.slice none 0 0] 58 (0, 0)) := (heap_setCell_same (((w.setCell ⟨k, 0, none⟩ d0).setCell ⟨k, 1, none⟩ d1).setCell ⟨k, 2, none⟩ d2) k 3 _ _ d3 e2).trans (by rfl)
  have e4 : (((((w.setCell ⟨k, 0, none⟩ d0).setCell ⟨k, 1, none⟩ d1).setCell ⟨k, 2, none⟩ d2).setCell ⟨k, 3, none⟩ d3).setCell ⟨k, 4, none⟩ d4).heap[k]? = some (.cells #[d0, d1, d2, d3, d4, Value.slice none 0 0] 58 (0, 0)) := (heap_setCell_same ((((w.setCell ⟨k, 0, none⟩ d0).setCell ⟨k, 1, none⟩ d1).setCell ⟨k, 2, none⟩ d2).setCell ⟨k, 3, none⟩ d3) k 4 _ _ d4 e3).trans (by rfl)
  have e5 : ((((((w.setCell ⟨k, 0, none⟩ d0).setCell ⟨k, 1, none⟩ d1).setCell ⟨k, 2, none⟩ d2).setCell ⟨k, 3, none⟩ d3).setCell ⟨k, 4, none⟩ d4).setCell ⟨k, 5, none⟩ d5).heap[k]? = some (.cells #[d0, d1, d2, d3, d4, d5] 58 (0, 0)) := (heap_setCell_same (((((w.setCell ⟨k, 0, none⟩ d0).setCell ⟨k, 1, none⟩ d1).setCell ⟨k, 2, none⟩ d2).setCell ⟨k, 3, none⟩ d3).setCell ⟨k, 4, none⟩ d4) k 5 _ _ d5 e4).trans (by rfl)
  exact e5
theorem OnlyB.trans {g : Nat} {x y z : World} (h : OnlyB g x y) (h' : OnlyB g y z) : OnlyB g x z := ⟨h'.os.trans h.os, h'.tape.trans h.tape, h'.output.trans h.output, h'.size.trans h.size, fun k hk => (h'.block k hk).trans (h.block k hk)⟩
theorem set_six_only (w : World) (k : Nat) (d0 d1 d2 d3 d4 d5 : Value) : OnlyB k w ((((((w.setCell ⟨k, 0, none⟩ d0).setCell ⟨k, 1, none⟩ d1).setCell ⟨k, 2, none⟩ d2).setCell ⟨k, 3, none⟩ d3).setCell ⟨k, 4, none⟩ d4).setCell ⟨k, 5, none⟩ d5) := by
  exact (((((OnlyB.set w k 0 d0).trans (OnlyB.set _ k 1 d1)).trans (OnlyB.set _ k 2 d2)).trans (OnlyB.set _ k 3 d3)).trans (OnlyB.set _ k 4 d4)).trans (OnlyB.set _ k 5 d5)
theorem blk_ne {w : World} {B g k s : Nat} {e : TypeId} {xs : List Value} (h : w.ownsRow B e s (.slice (some ⟨g, 0, none⟩) n n) n xs) (hb : w.heap[k]? = some box0) (he : e ≠ 58) : g ≠ k := fun e2 => by
  obtain ⟨cur, h1⟩ := row_blk h
  unfold box0 at hb
  rw [e2, hb] at h1
  simp at h1
  exact he h1.2.symm
theorem only_row {w w' : World} {B g k s : Nat} {e : TypeId} {xs : List Value} (h : w.ownsRow B e s (.slice (some ⟨g, 0, none⟩) n n) n xs) (ho : OnlyB k w w') (hne : g ≠ k) : w'.ownsRow B e s (.slice (some ⟨g, 0, none⟩) n n) n xs :=
  row_keep h fun j hj => by simp [Value.ownBlock] at hj; subst hj; exact ho.block _ hne
theorem fin_B (hC : CZ.toList = natR n (fun _ => 0) ∧ CZ.size = n) (hE : wM.ownsRow Z0 3 1 (.slice (some ⟨gE, 0, none⟩) n n) n (natR n fun i => eg S n (i + 1))) (hM : wM.ownsRow Z0 4 1 (.slice (some ⟨gM, 0, none⟩) n n) n (boolR n M)) (hR : ∀ j, j < n → (M j = true ↔ Rch S n rs (j + 1)))
    (hx : wM.heap[kb]? = some box0) (hk : Z0 ≤ kb) (hl : wM.heap[gL]? = some (.cells CZ 3 (0, 0))) (hne : gL ≠ gE) (hb : Below Z0 w1 wM) (hg : Z0 ≤ gL) :
    ChkCut Z0 w1 a b n c m d S rs (.pointer (some ⟨kb, 0, none⟩)) ((((((wM.setCell ⟨kb, 0, none⟩ (.slice a n c)).setCell ⟨kb, 1, none⟩ (.slice b m d)).setCell ⟨kb, 2, none⟩ (.slice (some ⟨gL, 0, none⟩) n n)).setCell ⟨kb, 3, none⟩ (.slice (some ⟨gE, 0, none⟩) n n)).setCell ⟨kb, 4, none⟩ (.slice (some ⟨gM, 0, none⟩) n n)).setCell ⟨kb, 5, none⟩ (.slice none 0 0)) := by
  have ho := set_six_only wM kb (.slice a n c) (.slice b m d) (.slice (some ⟨gL, 0, none⟩) n n) (.slice (some ⟨gE, 0, none⟩) n n) (.slice (some ⟨gM, 0, none⟩) n n) (.slice none 0 0)
  have hL := cz_row hC (row_max hE) hl hg
  exact ⟨kb, gL, gE, gM, M, rfl, ⟨set_six hx, only_row hL ho (blk_ne hL hx (by decide)), only_row hE ho (blk_ne hE hx (by decide)), only_row hM ho (blk_ne hM hx (by decide)), hne, ho.below hb hk, hk⟩, hR⟩
theorem fin_E (hC : CZ.toList = natR n (fun _ => 0) ∧ CZ.size = n) (hE : wM.ownsRow Z0 3 1 (.slice (some ⟨gE, 0, none⟩) n n) n (natR n fun i => eg S n (i + 1))) (hM : wM.ownsRow Z0 4 1 (.slice (some ⟨gM, 0, none⟩) n n) n (boolR n M)) (hR : ∀ j, j < n → (M j = true ↔ Rch S n rs (j + 1)))
    (hx : wM.heap[kb]? = some box0) (hk : Z0 ≤ kb) (hb : Below Z0 w1 wM) (hz : Z0 ≤ wM.heap.size) :
    ChkCut Z0 w1 a b n c m d S rs (.pointer (some ⟨kb, 0, none⟩)) (((((((wM.setCell ⟨kb, 0, none⟩ (.slice a n c)).setCell ⟨kb, 1, none⟩ (.slice b m d)).setCell ⟨kb, 2, none⟩ (.slice (some ⟨wM.heap.size, 0, none⟩) n n)).setCell ⟨kb, 3, none⟩ (.slice (some ⟨gE, 0, none⟩) n n)).setCell ⟨kb, 4, none⟩ (.slice (some ⟨gM, 0, none⟩) n n)).setCell ⟨kb, 5, none⟩ (.slice none 0 0)).alloc (Obj.cells CZ 3)) := by
  have ho := set_six_only wM kb (.slice a n c) (.slice b m d) (.slice (some ⟨wM.heap.size, 0, none⟩) n n) (.slice (some ⟨gE, 0, none⟩) n n) (.slice (some ⟨gM, 0, none⟩) n n) (.slice none 0 0)
  have h6 := set_six (d0 := .slice a n c) (d1 := .slice b m d) (d2 := .slice (some ⟨wM.heap.size, 0, none⟩) n n) (d3 := .slice (some ⟨gE, 0, none⟩) n n) (d4 := .slice (some ⟨gM, 0, none⟩) n n) (d5 := .slice none 0 0) hx
  have e1 := only_row hE ho (blk_ne hE hx (by decide))
  have m1 := only_row hM ho (blk_ne hM hx (by decide))
  have hb1 := ho.below hb hk
  have hsz := ho.size
  generalize (((((wM.setCell ⟨kb, 0, none⟩ (.slice a n c)).setCell ⟨kb, 1, none⟩ (.slice b m d)).setCell ⟨kb, 2, none⟩ (.slice (some ⟨wM.heap.size, 0, none⟩) n n)).setCell ⟨kb, 3, none⟩ (.slice (some ⟨gE, 0, none⟩) n n)).setCell ⟨kb, 4, none⟩ (.slice (some ⟨gM, 0, none⟩) n n)).setCell ⟨kb, 5, none⟩ (.slice none 0 0) = wS at *
  have h1 := below_new wS (Obj.cells CZ 3)
  have h3 := (row_lt e1 gE rfl).2
  have hn := heap_alloc_new wS (Obj.cells CZ 3)
  rw [hsz] at hn
  exact ⟨kb, wM.heap.size, gE, gM, M, rfl, ⟨(h1.block kb (Array.getElem?_eq_some_iff.1 h6).1).trans h6, cz_row hC (row_max hE) hn hz, row_below e1 h1, row_below m1 h1, by omega, hb1.trans (h1.mono (by omega)), hk⟩, hR⟩
end
set_option maxHeartbeats 40000000 in
set_option maxRecDepth 100000 in
theorem pCheck_any {w : World} {a b ra : Option Addr} {n c m d rc L : Nat} {S : Nat → Sl} (fr rs : List Nat) (hM : fr.length = m) (hL : rs.length = L) (h : SlotsAt w a n S) (hf : U32At w b fr) (hr : U32At w ra rs) (hn : n ≤ 65536) (hm : m ≤ 1000000) (hl : L ≤ 1000000) (R : Nat → Bool) (hR : ∀ j, j < n → (R j = true ↔ Rch S n rs (j + 1))) :
    Calls Try.prog 17 #[.agg #[.slice a n c, .slice b m d], .slice ra L rc] w (PFds w (chk S n fr rs R)) := by
  obtain ⟨i1, ki, kz0, kz1, kz2⟩ := info_parts i64sInfo
  have hni : (n : Int) ≤ 65536 := by omega
  have hni0 : (0 : Int) ≤ (n : Int) := by omega
  obtain ⟨CZ, hCZ⟩ : ∃ CZ, madeCells (Value.int .i64 0).cells (n * 1) = CZ := ⟨_, rfl⟩
  have hm2 : ∀ wx : World, (Instr.makeSlice 29 (.int .i64 (n : Int)) (.int .i64 (n : Int))).run Try.prog wx = .ok (.slice (some ⟨wx.heap.size, 0, none⟩) n n) (wx.alloc (.cells CZ 3)) := fun wx => by
    have := run_make (P := Try.prog) wx 29 3 i1 _ Try.underlying29 ki kz0 .i64 .i64 (n : Int) (n : Int) (by omega) (by omega) (by rw [kz2]; omega) (by omega)
    rw [Int.toNat_natCast, kz1, hCZ] at this
    exact this
  have HCZ : Hid (CZ.toList = natR n (fun _ => 0) ∧ CZ.size = n) := ⟨by rw [← hCZ]; exact natR_zero n, by rw [← hCZ, size_madeCells, Nat.mul_one]⟩
  have hb1 := below_new w (Obj.cells #[Value.slice a n c, Value.slice b m d] 25)
  have hX := DBox.new w a b n c m d
  have HB := Lib.hid hb1
  have HS := Lib.hid (h.below hb1)
  have HRS := Lib.hid (hr.below hb1)
  have HFR := Lib.hid (hf.below hb1)
  have HX := Lib.hid hX
  have hsz : (w.alloc (Obj.cells #[Value.slice a n c, Value.slice b m d] 25)).heap.size = w.heap.size + 1 := by simp
  have HZ := Lib.hid hsz
  have HM := Lib.hid hM
  have HL := Lib.hid hL
  have HRR := Lib.hid hR
  obtain ⟨hc0, hc1⟩ := hX.cells
  clear hb1 h hr hf hsz hL hM hR ki kz0 kz1 kz2 hCZ hX
  go_enter Try.func17, Try.ntmps17
  go_upto_region 1 with fail
  generalize hW1 : w.alloc (Obj.cells #[Value.slice a n c, Value.slice b m d] 25) = w1 at *
  clear hW1
  generalize hQ : w.heap.size = q at *
  have HQ := Lib.hid hQ
  clear hQ
  have HSS : Hid (∀ wx, Below (q + 1) w1 wx → SlotsAt wx a n S) := fun wx hb => HS.out.below (hb.mono (Nat.le_of_eq HZ.out))
  have HRX : Hid (∀ wx, Below (q + 1) w1 wx → U32At wx ra rs) := fun wx hb => HRS.out.below (hb.mono (Nat.le_of_eq HZ.out))
  have HXX : Hid (∀ wx, Below (q + 1) w1 wx → wx.cell? ⟨q, 0, none⟩ = some (.slice a n c) ∧ wx.cell? ⟨q, 1, none⟩ = some (.slice b m d)) := fun wx hb => (HX.out.below hb (Nat.lt_succ_self q)).cells
  have HNX : Hid (∀ wx wy, Below (q + 1) w1 wx → Below wx.heap.size wx wy → Below (q + 1) w1 wy) := fun wx wy h1 h2 => h1.trans (h2.mono (Nat.le_trans (Nat.le_of_eq HZ.out.symm) h1.size))
  have HAL : Hid (∀ wx o, Below (q + 1) w1 wx → Below (q + 1) w1 (wx.alloc o)) := fun wx o h1 => HNX.out _ _ h1 (below_new wx o)
  have HZ1 : Hid (∀ wx, Below (q + 1) w1 wx → q + 1 ≤ wx.heap.size) := fun wx hb => Nat.le_trans (Nat.le_of_eq HZ.out.symm) hb.size
  have hbd : Below (q + 1) w1 w1.drew := (Below.refl _ _).drew
  have hql : q < w1.heap.size := by rw [HZ.out]; omega
  go_cut [5] (fun s5 wx => ChkCut (q + 1) w1 a b n c m d S rs s5 wx)
  case first =>
    go_region_held3 (fun w' => Below (q + 1) w1 w' ∧ w'.cell? ⟨q, 0, none⟩ = some (.slice a n c) ∧ w'.cell? ⟨q, 1, none⟩ = some (.slice b m d)) ((refine ⟨?_, HXX.out _ ?_⟩ <;> (repeat (first | with_reducible assumption | with_reducible exact Below.refl _ _ | with_reducible refine Below.drew ?_ | with_reducible refine HAL.out _ _ ?_ | with_reducible refine Below.setCell ?_ HKQ.out _)))) (first
      | (go_at_call 11; refine (pInEdges_any (b := b) (m := m) (d := d) (c := c) (HSS.out _ (by repeat (first | with_reducible assumption | with_reducible exact Below.refl _ _ | with_reducible refine Below.drew ?_ | with_reducible refine HAL.out _ _ ?_))) hn).mono ?_; rintro e wE ⟨gE, rfl, hoE, hbE⟩; have hbn := HNX.out _ _ (by repeat (first | with_reducible assumption | with_reducible exact Below.refl _ _ | with_reducible refine Below.drew ?_ | with_reducible refine HAL.out _ _ ?_)) hbE; obtain ⟨hd0, hd1⟩ := HXX.out _ hbn; have HOE := Lib.hid hoE; (try ((first | (obtain ⟨kb, hkb, hbx, hkq⟩ := bk (o := box0) hbE (heap_alloc_new _ box0) (HZ1.out _ (by repeat (first | with_reducible assumption | with_reducible exact Below.refl _ _ | with_reducible refine Below.drew ?_ | with_reducible refine HAL.out _ _ ?_))); rw [hkb]; have HKB := Lib.hid hkb; have HKQ := Lib.hid hkq; clear hkb hkq) | (obtain ⟨kb, hkb, hbx, hkq⟩ := bk (o := box0) hbE (heap_alloc2_old _ box0 _) (HZ1.out _ (by repeat (first | with_reducible assumption | with_reducible exact Below.refl _ _ | with_reducible refine Below.drew ?_ | with_reducible refine HAL.out _ _ ?_))); rw [hkb]; have HKB := Lib.hid hkb; have HKQ := Lib.hid hkq; clear hkb hkq) | (obtain ⟨kb, hkb, hbx, hkq⟩ := bk (o := box0) hbE (alloc_drew _ box0) (HZ1.out _ (by repeat (first | with_reducible assumption | with_reducible exact Below.refl _ _ | with_reducible refine Below.drew ?_ | with_reducible refine HAL.out _ _ ?_))); rw [hkb]; have HKB := Lib.hid hkb; have HKQ := Lib.hid hkq; clear hkb hkq) | (obtain ⟨kb, hkb, hbx, hkq⟩ := bk (o := box0) hbE (alloc2_drew_old _ box0 _) (HZ1.out _ (by repeat (first | with_reducible assumption | with_reducible exact Below.refl _ _ | with_reducible refine Below.drew ?_ | with_reducible refine HAL.out _ _ ?_))); rw [hkb]; have HKB := Lib.hid hkb; have HKQ := Lib.hid hkq; clear hkb hkq) | (obtain ⟨kb, hkb, hbx, hkq⟩ := bk (o := box0) hbE (heap_alloc2_new _ _ box0) (Nat.le_succ_of_le (HZ1.out _ (by repeat (first | with_reducible assumption | with_reducible exact Below.refl _ _ | with_reducible refine Below.drew ?_ | with_reducible refine HAL.out _ _ ?_)))); rw [hkb]; have HKB := Lib.hid hkb; have HKQ := Lib.hid hkq; clear hkb hkq) | (obtain ⟨kb, hkb, hbx, hkq⟩ := bk (o := box0) hbE (alloc2_drew_new _ _ box0) (Nat.le_succ_of_le (HZ1.out _ (by repeat (first | with_reducible assumption | with_reducible exact Below.refl _ _ | with_reducible refine Below.drew ?_ | with_reducible refine HAL.out _ _ ?_)))); rw [hkb]; have HKB := Lib.hid hkb; have HKQ := Lib.hid hkq; clear hkb hkq) | (have hbx := blk_after (o := box0) hbE HBX.out) | (have hbx := blk_after (o := box0) hbE (blk_after (below_new _ _) HBX.out))); obtain ⟨x0, x1, x2, x3, x4, x5, y0, y1, y2, y3, y4, y5⟩ := box0_cells hbx; have hkl := (Array.getElem?_eq_some_iff.1 hbx).1; have HBX := Lib.hid hbx; clear hbx)); have HBE := Lib.hid hbE; (try ((first | have hlz := blk_after hbE (heap_alloc_new _ (Obj.cells CZ 3)) | have hlz := blk_after hbE (heap_alloc2_old _ (Obj.cells CZ 3) _) | have hlz := blk_after hbE (alloc_drew _ (Obj.cells CZ 3)) | have hlz := blk_after hbE (alloc2_drew_old _ (Obj.cells CZ 3) _) | have hlz := blk_after hbE (heap_alloc2_new _ _ (Obj.cells CZ 3)) | have hlz := blk_after hbE (alloc2_drew_new _ _ (Obj.cells CZ 3))); (try rw [sz_a1] at hlz); (try rw [HKB.out] at hlz); have HLZ := Lib.hid hlz; clear hlz)); have hbnE := hbn; clear hoE hbE)
      | (go_at_call 24; refine (pMarks_any (b := b) (m := m) (d := d) (c := c) (rc := rc) rs HL.out (HSS.out _ (by repeat (first | with_reducible assumption | with_reducible exact Below.refl _ _ | with_reducible refine Below.drew ?_ | with_reducible refine HAL.out _ _ ?_))) (HRX.out _ (by repeat (first | with_reducible assumption | with_reducible exact Below.refl _ _ | with_reducible refine Below.drew ?_ | with_reducible refine HAL.out _ _ ?_))) hn hl).mono ?_; rintro e wM ⟨gM, B, rfl, hoM, hBB, hbM⟩; have hbn := HNX.out _ _ (by repeat (first | with_reducible assumption | with_reducible exact Below.refl _ _ | with_reducible refine Below.drew ?_ | with_reducible refine HAL.out _ _ ?_)) hbM; obtain ⟨hd0, hd1⟩ := HXX.out _ hbn; have HOM := Lib.hid hoM; (try ((first | (obtain ⟨kb, hkb, hbx, hkq⟩ := bk (o := box0) hbM (heap_alloc_new _ box0) (HZ1.out _ (by repeat (first | with_reducible assumption | with_reducible exact Below.refl _ _ | with_reducible refine Below.drew ?_ | with_reducible refine HAL.out _ _ ?_))); rw [hkb]; have HKB := Lib.hid hkb; have HKQ := Lib.hid hkq; clear hkb hkq) | (obtain ⟨kb, hkb, hbx, hkq⟩ := bk (o := box0) hbM (heap_alloc2_old _ box0 _) (HZ1.out _ (by repeat (first | with_reducible assumption | with_reducible exact Below.refl _ _ | with_reducible refine Below.drew ?_ | with_reducible refine HAL.out _ _ ?_))); rw [hkb]; have HKB := Lib.hid hkb; have HKQ := Lib.hid hkq; clear hkb hkq) | (obtain ⟨kb, hkb, hbx, hkq⟩ := bk (o := box0) hbM (alloc_drew _ box0) (HZ1.out _ (by repeat (first | with_reducible assumption | with_reducible exact Below.refl _ _ | with_reducible refine Below.drew ?_ | with_reducible refine HAL.out _ _ ?_))); rw [hkb]; have HKB := Lib.hid hkb; have HKQ := Lib.hid hkq; clear hkb hkq) | (obtain ⟨kb, hkb, hbx, hkq⟩ := bk (o := box0) hbM (alloc2_drew_old _ box0 _) (HZ1.out _ (by repeat (first | with_reducible assumption | with_reducible exact Below.refl _ _ | with_reducible refine Below.drew ?_ | with_reducible refine HAL.out _ _ ?_))); rw [hkb]; have HKB := Lib.hid hkb; have HKQ := Lib.hid hkq; clear hkb hkq) | (obtain ⟨kb, hkb, hbx, hkq⟩ := bk (o := box0) hbM (heap_alloc2_new _ _ box0) (Nat.le_succ_of_le (HZ1.out _ (by repeat (first | with_reducible assumption | with_reducible exact Below.refl _ _ | with_reducible refine Below.drew ?_ | with_reducible refine HAL.out _ _ ?_)))); rw [hkb]; have HKB := Lib.hid hkb; have HKQ := Lib.hid hkq; clear hkb hkq) | (obtain ⟨kb, hkb, hbx, hkq⟩ := bk (o := box0) hbM (alloc2_drew_new _ _ box0) (Nat.le_succ_of_le (HZ1.out _ (by repeat (first | with_reducible assumption | with_reducible exact Below.refl _ _ | with_reducible refine Below.drew ?_ | with_reducible refine HAL.out _ _ ?_)))); rw [hkb]; have HKB := Lib.hid hkb; have HKQ := Lib.hid hkq; clear hkb hkq) | (have hbx := blk_after (o := box0) hbM HBX.out) | (have hbx := blk_after (o := box0) hbM (blk_after (below_new _ _) HBX.out))); obtain ⟨x0, x1, x2, x3, x4, x5, y0, y1, y2, y3, y4, y5⟩ := box0_cells hbx; have hkl := (Array.getElem?_eq_some_iff.1 hbx).1; have HBX := Lib.hid hbx; clear hbx)); have HBM := Lib.hid hbM; have HBBB := Lib.hid hBB; (try ((first | have hlz := blk_after hbM (heap_alloc_new _ (Obj.cells CZ 3)) | have hlz := blk_after hbM (heap_alloc2_old _ (Obj.cells CZ 3) _) | have hlz := blk_after hbM (alloc_drew _ (Obj.cells CZ 3)) | have hlz := blk_after hbM (alloc2_drew_old _ (Obj.cells CZ 3) _) | have hlz := blk_after hbM (heap_alloc2_new _ _ (Obj.cells CZ 3)) | have hlz := blk_after hbM (alloc2_drew_new _ _ (Obj.cells CZ 3)) | have hlz := blk_after hbM (HLZ.out) | have hlz := blk_after hbM (blk_after (below_new _ _) HLZ.out)); (try rw [sz_a1] at hlz); (try rw [HKB.out] at hlz); have HLZ := Lib.hid hlz; clear hlz)); have hbnM := hbn; clear hoM hBB hbM))
    all_goals
      have hE : wM.ownsRow (q + 1) 3 1 (.slice (some ⟨gE, 0, none⟩) n n) n (natR n fun i => eg S n (i + 1)) := by
        first
          | exact row_mono (row_below HOE.out HBM.out) (HZ1.out _ (by repeat (first | with_reducible assumption | with_reducible exact Below.refl _ _ | with_reducible refine Below.drew ?_ | with_reducible refine HAL.out _ _ ?_)))
          | exact row_mono (row_below (row_below HOE.out (below_new _ _)) HBM.out) (HZ1.out _ (by repeat (first | with_reducible assumption | with_reducible exact Below.refl _ _ | with_reducible refine Below.drew ?_ | with_reducible refine HAL.out _ _ ?_)))
          | exact row_mono (row_below (row_below (row_below HOE.out (below_new _ _)) (below_new _ _)) HBM.out) (HZ1.out _ (by repeat (first | with_reducible assumption | with_reducible exact Below.refl _ _ | with_reducible refine Below.drew ?_ | with_reducible refine HAL.out _ _ ?_)))
      have hMm : wM.ownsRow (q + 1) 4 1 (.slice (some ⟨gM, 0, none⟩) n n) n (boolR n B) := row_mono HOM.out (HZ1.out _ (by repeat (first | with_reducible assumption | with_reducible exact Below.refl _ _ | with_reducible refine Below.drew ?_ | with_reducible refine HAL.out _ _ ?_)))
      have h0 := row_from HOE.out gE rfl
      have h1 := (row_lt HOE.out gE rfl).2
      have h2 := (row_lt hE gE rfl).2
      have h4 := HZ.out
      have h5 := HZ1.out _ hbnE
      have h6 := HZ1.out _ hbnM
      try simp only [sz_a1, sz_a2, sz_d1, sz_d2] at h0
      go_wp2_with fail
      go_meet
      first
        | with_reducible exact fin_A HCZ.out hE hMm HBBB.out HLZ.out (by first | omega | (have := HKB.out; omega)) hbnM (by first | omega | (have := HKB.out; omega))
        | with_reducible exact fin_B HCZ.out hE hMm HBBB.out HBX.out HKQ.out HLZ.out (by first | omega | (have := HKB.out; omega)) hbnM (by first | omega | (have := HKB.out; omega))
        | with_reducible exact fin_C HCZ.out hE hMm HBBB.out hbnM h6
        | with_reducible exact fin_D HCZ.out hE hMm HBBB.out hbnM h6
        | with_reducible exact fin_E HCZ.out hE hMm HBBB.out HBX.out HKQ.out hbnM h6
  case' rest => as_aux_lemma =>
    rename World => w2
    obtain ⟨p, gL, gE, gM, M, rfl, hC, hMR⟩ := hcut
    have HC0 : Hid (CkB p (q + 1) w1 a b n c m d gL gE gM M (fun i => (fr.take 0).count (i + 1)) (fun i => eg S n (i + 1)) w2) := by
      show CkB _ _ _ _ _ _ _ _ _ _ _ _ _ _ _ _
      simpa using hC
    have HMR : Hid (∀ j, j < n → M j = R j) := fun j hj => Bool.eq_iff_iff.2 ((hMR j hj).trans (HRR.out j hj).symm)
    have HFX : Hid (∀ wx, Below (q + 1) w1 wx → U32At wx b fr) := fun wx hb => HFR.out.below (hb.mono (Nat.le_of_eq HZ.out))
    clear hc0 hc1
    obtain ⟨hc0, hc1⟩ := HXX.out _ hC.below
    have hmi : (m : Int) ≤ 1000000 := by omega
    have hLi : (L : Int) ≤ 1000000 := by omega
    have HNN : Hid (n ≤ 65536) := hn
    have HMM2 : Hid (m ≤ 1000000) := hm
    have HLL2 : Hid (L ≤ 1000000) := hl
    clear hC hMR hbd hm2
    go_wp2_with fail
    clear hc0 hc1
    go_loopw [25] (fun i wr => ∃ j : Nat, j ≤ m ∧ i = .int .i64 (j : Int) ∧ CkB p (q + 1) w1 a b n c m d gL gE gM M (fun i => (fr.take j).count (i + 1)) (fun i => eg S n (i + 1)) wr) (fun i _ => m - (intOf i).toNat)
    case atStart => exact ⟨0, Nat.zero_le _, rfl, HC0.out⟩
    case round => as_aux_lemma =>
      clear HC0
      obtain ⟨j, hj, rfl, hC⟩ := hrel
      by_cases hlt : j < m
      · have hjl : j < fr.length := by rw [HM.out]; exact hlt
        have hji : (j : Int) < (m : Int) := by omega
        have hj0 : (0 : Int) ≤ (j : Int) := by omega
        have hU := HFX.out _ hC.below
        obtain ⟨b2, off2, rfl, hlb, hcell⟩ := hU.cell j hjl
        have hX4 : fr.getD j 0 < 4294967296 := hU.lt _ (getD_mem hjl)
        have HP := Lib.hid (plus1_count hjl)
        have hct : ∀ i, (fr.take j).count (i + 1) ≤ 4000000 := fun i => by
          have h1 := List.count_le_length (a := i + 1) (l := fr.take j)
          have h2 : (fr.take j).length ≤ j := by simp; omega
          have := HMM2.out
          omega
        have HCT := Lib.hid hct
        generalize fr.getD j 0 = X at hcell hX4 HP
        obtain ⟨c2, _⟩ := hC.cells
        have HC := Lib.hid hC
        clear hU hjl hC hct
        go_wp2_with fail
        refine (addOne_any X HC.out.rL hX4 HNN.out HCT.out).mono ?_
        rintro e w3 ⟨rfl, ho3, hr3⟩
        have h3 : CkB p (q + 1) w1 a (some ⟨b2, off2, none⟩) n c m d gL gE gM M (fun i => (fr.take (j + 1)).count (i + 1)) (fun i => eg S n (i + 1)) w3 := by
          rw [← HP.out]
          exact HC.out.addL ho3 hr3
        have H3 := Lib.hid h3
        clear h3 ho3 hr3 hcell c2
        go_wp2
        exact ⟨⟨j + 1, by omega, by go_num, H3.out⟩, by simp [intOf]; omega⟩
      · have hjm : j = m := by omega
        have HC : Hid (CkB p (q + 1) w1 a b n c m d gL gE gM M (fun i => fr.count (i + 1)) (fun i => eg S n (i + 1) + (rs.take 0).count (i + 1)) wr) := by
          show CkB _ _ _ _ _ _ _ _ _ _ _ _ _ _ _ _
          rw [List.take_of_length_le (by rw [HM.out]; omega)] at hC
          simpa using hC
        rw [hjm]
        clear hC hjm hlt hj
        go_wp2_with fail
        go_loopw [36] (fun i wr => ∃ j : Nat, j ≤ L ∧ i = .int .i64 (j : Int) ∧ CkB p (q + 1) w1 a b n c m d gL gE gM M (fun i => fr.count (i + 1)) (fun i => eg S n (i + 1) + (rs.take j).count (i + 1)) wr) (fun i _ => L - (intOf i).toNat)
        case atStart => exact ⟨0, Nat.zero_le _, rfl, HC.out⟩
        case round => as_aux_lemma =>
          clear HC
          obtain ⟨j, hj, rfl, hC⟩ := hrel
          by_cases hlt : j < L
          · have hjl : j < rs.length := by rw [HL.out]; exact hlt
            have hji : (j : Int) < (L : Int) := by omega
            have hj0 : (0 : Int) ≤ (j : Int) := by omega
            have hU := HRX.out _ hC.below
            obtain ⟨b2, off2, rfl, hlb, hcell⟩ := hU.cell j hjl
            have hX4 : rs.getD j 0 < 4294967296 := hU.lt _ (getD_mem hjl)
            have HP := Lib.hid (plus1_ecount (S := S) (n := n) hjl)
            have hct : ∀ i, eg S n (i + 1) + (rs.take j).count (i + 1) ≤ 4000000 := fun i => by
              have h1 := List.count_le_length (a := i + 1) (l := rs.take j)
              have h2 : (rs.take j).length ≤ j := by simp; omega
              have h3 := eg_le S n (i + 1)
              have := HLL2.out
              have := HNN.out
              omega
            have HCT := Lib.hid hct
            generalize rs.getD j 0 = X at hcell hX4 HP
            obtain ⟨_, c3⟩ := hC.cells
            have HC := Lib.hid hC
            clear hU hjl hC hct
            go_wp2_with fail
            refine (addOne_any X HC.out.rE hX4 HNN.out HCT.out).mono ?_
            rintro e w3 ⟨rfl, ho3, hr3⟩
            have h3 : CkB p (q + 1) w1 a b n c m d gL gE gM M (fun i => fr.count (i + 1)) (fun i => eg S n (i + 1) + (rs.take (j + 1)).count (i + 1)) w3 := by
              rw [← HP.out]
              exact HC.out.addE ho3 hr3
            have H3 := Lib.hid h3
            clear h3 ho3 hr3 hcell c3
            go_wp2
            exact ⟨⟨j + 1, by omega, by go_num, H3.out⟩, by simp [intOf]; omega⟩
          · have hjm : j = L := by omega
            rw [List.take_of_length_le (by rw [HL.out]; omega)] at hC
            rw [hjm]
            obtain ⟨hc0, hc1⟩ := HXX.out _ hC.below
            obtain ⟨Z, hZ⟩ : ∃ Z, wr.heap.size = Z := ⟨_, rfl⟩
            rename World => w4
            obtain ⟨u1, u2, u3, _, _⟩ := hC.apart
            have hZ0 : q + 1 ≤ p := hC.hq
            have hpZ : p < Z := by rw [← hZ]; exact (Array.getElem?_eq_some_iff.1 hC.box).1
            have HBO : Hid (∀ wx, Off p Z w4 wx → Below (q + 1) w1 wx) := fun wx ho => hC.below.trans (ho.below hZ0 hpZ hZ)
            have hXc : CkX Z p w4 a b n gL gE gM S fr rs R := by
              refine ⟨fun wx ho => HSS.out _ (HBO.out _ ho), fun wx ho => HFX.out _ (HBO.out _ ho), fun wx ho => row_mono (row_keep hC.rL fun k hk => ?_) (Nat.zero_le _), fun wx ho => row_mono (row_keep hC.rE fun k hk => ?_) (Nat.zero_le _), fun wx ho => ?_, hZ⟩
              · simp [Value.ownBlock] at hk; subst hk; exact ho.block _ (by rw [← hZ]; exact (row_lt hC.rL _ rfl).2) u1
              · simp [Value.ownBlock] at hk; subst hk; exact ho.block _ (by rw [← hZ]; exact (row_lt hC.rE _ rfl).2) u2
              · rw [← boolR_ext HMR.out]
                refine row_mono (row_keep hC.rM fun k hk => ?_) (Nat.zero_le _)
                simp [Value.ownBlock] at hk; subst hk; exact ho.block _ (by rw [← hZ]; exact (row_lt hC.rM _ rfl).2) u3
            have HXc := Lib.hid hXc
            have HS0 : Hid (CkS Z p w4 a b n c m d gL gE gM (chks S n fr rs R 0) (.slice none 0 0) w4) := ⟨⟨none, 0, rfl⟩, World.ownsRow_nil _ _ _ _, hC.box, Off.refl hZ, hpZ⟩
            have HZZ := Lib.hid hZ
            have HZ0 := Lib.hid hZ0
            clear hC hjm hlt hj hZ u1 u2 u3 hXc hZ0 hpZ
            go_wp2_with fail
            clear hc0 hc1
            go_loopw [48] (fun i wr => ∃ k : Nat, k ≤ n ∧ i = .int .i64 (k : Int) ∧ ∃ v, CkS Z p w4 a b n c m d gL gE gM (chks S n fr rs R k) v wr) (fun i _ => n - (intOf i).toNat)
            case atStart => exact ⟨0, Nat.zero_le _, rfl, _, HS0.out⟩
            case round => as_aux_lemma =>
              clear HS0
              obtain ⟨k, hk, rfl, v, hK⟩ := hrel
              have hlen := chks_le S n fr rs R k
              have hlen2 : (chks S n fr rs R k).length ≤ 400000 := by have := HNN.out; omega
              have HLEN := Lib.hid hlen2
              have HK := Lib.hid hK
              clear hlen hlen2 hK
              by_cases hlt : k < n
              · have hki : (k : Int) < (n : Int) := by omega
                have hk0 : (0 : Int) ≤ (k : Int) := by omega
                have hkw : IntKind.u32.wrap ((k : Int) + 1) = (k : Int) + 1 := by rw [IntKind.wrap_u32']; omega
                have HLT : Hid (k < n) := hlt
                have HCS : Hid (chks S n fr rs R (k + 1) = chks S n fr rs R k ++ chk1 S n fr rs R k) := chks_succ S n fr rs R k
                go_wp2_with fail
                refine (checkSlot_any k HXc.out HK.out (by have := HLEN.out; omega) HNN.out HLT.out).mono ?_
                rintro e w5 ⟨rfl, _, v5, h5⟩
                have H5 := Lib.hid h5
                clear h5 hkw
                go_wp2
                exact ⟨⟨k + 1, by omega, by go_num, v5, by rw [HCS.out]; exact H5.out⟩, by simp [intOf]; omega⟩
              · have hkn : k = n := by omega
                have hK2 := HK.out
                have hL2 := HLEN.out
                rw [hkn] at hK2 hL2 ⊢
                have HK2 := Lib.hid hK2
                have HLEN2 := Lib.hid hL2
                clear hkn hlt hk hK2 hL2
                go_wp2_with fail
                refine (checkFree_any HXc.out HK2.out (by have := HLEN2.out; omega) HNN.out HM.out HMM2.out).mono ?_
                rintro e w5 ⟨rfl, _, v5, h5⟩
                have H5 := Lib.hid h5
                clear h5
                have hl6 : (chks S n fr rs R n ++ fr.flatMap (rngF n)).length ≤ 2000000 := by
                  rw [List.length_append]
                  have h1 := flat_le (l := fr) (f := rngF n) (fun x => opt_le _ _)
                  have := HM.out
                  have := HLEN2.out
                  have := HMM2.out
                  omega
                have HL6 := Lib.hid hl6
                clear hl6
                go_wp2_with fail
                refine (checkRoots_any HXc.out H5.out (fun wx ho => HRX.out _ (HBO.out _ ho)) (by have := HL6.out; omega) HNN.out HL.out HLL2.out).mono ?_
                rintro e w6 ⟨rfl, _, v6, h6⟩
                rw [List.append_assoc] at h6
                have h6 : CkS Z p w4 a b n c m d gL gE gM (chk S n fr rs R) v6 w6 := h6
                obtain ⟨va, vc, rfl⟩ := h6.val
                obtain ⟨_, _, _, _, _, c5⟩ := h6.cells
                have H6 := Lib.hid h6
                clear h6
                go_wp2
                go_ret
                have hZq : q + 1 ≤ Z := by have := HZ0.out; have := H6.out.lt; omega
                exact ⟨va, vc, rfl, row_mono H6.out.row (by rw [HQ.out]; omega), by rw [HQ.out]; exact HB.out.trans ((HBO.out _ H6.out.off).mono (by omega))⟩
end Go.Proofs.Yticmaddcomemhaa
