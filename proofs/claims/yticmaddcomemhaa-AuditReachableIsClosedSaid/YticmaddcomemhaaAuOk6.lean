/- The program's audit: a visit of markReachable. -/
import Derived.Test.YticmaddcomemhaaAuOk0
import Derived.Test.YticmaddcomemhaaAuMark
import Derived.Test.YticmaddcomemhaaChkS
import Derived.Maps.AppendAt
set_option linter.unusedVariables false
namespace Go.Proofs.Yticmaddcomemhaa
open Go.RowKit

/-- blocks that hold a node stay -/
def OthV (w w' : World) : Prop := ∀ (k : Nat) (cur : Array Value), w.heap[k]? = some (.cells cur 44 (0, 0)) → w'.heap[k]? = some (.cells cur 44 (0, 0))
theorem OthV.of_below {w w' : World} (hb : Below w.heap.size w w') : OthV w w' := fun k cur hk => (hb.block k (Array.getElem?_eq_some_iff.1 hk).1).trans hk
theorem OthV.trans {w w' w2 : World} (h : OthV w w') (h' : OthV w' w2) : OthV w w2 := fun k cur hk => h' k cur (h k cur hk)
theorem row_blk {w : World} {B g n c s : Nat} {e : TypeId} {xs : List Value} (h : w.ownsRow B e s (.slice (some ⟨g, 0, none⟩) n c) n xs) : ∃ cur, w.heap[g]? = some (.cells cur e (0, 0)) := by
  rcases h.2 with ⟨e3, _⟩ | ⟨g2, cap2, cur2, e3, _, hc2, _⟩
  · simp at e3
  · simp only [Value.slice.injEq, Option.some.injEq, Addr.mk.injEq] at e3
    obtain ⟨⟨rfl, _⟩, _⟩ := e3
    exact ⟨cur2, hc2⟩
/-- the search: the dump's box, the marks, the work -/
structure VSt (q mb wb : Nat) (w0 : World) (a b : Option Addr) (n c m d : Nat) (B : Nat → Bool) (st : List Nat) (x : Value) (wr : World) : Prop where
  db : wr.heap[q]? = some (.cells #[.slice a n c, .slice b m d] 25 (0, 0))
  mbx : wr.heap[mb]? = some (.cells #[.slice (some ⟨q + 1, 0, none⟩) n n] 50 (0, 0))
  wbx : wr.heap[wb]? = some (.cells #[x] 23 (0, 0))
  val : ∃ a' c', x = .slice a' st.length c'
  row : wr.ownsRow (q + 1) 4 1 (.slice (some ⟨q + 1, 0, none⟩) n n) n (boolR n B)
  work : wr.ownsRow (wb + 1) 32 1 x st.length (u32s st)
  lt : ∀ y ∈ st, y < 4294967296
  below : Below q w0 wr
  ord : q + 1 < mb ∧ mb < wb
def VisRes (q mb wb : Nat) (w0 : World) (a b : Option Addr) (n c m d : Nat) (B : Nat → Bool) (st : List Nat) (w : World) (e : Ending) (w' : World) : Prop :=
  e = .returned (.tuple #[]) ∧ OthV w w' ∧ ∃ x, VSt q mb wb w0 a b n c m d B st x w'
section
variable {q mb wb n c m d : Nat} {w0 wr w w' : World} {a b : Option Addr} {B : Nat → Bool} {st : List Nat} {x : Value} {S : Nat → Sl}
theorem VSt.lt3 (h : VSt q mb wb w0 a b n c m d B st x wr) : wb < wr.heap.size := (Array.getElem?_eq_some_iff.1 h.wbx).1
theorem VSt.from (h : VSt q mb wb w0 a b n c m d B st x wr) (hb : Below wr.heap.size wr w') : VSt q mb wb w0 a b n c m d B st x w' := by
  have ho := h.ord
  exact ⟨(hb.block q (by have := h.lt3; omega)).trans h.db, (hb.block _ (by have := h.lt3; omega)).trans h.mbx, (hb.block _ h.lt3).trans h.wbx, h.val, row_below h.row hb, row_below h.work hb, h.lt, h.below.trans (hb.mono (by have := h.lt3; omega)), h.ord⟩
theorem VSt.cells (h : VSt q mb wb w0 a b n c m d B st x wr) : wr.cell? ⟨q, 0, none⟩ = some (.slice a n c) ∧ wr.cell? ⟨q, 1, none⟩ = some (.slice b m d) ∧ wr.cell? ⟨mb, 0, none⟩ = some (.slice (some ⟨q + 1, 0, none⟩) n n) ∧ wr.cell? ⟨wb, 0, none⟩ = some x := by
  refine ⟨?_, ?_, ?_, ?_⟩
  · rw [cell_of_row _ _ _ _ _ _ h.db]; rfl
  · rw [cell_of_row _ _ _ _ _ _ h.db]; rfl
  · rw [cell_of_row _ _ _ _ _ _ h.mbx]; rfl
  · rw [cell_of_row _ _ _ _ _ _ h.wbx]; rfl
theorem VSt.mark (h : VSt q mb wb w0 a b n c m d B st x wr) (j : Nat) : VSt q mb wb w0 a b n c m d (setB B j) st x (wr.setCell ⟨q + 1, j, none⟩ (.bool true)) ∧ OthV wr (wr.setCell ⟨q + 1, j, none⟩ (.bool true)) := by
  have ho := h.ord
  refine ⟨⟨?_, ?_, ?_, h.val, ?_, row_keep h.work fun k hk => heap_setCell_other _ _ _ _ ?_, h.lt, h.below.setCell (by show q ≤ q + 1; omega) _, h.ord⟩, fun k cur hk => ?_⟩
  · rw [heap_setCell_other _ _ _ _ (by show q ≠ q + 1; omega)]; exact h.db
  · rw [heap_setCell_other _ _ _ _ (by show mb ≠ q + 1; omega)]; exact h.mbx
  · rw [heap_setCell_other _ _ _ _ (by show wb ≠ q + 1; omega)]; exact h.wbx
  · rw [← boolR_set]; exact (h.row.stored j _).1
  · have := row_from h.work k hk; show k ≠ q + 1; omega
  · rw [heap_setCell_other _ _ _ _ (fun e => ?_)]
    · exact hk
    · obtain ⟨cur2, h2⟩ := row_blk h.row
      change k = q + 1 at e
      rw [e, h2] at hk
      simp at hk
theorem VSt.push {y : Nat} {v : Value} (h : VSt q mb wb w0 a b n c m d B st x wr) (hy : y < 4294967296) (hr : w'.ownsRow (wb + 1) 32 1 v (st.length + 1) (u32s st ++ [.int .u32 (y : Int)])) (hg : wr.grownBy w' x.ownBlock) :
    VSt q mb wb w0 a b n c m d B (st ++ [y]) v (w'.setCell ⟨wb, 0, none⟩ v) ∧ OthV wr (w'.setCell ⟨wb, 0, none⟩ v) := by
  have hl3 := h.lt3
  have ho := h.ord
  have hlen : (st ++ [y]).length = st.length + 1 := by simp
  obtain ⟨a', c', hv⟩ := row_val hr
  have hne : ∀ k, k < wb + 1 → x.ownBlock ≠ some k := fun k hk e => by have := row_from h.work k e; omega
  have hwb := (hg.block (wb) hl3 fun e => hne _ (by omega) e.symm).trans h.wbx
  refine ⟨⟨?_, ?_, ?_, ⟨a', c', by rw [hlen]; exact hv⟩, ?_, ?_, fun z hz => ?_, (h.below.grown hg (by omega) fun k hk => by have := row_from h.work k hk; omega).setCell (by show q ≤ wb; omega) _, h.ord⟩, fun k cur hk => ?_⟩
  · rw [heap_setCell_other _ _ _ _ (by show q ≠ wb; omega), hg.block q (by omega) fun e => hne _ (by omega) e.symm]; exact h.db
  · rw [heap_setCell_other _ _ _ _ (by show mb ≠ wb; omega), hg.block (mb) (by omega) fun e => hne _ (by omega) e.symm]; exact h.mbx
  · rw [heap_setCell_same _ _ _ _ _ _ hwb]; rfl
  · refine row_keep h.row fun k hk => ?_
    simp [Value.ownBlock] at hk
    subst hk
    rw [heap_setCell_other _ _ _ _ (by show q + 1 ≠ wb; omega), hg.block (q + 1) (by omega) fun e => hne _ (by omega) e.symm]
  · rw [hlen, u32s_app]
    exact row_keep hr fun k hk => heap_setCell_other _ _ _ _ (by have := row_from hr k hk; show k ≠ wb; omega)
  · rcases List.mem_append.1 hz with h1 | h1
    · exact h.lt z h1
    · simp at h1; subst h1; exact hy
  · rw [heap_setCell_other _ _ _ _ (fun e => ?_), hg.block k (Array.getElem?_eq_some_iff.1 hk).1 fun e => ?_]
    · exact hk
    · rcases h.work.2 with ⟨e3, _⟩ | ⟨g2, cap2, cur2, e3, _, hc2, _⟩
      · rw [e3] at e; simp [Value.ownBlock] at e
      · rw [e3] at e
        simp only [Value.ownBlock, Option.some.injEq] at e
        subst e
        rw [hk] at hc2
        simp at hc2
    · change k = wb at e
      rw [e, h.wbx] at hk
      simp at hk
set_option maxHeartbeats 4000000 in
set_option maxRecDepth 100000 in
theorem visit_any (y : Nat) (h : VSt q mb wb w0 a b n c m d B st x w) (hS : SlotsAt w0 a n S) (hq : w0.heap.size = q) (hn : n ≤ 65536) (hy : y < 4294967296) (hst : st.length ≤ 2000000) :
    Calls Try.prog 35 #[.int .u32 (y : Int), .pointer (some ⟨q, 0, none⟩), .pointer (some ⟨mb, 0, none⟩), .pointer (some ⟨wb, 0, none⟩)] w (VisRes q mb wb w0 a b n c m d (visB S n B y) (visS S n B st y) w) := by
  obtain ⟨i1, ji, jz0, jz1, jz2⟩ := info_parts uInfo
  have hni : (n : Int) ≤ 65536 := by omega
  have hyi : (y : Int) < 4294967296 := by omega
  have hyi0 : (0 : Int) ≤ (y : Int) := by omega
  obtain ⟨c0, c1, c2, c3⟩ := h.cells
  have hSw := hS.below (by rw [hq]; exact h.below)
  have hcall := isAlloc_any (b := b) (m := m) (d := d) (c := c) hSw hn hy
  have HH := Lib.hid h
  clear h hS hSw hq
  by_cases hal : Al S n y
  · rw [show decide (1 ≤ y ∧ y ≤ n ∧ (S (y - 1)).on = true) = true from decide_eq_true hal] at hcall
    obtain ⟨j, rfl⟩ : ∃ j, y = j + 1 := ⟨y - 1, by have := hal.1; omega⟩
    have hjn : j < n := by have := hal.2.1; omega
    have hji : (j : Int) < (n : Int) := by omega
    have hj0 : (0 : Int) ≤ (j : Int) := by omega
    have hj4 : (j : Int) + 1 ≤ 65536 := by omega
    have HCALL := Lib.hid hcall
    have HAL := Lib.hid hal
    clear hcall hal
    cases hB : B j
    · have hvB : visB S n B (j + 1) = setB B j := by unfold visB; rw [if_pos ⟨HAL.out, hB⟩]; rfl
      have hvS : visS S n B st (j + 1) = st ++ [j + 1] := by unfold visS; rw [if_pos ⟨HAL.out, hB⟩]
      rw [hvB, hvS]
      have HBJ := Lib.hid hB
      clear hvB hvS hB
      go_enter Try.func35, Try.ntmps35
      go_wp2_with fail
      refine HCALL.out.mono ?_
      rintro e w2 ⟨rfl, hb2⟩
      have h2 := HH.out.from hb2
      have HB2 : Hid (OthV w w2) := OthV.of_below hb2
      clear c0 c1 c2 c3
      obtain ⟨c0, c1, c2, c3⟩ := h2.cells
      have hcB := (h2.row.cellAt j (by omega)).trans (boolR_at B hjn)
      rw [HBJ.out] at hcB
      have hfB := h2.row.frozenAt j
      obtain ⟨h3, ho3⟩ := h2.mark j
      have H3 := Lib.hid h3
      have HO3 := Lib.hid ho3
      have H2 := Lib.hid h2
      clear h2 h3 ho3 hb2
      go_upto_region 2 with fail
      clear c0 c1 c2 c3 hcB hfB
      generalize w2.setCell ⟨q + 1, j, none⟩ (.bool true) = w3 at H3 HO3 ⊢
      have h4 := H3.out.from (below_new w3 (Obj.cells #[Value.int .u32 ((j + 1 : Nat) : Int)] 32))
      have HO4 : Hid (OthV w3 (w3.alloc (Obj.cells #[Value.int .u32 ((j + 1 : Nat) : Int)] 32))) := OthV.of_below (below_new w3 _)
      obtain ⟨_, _, _, c3⟩ := H3.out.cells
      obtain ⟨xa, xc, rfl⟩ := h4.val
      have hwk := h4.work
      have hs4 : wb + 1 ≤ (w3.alloc (Obj.cells #[Value.int .u32 ((j + 1 : Nat) : Int)] 32)).heap.size := h4.lt3
      have hnew := cell_new1 w3 (Value.int .u32 ((j + 1 : Nat) : Int)) 32
      have H4 := Lib.hid h4
      clear h4
      go_wp2_with (at_builtin; refine wpList_append_own_at _ rfl (.tmp 20) (.tmp 22) 23 rfl (wb + 1) 32 i1 (.int .u32 0) 1 4 Try.underlying23 ji jz0 jz1 jz2 rfl (by decide) _ st.length (u32s st) rfl hwk ⟨w3.heap.size, 0, none⟩ 1 1 [.int .u32 ((j + 1 : Nat) : Int)] rfl rfl hnew (one_cell1 _ _) (by unfold maxLen; omega) (by omega) hs4 ?_; intro v6 w6 ho6 hg6 _ hv6; obtain ⟨va, vc, rfl⟩ := row_val ho6; have hq6 := (hg6.block (wb) H4.out.lt3 (fun e => by have := row_from H4.out.work (wb) e.symm; omega)).trans H4.out.wbx; have hcq : w6.cell? ⟨wb, 0, none⟩ = some (.slice xa st.length xc) := (by rw [cell_of_row _ _ _ _ _ _ hq6]; rfl); have hfq := frozen_of_row w6 (wb) 0 _ _ hq6)
      go_end0
      obtain ⟨h9, h10⟩ := H4.out.push hy ho6 hg6
      exact ⟨rfl, ((HB2.out.trans HO3.out).trans HO4.out).trans h10, _, h9⟩
    · have hvB : visB S n B (j + 1) = B := by unfold visB; rw [if_neg (fun e => by have := e.2; rw [show j + 1 - 1 = j by omega, hB] at this; cases this)]
      have hvS : visS S n B st (j + 1) = st := by unfold visS; rw [if_neg (fun e => by have := e.2; rw [show j + 1 - 1 = j by omega, hB] at this; cases this)]
      rw [hvB, hvS]
      have HBJ := Lib.hid hB
      clear hvB hvS hB
      go_enter Try.func35, Try.ntmps35
      go_wp2_with fail
      refine HCALL.out.mono ?_
      rintro e w2 ⟨rfl, hb2⟩
      have h2 := HH.out.from hb2
      have HB2 : Hid (OthV w w2) := OthV.of_below hb2
      clear c0 c1 c2 c3
      obtain ⟨c0, c1, c2, c3⟩ := h2.cells
      have hcB := (h2.row.cellAt j (by omega)).trans (boolR_at B hjn)
      rw [HBJ.out] at hcB
      have H2 := Lib.hid h2
      clear h2 hb2
      go_wp2_with fail
      go_end0
      exact ⟨rfl, HB2.out, x, H2.out⟩
  · rw [show decide (1 ≤ y ∧ y ≤ n ∧ (S (y - 1)).on = true) = false from decide_eq_false hal] at hcall
    have hvB : visB S n B y = B := by unfold visB; rw [if_neg (fun e => hal e.1)]
    have hvS : visS S n B st y = st := by unfold visS; rw [if_neg (fun e => hal e.1)]
    rw [hvB, hvS]
    have HCALL := Lib.hid hcall
    clear hcall hal hvB hvS
    go_enter Try.func35, Try.ntmps35
    go_wp2_with fail
    refine HCALL.out.mono ?_
    rintro e w2 ⟨rfl, hb2⟩
    have H2 := Lib.hid (HH.out.from hb2)
    have HB2 : Hid (OthV w w2) := OthV.of_below hb2
    clear hb2 c0 c1 c2 c3
    go_wp2_with fail
    go_end0
    exact ⟨rfl, HB2.out, x, H2.out⟩
end
end Go.Proofs.Yticmaddcomemhaa
