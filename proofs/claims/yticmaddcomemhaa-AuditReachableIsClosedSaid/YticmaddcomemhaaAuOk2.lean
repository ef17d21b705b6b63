/- The program's audit: the checker in its box; add, compare. -/
import Derived.Test.YticmaddcomemhaaAuOk1
import Derived.Test.YticmaddcomemhaaChkS
import Derived.Test.YticmaddcomemhaaAppAt
import Derived.Maps.AppendAt
set_option linter.unusedVariables false
namespace Go.Proofs.Yticmaddcomemhaa
open Go.RowKit

/-- of what was there when there were Z blocks, block q alone was changed -/
structure Off (q Z : Nat) (w0 wr : World) : Prop where
  os : wr.os = w0.os
  tape : wr.tape = w0.tape
  output : wr.output = w0.output
  size : Z ≤ wr.heap.size
  block : ∀ k, k < Z → k ≠ q → wr.heap[k]? = w0.heap[k]?
section
variable {q Z B : Nat} {w0 wr w' : World}
theorem Off.refl (hZ : w0.heap.size = Z) : Off q Z w0 w0 := ⟨rfl, rfl, rfl, Nat.le_of_eq hZ.symm, fun _ _ _ => rfl⟩
theorem Off.from (h : Off q Z w0 wr) (hb : Below wr.heap.size wr w') : Off q Z w0 w' :=
  ⟨hb.os.trans h.os, hb.tape.trans h.tape, hb.output.trans h.output, Nat.le_trans h.size hb.size, fun k hk hq => (hb.block k (Nat.lt_of_lt_of_le hk h.size)).trans (h.block k hk hq)⟩
theorem Off.grown {v : Value} (h : Off q Z w0 wr) (hg : wr.grownBy w' v.ownBlock) (hv : ∀ k, v.ownBlock = some k → Z ≤ k) : Off q Z w0 w' := by
  have hb : Below Z wr w' := (Below.refl _ _).grown hg h.size hv
  exact ⟨hb.os.trans h.os, hb.tape.trans h.tape, hb.output.trans h.output, Nat.le_trans h.size hb.size, fun k hk hq => (hb.block k hk).trans (h.block k hk hq)⟩
theorem Off.set (h : Off q Z w0 wr) (j : Nat) (v : Value) : Off q Z w0 (wr.setCell ⟨q, j, none⟩ v) :=
  ⟨h.os, h.tape, h.output, by have := h.size; simpa [World.setCell] using this, fun k hk hq => (heap_setCell_other _ _ _ _ hq).trans (h.block k hk hq)⟩
theorem Off.below (h : Off q Z w0 wr) (hB : B ≤ q) (hq : q < Z) (hZ : w0.heap.size = Z) : Below B w0 wr :=
  ⟨h.os, h.tape, h.output, by rw [hZ]; exact h.size, fun k hk => h.block k (by omega) (by omega)⟩
end
/-- blocks of other types than findings and the checker stay -/
def OthC (w w' : World) : Prop := ∀ (k : Nat) (cur : Array Value) (t : TypeId), w.heap[k]? = some (.cells cur t (0, 0)) → t ≠ 36 → t ≠ 58 → w'.heap[k]? = some (.cells cur t (0, 0))
theorem OthC.of_below {w w' : World} (hb : Below w.heap.size w w') : OthC w w' := fun k cur t hk _ _ => (hb.block k (Array.getElem?_eq_some_iff.1 hk).1).trans hk
theorem OthC.trans {w w' w2 : World} (h : OthC w w') (h' : OthC w' w2) : OthC w w2 := fun k cur t hk h1 h2 => h' k cur t (h k cur t hk h1 h2) h1 h2
/-- the checker in its box, and the row of its findings -/
structure CkS (Z q : Nat) (w0 : World) (a b : Option Addr) (n c m d gL gE gM : Nat) (l : List Fd) (v : Value) (wr : World) : Prop where
  val : ∃ a' c', v = .slice a' l.length c'
  row : wr.ownsRow Z 36 4 v l.length (fdsV l)
  box : wr.heap[q]? = some (.cells #[.slice a n c, .slice b m d, .slice (some ⟨gL, 0, none⟩) n n, .slice (some ⟨gE, 0, none⟩) n n, .slice (some ⟨gM, 0, none⟩) n n, v] 58 (0, 0))
  off : Off q Z w0 wr
  lt : q < Z
def CkRes (Z q : Nat) (w0 : World) (a b : Option Addr) (n c m d gL gE gM : Nat) (l : List Fd) (w : World) (e : Ending) (w' : World) : Prop :=
  e = .returned (.tuple #[]) ∧ OthC w w' ∧ ∃ v, CkS Z q w0 a b n c m d gL gE gM l v w'
section
variable {Z q n c m d gL gE gM : Nat} {w0 wr w w' : World} {a b : Option Addr} {l : List Fd} {v : Value}
theorem CkS.from (h : CkS Z q w0 a b n c m d gL gE gM l v wr) (hb : Below wr.heap.size wr w') : CkS Z q w0 a b n c m d gL gE gM l v w' :=
  ⟨h.val, row_below h.row hb, (hb.block q (Array.getElem?_eq_some_iff.1 h.box).1).trans h.box, h.off.from hb, h.lt⟩
theorem CkS.cells (h : CkS Z q w0 a b n c m d gL gE gM l v wr) : wr.cell? ⟨q, 0, none⟩ = some (.slice a n c) ∧ wr.cell? ⟨q, 1, none⟩ = some (.slice b m d) ∧ wr.cell? ⟨q, 2, none⟩ = some (.slice (some ⟨gL, 0, none⟩) n n) ∧
    wr.cell? ⟨q, 3, none⟩ = some (.slice (some ⟨gE, 0, none⟩) n n) ∧ wr.cell? ⟨q, 4, none⟩ = some (.slice (some ⟨gM, 0, none⟩) n n) ∧ wr.cell? ⟨q, 5, none⟩ = some v := by
  refine ⟨?_, ?_, ?_, ?_, ?_, ?_⟩ <;> (rw [cell_of_row _ _ _ _ _ _ h.box]; rfl)
theorem CkS.push {f : Fd} {v' : Value} (h : CkS Z q w0 a b n c m d gL gE gM l v wr) (hr : w'.ownsRow Z 36 4 v' (l.length + 1) (fdsV l ++ fdV f)) (hg : wr.grownBy w' v.ownBlock) :
    CkS Z q w0 a b n c m d gL gE gM (l ++ [f]) v' (w'.setCell ⟨q, 5, none⟩ v') ∧ OthC wr (w'.setCell ⟨q, 5, none⟩ v') := by
  have hq := (Array.getElem?_eq_some_iff.1 h.box).1
  have hbox := (hg.block q hq fun e => by have := row_from h.row q e.symm; have := h.lt; omega).trans h.box
  have hlen : (l ++ [f]).length = l.length + 1 := by simp
  obtain ⟨a', c', hv⟩ := row_val hr
  refine ⟨⟨⟨a', c', by rw [hlen]; exact hv⟩, ?_, ?_, (h.off.grown hg (row_from h.row)).set 5 v', h.lt⟩, fun k cur t hk h1 h2 => ?_⟩
  · rw [hlen, fdsV_snoc]
    exact row_keep hr fun k hk => heap_setCell_other _ _ _ _ (by have := row_from hr k hk; have := h.lt; show k ≠ q; omega)
  · rw [heap_setCell_same _ _ _ _ _ _ hbox]; rfl
  · have hkq : k ≠ q := fun e => by
      subst e
      have := h.box
      rw [hk] at this
      simp only [Option.some.injEq] at this
      injection this with _ e2
      exact h2 e2
    rw [heap_setCell_other _ _ _ _ hkq, hg.block k (Array.getElem?_eq_some_iff.1 hk).1 fun e => ?_]
    · exact hk
    rcases h.row.2 with ⟨e3, _⟩ | ⟨g2, cap2, cur2, e3, _, hc2, _⟩
    · rw [e3] at e; simp [Value.ownBlock] at e
    · rw [e3] at e
      simp only [Value.ownBlock, Option.some.injEq] at e
      subst e
      rw [hk] at hc2
      simp at hc2
      exact h1 hc2.2
set_option maxHeartbeats 1000000 in
set_option maxRecDepth 100000 in
theorem add_any (f : Fd) (h : CkS Z q w0 a b n c m d gL gE gM l v w) (hl : l.length ≤ 100000000) :
    Calls Try.prog 39 #[.pointer (some ⟨q, 0, none⟩), .int .i64 f.kind, .int .u32 (f.slot : Int), .int .i64 f.want, .int .i64 f.have_] w (CkRes Z q w0 a b n c m d gL gE gM (l ++ [f]) w) := by
  obtain ⟨i, ji, jz0, jz1, jz2⟩ := info_parts fInfo
  obtain ⟨_, _, _, _, _, hc5⟩ := h.cells
  have hb1 := below_new w (Obj.cells #[Value.int .i64 f.kind, .int .u32 (f.slot : Int), .int .i64 f.want, .int .i64 f.have_] 36)
  have h1 := h.from hb1
  have HB := Lib.hid hb1
  have HH := Lib.hid h1
  have hrow := h1.row
  have hbase : Z ≤ (w.alloc (Obj.cells #[Value.int .i64 f.kind, .int .u32 (f.slot : Int), .int .i64 f.want, .int .i64 f.have_] 36)).heap.size := h1.off.size
  clear hb1 h1 h
  go_enter Try.func39, Try.ntmps39
  go_wp2_with (at_builtin; refine wpList_append_own _ rfl (.tmp 14) (.tmp 20) 37 rfl Z 36 i (.agg #[.int .i64 0, .int .u32 0, .int .i64 0, .int .i64 0]) 4 32 Try.underlying37 ji jz0 jz1 jz2 rfl (by decide) v l.length (fdsV l) rfl hrow ⟨w.heap.size, 0, none⟩ 1 1 (fdV f) rfl rfl (cell_new4 _ _ _ _ _ _) (fd_one f) (by unfold maxLen; omega) (by omega) hbase ?_; intro v5 w5 ho5 hg5 _; obtain ⟨va, vc, rfl⟩ := row_val ho5; have hq5 := (hg5.block q (Array.getElem?_eq_some_iff.1 HH.out.box).1 (fun e => by have := row_from HH.out.row q e.symm; have := HH.out.lt; omega)).trans HH.out.box; have hcq : w5.cell? ⟨q, 5, none⟩ = some v := (by rw [cell_of_row _ _ _ _ _ _ hq5]; rfl); have hfq := frozen_of_row w5 q 5 _ _ hq5)
  go_end0
  obtain ⟨h9, h10⟩ := HH.out.push ho5 hg5
  exact ⟨rfl, (OthC.of_below HB.out).trans h10, _, h9⟩
set_option maxHeartbeats 1000000 in
set_option maxRecDepth 100000 in
theorem compare_any (f : Fd) (h : CkS Z q w0 a b n c m d gL gE gM l v w) (hl : l.length ≤ 100000000) :
    Calls Try.prog 37 #[.pointer (some ⟨q, 0, none⟩), .int .i64 f.kind, .int .u32 (f.slot : Int), .int .i64 f.want, .int .i64 f.have_] w (CkRes Z q w0 a b n c m d gL gE gM (l ++ opt (f.want != f.have_) f) w) := by
  have HC := Lib.hid (add_any f h hl)
  have HH := Lib.hid h
  clear h
  by_cases hne : (f.want != f.have_) = true
  · rw [opt_yes hne]
    go_enter Try.func37, Try.ntmps37
    go_wp2_with fail
    refine HC.out.mono ?_
    rintro e w2 ⟨rfl, h3, v3, h4⟩
    have H3 := Lib.hid h3
    have H4 := Lib.hid h4
    clear h3 h4 HC
    go_wp2_with fail
    go_end0
    exact ⟨rfl, H3.out, v3, H4.out⟩
  · have hne' : (f.want != f.have_) = false := by simpa using hne
    rw [opt_no hne', List.append_nil]
    clear hne HC
    go_enter Try.func37, Try.ntmps37
    go_wp2_with fail
    go_end0
    exact ⟨rfl, OthC.of_below (Below.refl _ _), v, HH.out⟩
theorem addf_at (f : Fd) {x : Int} (hx : (f.slot : Int) = x) (h : CkS Z q w0 a b n c m d gL gE gM l v w) (hl : l.length ≤ 100000000) :
    Calls Try.prog 39 #[.pointer (some ⟨q, 0, none⟩), .int .i64 f.kind, .int .u32 x, .int .i64 f.want, .int .i64 f.have_] w (CkRes Z q w0 a b n c m d gL gE gM (l ++ [f]) w) := by
  subst hx
  exact add_any f h hl
theorem cmpf_at (f : Fd) {x : Int} (hx : (f.slot : Int) = x) (h : CkS Z q w0 a b n c m d gL gE gM l v w) (hl : l.length ≤ 100000000) :
    Calls Try.prog 37 #[.pointer (some ⟨q, 0, none⟩), .int .i64 f.kind, .int .u32 x, .int .i64 f.want, .int .i64 f.have_] w (CkRes Z q w0 a b n c m d gL gE gM (l ++ opt (f.want != f.have_) f) w) := by
  subst hx
  exact compare_any f h hl
theorem succ_cast (k : Nat) : ((k + 1 : Nat) : Int) = (k : Int) + 1 := by omega
end
end Go.Proofs.Yticmaddcomemhaa
