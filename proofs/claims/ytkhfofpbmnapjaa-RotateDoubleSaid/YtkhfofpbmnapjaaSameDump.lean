/- Two dumps are compared. -/
import Derived.Test.YtkhfofpbmnapjaaSameSlots
import Derived.Test.YtkhfofpbmnapjaaSameRows
import Derived.Test.YtkhfofpbmnapjaaRefNum
import Derived.Deep.DeepCutAuto
set_option linter.unusedVariables false
namespace Go.Proofs.Ytkhfofpbmnapjaa
open Go.RowKit
theorem heap_two_old (w : World) (o o' : Obj) : ((w.alloc o).alloc o').heap[w.heap.size]? = (w.alloc o).heap[w.heap.size]? := (below_new7 (w.alloc o) o').block _ (by simp)
theorem same_rows_at {B B' M : Nat} {a a' : Option Addr} {c c' : Nat} (l : List Nat) {w : World} (hM : l.length = M) (hl : (M : Int) ≤ 65536) (h : w.ownsRow B 28 1 (.slice a M c) M (u32s l)) (h' : w.ownsRow B' 28 1 (.slice a' M c') M (u32s l)) :
    Calls Try.prog 36 #[.slice a M c, .slice a' M c'] w (Calm w (.bool true)) := by
  subst hM
  exact same_rows l w hl h h'
set_option maxHeartbeats 2000000 in
set_option maxRecDepth 100000 in
theorem same_dump {w : World} {a a' b b' : Option Addr} {c c' d d' n M B B' : Nat} {S : Nat → Sl} (fr : List Nat) (hM : fr.length = M) (h : SlotsAt w a n S) (h' : SlotsAt w a' n S) (hf : w.ownsRow B 28 1 (.slice b M d) M (u32s fr)) (hf' : w.ownsRow B' 28 1 (.slice b' M d') M (u32s fr)) (hn : n ≤ 65536) (hm : M ≤ 65536) :
    Calls Try.prog 13 #[.agg #[.slice a n c, .slice b M d], .agg #[.slice a' n c', .slice b' M d']] w (Calm w (.bool true)) := by
  have hb1 := below_new7 w (Obj.cells #[Value.slice a n c, Value.slice b M d] 32)
  have hb2 := below_new7 (w.alloc (Obj.cells #[Value.slice a n c, Value.slice b M d] 32)) (Obj.cells #[Value.slice a' n c', Value.slice b' M d'] 32)
  have hbb := below_chain7 hb1 hb2
  have hx1 := two_cells (heap_alloc2_old w (Obj.cells #[Value.slice a n c, Value.slice b M d] 32) (Obj.cells #[Value.slice a' n c', Value.slice b' M d'] 32))
  have hx2 := two_cells (heap_alloc2_new w (Obj.cells #[Value.slice a n c, Value.slice b M d] 32) (Obj.cells #[Value.slice a' n c', Value.slice b' M d'] 32))
  have HS := Lib.hid (h.below hbb)
  have HS' := Lib.hid (h'.below hbb)
  have HF := Lib.hid (row_below hf hbb)
  have HF' := Lib.hid (row_below hf' hbb)
  have HB := Lib.hid hbb
  have HX1 := Lib.hid (heap_alloc2_old w (Obj.cells #[Value.slice a n c, Value.slice b M d] 32) (Obj.cells #[Value.slice a' n c', Value.slice b' M d'] 32))
  have HX2 := Lib.hid (heap_alloc2_new w (Obj.cells #[Value.slice a n c, Value.slice b M d] 32) (Obj.cells #[Value.slice a' n c', Value.slice b' M d'] 32))
  obtain ⟨c0, c1⟩ := hx1
  obtain ⟨e0, e1⟩ := hx2
  clear h h' hf hf' hb1 hb2 hbb
  go_enter Try.func13, Try.ntmps13
  go_upto_region 1 with fail
  generalize (w.alloc (Obj.cells #[Value.slice a n c, Value.slice b M d] 32)).alloc (Obj.cells #[Value.slice a' n c', Value.slice b' M d'] 32) = w1 at HS HS' HF HF' HB HX1 HX2 c0 c1 e0 e1 ⊢
  have hlt1 : w.heap.size < w1.heap.size := (Array.getElem?_eq_some_iff.1 HX1.out).1
  have hlt2 : w.heap.size + 1 < w1.heap.size := (Array.getElem?_eq_some_iff.1 HX2.out).1
  obtain ⟨p, hp⟩ : ∃ p, w.heap.size = p := ⟨_, rfl⟩
  rw [hp] at HX1 HX2 HB c0 c1 e0 e1 hlt1 hlt2 ⊢
  have HPP := Lib.hid hp
  clear hp
  go_wp2_with fail
  refine (same_slots HS.out HS'.out hn).mono ?_
  rintro e w2 ⟨rfl, hb2⟩
  have hY1 := (hb2.block _ hlt1).trans HX1.out
  have hY2 := (hb2.block _ hlt2).trans HX2.out
  clear c0 c1 e0 e1
  obtain ⟨c0, c1⟩ := two_cells hY1
  obtain ⟨e0, e1⟩ := two_cells hY2
  have HG := Lib.hid (row_below HF.out hb2)
  have HG' := Lib.hid (row_below HF'.out hb2)
  have HBB := Lib.hid (HB.out.trans (hb2.mono (by rw [← HPP.out]; exact HB.out.size)))
  clear hY1 hY2 hb2 hlt1 hlt2
  go_wp2_with fail
  refine (same_rows_at fr hM (by omega) HG.out HG'.out).mono ?_
  rintro e w3 ⟨rfl, hb3⟩
  have HB3 := Lib.hid (HBB.out.trans (hb3.mono (by rw [← HPP.out]; exact HBB.out.size)))
  clear hb3 c0 c1 e0 e1
  go_wp2_with fail
  go_ret
  exact ⟨rfl, by rw [HPP.out]; exact HB3.out⟩
end Go.Proofs.Ytkhfofpbmnapjaa
