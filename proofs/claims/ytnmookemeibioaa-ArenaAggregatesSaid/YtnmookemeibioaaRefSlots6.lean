/- The reference's Alloc in one law; Alloc of a full one, Release of a slot that isn't allocated: nothing changes. -/
import Derived.Test.YtnmookemeibioaaRefSlots5
set_option linter.unusedVariables false
namespace Go.Proofs.Ytnmookemeibioaa
open Go.RowKit
section
variable {B : Nat} {G : Nat → Prop} {w : World} {σ : St} {st : List Nat} {fr : Nat} {sa ga oa : Option Addr} {sc gc oc : Nat}
theorem ref_take (h : RefAt B G w σ st fr sa ga oa sc gc oc) (hok : σ.Ok) (i : Nat) (t : List Nat) (hf : σ.free = i :: t) (hB : B ≤ w.heap.size) :
    Calls Try.prog 59 #[.agg (refV σ st fr sa ga oa sc gc oc)] w (RefTook B G w σ i t) := by
  rcases List.eq_nil_or_concat st with rfl | ⟨s0, X, rfl⟩
  · exact ref_take_nil h hok i t hf hB
  · rw [List.concat_eq_append] at h ⊢
    exact ref_take_snoc h hok i t hf hB
set_option maxHeartbeats 2000000 in
set_option maxRecDepth 100000 in
theorem ref_full (h : RefAt B G w σ st fr sa ga oa sc gc oc) (hok : σ.Ok) (hf : σ.free = []) :
    Calls Try.prog 59 #[.agg (refV σ st fr sa ga oa sc gc oc)] w
      (fun e w' => e = .returned (.tuple #[.agg (refV σ st fr sa ga oa sc gc oc), .int .u32 0, .int .i64 2]) ∧ Below w.heap.size w w') := by
  have h1 := h.free
  rw [hf] at h1
  have h2 : st = [] ∧ σ.cap < fr := by
    have h3 := congrArg List.length h1
    simp at h3
    exact ⟨List.eq_nil_of_length_eq_zero (by omega), by omega⟩
  obtain ⟨rfl, hfr⟩ := h2
  have hcap := hok.cap2
  have hfr2 := h.fr2
  have hfi : (σ.cap : Int) < (fr : Int) := by omega
  have HU := Lib.hid Try.underlying56
  have hin : (Try.prog.info? 56).map (·.size) = some 5 := by kernel_rfl
  have HI := Lib.hid hin
  have hb : ∀ A Z, Below w.heap.size w ((w.alloc A).alloc Z) := fun A Z => ((Below.refl _ _).alloc (Nat.le_refl _) _).alloc (by simp) _
  have HB := Lib.hid hb
  clear hin h hok h1 hf hb
  unfold refV
  go_enter Try.func59, Try.ntmps59
  go_wp2_with fail
  exact bodyPost_ret (v := .tuple #[.agg #[.int .i64 (σ.cap : Int), .slice sa 0 sc, .int .i64 (fr : Int), .slice ga σ.cap gc, .slice oa σ.cap oc], .int .u32 0, .int .i64 2])
    (results_row_tmp2 (fn := Try.f59) (p := 2) (u := 3) (v := 4) rfl _ _ (w.heap.size + 1) 56 #[.int .i64 (σ.cap : Int), .slice sa 0 sc, .int .i64 (fr : Int), .slice ga σ.cap gc, .slice oa σ.cap oc] (0, 0) _ rfl (heap_alloc2_new _ _ _) HU.out rfl HI.out) rfl
    ⟨rfl, HB.out _ _⟩
set_option maxHeartbeats 2000000 in
set_option maxRecDepth 100000 in
theorem ref_bad (h : RefAt B G w σ st fr sa ga oa sc gc oc) (hok : σ.Ok) (i : Nat) (hi : i < 4294967296) (hon : σ.on i = false) :
    Calls Try.prog 64 #[.agg (refV σ st fr sa ga oa sc gc oc), .int .u32 (i : Int)] w
      (fun e w' => e = .returned (.tuple #[.agg (refV σ st fr sa ga oa sc gc oc), .int .i64 3]) ∧ Below w.heap.size w w') := by
  have HU := Lib.hid Try.underlying56
  have hin : (Try.prog.info? 56).map (·.size) = some 5 := by kernel_rfl
  have HI := Lib.hid hin
  have hcap := hok.cap2
  go_enter Try.func64, Try.ntmps64
  clear hin
  unfold refV
  go_wp2_with fail
  have hal : Below w.heap.size w ((w.alloc (Obj.cells (refV σ st fr sa ga oa sc gc oc) 56)).alloc (Obj.cells #[Value.int .i64 0, .slice none 0 0, .int .i64 0, .slice none 0 0, .slice none 0 0] 56)) :=
    ((Below.refl _ _).alloc (Nat.le_refl _) _).alloc (by simp) _
  have hx := heap_alloc2_old w (Obj.cells (refV σ st fr sa ga oa sc gc oc) 56) (Obj.cells #[Value.int .i64 0, .slice none 0 0, .int .i64 0, .slice none 0 0, .slice none 0 0] 56)
  have hy := heap_alloc2_new w (Obj.cells (refV σ st fr sa ga oa sc gc oc) 56) (Obj.cells #[Value.int .i64 0, .slice none 0 0, .int .i64 0, .slice none 0 0, .slice none 0 0] 56)
  have hz : ((w.alloc (Obj.cells (refV σ st fr sa ga oa sc gc oc) 56)).alloc (Obj.cells #[Value.int .i64 0, .slice none 0 0, .int .i64 0, .slice none 0 0, .slice none 0 0] 56)).heap.size = w.heap.size + 2 := by simp
  change Calls Try.prog _ _ ((w.alloc (Obj.cells (refV σ st fr sa ga oa sc gc oc) 56)).alloc (Obj.cells #[Value.int .i64 0, .slice none 0 0, .int .i64 0, .slice none 0 0, .slice none 0 0] 56)) _
  generalize (w.alloc (Obj.cells (refV σ st fr sa ga oa sc gc oc) 56)).alloc (Obj.cells #[Value.int .i64 0, .slice none 0 0, .int .i64 0, .slice none 0 0, .slice none 0 0] 56) = w1 at hal hx hy hz ⊢
  have HZ := Lib.hid hz
  refine (ref_on (h.below hal) hok i hi).mono ?_
  rintro e w2 ⟨rfl, hb2⟩
  rw [hon]
  have hx2 := (hb2.block _ (by rw [hz]; omega)).trans hx
  have hy2 := (hb2.block _ (by rw [hz]; omega)).trans hy
  have hbl2 : Below w.heap.size w w2 := hal.trans (hb2.mono hal.size)
  have HX2 := Lib.hid hx2
  have HY2 := Lib.hid hy2
  have HBL := Lib.hid hbl2
  clear hal hx hy hz hb2 hx2 hy2 h hok hon hbl2
  unfold refV at HX2
  go_wp2_with (first | refine wpList_load_row rfl 56 (.tmp 2) rfl w.heap.size rfl 56 _ (0, 0) _ HX2.out HU.out rfl HI.out ?_ | refine wpList_store_row rfl 56 (.tmp 4) (.tmp 10) rfl (w.heap.size + 1) #[.int .i64 (σ.cap : Int), .slice sa st.length sc, .int .i64 (fr : Int), .slice ga σ.cap gc, .slice oa σ.cap oc] rfl rfl 56 _ HY2.out HI.out rfl (fields_one _ _ _ _ _ _ _ _ _ _ _) ?_)
  exact bodyPost_ret (v := .tuple #[.agg #[.int .i64 (σ.cap : Int), .slice sa st.length sc, .int .i64 (fr : Int), .slice ga σ.cap gc, .slice oa σ.cap oc], .int .i64 3])
    (results_row_tmp (fn := Try.f64) (p := 4) (u := 5) rfl _ _ (w.heap.size + 1) 56 #[.int .i64 (σ.cap : Int), .slice sa st.length sc, .int .i64 (fr : Int), .slice ga σ.cap gc, .slice oa σ.cap oc] (0, 0) _ rfl (setRow_heap _ _ _ _ _ _ HY2.out) HU.out rfl HI.out) rfl
    ⟨rfl, below_setRow HBL.out (by omega) _⟩
end
end Go.Proofs.Ytnmookemeibioaa
