/- The program's arena: Node, Size, child. -/
import Derived.Test.YtnmookemeibioaaArOk1
import Derived.Deep.CutRange
import Derived.Deep.LoopGhost
import Derived.Deep.DeepCutAuto
import Derived.Deep.RegionHeld3
set_option linter.unusedVariables false
namespace Go.Proofs.Ytnmookemeibioaa
open Go.RowKit
def nodA (x : Nd) : Array Value := #[.int .i64 x.key, .int .i64 x.val, .int .u32 (x.left : Int), .int .u32 (x.right : Int), .int .i64 x.size, .int .i64 x.sum, .int .i64 x.mn, .int .i64 x.mx]
theorem nod_ones (x : Nd) : (nodA x).all (·.oneCell') = true := by simp [nodA, Value.oneCell']
theorem alt_row {F F' : Nat → Prop} {w w' : World} {p : Nat} {cs : Array Value} (h : Alters F F' w w') (hp : w.heap.size ≤ p) : Alters F F' w (w'.setRow p cs) :=
  ⟨h.os, h.tape, h.output, by have := h.size; simp [World.setRow]; omega, fun k hk hf => (setRow_other _ _ _ _ (by omega)).trans (h.block k hk hf), h.foot⟩
theorem below_row {w w' : World} {p : Nat} {cs : Array Value} (h : Below w.heap.size w w') (hp : w.heap.size ≤ p) : Below w.heap.size w (w'.setRow p cs) :=
  ⟨h.os, h.tape, h.output, by have := h.size; simp [World.setRow]; omega, fun k hk => (setRow_other _ _ _ _ (by omega)).trans (h.block k hk)⟩
theorem nodInfo : (Try.prog.info? 50).map (·.size) = some 8 := by kernel_rfl
theorem below_al (w : World) (o : Obj) : Below w.heap.size w (w.alloc o) := (Below.refl _ _).alloc (Nat.le_refl _) _
section
variable {I : Impl} {w w' : World} {ab : Nat} {sp : Addr} {A A' : Ar} {rd : Int} {ca : Option Addr} {cc g : Nat} {Fs Fs' : Nat → Prop}
theorem LieA.reads (h : LieA I w ab sp A rd (some ⟨g, 0, none⟩) cc Fs) (x : Int) : LieA I (w.setCell ⟨ab, 2, none⟩ (.int .u64 x)) ab sp A x (some ⟨g, 0, none⟩) cc Fs ∧ Alters (FootA ab (some ⟨g, 0, none⟩) Fs) (FootA ab (some ⟨g, 0, none⟩) Fs) w (w.setCell ⟨ab, 2, none⟩ (.int .u64 x)) := by
  obtain ⟨h1, h2⟩ := h.raw.reads x
  exact ⟨h1.lie rfl rfl h.off h.fit, h2⟩
def ANode (I : Impl) (w : World) (ab : Nat) (sp : Addr) (A : Ar) (rd : Int) (g cc : Nat) (Fs : Nat → Prop) (i : Nat) (e : Ending) (w' : World) : Prop :=
  e = .returned (.tuple #[.agg (nodA (A.nd i)), .bool (A.σ.on i)]) ∧ LieA I w' ab sp A (if A.σ.on i = true then rd + 1 else rd) (some ⟨g, 0, none⟩) cc Fs ∧ Alters (FootA ab (some ⟨g, 0, none⟩) Fs) (FootA ab (some ⟨g, 0, none⟩) Fs) w w'
set_option maxHeartbeats 2000000 in
set_option maxRecDepth 100000 in
theorem a_node (h : LieA I w ab sp A rd (some ⟨g, 0, none⟩) cc Fs) (i : Nat) (hi : i < 4294967296) (h0 : 0 ≤ rd) (h1 : rd < 4611686018427387904) :
    Calls Try.prog 27 #[.pointer (some ⟨ab, 0, none⟩), .int .u32 (i : Int)] w (ANode I w ab sp A rd g cc Fs i) := by
  have HU : Hid _ := Lib.hid Try.underlying50
  have HIN := Lib.hid nodInfo
  have hb1 := below_al w (Obj.cells (nodA Nd.zero) 50)
  have h2 := h.below hb1
  have HP := Lib.hid (heap_alloc_new w (Obj.cells (nodA Nd.zero) 50))
  have HB1 := Lib.hid hb1
  have HLQ : Hid (ab < w.heap.size) := h.lt
  have HGQ : Hid (g < w.heap.size) := h.raw.glt
  have HDOM : Hid (∀ k, FootA ab (some ⟨g, 0, none⟩) Fs k → k < w.heap.size) := h.dom
  have HOK := Lib.hid h.ok
  have HOFF := Lib.hid h.off
  have H2 := Lib.hid h2
  clear h hb1 h2
  go_enter Try.func27, Try.ntmps27
  go_upto_region 1 with fail
  rw [show #[Value.int .i64 0, .int .i64 0, .int .u32 0, .int .u32 0, .int .i64 0, .int .i64 0, .int .i64 0, .int .i64 0] = nodA Nd.zero from rfl]
  generalize w.alloc (Obj.cells (nodA Nd.zero) 50) = w1 at HP HB1 H2 ⊢
  obtain ⟨p, hp⟩ : ∃ p, w.heap.size = p := ⟨_, rfl⟩
  rw [hp] at HP HB1 HLQ HGQ HDOM ⊢
  have HPP := Lib.hid hp
  clear hp
  by_cases ho : A.σ.on i = true
  · have hle := HOK.out.on i ho
    obtain ⟨j, rfl⟩ : ∃ j, i = j + 1 := ⟨i - 1, by omega⟩
    have hj : j < A.σ.cap := by omega
    have HO := Lib.hid ho
    have HJ := Lib.hid hj
    clear ho hle hj hi
    go_wp2_with fail
    refine (a_cell_on H2.out j HO.out).mono ?_
    rintro e w2 ⟨rfl, q2, rfl⟩
    have hb2 : Below w1.heap.size w1 (w1.drewN q2) := below_drewN (Below.refl _ _) q2
    generalize w1.drewN q2 = w2 at hb2 ⊢
    have HP2 := Lib.hid ((hb2.block p (Array.getElem?_eq_some_iff.1 HP.out).1).trans HP.out)
    have H3 := Lib.hid (H2.out.below hb2)
    have HBB : Hid (Below w.heap.size w w2) := by
      have h9 := HB1.out
      rw [HPP.out]
      exact h9.trans (hb2.mono (by have := h9.size; rw [HPP.out] at this; exact this))
    clear hb2
    obtain ⟨c0, c1, c2⟩ := H3.out.cells
    have f2 := frozen_of_row w2 ab 2 _ _ H3.out.box
    go_upto_region 5 with fail
    obtain ⟨h4, ha4⟩ := H3.out.reads (rd + 1)
    have hP4 : (w2.setCell ⟨ab, 2, none⟩ (.int .u64 (rd + 1))).heap[p]? = some (Obj.cells (nodA Nd.zero) 50 (0, 0)) := (heap_setCell_other _ _ _ _ (show p ≠ ab by have := HLQ.out; omega)).trans HP2.out
    have HA4 := Lib.hid ((Alters.of_below HBB.out).trans ha4)
    have H4 := Lib.hid h4
    have HP4 := Lib.hid hP4
    clear h4 ha4 hP4 c0 c1 c2 f2
    generalize w2.setCell ⟨ab, 2, none⟩ (.int .u64 (rd + 1)) = w3 at H4 HA4 HP4 ⊢
    obtain ⟨g0, g1, g2, g3, g4, g5, g6, g7, _⟩ := H4.out.nine HJ.out
    go_wp2_with (refine wpList_store_row rfl 50 (.tmp 4) (.tmp 23) rfl p (nodA (A.nd (j + 1))) rfl rfl 50 _ HP4.out HIN.out rfl (nod_ones _) ?_)
    refine bodyPost_ret (results_row_tmp rfl _ _ p 50 (nodA (A.nd (j + 1))) (0, 0) _ rfl (setRow_heap _ _ _ _ _ _ HP4.out) HU.out rfl HIN.out) rfl ?_
    have hpp := HPP.out
    exact ⟨by rw [HO.out]; rfl, by rw [if_pos HO.out]; exact H4.out.keep fun k hk => setRow_other _ _ _ _ (by have := HDOM.out k hk; omega), alt_row HA4.out (by omega)⟩
  · have ho' : A.σ.on i = false := by simpa using ho
    have HZ := Lib.hid (HOFF.out i ho').2
    have HO := Lib.hid ho'
    clear ho ho'
    go_wp2_with fail
    refine (a_cell_off H2.out i hi HO.out).mono ?_
    rintro e w2 ⟨rfl, q2, rfl⟩
    have hb2 : Below w1.heap.size w1 (w1.drewN q2) := below_drewN (Below.refl _ _) q2
    generalize w1.drewN q2 = w2 at hb2 ⊢
    have HP2 := Lib.hid ((hb2.block p (Array.getElem?_eq_some_iff.1 HP.out).1).trans HP.out)
    have H3 := Lib.hid (H2.out.below hb2)
    have HBB : Hid (Below w.heap.size w w2) := by
      have h9 := HB1.out
      rw [HPP.out]
      exact h9.trans (hb2.mono (by have := h9.size; rw [HPP.out] at this; exact this))
    clear hb2
    go_wp2_with (refine wpList_store_row rfl 50 (.tmp 4) (.tmp 12) rfl p (nodA Nd.zero) rfl rfl 50 _ HP2.out HIN.out rfl (nod_ones _) ?_)
    refine bodyPost_ret (results_row_tmp rfl _ _ p 50 (nodA Nd.zero) (0, 0) _ rfl (setRow_heap _ _ _ _ _ _ HP2.out) HU.out rfl HIN.out) rfl ?_
    have hpp := HPP.out
    exact ⟨by rw [HO.out, HZ.out]; rfl, by rw [HO.out, if_neg (by simp)]; exact H3.out.keep fun k hk => setRow_other _ _ _ _ (by have := HDOM.out k hk; omega), alt_row (Alters.of_below HBB.out) (by omega)⟩
def ASize (I : Impl) (w : World) (ab : Nat) (sp : Addr) (A : Ar) (rd : Int) (g cc : Nat) (Fs : Nat → Prop) (i : Nat) (e : Ending) (w' : World) : Prop :=
  e = .returned (.int .i64 (A.nd i).size) ∧ LieA I w' ab sp A (if A.σ.on i = true then rd + 1 else rd) (some ⟨g, 0, none⟩) cc Fs ∧ Alters (FootA ab (some ⟨g, 0, none⟩) Fs) (FootA ab (some ⟨g, 0, none⟩) Fs) w w'
set_option maxHeartbeats 1000000 in
set_option maxRecDepth 100000 in
theorem a_size (h : LieA I w ab sp A rd (some ⟨g, 0, none⟩) cc Fs) (i : Nat) (hi : i < 4294967296) (h0 : 0 ≤ rd) (h1 : rd < 4611686018427387904) :
    Calls Try.prog 29 #[.pointer (some ⟨ab, 0, none⟩), .int .u32 (i : Int)] w (ASize I w ab sp A rd g cc Fs i) := by
  by_cases ho : A.σ.on i = true
  · have hle := h.ok.on i ho
    obtain ⟨j, rfl⟩ : ∃ j, i = j + 1 := ⟨i - 1, by omega⟩
    have HA := Lib.hid (a_cell_on h j ho)
    have HH := Lib.hid h
    have HO := Lib.hid ho
    have hjl : j < A.σ.cap := by omega
    have HJ := Lib.hid hjl
    clear h ho hle hjl
    go_enter Try.func29, Try.ntmps29
    go_wp2_with fail
    refine HA.out.mono ?_
    rintro e w2 ⟨rfl, q, rfl⟩
    have hb : Below w.heap.size w (w.drewN q) := below_drewN (Below.refl _ _) q
    have h2 := HH.out.below hb
    generalize w.drewN q = w2 at hb h2 ⊢
    obtain ⟨c0, c1, c2⟩ := h2.cells
    have f2 := frozen_of_row w2 ab 2 _ _ h2.box
    obtain ⟨h4, ha4⟩ := h2.reads (rd + 1)
    have H4 := Lib.hid h4
    have HA4 := Lib.hid ((Alters.of_below hb).trans ha4)
    clear h2 hb h4 ha4
    go_upto_region 5 with fail
    clear c0 c1 c2 f2
    generalize w2.setCell ⟨ab, 2, none⟩ (.int .u64 (rd + 1)) = w3 at H4 HA4 ⊢
    obtain ⟨g0, g1, g2, g3, g4, g5, g6, g7, _⟩ := H4.out.nine HJ.out
    go_wp2_with fail
    go_ret
    exact ⟨rfl, by rw [if_pos HO.out]; exact H4.out, HA4.out⟩
  · have ho' : A.σ.on i = false := by simpa using ho
    have hz := (h.off i ho').2
    have HA := Lib.hid (a_cell_off h i hi ho')
    have HZ := Lib.hid hz
    have HO := Lib.hid ho'
    have HH := Lib.hid h
    clear h ho ho' hz
    go_enter Try.func29, Try.ntmps29
    go_wp2_with fail
    refine HA.out.mono ?_
    rintro e w2 ⟨rfl, q, rfl⟩
    have HB : Hid (Below w.heap.size w (w.drewN q)) := below_drewN (Below.refl _ _) q
    generalize w.drewN q = w2 at HB ⊢
    clear HA
    go_wp2_with fail
    go_ret
    exact ⟨by rw [HZ.out]; rfl, by rw [HO.out, if_neg (by simp)]; exact HH.out.below HB.out, .of_below HB.out⟩
set_option maxHeartbeats 2000000 in
set_option maxRecDepth 100000 in
theorem a_child (h : LieA I w ab sp A rd (some ⟨g, 0, none⟩) cc Fs) (i : Nat) (hi : i < 4294967296) :
    Calls Try.prog 65 #[.pointer (some ⟨ab, 0, none⟩), .int .u32 (i : Int)] w (Calm w (.tuple #[.agg (nodA (A.nd i)), .bool (decide (i = 0) || A.σ.on i)])) := by
  have HU : Hid _ := Lib.hid Try.underlying50
  have HIN := Lib.hid nodInfo
  have hb1 := below_al w (Obj.cells (nodA Nd.zero) 50)
  have h2 := h.below hb1
  have HP := Lib.hid (heap_alloc_new w (Obj.cells (nodA Nd.zero) 50))
  have HB1 := Lib.hid hb1
  have HOK := Lib.hid h.ok
  have HOFF := Lib.hid h.off
  have H2 := Lib.hid h2
  clear h hb1 h2
  go_enter Try.func65, Try.ntmps65
  go_upto_region 1 with fail
  rw [show #[Value.int .i64 0, .int .i64 0, .int .u32 0, .int .u32 0, .int .i64 0, .int .i64 0, .int .i64 0, .int .i64 0] = nodA Nd.zero from rfl]
  generalize w.alloc (Obj.cells (nodA Nd.zero) 50) = w1 at HP HB1 H2 ⊢
  obtain ⟨p, hp⟩ : ∃ p, w.heap.size = p := ⟨_, rfl⟩
  rw [hp] at HP HB1 ⊢
  have HPP := Lib.hid hp
  clear hp
  by_cases ho : A.σ.on i = true
  · have hle := HOK.out.on i ho
    obtain ⟨j, rfl⟩ : ∃ j, i = j + 1 := ⟨i - 1, by omega⟩
    have hj : j < A.σ.cap := by omega
    have HO := Lib.hid ho
    have HJ := Lib.hid hj
    clear ho hle hj hi
    go_wp2_with fail
    refine (a_cell_on H2.out j HO.out).mono ?_
    rintro e w2 ⟨rfl, q2, rfl⟩
    have hb2 : Below w1.heap.size w1 (w1.drewN q2) := below_drewN (Below.refl _ _) q2
    generalize w1.drewN q2 = w2 at hb2 ⊢
    have HP2 := Lib.hid ((hb2.block p (Array.getElem?_eq_some_iff.1 HP.out).1).trans HP.out)
    have H3 := Lib.hid (H2.out.below hb2)
    have HBB : Hid (Below w.heap.size w w2) := by
      have h9 := HB1.out
      rw [HPP.out]
      exact h9.trans (hb2.mono (by have := h9.size; rw [HPP.out] at this; exact this))
    clear hb2
    obtain ⟨g0, g1, g2, g3, g4, g5, g6, g7, _⟩ := H3.out.nine HJ.out
    go_wp2_with (refine wpList_store_row rfl 50 (.tmp 4) (.tmp 15) rfl p (nodA (A.nd (j + 1))) rfl rfl 50 _ HP2.out HIN.out rfl (nod_ones _) ?_)
    refine bodyPost_ret (results_row_tmp rfl _ _ p 50 (nodA (A.nd (j + 1))) (0, 0) _ rfl (setRow_heap _ _ _ _ _ _ HP2.out) HU.out rfl HIN.out) rfl ?_
    have hpp := HPP.out
    exact ⟨by rw [HO.out]; simp, below_row HBB.out (by omega)⟩
  · have ho' : A.σ.on i = false := by simpa using ho
    have HZ := Lib.hid (HOFF.out i ho').2
    have HO := Lib.hid ho'
    clear ho ho'
    go_wp2_with fail
    refine (a_cell_off H2.out i hi HO.out).mono ?_
    rintro e w2 ⟨rfl, q2, rfl⟩
    have hb2 : Below w1.heap.size w1 (w1.drewN q2) := below_drewN (Below.refl _ _) q2
    generalize w1.drewN q2 = w2 at hb2 ⊢
    have HP2 := Lib.hid ((hb2.block p (Array.getElem?_eq_some_iff.1 HP.out).1).trans HP.out)
    have HBB : Hid (Below w.heap.size w w2) := by
      have h9 := HB1.out
      rw [HPP.out]
      exact h9.trans (hb2.mono (by have := h9.size; rw [HPP.out] at this; exact this))
    clear hb2
    have hdec : ((i : Int) == 0) = decide (i = 0) := by
      by_cases e : i = 0
      · subst e; rfl
      · rw [decide_eq_false e]; exact beq_eq_false_iff_ne.2 (by omega)
    obtain ⟨dz, hdz⟩ : ∃ dz, decide (i = 0) = dz := ⟨_, rfl⟩
    rw [hdz] at hdec
    have HDZ := Lib.hid hdz
    clear hdz
    go_wp2_with (refine wpList_store_row rfl 50 (.tmp 4) (.tmp 16) rfl p (nodA Nd.zero) rfl rfl 50 _ HP2.out HIN.out rfl (nod_ones _) ?_)
    refine bodyPost_ret (results_row_tmp rfl _ _ p 50 (nodA Nd.zero) (0, 0) _ rfl (setRow_heap _ _ _ _ _ _ HP2.out) HU.out rfl HIN.out) rfl ?_
    have hpp := HPP.out
    exact ⟨by rw [HO.out, HZ.out, HDZ.out]; simp, below_row HBB.out (by omega)⟩
end
end Go.Proofs.Ytnmookemeibioaa
