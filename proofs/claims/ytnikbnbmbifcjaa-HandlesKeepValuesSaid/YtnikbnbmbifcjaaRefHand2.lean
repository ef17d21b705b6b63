/- The reference's New and Handles of a table of handles. -/
import Derived.Test.YtnikbnbmbifcjaaRefHand
set_option linter.unusedVariables false
namespace Go.Proofs.Ytnikbnbmbifcjaa
open Go.RowKit
theorem valR_zero (n : Nat) : valR n (fun _ => 0) = List.replicate n (.int .u32 0) := by
  apply List.ext_getElem
  · simp [valR]
  · intro j h1 h2; simp [valR]
theorem row6 {w : World} {q : Nat} {c0 c1 c2 c3 c4 c5 : Value} {t : TypeId} (h : w.heap[q]? = some (.cells #[c0, c1, c2, c3, c4, c5] t (0, 0))) :
    w.cell? ⟨q, 0, none⟩ = some c0 ∧ w.cell? ⟨q, 1, none⟩ = some c1 ∧ w.cell? ⟨q, 2, none⟩ = some c2 ∧ w.cell? ⟨q, 3, none⟩ = some c3 ∧ w.cell? ⟨q, 4, none⟩ = some c4 ∧ w.cell? ⟨q, 5, none⟩ = some c5 := by
  refine ⟨?_, ?_, ?_, ?_, ?_, ?_⟩ <;> (rw [cell_of_row _ _ _ _ _ _ h]; rfl)
theorem frozen6 {w : World} {q : Nat} {cs : Array Value} {t : TypeId} (h : w.heap[q]? = some (.cells cs t (0, 0))) :
    w.frozen? ⟨q, 0, none⟩ = false ∧ w.frozen? ⟨q, 1, none⟩ = false ∧ w.frozen? ⟨q, 2, none⟩ = false ∧ w.frozen? ⟨q, 3, none⟩ = false ∧ w.frozen? ⟨q, 4, none⟩ = false ∧ w.frozen? ⟨q, 5, none⟩ = false :=
  ⟨frozen_of_row w q 0 _ _ h, frozen_of_row w q 1 _ _ h, frozen_of_row w q 2 _ _ h, frozen_of_row w q 3 _ _ h, frozen_of_row w q 4 _ _ h, frozen_of_row w q 5 _ _ h⟩
theorem setRow_twice (w : World) (g : Nat) (a b : Array Value) : (w.setRow g a).setRow g b = w.setRow g b := by
  unfold World.setRow
  congr 1
  apply Array.ext_getElem?
  intro i
  simp only [Array.getElem?_modify]
  by_cases h : g = i
  · subst h
    simp only [if_true]
    cases w.heap[g]? with
    | none => rfl
    | some o => cases o <;> rfl
  · simp only [if_neg h]
theorem setCell_row {w : World} {g : Nat} {old : Array Value} {t : TypeId} (h : w.heap[g]? = some (.cells old t (0, 0))) (cs : Array Value) (i : Nat) (v : Value) : (w.setRow g cs).setCell ⟨g, i, none⟩ v = w.setRow g (cs.setIfInBounds i v) := by
  rw [setCell_eq_setRow (w.setRow g cs) g i cs t (0, 0) v (setRow_heap _ _ _ _ _ _ h), setRow_twice]
theorem set6 {w : World} {q : Nat} {c0 c1 c2 c3 c4 c5 d0 d1 d2 d3 d4 d5 : Value} {t : TypeId} (h : w.heap[q]? = some (.cells #[c0, c1, c2, c3, c4, c5] t (0, 0))) :
    (((((w.setCell ⟨q, 0, none⟩ d0).setCell ⟨q, 1, none⟩ d1).setCell ⟨q, 2, none⟩ d2).setCell ⟨q, 3, none⟩ d3).setCell ⟨q, 4, none⟩ d4).setCell ⟨q, 5, none⟩ d5 = w.setRow q #[d0, d1, d2, d3, d4, d5] := by
  rw [setCell_eq_setRow w q 0 _ t (0, 0) d0 h, setCell_row h, setCell_row h, setCell_row h, setCell_row h, setCell_row h]; rfl
theorem set5 {w : World} {q : Nat} {c0 c1 c2 c3 c4 c5 d0 d1 d2 d3 d4 : Value} {t : TypeId} (h : w.heap[q]? = some (.cells #[c0, c1, c2, c3, c4, c5] t (0, 0))) :
    ((((w.setCell ⟨q, 0, none⟩ d0).setCell ⟨q, 1, none⟩ d1).setCell ⟨q, 2, none⟩ d2).setCell ⟨q, 3, none⟩ d3).setCell ⟨q, 4, none⟩ d4 = w.setRow q #[d0, d1, d2, d3, d4, c5] := by
  rw [setCell_eq_setRow w q 0 _ t (0, 0) d0 h, setCell_row h, setCell_row h, setCell_row h, setCell_row h]; rfl
theorem RefAt.mono {B B' : Nat} {G : Nat → Prop} {w : World} {σ : St} {st : List Nat} {fr : Nat} {sa ga oa : Option Addr} {sc gc oc : Nat} (h : RefAt B G w σ st fr sa ga oa sc gc oc) (hB : B' ≤ B) : RefAt B' G w σ st fr sa ga oa sc gc oc :=
  ⟨h.free, h.fr1, h.fr2, row_mono h.stack hB, row_mono h.gen hB, row_mono h.on hB, h.inS, h.inG, h.inO⟩
theorem new_fin {w W : World} {n q vb : Nat} {ga oa : Option Addr} {gc oc : Nat} {old : Array Value} {cs : Array Value} (h1 : 1 ≤ n) (h2 : n ≤ 65536) (hq : q = w.heap.size) (hx : W.heap[q]? = some (.cells old 40 (0, 0)))
    (hb : Below w.heap.size w W) (hR : RefAt (q + 1) (fun k => q + 1 ≤ k) W (St.init n) [] 1 none ga oa 0 gc oc) (hv : W.heap[vb]? = some (.cells (madeCells #[Value.int .u32 0] n) 32 (0, 0))) (hvb : q < vb) :
    RefTab w.heap.size (fun k => w.heap.size ≤ k) (W.setRow q cs) (St.init n) (fun _ => 0) ⟨[], 1, none, ga, oa, some ⟨vb, 0, none⟩, 0, gc, oc, n⟩ ∧ Below w.heap.size w (W.setRow q cs) := by
  refine ⟨⟨(hR.keep (fun k hk => setRow_other _ _ _ _ (by omega)) (fun k hk => by omega)).mono (by omega), St.init_ok h1 h2, ?_, fun k hk => by simp [Value.ownBlock] at hk; omega⟩, below_setRow hb (by omega) _⟩
  show (W.setRow q cs).ownsRow _ _ 1 (.slice (some ⟨vb, 0, none⟩) n n) n _
  rw [show valR (St.init n).cap (fun _ => 0) = (madeCells #[Value.int .u32 0] n).toList by rw [made_list]; exact valR_zero n]
  exact own_full ((setRow_other _ _ _ _ (by omega)).trans hv) (by simp [madeCells]) (by omega) (by unfold maxLen; omega)
def RtNew (w : World) (n : Nat) (e : Ending) (w' : World) : Prop :=
  ∃ r, e = .returned (.agg (refT (St.init n) r)) ∧ RefTab w.heap.size (fun k => w.heap.size ≤ k) w' (St.init n) (fun _ => 0) r ∧ Below w.heap.size w w'
set_option maxHeartbeats 2000000 in
set_option maxRecDepth 100000 in
theorem rt_new (n : Nat) (w : World) (h1 : 1 ≤ n) (h2 : n ≤ 65536) : Calls Try.prog 13 #[.int .i64 (n : Int)] w (RtNew w n) := by
  obtain ⟨i0, hi, hz0, hz1, hz2⟩ := info_parts u32sInfo
  have hm1 := Go.run_make_row (P := Try.prog) 35 32 i0 (.int .u32 0) Try.underlying35 hi hz0 hz1 rfl .i64 .i64 n (by rw [hz2]; omega) (by omega)
  have HU : Hid _ := Lib.hid Try.underlying40
  have hin : (Try.prog.info? 40).map (·.size) = some 6 := by kernel_rfl
  have HI := Lib.hid hin
  clear hi hz0 hz1 hz2 hin
  go_enter Try.func13, Try.ntmps13
  go_wp2
  go_region_with ((go_at_call 31; refine (ref_new n _ h1 h2).mono ?_; rintro e w2 ⟨ga, oa, gc, oc, rfl, hR, hb2⟩; unfold refV; have hx := (hb2.block w.heap.size (by simp <;> omega)).trans (by first | exact heap_alloc_new w _ | exact heap_alloc2_old w _ _); obtain ⟨hc0, hc1, hc2, hc3, hc4, hc5⟩ := row6 hx; obtain ⟨hf0, hf1, hf2, hf3, hf4, hf5⟩ := frozen6 hx; have hxa := fun ob => (heap_alloc_old w2 ob (Array.getElem?_eq_some_iff.1 hx).1).trans hx; have hca := fun ob => row6 (hxa ob); have hfa := fun ob => frozen6 (hxa ob)))
  · rw [set6 (hxa _)]
    have hsz : (w.alloc (Obj.cells #[Value.int .i64 0, .slice none 0 0, .int .i64 0, .slice none 0 0, .slice none 0 0, .slice none 0 0] 40)).drew.heap.size = w.heap.size + 1 := by simp
    have hal := (Below.refl w2.heap.size w2).alloc (Nat.le_refl _) (Obj.cells (madeCells #[Value.int .u32 0] n) 32)
    have hs2 : w.heap.size + 1 ≤ w2.heap.size := by rw [← hsz]; exact hb2.size
    rw [hsz] at hR hb2
    have hbw : Below w.heap.size w w2 := ((Below.refl _ _).alloc (Nat.le_refl _) _).drew.trans (hb2.mono (by omega))
    obtain ⟨hT, hB⟩ := new_fin (cs := refT (St.init n) ⟨[], 1, none, ga, oa, some ⟨w2.heap.size, 0, none⟩, 0, gc, oc, n⟩) h1 h2 rfl (hxa _) (hbw.trans (hal.mono (by omega))) (hR.below hal) (heap_alloc_new w2 _) (by omega)
    have hx2 := setRow_heap (w2.alloc (Obj.cells (madeCells #[Value.int .u32 0] n) 32)) w.heap.size _ (refT (St.init n) ⟨[], 1, none, ga, oa, some ⟨w2.heap.size, 0, none⟩, 0, gc, oc, n⟩) _ _ (hxa _)
    clear hc0 hc1 hc2 hc3 hc4 hc5 hf0 hf1 hf2 hf3 hf4 hf5 hca hfa hxa hx
    go_wp2_with fail
    exact bodyPost_ret (v := .agg (refT (St.init n) ⟨[], 1, none, ga, oa, some ⟨w2.heap.size, 0, none⟩, 0, gc, oc, n⟩)) (results_cell_row rfl _ _ w.heap.size 40 _ (0, 0) _ rfl hx2 HU.out rfl HI.out) rfl ⟨_, rfl, hT, hB⟩
  · rw [set6 hx]
    have hsz : ((w.alloc (Obj.cells #[Value.int .i64 0, .slice none 0 0, .int .i64 0, .slice none 0 0, .slice none 0 0, .slice none 0 0] 40)).alloc (Obj.cells (madeCells #[Value.int .u32 0] n) 32)).drew.heap.size = w.heap.size + 2 := by simp
    have hv := (hb2.block (w.heap.size + 1) (by rw [hsz]; omega)).trans (heap_alloc2_new w (Obj.cells #[Value.int .i64 0, .slice none 0 0, .int .i64 0, .slice none 0 0, .slice none 0 0, .slice none 0 0] 40) (Obj.cells (madeCells #[Value.int .u32 0] n) 32))
    rw [hsz] at hR hb2
    have hR1 : RefAt (w.heap.size + 1) (fun k => w.heap.size + 1 ≤ k) w2 (St.init n) [] 1 none ga oa 0 gc oc := (hR.keep (fun _ _ => rfl) (fun k hk => by omega)).mono (by omega)
    have hbw : Below w.heap.size w w2 := (((Below.refl _ _).alloc (Nat.le_refl _) _).alloc (by simp) _).drew.trans (hb2.mono (by omega))
    obtain ⟨hT, hB⟩ := new_fin (cs := refT (St.init n) ⟨[], 1, none, ga, oa, some ⟨w.heap.size + 1, 0, none⟩, 0, gc, oc, n⟩) h1 h2 rfl hx hbw hR1 hv (by omega)
    have hx2 := setRow_heap w2 w.heap.size _ (refT (St.init n) ⟨[], 1, none, ga, oa, some ⟨w.heap.size + 1, 0, none⟩, 0, gc, oc, n⟩) _ _ hx
    clear hc0 hc1 hc2 hc3 hc4 hc5 hf0 hf1 hf2 hf3 hf4 hf5 hca hfa hxa hx
    go_wp2_with fail
    exact bodyPost_ret (v := .agg (refT (St.init n) ⟨[], 1, none, ga, oa, some ⟨w.heap.size + 1, 0, none⟩, 0, gc, oc, n⟩)) (results_cell_row rfl _ _ w.heap.size 40 _ (0, 0) _ rfl hx2 HU.out rfl HI.out) rfl ⟨_, rfl, hT, hB⟩
end Go.Proofs.Ytnikbnbmbifcjaa
