/- The example of the chapter. Condition: the program's Check keeps its contract. -/
import Derived.Test.YticmaddcomemhaaAuCon
import Derived.Test.YticmaddcomemhaaAuSame
set_option linter.unusedVariables false
namespace Go.Proofs.Yticmaddcomemhaa
open Go.RowKit
def sl1 : Sl := ⟨true, 0, 0, ⟨0, 0, 0, 0, 0, 0, 0, 0⟩⟩
theorem no_rch (S : Nat → Sl) (n : Nat) (x : Nat) : ¬ Rch S n [] x := fun h => by
  induction h with
  | root x hx _ => cases hx
  | kid x t _ _ _ ih => exact ih
def ex1 : List Fd := [⟨3, 1, 1, 0⟩, ⟨5, 1, 0, 0⟩]
theorem chk_ex1 : chk (fun _ => sl1) 1 [] [] (fun _ => false) = ex1 := by kernel_rfl
set_option maxHeartbeats 2000000 in
set_option maxRecDepth 100000 in
theorem awake_any (hck : PCheckSpec) (w : World) : Calls Try.prog 9 #[] w (Calm w (.bool true)) := by
  have hS : SlotsAt (w.alloc (Obj.cells (slV sl1).toArray 46)) (some ⟨w.heap.size, 0, none⟩) 1 (fun _ => sl1) := by
    refine ⟨fun i hi => ⟨w.heap.size, 0, rfl, by simp, fun j v hv => ?_⟩, fun i hi => ⟨by decide, by decide⟩⟩
    obtain rfl : i = 0 := by omega
    rw [cell_of_row _ _ _ _ _ _ (heap_alloc_new w _), Nat.zero_mul, Nat.zero_add]
    simpa using hv
  have hU : ∀ wx, U32At wx none [] := fun wx => ⟨fun j hj => absurd hj (Nat.not_lt_zero j), fun x hx => by cases hx⟩
  have hcall := hck _ (some ⟨w.heap.size, 0, none⟩) none none 1 1 0 0 0 0 (fun _ => sl1) [] [] rfl rfl hS (hU _) (hU _) (by decide) (by decide) (by decide) (fun _ => false) (fun j hj => ⟨(fun h => by cases h), fun h => absurd h (no_rch _ _ _)⟩)
  rw [chk_ex1] at hcall
  have hb1 := below_new w (Obj.cells (slV sl1).toArray 46)
  unfold slV sl1 at hcall hb1
  have HC := Lib.hid hcall
  have HB := Lib.hid hb1
  clear hck hS hU hcall hb1
  go_enter Try.func9, Try.ntmps9
  go_wp2_with fail
  refine HC.out.mono ?_
  rintro e w2 ⟨ra, rc, rfl, hr, hb2⟩
  have hf := fds_at hr
  have hbb := HB.out.trans (hb2.mono HB.out.size)
  have hb3 := below_new w2 (Obj.cells (fdsV ex1).toArray 36)
  have hf3 := hf.below hb3
  have hg3 : FdsAt (w2.alloc (Obj.cells (fdsV ex1).toArray 36)) (some ⟨w2.heap.size, 0, none⟩) ex1 := by
    refine ⟨fun i f hf => ⟨w2.heap.size, 0, rfl, by simp, ?_⟩⟩
    have hlt : i < 2 := (List.getElem?_eq_some_iff.1 hf).1
    have hk : ∀ j, (w2.alloc (Obj.cells (fdsV ex1).toArray 36)).cell? ⟨w2.heap.size, j, none⟩ = (fdsV ex1).toArray[j]? := fun j => cell_of_row _ _ _ _ _ _ (heap_alloc_new w2 _)
    rcases (show i = 0 ∨ i = 1 by omega) with rfl | rfl
    · simp [ex1] at hf
      subst hf
      exact ⟨(hk 0).trans rfl, (hk 1).trans rfl, (hk 2).trans rfl, (hk 3).trans rfl⟩
    · simp [ex1] at hf
      subst hf
      exact ⟨(hk 4).trans rfl, (hk 5).trans rfl, (hk 6).trans rfl, (hk 7).trans rfl⟩
  have hcall := same_fds (c := rc) (c' := 2) ex1 rfl hf3 hg3 (by decide)
  have hbe := hbb.trans (hb3.mono (by have := hbb.size; omega))
  have HC2 := Lib.hid hcall
  have HBE := Lib.hid hbe
  unfold fdsV ex1 at HC2 HBE
  clear HC hr hf hbb hb2 hb3 hf3 hg3 hcall hbe
  go_wp2_with fail
  refine HC2.out.mono ?_
  rintro e w4 ⟨rfl, hb4⟩
  have hb5 := HBE.out.trans (hb4.mono HBE.out.size)
  have HB5 := Lib.hid hb5
  clear hb4 hb5
  go_wp2
  go_ret
  exact ⟨rfl, HB5.out⟩
end Go.Proofs.Yticmaddcomemhaa
