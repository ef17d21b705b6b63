/- The example of the chapter on lookups, over contracts. -/
import Derived.Test.YtigogohcelgggaaLkCon
set_option linter.unusedVariables false
set_option linter.unusedSimpArgs false
namespace Go.Proofs.Ytigogohcelgggaa
open Go.RowKit
def l3 : List En := [⟨1, 10⟩, ⟨4, 40⟩, ⟨9, 90⟩]
theorem l3_up : Up l3 := by unfold Up l3; simp
theorem l3_at (w : World) (t : TypeId) : EnsAt (w.alloc (.cells #[.int .i64 1, .int .i64 10, .int .i64 4, .int .i64 40, .int .i64 9, .int .i64 90] t)) (some ⟨w.heap.size, 0, none⟩) l3 := by
  have hr := heap_alloc_new w (.cells #[.int .i64 1, .int .i64 10, .int .i64 4, .int .i64 40, .int .i64 9, .int .i64 90] t)
  refine ⟨fun j e he => ⟨w.heap.size, 0, rfl, by simp, ?_⟩, fun e he => ?_⟩
  · match j, he with
    | 0, he => cases he; constructor <;> (rw [cell_of_row _ _ _ _ _ _ hr]; rfl)
    | 1, he => cases he; constructor <;> (rw [cell_of_row _ _ _ _ _ _ hr]; rfl)
    | 2, he => cases he; constructor <;> (rw [cell_of_row _ _ _ _ _ _ hr]; rfl)
    | j + 3, he => simp [l3] at he
  · simp [l3] at he
    rcases he with rfl | rfl | rfl <;> exact ⟨⟨by decide, by decide⟩, ⟨by decide, by decide⟩⟩
set_option maxHeartbeats 2000000 in
set_option maxRecDepth 100000 in
theorem awake9_any (I : AImpl) (K : LkImpl I) (w : World) : Calls Try.prog 9 #[] w (Calm w (.bool true)) := by
  have HK := Lib.hid K
  have hat := l3_at w 37
  have hb := below_new7 w (.cells #[.int .i64 1, .int .i64 10, .int .i64 4, .int .i64 40, .int .i64 9, .int .i64 90] 37)
  have HAT := Lib.hid hat
  have HB := Lib.hid hb
  have G4 : Hid (getE l3 4 = some ⟨4, 40⟩) := by show _ = _; rfl
  have F5 : Hid (floorE l3 5 = some ⟨4, 40⟩) := by show _ = _; rfl
  have A9 : Hid (aboveE l3 9 = none) := by show _ = _; rfl
  have R : Hid (i64R 4 ∧ i64R 5 ∧ i64R 9) := ⟨⟨by decide, by decide⟩, ⟨by decide, by decide⟩, ⟨by decide, by decide⟩⟩
  have M3 : Hid (mostI l3.length ≤ 1000) := by show _ ≤ _; decide
  clear K hat hb
  go_enter Try.func9, Try.ntmps9
  go_wp2_with fail
  generalize w.alloc (.cells #[.int .i64 1, .int .i64 10, .int .i64 4, .int .i64 40, .int .i64 9, .int .i64 90] 37) = w1 at HAT HB ⊢
  refine (grow_any I (l := l3) (n := 3) (c := 3) (sp := 1) (m := 4) HAT.out rfl (by decide) (by decide) rfl (by decide) (by decide) (by decide) (by decide)).mono ?_
  rintro e w2 ⟨p, A, i, t, F, rfl, hg⟩
  obtain ⟨pa, rfl⟩ := I.ptr hg.is
  have HT := Lib.hid (hg.planted.tree l3_up)
  have HM2 : Hid (MR I w.heap.size w w2 (.pointer (some pa)) A 0 (fun _ => False)) := ⟨⟨F, hg.is, fun k hk => Nat.le_trans HB.out.size (hg.foot k hk), fun k hk => hk.elim⟩, HB.out.trans (hg.below.mono HB.out.size), Nat.le_trans HB.out.size hg.below.size⟩
  clear hg
  go_wp2_with fail
  refine (mr_call HM2.out fun F hI => HK.out.get 4 w2 hI HT.out (by decide) (by decide) R.out.1).mono ?_
  rintro e w3 ⟨rfl, rd3, hm3, -, h30, h31⟩
  rw [G4.out]
  have HM3 := Lib.hid hm3
  have HR3 : Hid (0 ≤ rd3 ∧ rd3 ≤ 1000) := ⟨h30, by have := M3.out; omega⟩
  clear hm3 h30 h31
  go_wp2_with fail
  refine (mr_call HM3.out fun F hI => HK.out.floor 5 w3 hI HT.out HR3.out.1 (by have := HR3.out; omega) R.out.2.1).mono ?_
  rintro e w4 ⟨rfl, rd4, hm4, -, h40, h41⟩
  rw [F5.out]
  have HM4 := Lib.hid hm4
  have HR4 : Hid (0 ≤ rd4 ∧ rd4 ≤ 2000) := ⟨by have := HR3.out; omega, by have := M3.out; have := HR3.out; omega⟩
  clear hm4 h40 h41
  unfold enR enA
  go_upto_region 6 with fail
  have hm5 := HM4.out.alloc (.cells #[.int .i64 4, .int .i64 40] 37)
  have hg5 := heap_alloc_new w4 (.cells #[.int .i64 4, .int .i64 40] 37)
  generalize w4.alloc (.cells #[.int .i64 4, .int .i64 40] 37) = w5 at hm5 hg5 ⊢
  generalize w4.heap.size = g at hm5 hg5 ⊢
  have HM5 := Lib.hid hm5
  have HG5 := Lib.hid hg5
  clear hm5 hg5 HM4
  go_wp2_with fail
  refine (mr_call HM5.out fun F hI => HK.out.above 9 w5 hI HT.out HR4.out.1 (by have := HR4.out; omega) R.out.2.2).mono ?_
  rintro e w6 ⟨rfl, rd6, hm6, hk6, h60, h61⟩
  rw [A9.out]
  have hg6 := (hk6 g (.inr rfl)).trans HG5.out
  have HM6 := Lib.hid hm6
  have HG6 := Lib.hid hg6
  clear hm6 hk6 hg6 h60 h61 HM5 HG5
  unfold enR enA
  go_upto_region 7 with fail
  have hm7 := HM6.out.alloc (.cells #[.int .i64 0, .int .i64 0] 37)
  have hg7 := ((below_new7 w6 (.cells #[.int .i64 0, .int .i64 0] 37)).block g (HM6.out.lt (.inr rfl))).trans HG6.out
  generalize w6.alloc (.cells #[.int .i64 0, .int .i64 0] 37) = w7 at hm7 hg7 ⊢
  obtain ⟨x0, x1⟩ := two_ofE hg7
  have HB7 := Lib.hid hm7.below
  clear hm7 hg7 HM6 HG6
  go_wp2_with fail
  go_ret
  exact ⟨rfl, HB7.out⟩
end Go.Proofs.Ytigogohcelgggaa
