/- Of the proof of UUpdateSharesP: RefNum, LkCon, Scene, RefRsv, JnDuo, LawUpSh. -/
import Derived.Test.YtckkmmdibgoajaaU1
import Derived.Test.YtckkmmdibgoajaaU2
import Derived.Test.YtckkmmdibgoajaaU3
import Derived.Test.YtckkmmdibgoajaaU4
import Derived.Test.YtckkmmdibgoajaaU5
import Derived.Test.YtckkmmdibgoajaaU6
import Derived.Test.YtckkmmdibgoajaaU10
import Derived.Test.YtckkmmdibgoajaaU11
import Derived.Test.YtckkmmdibgoajaaU12
import Derived.Test.YtckkmmdibgoajaaU13
import Derived.Laws.Rows
import Derived.Laws.CopyOwn
import Derived.Deep.DeepCutAuto
import Derived.RegionTactic
import Derived.Deep.QuietTactic
import Derived.Deep.RegionHeld3
set_option linter.unusedVariables false
set_option linter.unusedSimpArgs false
namespace Go.Proofs.Ytckkmmdibgoajaa
open Go.RowKit
def zero81 : Array Value := Array.replicate 81 (.int .i64 0)
/-- the weights up to height h, then zeros -/
def wtv (h : Nat) : Array Value := (Array.range 81).map fun j => .int .i64 (if j ≤ h then (wt j : Int) else 0)
theorem zero81_run : ∀ w, (zeroValue 132).run Try.prog w = .ok (.agg zero81) w := by
  have h : (Try.prog.info? 132).map (·.zero) = some (some (.agg zero81)) := by kernel_rfl
  intro w
  cases hi : Try.prog.info? 132 with
  | none => simp [hi] at h
  | some i =>
    have hz : i.zero = some (.agg zero81) := by simpa [hi] using h
    simp [zeroValue, typeInfo, hi, hz]
theorem wtv_size (h : Nat) : (wtv h).size = 81 := by simp [wtv]
theorem wtv_at (h j : Nat) (hj : j < 81) : (wtv h)[j]? = some (.int .i64 (if j ≤ h then (wt j : Int) else 0)) := by simp [wtv, hj]
theorem wtv_at2 (h j : Nat) : (wtv h)[j]? = if j < 81 then some (.int .i64 (if j ≤ h then (wt j : Int) else 0)) else none := by
  by_cases hj : j < 81
  · rw [if_pos hj]; exact wtv_at h j hj
  · rw [if_neg hj]; exact Array.getElem?_eq_none (by rw [wtv_size]; omega)
theorem zero81_at (j : Nat) : zero81[j]? = if j < 81 then some (.int .i64 0) else none := by
  by_cases hj : j < 81
  · rw [if_pos hj]; simp [zero81, hj]
  · rw [if_neg hj]; exact Array.getElem?_eq_none (by simp [zero81]; omega)
theorem wtv_zero : zero81.setIfInBounds 0 (.int .i64 1) = wtv 0 := by
  apply Array.ext_getElem?
  intro j
  rw [wtv_at2]
  by_cases e : 0 = j
  · subst e
    rw [Array.getElem?_setIfInBounds_self_of_lt (by simp [zero81])]
    rfl
  · rw [Array.getElem?_setIfInBounds_ne e, zero81_at]
    have h2 : ¬ j ≤ 0 := by omega
    rw [if_neg h2]
theorem wtv_step (h : Nat) (hh : h + 1 < 81) (v : Int) (hv : v = (wt (h + 1) : Int)) : (wtv h).setIfInBounds (h + 1) (.int .i64 v) = wtv (h + 1) := by
  subst hv
  apply Array.ext_getElem?
  intro j
  rw [wtv_at2]
  by_cases e : h + 1 = j
  · subst e
    rw [Array.getElem?_setIfInBounds_self_of_lt (by rw [wtv_size]; exact hh), if_pos hh, if_pos (Nat.le_refl _)]
  · rw [Array.getElem?_setIfInBounds_ne e, wtv_at2]
    by_cases e2 : j ≤ h
    · rw [if_pos e2, if_pos (show j ≤ h + 1 by omega)]
    · rw [if_neg e2, if_neg (show ¬ j ≤ h + 1 by omega)]
theorem wtv_one (h : Nat) : (wtv h).all (·.oneCell') = true := by
  rw [Array.all_eq_true]
  intro i h
  simp [wtv, Value.oneCell']
def WRel (w : World) (i : Value) (wr : World) : Prop :=
  ∃ k : Nat, k < 81 ∧ i = .int .i64 ((k : Int) + 1) ∧ wr.heap[w.heap.size]? = some (.cells zero81 132 (0, 0)) ∧ wr.heap[w.heap.size + 1]? = some (.cells (wtv k) 132 (0, 0)) ∧ Below w.heap.size w wr
theorem WRel.drew {w wr : World} {i : Value} (h : WRel w i wr) : WRel w i wr.drew := by
  obtain ⟨k, h1, h2, h3, h4, h5⟩ := h
  exact ⟨k, h1, h2, h3, h4, h5.drew⟩
set_option maxHeartbeats 1000000 in
set_option maxRecDepth 100000 in
theorem weights_any (w : World) : Calls Try.prog 81 #[] w fun e w' => e = .returned (.agg (wtv 80)) ∧ Below w.heap.size w w' := by
  have hz := zero81_run
  have hu : (Try.prog.underlying 132) = some (.array 81 3) := by kernel_rfl
  have hi : (Try.prog.info? 132).map (·.size) = some 81 := by kernel_rfl
  have HU := Lib.hid hu
  have HI := Lib.hid hi
  clear hu hi
  go_enter Try.func81, Try.ntmps81
  go_upto_region 2 with fail
  have hB0 : Below w.heap.size w ((w.alloc (Obj.cells zero81 132)).alloc (Obj.cells zero81 132)) := ((Below.refl _ _).alloc (Nat.le_refl _) _).alloc (by simp) _
  have h0 := heap_alloc2_old w (Obj.cells zero81 132) (Obj.cells zero81 132)
  have h1 := heap_alloc2_new w (Obj.cells zero81 132) (Obj.cells zero81 132)
  clear hz
  generalize (w.alloc (Obj.cells zero81 132)).alloc (Obj.cells zero81 132) = w1 at hB0 h0 h1 ⊢
  have hc0 : w1.cell? ⟨w.heap.size + 1, 0, none⟩ = some (.int .i64 0) := by rw [cell_of_row _ _ _ _ _ _ h1, zero81_at]; rfl
  have hf0 := frozen_of_row w1 (w.heap.size + 1) 0 zero81 _ h1
  have HR0 : Hid (WRel w (.int .i64 1) (w1.setCell ⟨w.heap.size + 1, 0, none⟩ (.int .i64 1))) := ⟨0, by omega, rfl, by
    rw [heap_setCell_other _ _ _ _ (by show w.heap.size ≠ w.heap.size + 1; omega)]
    exact h0, by rw [← wtv_zero]; exact heap_setCell_same w1 (w.heap.size + 1) 0 zero81 _ _ h1, hB0.setCell (by show w.heap.size ≤ w.heap.size + 1; omega) _⟩
  clear hB0 h0 h1
  go_wp2_with fail
  go_loopw [2] (fun i wr => WRel w i wr) (fun i _ => 81 - (intOf i).toNat)
  case atStart => exact HR0.out
  case round =>
    clear HR0 hc0 hf0
    obtain ⟨k, hk, rfl, h0, h1, hB⟩ := hrel
    by_cases hlt : k < 80
    · have hki : (k : Int) + 1 ≤ 80 := by omega
      have hk0 : (0 : Int) ≤ (k : Int) := by omega
      have HK : Hid (k < 80) := hlt
      have hwl : wt k < 1000000000000 := Nat.lt_of_le_of_lt (wt_mono (show k ≤ 80 by omega)) wt_small
      have hc1 : wr.cell? ⟨w.heap.size + 1, k, none⟩ = some (.int .i64 (wt k : Int)) := by
        rw [cell_of_row _ _ _ _ _ _ h1, wtv_at _ _ (by omega), if_pos (Nat.le_refl k)]
      have hc2 : wr.cell? ⟨w.heap.size + 1, k + 1, none⟩ = some (.int .i64 0) := by
        rw [cell_of_row _ _ _ _ _ _ h1, wtv_at _ _ (by omega), if_neg (by omega)]
      have hf2 := frozen_of_row wr (w.heap.size + 1) (k + 1) (wtv k) _ h1
      have HST : Hid (∀ v : Int, v = (wt (k + 1) : Int) → WRel w (.int .i64 ((k : Int) + 1 + 1)) (wr.setCell ⟨w.heap.size + 1, k + 1, none⟩ (.int .i64 v))) := fun v hv => ⟨k + 1, by omega, by congr 1, by
        rw [heap_setCell_other _ _ _ _ (by show w.heap.size ≠ w.heap.size + 1; omega)]
        exact h0, by rw [← wtv_step k (by omega) v hv]; exact heap_setCell_same wr (w.heap.size + 1) (k + 1) (wtv k) _ _ h1, hB.setCell (by show w.heap.size ≤ w.heap.size + 1; omega) _⟩
      have hw : ((wt (k + 1) : Nat) : Int) = (wt k : Int) + ((wt k : Int) + 2) / 3 := by rw [wt_succ]; omega
      have HW := Lib.hid hw
      clear hw
      generalize wt k = X at hc1 hwl HW
      have hX1 : IntKind.i64.wrap ((X : Int) + 2) = (X : Int) + 2 := by rw [IntKind.wrap_i64]; omega
      have hX2 : IntKind.i64.wrap ((X : Int) + ((X : Int) + 2) / 3) = (X : Int) + ((X : Int) + 2) / 3 := by rw [IntKind.wrap_i64]; omega
      have hk1 : (k : Int) + 1 - 1 = (k : Int) := by omega
      have HWL := Lib.hid hwl
      clear hB h0 h1 hwl hlt hk
      go_upto_region 6 with fail
      go_region
      have hv : wrap64 ((X : Int) + wrap64 (((X : Int) + 2).tdiv 3)) = (wt (k + 1) : Int) := by
        rw [HW.out, Int.tdiv_eq_ediv_of_nonneg (by omega)]
        have := HWL.out
        unfold wrap64
        omega
      have hst := HST.out _ hv
      clear HW HST
      generalize wrap64 ((X : Int) + wrap64 (((X : Int) + 2).tdiv 3)) = v at hst hv ⊢
      have HST := Lib.hid hst
      clear hst hv HWL
      go_wp2_with fail
      exact ⟨HST.out.drew, by simp [intOf]; omega⟩
    · obtain rfl : k = 80 := by omega
      have H0 := Lib.hid h0
      have H1 := Lib.hid h1
      have HB := Lib.hid hB
      clear h0 h1 hB hlt hk
      go_wp2_with (first | refine wpList_load_row rfl 132 (.tmp 1) rfl (w.heap.size + 1) rfl 132 (wtv 80) (0, 0) _ H1.out HU.out rfl (by rw [HI.out, wtv_size]) ?_ | refine wpList_store_row rfl 132 (.tmp 0) (.tmp 21) rfl w.heap.size (wtv 80) rfl rfl 132 zero81 H0.out (by rw [HI.out, wtv_size]) (by rw [wtv_size]; simp [zero81]) (wtv_one _) ?_)
      exact bodyPost_ret (v := .agg (wtv 80)) (results_cell_row rfl _ _ w.heap.size 132 (wtv 80) (0, 0) _ rfl (setRow_heap _ _ _ _ _ _ H0.out) HU.out rfl (by rw [HI.out, wtv_size])) rfl ⟨rfl, below_setRow HB.out (Nat.le_refl _) _⟩
set_option maxHeartbeats 1000000 in
set_option maxRecDepth 100000 in
theorem refMaxHeight_any (n : Int) (w : World) (h0 : -9223372036854775808 ≤ n) (h1 : n ≤ 9223372036854775807) : Calls Try.prog 57 #[.int .i64 n] w (Calm w (.int .i64 (xhI n))) := by
  by_cases hr : 0 ≤ n ∧ n ≤ 2147483647
  · obtain ⟨m, rfl⟩ := Int.eq_ofNat_of_zero_le hr.1
    have hm : (m : Int) ≤ 2147483647 := hr.2
    have hM : xhI (m : Int) = (xh m : Int) := by
      unfold xhI
      rw [if_pos hr, Int.toNat_natCast]
    have hg1 : decide ((m : Int) < 0) = false := decide_eq_false (by omega)
    have hg2 : decide ((2147483647 : Int) < (m : Int)) = false := decide_eq_false (by omega)
    have hz := zero81_run
    have hu : (Try.prog.underlying 132) = some (.array 81 3) := by kernel_rfl
    have hi : (Try.prog.info? 132).map (·.size) = some 81 := by kernel_rfl
    have HU := Lib.hid hu
    have HI := Lib.hid hi
    rw [hM]
    clear hM h0 h1 hr hu hi
    go_enter Try.func57, Try.ntmps57
    go_wp2_with fail
    refine (weights_any w).mono ?_
    rintro e w1 ⟨rfl, hb⟩
    have hnew := heap_alloc_new w1 (Obj.cells zero81 132)
    have HW1 := Lib.hid hnew
    have HB := Lib.hid (hb.trans ((below_new7 w1 (Obj.cells zero81 132)).mono hb.size))
    have hsz : w.heap.size ≤ w1.heap.size := hb.size
    clear hb hnew
    go_wp2_with (refine wpList_store_row rfl 132 (.tmp 3) (.tmp 11) rfl w1.heap.size (wtv 80) rfl rfl 132 zero81 HW1.out (by rw [HI.out, wtv_size]) (by rw [wtv_size]; simp [zero81]) (wtv_one _) ?_)
    have hrow : ((w1.alloc (Obj.cells zero81 132)).setRow w1.heap.size (wtv 80)).heap[w1.heap.size]? = some (.cells (wtv 80) 132 (0, 0)) := setRow_heap _ _ _ _ _ _ HW1.out
    have HBF : Hid (Below w.heap.size w ((w1.alloc (Obj.cells zero81 132)).setRow w1.heap.size (wtv 80))) := below_setRow HB.out hsz _
    have HROW := Lib.hid hrow
    clear hrow hsz hz
    generalize (w1.alloc (Obj.cells zero81 132)).setRow w1.heap.size (wtv 80) = w2 at HROW HBF ⊢
    generalize w1.heap.size = q at HROW ⊢
    clear HW1 HB
    have HST : Hid (xhF m 80 0 = xh m) := rfl
    go_loopw [4] (fun i wr => ∃ h : Nat, h ≤ 80 ∧ i = .int .i64 (h : Int) ∧ xhF m (80 - h) h = xh m ∧ wr = w2) (fun i _ => 80 - (intOf i).toNat)
    case atStart => exact ⟨0, Nat.zero_le _, rfl, HST.out, rfl⟩
    case round =>
      clear HST
      obtain ⟨h, hh, rfl, hx, rfl⟩ := hrel
      by_cases hlt : h < 80
      · have hc : wr.cell? ⟨q, h + 1, none⟩ = some (.int .i64 (wt (h + 1) : Int)) := by
          rw [cell_of_row _ _ _ _ _ _ HROW.out, wtv_at _ _ (by omega), if_pos (by omega)]
        have hwl : wt (h + 1) < 1000000000000 := Nat.lt_of_le_of_lt (wt_mono (show h + 1 ≤ 80 by omega)) wt_small
        have hwp := wt_pos (h + 1)
        have hd1 : decide ((h : Int) < 80) = true := decide_eq_true (by omega)
        have hhi : (h : Int) + 1 < 81 := by omega
        have hh0 : (0 : Int) ≤ (h : Int) + 1 := by omega
        have hht : ((h : Int) + 1).toNat = h + 1 := by omega
        have hw1 : IntKind.i64.wrap ((wt (h + 1) : Int) - 1) = (wt (h + 1) : Int) - 1 := by rw [IntKind.wrap_i64]; omega
        have HX := Lib.hid hx
        have HLT : Hid (h < 80) := hlt
        have HE : Hid (∀ f, xhF m (f + 1) h = if wt (h + 1) - 1 ≤ m then xhF m f (h + 1) else h) := fun f => rfl
        by_cases hle : wt (h + 1) - 1 ≤ m
        · have hd2 : decide ((wt (h + 1) : Int) - 1 ≤ (m : Int)) = true := decide_eq_true (by omega)
          have HX2 : Hid (xhF m (80 - (h + 1)) (h + 1) = xh m) := by
            have h1 := HE.out (80 - (h + 1))
            rw [if_pos hle] at h1
            rw [show 80 - (h + 1) + 1 = 80 - h by have := HLT.out; omega] at h1
            exact h1.symm.trans HX.out
          clear HX HE hle hwl hwp hlt hh hx
          generalize wt (h + 1) = X at hc hw1 hd2
          go_wp2_with fail
          exact ⟨⟨h + 1, by have := HLT.out; omega, by go_num, HX2.out, by first | rfl | trivial⟩, by have := HLT.out; simp [intOf]; omega⟩
        · have hd2 : decide ((wt (h + 1) : Int) - 1 ≤ (m : Int)) = false := decide_eq_false (by omega)
          have HX2 : Hid (h = xh m) := by
            have h1 := HE.out (80 - (h + 1))
            rw [if_neg hle] at h1
            rw [show 80 - (h + 1) + 1 = 80 - h by have := HLT.out; omega] at h1
            exact h1.symm.trans HX.out
          clear HX HE hle hwl hwp hlt hh hx
          generalize wt (h + 1) = X at hc hw1 hd2
          go_wp2_with fail
          go_ret
          exact ⟨by rw [← HX2.out]; rfl, HBF.out⟩
      · obtain rfl : h = 80 := by omega
        have HX2 : Hid (80 = xh m) := hx
        clear hx hlt hh
        go_wp2_with fail
        go_ret
        exact ⟨by rw [← HX2.out]; rfl, HBF.out⟩
  · have HM : xhI n = -1 := if_neg hr
    rw [HM]
    clear HM
    by_cases hn : n < 0
    · have g1 := decide_eq_true hn
      clear hr hn
      go_enter Try.func57, Try.ntmps57
      go_wp2
      go_ret
      exact ⟨rfl, Below.refl _ _⟩
    · have g1 := decide_eq_false hn
      have g2 : decide ((2147483647 : Int) < n) = true := decide_eq_true (by omega)
      clear hr hn
      go_enter Try.func57, Try.ntmps57
      go_wp2
      go_ret
      exact ⟨rfl, Below.refl _ _⟩
end Go.Proofs.Ytckkmmdibgoajaa
set_option linter.unusedVariables false
set_option linter.unusedSimpArgs false
namespace Go.Proofs.Ytckkmmdibgoajaa
open Go.RowKit
section
variable {I : AImpl} {B : Nat} {w0 w w' : World} {p : Value} {A : Ar} {rd : Int} {G : Nat → Prop}
theorem mr_reads (h : MR I B w0 w p A rd G) : Calls Try.prog 26 #[p] w (Quiet w (.int .u64 rd)) := by
  obtain ⟨F, h1, _⟩ := h.has
  exact I.reads p A rd F w h1
end
theorem height_kit (n : Int) (w : World) (h0 : 0 ≤ n) (h1 : n ≤ 2147483647) : Calls Try.prog 28 #[.int .i64 n] w (Calm w (.int .i64 (xhI n))) := by
  have HC := Lib.hid (refMaxHeight_any n w (by omega) (by omega))
  clear h0 h1
  go_enter Try.func28, Try.ntmps28
  go_wp2_with fail
  refine HC.out.mono ?_
  rintro e w1 ⟨rfl, hb⟩
  have HB := Lib.hid hb
  clear hb
  go_wp2_with fail
  go_ret
  exact ⟨rfl, HB.out⟩
theorem within_any {I : AImpl} {B : Nat} {w0 w : World} {p : Value} {A : Ar} {rd since most : Int} {G : Nat → Prop} (h : MR I B w0 w p A rd G) (h0 : 0 ≤ since) (h1 : since ≤ rd) (h2 : rd ≤ since + most) (h3 : rd ≤ 4398046511104) (h4 : most ≤ 1000000) :
    Calls Try.prog 27 #[p, .int .u64 since, .int .i64 most] w (Calm w (.bool true)) := by
  obtain ⟨F, hI, _⟩ := h.has
  obtain ⟨pa, rfl⟩ := I.ptr hI
  have HMR := Lib.hid h
  have hge : decide (since ≤ rd) = true := decide_eq_true h1
  have hw1 : IntKind.u64.wrap (rd - since) = rd - since := by rw [IntKind.wrap_u64]; omega
  have hw2 : IntKind.u64.wrap most = most := by rw [IntKind.wrap_u64]; omega
  have hle : decide (rd - since ≤ most) = true := decide_eq_true (by omega)
  clear h hI h0 h1 h2 h3 h4
  go_enter Try.func27, Try.ntmps27
  go_wp2_with fail
  refine (mr_reads HMR.out).mono ?_
  rintro e w1 ⟨rfl, q1, rfl⟩
  have hb1 : Below w.heap.size w (w.drewN q1) := below_drewN (Below.refl _ _) q1
  have HM1 := Lib.hid (HMR.out.calm hb1)
  have HB1 := Lib.hid hb1
  clear hb1 HMR
  generalize w.drewN q1 = w1 at HM1 HB1 ⊢
  go_wp2_with fail
  refine (mr_reads HM1.out).mono ?_
  rintro e w2 ⟨rfl, q2, rfl⟩
  have HB2 : Hid (Below w.heap.size w (w1.drewN q2)) := HB1.out.trans ((below_drewN (Below.refl _ _) q2).mono HB1.out.size)
  generalize w1.drewN q2 = w2 at HB2 ⊢
  go_wp2_with fail
  go_ret
  exact ⟨rfl, HB2.out⟩
end Go.Proofs.Ytckkmmdibgoajaa
set_option linter.unusedVariables false
set_option linter.unusedSimpArgs false
namespace Go.Proofs.Ytckkmmdibgoajaa
open Go.RowKit
section
variable {I : AImpl} {B : Nat} {w0 w w' : World} {p : Value} {A : Ar} {rd rd' : Int} {rs : List Row} {bs : List (Nat × Obj)}
theorem Scn.reads (h : Scn I B w0 w p A rd rs bs) : Calls Try.prog 26 #[p] w fun e w' => e = .returned (.int .u64 rd) ∧ Scn I B w0 w' p A rd rs bs := by
  refine (mr_reads h.mr).mono ?_
  rintro e w1 ⟨he, q, rfl⟩
  exact ⟨he, h.calm (below_drewN (Below.refl _ _) q)⟩
end
end Go.Proofs.Ytckkmmdibgoajaa
set_option linter.unusedVariables false
set_option linter.unusedSimpArgs false
namespace Go.Proofs.Ytckkmmdibgoajaa
open Go.RowKit
set_option maxHeartbeats 1000000 in
set_option maxRecDepth 100000 in
theorem refNeed_any (a b c more extra factor : Int) (w : World) (hb : in64 a ∧ in64 b ∧ in64 c) (hm : 0 ≤ more ∧ more ≤ 1) (hx : vld a → vld b → vld c → 0 ≤ extra ∧ extra ≤ 1000000) (hf : 0 ≤ factor ∧ factor ≤ 12) :
    Calls Try.prog 56 #[.int .i64 a, .int .i64 b, .int .i64 c, .int .i64 more, .int .i64 extra, .int .i64 factor] w (Calm w (.int .i64 (needI a b c more extra factor))) := by
  obtain ⟨hba, hbb, hbc⟩ := hb
  have h7 : decide (a < 0) = true ∨ (decide (a < 0) = false ∧ decide (65536 < a) = true) ∨ (decide (a < 0) = false ∧ decide (65536 < a) = false ∧ decide (b < 0) = true) ∨ (decide (a < 0) = false ∧ decide (65536 < a) = false ∧ decide (b < 0) = false ∧ decide (65536 < b) = true) ∨
      (decide (a < 0) = false ∧ decide (65536 < a) = false ∧ decide (b < 0) = false ∧ decide (65536 < b) = false ∧ decide (c < 0) = true) ∨ (decide (a < 0) = false ∧ decide (65536 < a) = false ∧ decide (b < 0) = false ∧ decide (65536 < b) = false ∧ decide (c < 0) = false ∧ decide (65536 < c) = true) ∨
      (decide (a < 0) = false ∧ decide (65536 < a) = false ∧ decide (b < 0) = false ∧ decide (65536 < b) = false ∧ decide (c < 0) = false ∧ decide (65536 < c) = false) := by
    simp only [decide_eq_true_eq, decide_eq_false_iff_not]
    omega
  have HB : Hid ((decide (a < 0) = true ∨ decide (65536 < a) = true ∨ decide (b < 0) = true ∨ decide (65536 < b) = true ∨ decide (c < 0) = true ∨ decide (65536 < c) = true) → needI a b c more extra factor = -1) := fun h => by
    unfold needI
    rw [if_neg]
    rintro ⟨⟨a1, a2⟩, ⟨b1, b2⟩, ⟨c1, c2⟩⟩
    simp only [decide_eq_true_eq] at h
    omega
  rcases h7 with h1 | ⟨h1, h2⟩ | ⟨h1, h2, h3⟩ | ⟨h1, h2, h3, h4⟩ | ⟨h1, h2, h3, h4, h5⟩ | ⟨h1, h2, h3, h4, h5, h6⟩ | ⟨h1, h2, h3, h4, h5, h6⟩
  · have HE : Hid (needI a b c more extra factor = -1) := HB.out (.inl h1)
    clear hba hbb hbc hm hx hf HB
    go_enter Try.func56, Try.ntmps56
    go_wp2_with fail
    go_ret
    exact ⟨by rw [HE.out]; rfl, Below.refl _ _⟩
  · have HE : Hid (needI a b c more extra factor = -1) := HB.out (.inr (.inl h2))
    clear hba hbb hbc hm hx hf HB
    go_enter Try.func56, Try.ntmps56
    go_wp2_with fail
    go_ret
    exact ⟨by rw [HE.out]; rfl, Below.refl _ _⟩
  · have HE : Hid (needI a b c more extra factor = -1) := HB.out (.inr (.inr (.inl h3)))
    clear hba hbb hbc hm hx hf HB
    go_enter Try.func56, Try.ntmps56
    go_wp2_with fail
    go_ret
    exact ⟨by rw [HE.out]; rfl, Below.refl _ _⟩
  · have HE : Hid (needI a b c more extra factor = -1) := HB.out (.inr (.inr (.inr (.inl h4))))
    clear hba hbb hbc hm hx hf HB
    go_enter Try.func56, Try.ntmps56
    go_wp2_with fail
    go_ret
    exact ⟨by rw [HE.out]; rfl, Below.refl _ _⟩
  · have HE : Hid (needI a b c more extra factor = -1) := HB.out (.inr (.inr (.inr (.inr (.inl h5)))))
    clear hba hbb hbc hm hx hf HB
    go_enter Try.func56, Try.ntmps56
    go_wp2_with fail
    go_ret
    exact ⟨by rw [HE.out]; rfl, Below.refl _ _⟩
  · have HE : Hid (needI a b c more extra factor = -1) := HB.out (.inr (.inr (.inr (.inr (.inr h6)))))
    clear hba hbb hbc hm hx hf HB
    go_enter Try.func56, Try.ntmps56
    go_wp2_with fail
    go_ret
    exact ⟨by rw [HE.out]; rfl, Below.refl _ _⟩
  · have hva : vld a := ⟨by have := of_decide_eq_false h1; omega, by have := of_decide_eq_false h2; omega⟩
    have hvb : vld b := ⟨by have := of_decide_eq_false h3; omega, by have := of_decide_eq_false h4; omega⟩
    have hvc : vld c := ⟨by have := of_decide_eq_false h5; omega, by have := of_decide_eq_false h6; omega⟩
    have HE : Hid (needI a b c more extra factor = extra + factor * (xhI (a + b + c + more) + 2)) := if_pos ⟨hva, hvb, hvc⟩
    have hxx := hx hva hvb hvc
    obtain ⟨a1, a2⟩ := hva
    obtain ⟨b1, b2⟩ := hvb
    obtain ⟨c1, c2⟩ := hvc
    have w1 : IntKind.i64.wrap (a + b) = a + b := by rw [IntKind.wrap_i64]; omega
    have w2 : IntKind.i64.wrap (a + b + c) = a + b + c := by rw [IntKind.wrap_i64]; omega
    have w3 : IntKind.i64.wrap (a + b + c + more) = a + b + c + more := by rw [IntKind.wrap_i64]; omega
    have HR : Hid (in64 (a + b + c + more)) := ⟨by omega, by omega⟩
    have hX := xhI_in (n := a + b + c + more) (by omega) (by omega)
    have HXR := Lib.hid hX
    have HFX : Hid (0 ≤ factor ∧ factor ≤ 12 ∧ 0 ≤ extra ∧ extra ≤ 1000000) := ⟨hf.1, hf.2, hxx.1, hxx.2⟩
    clear hba hbb hbc hm hx hf HB hxx hX a1 a2 b1 b2 c1 c2
    go_enter Try.func56, Try.ntmps56
    go_wp2_with fail
    refine (refMaxHeight_any (a + b + c + more) w HR.out.1 HR.out.2).mono ?_
    rintro e w5 ⟨rfl, hb5⟩
    have HB5 := Lib.hid hb5
    generalize xhI (a + b + c + more) = X at HE HXR ⊢
    have w4 : IntKind.i64.wrap (X + 2) = X + 2 := by rw [IntKind.wrap_i64]; have := HXR.out; omega
    have w5' : IntKind.i64.wrap (factor * (X + 2)) = factor * (X + 2) := by
      have h1 := HXR.out
      have h2 := HFX.out
      have h3 : 0 ≤ factor * (X + 2) := Int.mul_nonneg h2.1 (by omega)
      have h4 : factor * (X + 2) ≤ 12 * 82 := Int.mul_le_mul h2.2.1 (by omega) (by omega) (by decide)
      rw [IntKind.wrap_i64]; omega
    have w6' : IntKind.i64.wrap (extra + factor * (X + 2)) = extra + factor * (X + 2) := by
      have h1 := HXR.out
      have h2 := HFX.out
      have h3 : 0 ≤ factor * (X + 2) := Int.mul_nonneg h2.1 (by omega)
      have h4 : factor * (X + 2) ≤ 12 * 82 := Int.mul_le_mul h2.2.1 (by omega) (by omega) (by decide)
      rw [IntKind.wrap_i64]; omega
    clear hb5
    go_wp2_with fail
    go_ret
    exact ⟨by rw [HE.out]; rfl, HB5.out⟩
theorem in0 : in64 0 := ⟨by decide, by decide⟩
theorem refInsert_any (n : Int) (w : World) (hn : in64 n) : Calls Try.prog 25 #[.int .i64 n] w (Calm w (.int .i64 (insI n))) := by
  have HC := Lib.hid (refNeed_any n 0 0 1 0 4 w ⟨hn, in0, in0⟩ ⟨by decide, by decide⟩ (fun _ _ _ => ⟨by decide, by decide⟩) ⟨by decide, by decide⟩)
  clear hn
  go_enter Try.func25, Try.ntmps25
  go_wp2_with fail
  refine HC.out.mono ?_
  rintro e w1 ⟨rfl, hb1⟩
  have HB := Lib.hid hb1
  clear hb1
  go_wp2_with fail
  go_ret
  exact ⟨rfl, HB.out⟩
end Go.Proofs.Ytckkmmdibgoajaa
set_option linter.unusedVariables false
set_option linter.unusedSimpArgs false
namespace Go.Proofs.Ytckkmmdibgoajaa
open Go.RowKit
end Go.Proofs.Ytckkmmdibgoajaa
set_option linter.unusedVariables false
set_option linter.unusedSimpArgs false
namespace Go.Proofs.Ytckkmmdibgoajaa
open Go.RowKit
end Go.Proofs.Ytckkmmdibgoajaa
set_option linter.unusedVariables false
set_option linter.unusedSimpArgs false
namespace Go.Proofs.Ytckkmmdibgoajaa
open Go.RowKit
theorem xh_mono {m n : Nat} (h : m ≤ n) (hn : n ≤ 2147483647) : xh m ≤ xh n := xh_le hn (by have := (xh_spec (n := m) (by omega)).1; omega)
end Go.Proofs.Ytckkmmdibgoajaa
set_option linter.unusedVariables false
set_option linter.unusedSimpArgs false
namespace Go.Proofs.Ytckkmmdibgoajaa
open Go.RowKit
def evL (j : Nat) : List En := (List.range j).map fun (i : Nat) => ⟨2 * (i : Int), (i : Int)⟩
theorem evL_succ (j : Nat) : evL (j + 1) = evL j ++ [⟨2 * (j : Int), (j : Int)⟩] := by simp [evL, List.range_succ]
theorem evL_len (j : Nat) : (evL j).length = j := by simp [evL]
theorem evL_up (j : Nat) : Up (evL j) := by
  unfold Up evL
  rw [List.pairwise_map]
  exact List.Pairwise.imp (fun {a b} h => by show 2 * (a : Int) < 2 * (b : Int); omega) List.pairwise_lt_range
theorem evL_mem {j : Nat} {y : En} (h : y ∈ evL j) : ∃ i : Nat, i < j ∧ y = ⟨2 * (i : Int), (i : Int)⟩ := by
  unfold evL at h
  obtain ⟨i, hi, rfl⟩ := List.mem_map.1 h
  exact ⟨i, List.mem_range.1 hi, rfl⟩
theorem evL_in {j i : Nat} (h : i < j) : (⟨2 * (i : Int), (i : Int)⟩ : En) ∈ evL j := List.mem_map.2 ⟨i, List.mem_range.2 h, rfl⟩
theorem evL_wf {j : Nat} (h : j ≤ 1000) : WfL (evL j) := fun y hy => by
  obtain ⟨i, hi, rfl⟩ := evL_mem hy
  refine ⟨⟨?_, ?_⟩, ⟨?_, ?_⟩⟩ <;> (simp only; omega)
theorem need_pos {n : Nat} (h : n ≤ 1000) : insI (n : Int) = 4 * ((xh (n + 1) : Int) + 2) ∧ delI (n : Int) ≤ insI (n : Int) := by
  have h1 : insI (n : Int) = 4 * ((xh (n + 1) : Int) + 2) := by
    unfold insI needI
    rw [if_pos (by unfold vld; omega), show (n : Int) + 0 + 0 + 1 = ((n + 1 : Nat) : Int) by omega, xhI_nat (by omega)]
    omega
  have h2 : delI (n : Int) = 4 * ((xh n : Int) + 2) := by
    unfold delI needI
    rw [if_pos (by unfold vld; omega), show (n : Int) + 0 + 0 + 0 = ((n : Nat) : Int) by omega, xhI_nat (by omega)]
    omega
  have h3 := xh_mono (m := n) (n := n + 1) (by omega) (by omega)
  exact ⟨h1, by omega⟩
set_option maxHeartbeats 16000000 in
set_option maxRecDepth 100000 in
theorem ush_walk (I : AImpl) (K : UpdImpl I) {n key tilt : Int} {remove : Bool} (w : World) (hn : i64R n) (ht0 : 0 ≤ tilt) (ht1 : tilt < 18446744073709551616) (hkey : i64R key) :
    Calls Try.prog 5 #[.int .i64 n, .int .u64 tilt, .int .i64 key, .bool remove] w (Calm w (.bool true)) := by
  have HK := Lib.hid K
  have HKEY := Lib.hid hkey
  have HT : Hid (0 ≤ tilt ∧ tilt < 18446744073709551616) := ⟨ht0, ht1⟩
  obtain ⟨P, hP⟩ := Int.eq_ofNat_of_zero_le (Int.emod_nonneg n (b := (800 : Int)) (by omega))
  have hP8 := Int.emod_lt_of_pos n (b := (800 : Int)) (by omega)
  have HMX : Hid (∀ wx, Calls Try.prog 11 #[.int .i64 n, .int .i64 800] wx (fun e w' => e = .returned (.int .i64 (P : Int)) ∧ wx = w')) := fun wx => (mod_any n 800 wx hn.1 hn.2 (by omega) (by omega)).mono fun e w' ⟨h1, h2⟩ => ⟨by rw [h1, hP], h2⟩
  obtain ⟨m, hm⟩ : ∃ m : Nat, (200 : Int) + (P : Int) = (m : Int) := ⟨200 + P, by omega⟩
  have hm1 : (200 : Int) ≤ (m : Int) := by omega
  have hm2 : (m : Int) ≤ 1000 := by omega
  have HM : Hid (200 ≤ m ∧ m ≤ 1000) := ⟨by omega, by omega⟩
  have hmw : IntKind.i64.wrap ((200 : Int) + (P : Int)) = (m : Int) := by rw [IntKind.wrap_i64]; omega
  have HST : Hid (ESt w.heap.size w (evL 0) (.slice none 0 0) w) := ESt.start w rfl
  clear K hn ht0 ht1 hkey hP hP8
  go_enter Try.func5, Try.ntmps5
  go_wp2_with (go_at_call 11; refine (HMX.out _).mono ?_; rintro e wy ⟨rfl, rfl⟩)
  (try rw [hm])
  clear hmw hm
  go_loopw [10, 11] (fun x i wr => ∃ j : Nat, i = .int .i64 (j : Int) ∧ j ≤ m ∧ ESt w.heap.size w (evL j) x wr) (fun _ i _ => m - (intOf i).toNat)
  case atStart => exact ⟨0, rfl, Nat.zero_le _, HST.out⟩
  case round =>
    clear HST
    obtain ⟨j, rfl, hj, hst⟩ := hrel
    have HST := Lib.hid hst
    obtain ⟨xa, xc, rfl⟩ := hst.val
    have hj0 : (0 : Int) ≤ (j : Int) := by omega
    clear hst
    by_cases hlt : j < m
    · have hji : (j : Int) < (m : Int) := by omega
      have hjd : decide ((j : Int) < (m : Int)) = true := decide_eq_true hji
      have hlen : (evL j).length ≤ 100000000 := by rw [evL_len]; have := HM.out; omega
      have h2j : IntKind.i64.wrap (2 * (j : Int)) = 2 * (j : Int) := by rw [IntKind.wrap_i64]; omega
      have HLT := Lib.hid hlt
      clear hlt hj
      go_wp2_with (at_builtin; refine wpList_append_en rfl (.tmp 27) (.tmp 32) rfl (HST.out.from (below_newL _ _) rfl) rfl rfl ⟨2 * (j : Int), (j : Int)⟩ wr.heap.size rfl (cell_newE _ ⟨2 * (j : Int), (j : Int)⟩ _) hlen ?_; intro v5 w5 hc5)
      exact ⟨⟨j + 1, by go_num, by have := HLT.out; omega, by rw [evL_succ]; exact hc5⟩, by have := HLT.out; simp [intOf]; omega⟩
    · have hjd : decide ((j : Int) < (m : Int)) = false := decide_eq_false (by omega)
      obtain rfl : j = m := by omega
      have hji : ¬ (j : Int) < (j : Int) := by omega
      have hln := evL_len j
      rw [hln] at HST
      (try rw [hln])
      have HB1 := Lib.hid HST.out.below
      have hE1 : EnsAt wr xa (evL j) := ens_row (B := w.heap.size) (c := xc) hln (by have := HST.out.row; rw [hln] at this; exact this) (evL_wf HM.out.2)
      have hrow : wr.ownsRow w.heap.size 31 2 (.slice xa j xc) j (ensV (evL j)) := by have := HST.out.row; rw [hln] at this; exact this
      have hcap := row_caps hrow
      have hnp := need_pos HM.out.2
      have hxs := (xh_spec (n := j + 1) (by have := HM.out; omega)).2.1
      obtain ⟨sp, hsp⟩ : ∃ sp : Nat, insI (j : Int) = (sp : Int) := ⟨(insI (j : Int)).toNat, by omega⟩
      have HSP : Hid (insI (j : Int) = (sp : Int) ∧ sp ≤ 400 ∧ 1 ≤ sp ∧ delI (j : Int) ≤ (sp : Int)) := ⟨hsp, by omega, by omega, by omega⟩
      have hspi : (sp : Int) ≤ 400 := by omega
      have HE1 := Lib.hid hE1
      have HROW := Lib.hid hrow
      have HCAP := Lib.hid hcap
      have HLN := Lib.hid hln
      clear hlt hj hln hE1 hrow hcap hnp hxs hsp HST
      go_wp2_with fail
      refine (refInsert_any (j : Int) wr ⟨by omega, by omega⟩).mono ?_
      rintro en w2 ⟨rfl, hb2⟩
      rw [HSP.out.1]
      have HB2 := Lib.hid hb2
      clear hb2
      go_wp2_with fail
      refine (grow_any I (sp := sp) (m := j + sp) (HE1.out.below HB2.out) HLN.out HCAP.out.1 HCAP.out.2 rfl (by have := HM.out; omega) (by have := HM.out; have := HSP.out; omega) HT.out.1 HT.out.2).mono ?_
      rintro en w3 ⟨p, A, ri, t, F, rfl, hg⟩
      obtain ⟨pa, rfl⟩ := I.ptr hg.is
      have HTR := Lib.hid (hg.planted.tree (evL_up j))
      have HPL := Lib.hid hg.planted
      have HS3 := Lib.hid (Scn.init hg (HB1.out.trans (HB2.out.mono HB1.out.size)) (row_below HROW.out HB2.out))
      have hfr : A.σ.free.length = sp := by
        have h := hg.planted.free
        rw [HLN.out] at h
        have h2 : (Ar.init (j + sp)).σ.free.length = j + sp := by show (List.range' 1 (j + sp)).length = _; simp
        omega
      have HFR : Hid (A.σ.free.length = sp ∧ A.σ.cap = j + sp) := ⟨hfr, hg.planted.kept.cap⟩
      have HHM : Hid (∀ x, pls (fun _ => 0) ri x ≤ 1048000) := fun x => by rw [pls_at]; split <;> omega
      have HRI : Hid (ri < 4294967296) := HTR.out.idx
      clear hg HROW HE1 HCAP HT hfr HB1 HB2
      go_wp2_with fail
      refine (awake14_any I HK.out w3).mono ?_
      rintro en w4 ⟨rfl, hb4⟩
      have HS4 := Lib.hid (HS3.out.calm hb4)
      clear hb4 HS3
      obtain ⟨D2, hD2⟩ : ∃ D : Int, 2 * (j : Int) = D := ⟨_, rfl⟩
      have hDw : IntKind.i64.wrap (2 * (j : Int)) = D2 := by rw [IntKind.wrap_i64]; omega
      obtain ⟨KT, hKT⟩ : ∃ k : Int, key.tmod D2 = k := ⟨_, rfl⟩
      have hKR : -D2 < KT ∧ KT < D2 := by
        rw [← hKT]
        have h1 := Int.tmod_lt_of_pos key (b := D2) (by omega)
        refine ⟨?_, h1⟩
        have h2 := Int.tmod_lt_of_pos (-key) (b := D2) (by omega)
        rw [Int.neg_tmod] at h2
        omega
      have hDn : ¬ D2 = 0 := by omega
      have hKw : IntKind.i64.wrap KT = KT := by rw [IntKind.wrap_i64]; omega
      have hKN : IntKind.i64.wrap (-KT) = -KT := by rw [IntKind.wrap_i64]; omega
      have HD : Hid (2 * (j : Int) = D2 ∧ -D2 < KT ∧ KT < D2) := ⟨hD2, hKR.1, hKR.2⟩
      clear hD2 hKR
      obtain ⟨bk, hbk⟩ : ∃ b, decide (KT < 0) = b := ⟨_, rfl⟩
      have HBK := Lib.hid hbk
      go_upto_if 55 with fail
      go_cut [16] from 56 to 57 (fun s wx => ∃ kk : Int, s = .int .i64 kk ∧ 0 ≤ kk ∧ kk < D2 ∧ w4 = wx)
      case first =>
        clear hbk
        cases bk with
        | true =>
          have hneg : KT < 0 := of_decide_eq_true HBK.out
          go_wp2_with fail
          go_meet
          exact ⟨-KT, rfl, by omega, by have := HD.out; omega, rfl⟩
        | false =>
          have hneg : ¬ KT < 0 := of_decide_eq_false HBK.out
          go_wp2_with fail
          go_meet
          exact ⟨KT, rfl, by omega, HD.out.2.2, rfl⟩
      case' rest =>
        obtain ⟨kk, rfl, hk0, hk1, rfl⟩ := hcut
        clear hbk HBK
        have HKB : Hid (0 ≤ kk ∧ kk < D2) := ⟨hk0, hk1⟩
        obtain ⟨H, hH⟩ : ∃ H, (xh (j + 1) : Int) = H := ⟨_, rfl⟩
        have hH2 := (xh_spec (n := j + 1) (by have := HM.out; omega)).2.1
        have hH0 : 0 ≤ H := by omega
        have hH80 : H ≤ 80 := by omega
        have HBD : Hid (updBd (evL j).length = 60 * (H + 2)) := by show _ = _; unfold updBd; rw [HLN.out, hH]
        have HHI : Hid (xhI ((j : Int) + 1) = H) := by show _ = _; rw [show (j : Int) + 1 = ((j + 1 : Nat) : Int) by omega, xhI_nat (by have := HM.out; omega)]; exact hH
        have HHT : Hid (∀ wx, Calls Try.prog 28 #[.int .i64 ((j : Int) + 1)] wx (Calm wx (.int .i64 H))) := fun wx => by rw [← HHI.out]; exact height_kit _ wx (by omega) (by have := HM.out; omega)
        clear hk0 hk1 hH hH2
        go_wp2_with fail
        refine HS4.out.reads.mono ?_
        rintro en w5 ⟨rfl, hs5⟩
        have HS5 := Lib.hid hs5
        clear hs5 HS4
        cases remove with
        | true =>
          obtain ⟨qq, hqq⟩ : ∃ q : Nat, kk.tdiv 2 = (q : Int) := by
            have := HKB.out.1
            rw [Int.tdiv_eq_ediv_of_nonneg this]
            exact ⟨(kk / 2).toNat, by omega⟩
          have hql : qq < j := by
            have h1 := HKB.out
            have h2 := HD.out.1
            have h3 := hqq
            rw [Int.tdiv_eq_ediv_of_nonneg h1.1] at h3
            omega
          have hqi : (qq : Int) < 1000 := by omega
          have hqw : IntKind.i64.wrap (qq : Int) = (qq : Int) := by rw [IntKind.wrap_i64]; omega
          have hqw2 : IntKind.i64.wrap ((qq : Int) * 2) = 2 * (qq : Int) := by rw [IntKind.wrap_i64]; omega
          have HGQ : Hid (getE (evL j) (2 * (qq : Int)) = some ⟨2 * (qq : Int), (qq : Int)⟩) := getE_found (evL_up j) (evL_in hql)
          have HQR : Hid (i64R (2 * (qq : Int))) := ⟨by omega, by omega⟩
          clear hql
          go_wp2_with fail
          refine (HS5.out.mut fun F hI => HK.out.delete (2 * (qq : Int)) _ hI HPL.out.inv HHM.out HTR.out (evL_wf HM.out.2) (by decide) (by decide) HQR.out).mono ?_
          rintro en w6 ⟨B, rd, ⟨h40, h41, hq⟩, hsn⟩
          rcases hq with ⟨q1, -⟩ | ⟨-, q2, -⟩ | ⟨-, -, z, uz, rfl, -, -, hle⟩
          · exact absurd (HGQ.out.symm.trans q1) (by simp)
          · exact absurd q2 (by rw [HLN.out]; have := HSP.out; have := HFR.out; omega)
          clear HS5
          have HS9 := Lib.hid hsn
          obtain ⟨FB, hFB⟩ : ∃ f, B.σ.free.length = f := ⟨_, rfl⟩
          have HFB : Hid (B.σ.free.length = FB ∧ FB ≤ sp) := ⟨hFB, by rw [← hFB, ← HFR.out.1]; exact hle⟩
          have hf1 : decide ((FB : Int) ≥ 0) = true := decide_eq_true (by omega)
          have hf3 : decide ((FB : Int) ≤ (sp : Int)) = true := decide_eq_true (by have := HFB.out.2; omega)
          have hf2 : decide (FB ≤ sp) = true := decide_eq_true HFB.out.2
          have hf4 : FB ≤ sp := HFB.out.2
          have hf0 : (0 : Int) ≤ (FB : Int) := by omega
          have hf5 : (FB : Int) ≤ (sp : Int) := by omega
          have HRD : Hid (0 ≤ rd ∧ rd ≤ 0 + 60 * (H + 2) ∧ rd ≤ 10000 ∧ 60 * (H + 2) ≤ 10000) := ⟨h40, by have := HBD.out; omega, by have := HBD.out; omega, by omega⟩
          clear hsn hFB hle h40 h41
          go_wp2_with fail
          refine HS9.out.free.mono ?_
          rintro en w10 ⟨rfl, hs10⟩
          rw [HFB.out.1]
          have HS10 := Lib.hid hs10
          clear hs10 HS9
          go_wp2_with fail
          refine HS10.out.free.mono ?_
          rintro en w11 ⟨rfl, hs11⟩
          rw [HFB.out.1]
          have HS11 := Lib.hid hs11
          clear hs11 HS10
          go_wp2_with fail
          refine (HHT.out _).mono ?_
          rintro en w12 ⟨rfl, hb12⟩
          have HS12 := Lib.hid (HS11.out.calm hb12)
          clear hb12 HS11
          go_wp2_with fail
          refine (within_any (most := 60 * (H + 2)) HS12.out.mr (Int.le_refl _) HRD.out.1 HRD.out.2.1 (by have := HRD.out; omega) (by have := HRD.out; omega)).mono ?_
          rintro en w13 ⟨rfl, hb13⟩
          have HB13 := Lib.hid ((HS12.out.calm hb13).below)
          clear hb13 HS12
          go_wp2_with fail
          go_ret
          exact ⟨rfl, HB13.out⟩
        | false =>
          have HQR : Hid (i64R kk ∧ i64R (-1)) := ⟨⟨by have := HKB.out; omega, by have := HKB.out; have := HD.out; omega⟩, ⟨by decide, by decide⟩⟩
          have HGN : Hid (getE (evL j) kk ≠ some ⟨kk, -1⟩) := fun h => by
            obtain ⟨i, _, h2⟩ := evL_mem ((getE_iff (evL_up j) kk ⟨kk, -1⟩).1 h).1
            have h3 : (-1 : Int) = (i : Int) := congrArg En.val h2
            omega
          go_wp2_with fail
          refine (HS5.out.mut fun F hI => HK.out.insert ⟨kk, -1⟩ _ hI HPL.out.inv HHM.out HTR.out (evL_wf HM.out.2) (by decide) (by decide) HQR.out.1 HQR.out.2).mono ?_
          rintro en w6 ⟨B, rd, ⟨h40, h41, hq⟩, hsn⟩
          rcases hq with ⟨q1, -⟩ | ⟨-, q2, -⟩ | ⟨-, -, z, uz, rfl, -, -, hle⟩
          · exact absurd q1 HGN.out
          · exact absurd q2 (by rw [HLN.out]; have := HSP.out; have := HFR.out; omega)
          clear HS5
          have HS9 := Lib.hid hsn
          obtain ⟨FB, hFB⟩ : ∃ f, B.σ.free.length = f := ⟨_, rfl⟩
          have HFB : Hid (B.σ.free.length = FB ∧ FB ≤ sp) := ⟨hFB, by rw [← hFB, ← HFR.out.1]; exact hle⟩
          have hf1 : decide ((FB : Int) ≥ 0) = true := decide_eq_true (by omega)
          have hf3 : decide ((FB : Int) ≤ (sp : Int)) = true := decide_eq_true (by have := HFB.out.2; omega)
          have hf2 : decide (FB ≤ sp) = true := decide_eq_true HFB.out.2
          have hf4 : FB ≤ sp := HFB.out.2
          have hf0 : (0 : Int) ≤ (FB : Int) := by omega
          have hf5 : (FB : Int) ≤ (sp : Int) := by omega
          have HRD : Hid (0 ≤ rd ∧ rd ≤ 0 + 60 * (H + 2) ∧ rd ≤ 10000 ∧ 60 * (H + 2) ≤ 10000) := ⟨h40, by have := HBD.out; omega, by have := HBD.out; omega, by omega⟩
          clear hsn hFB hle h40 h41
          go_wp2_with fail
          refine HS9.out.free.mono ?_
          rintro en w10 ⟨rfl, hs10⟩
          rw [HFB.out.1]
          have HS10 := Lib.hid hs10
          clear hs10 HS9
          go_wp2_with fail
          refine HS10.out.free.mono ?_
          rintro en w11 ⟨rfl, hs11⟩
          rw [HFB.out.1]
          have HS11 := Lib.hid hs11
          clear hs11 HS10
          go_wp2_with fail
          refine (HHT.out _).mono ?_
          rintro en w12 ⟨rfl, hb12⟩
          have HS12 := Lib.hid (HS11.out.calm hb12)
          clear hb12 HS11
          go_wp2_with fail
          refine (within_any (most := 60 * (H + 2)) HS12.out.mr (Int.le_refl _) HRD.out.1 HRD.out.2.1 (by have := HRD.out; omega) (by have := HRD.out; omega)).mono ?_
          rintro en w13 ⟨rfl, hb13⟩
          have HB13 := Lib.hid ((HS12.out.calm hb13).below)
          clear hb13 HS12
          go_wp2_with fail
          go_ret
          exact ⟨rfl, HB13.out⟩
end Go.Proofs.Ytckkmmdibgoajaa
