/- Of the proof of PkBulkCutsP: Bytes, Trees, RefNum, RefNode, Ens, RefNear, RefSub, RefTree, KitMod, LkCon, Scene, ScnMut, RefRsv, But. -/
import Derived.Test.YtnimbgcploohiaaGreatPk1
import Derived.Test.YtnimbgcploohiaaGreatPk2
import Derived.Test.YtnimbgcploohiaaGreatPk3
import Derived.Test.YtnimbgcploohiaaGreatPk4
import Derived.Test.YtnimbgcploohiaaGreatPk5
import Derived.Test.YtnimbgcploohiaaGreatPk6
import Derived.Lib.Zigzag
import Derived.Laws.BitsAllLaws
import Derived.Laws.Bits128
import Derived.RowKit
import Derived.Below
import Derived.Laws.OwnMore
import Derived.OwnWalk
import Derived.Deep.Draws
import Derived.Laws.BitsLemmas
import Derived.Laws.Rows
import Derived.Laws.CopyOwn
import Derived.Deep.DeepCutAuto
import Derived.RegionTactic
import Derived.Laws.NewBlocks
import Derived.Deep.QuietTactic
import Derived.Laws.AppendOwnNone
import Derived.Deep.RegionHeldLaw
import Derived.Deep.RegionHeld3
set_option linter.unusedVariables false
namespace Go.Proofs.YtnimbgcploohiaaGreat
open Go
theorem tmod_neg (n m : Int) (h : n < 0) (hm : 1 ≤ m) : n.tmod m = -((-n) % m) := by
  have : n = -(-n) := by omega
  rw [this, Int.neg_tmod, Int.tmod_eq_emod_of_nonneg (by omega)]
  simp
theorem mod_of_tmod (n m : Int) (h : n < 0) (hm : 1 ≤ m) : n % m = if n.tmod m < 0 then n.tmod m + m else n.tmod m := by
  have e := tmod_neg n m h hm
  have h1 := Int.emod_nonneg (-n) (b := m) (by omega)
  have h2 := Int.emod_lt_of_pos (-n) (b := m) (by omega)
  have h3 := Int.mul_ediv_add_emod (-n) m
  split
  · have : n = (m - (-n) % m) + m * (-((-n) / m) - 1) := by rw [Int.mul_sub, Int.mul_neg]; omega
    rw [e]
    rw [this, Int.add_mul_emod_self_left, Int.emod_eq_of_lt (by omega) (by omega), ← this]
    omega
  · have h0 : (-n) % m = 0 := by omega
    rw [e, h0]
    exact Int.emod_eq_zero_of_dvd ((Int.dvd_neg).1 (Int.dvd_of_emod_eq_zero h0))
end Go.Proofs.YtnimbgcploohiaaGreat
set_option linter.unusedVariables false
namespace Go.Proofs.YtnimbgcploohiaaGreat
open Go Go.RowKit
end Go.Proofs.YtnimbgcploohiaaGreat
set_option linter.unusedVariables false
namespace Go.Proofs.YtnimbgcploohiaaGreat
end Go.Proofs.YtnimbgcploohiaaGreat
set_option linter.unusedVariables false
namespace Go.Proofs.YtnimbgcploohiaaGreat
end Go.Proofs.YtnimbgcploohiaaGreat
set_option linter.unusedVariables false
namespace Go.Proofs.YtnimbgcploohiaaGreat
theorem Ar.above_le (A : Ar) (s : Option Int) : A.above s ≤ A.σ.cap := by
  unfold Ar.above
  exact Nat.le_trans (List.length_filter_le _ _) (by simp)
end Go.Proofs.YtnimbgcploohiaaGreat
set_option linter.unusedVariables false
set_option linter.unusedSimpArgs false
namespace Go.Proofs.YtnimbgcploohiaaGreat
open Go.RowKit
theorem below_chain7 {a b c : World} (h : Below a.heap.size a b) (h1 : Below b.heap.size b c) : Below a.heap.size a c := h.trans (h1.mono h.size)
def zero81 : Array Value := Array.replicate 81 (.int .i64 0)
/-- the weights up to height h, then zeros -/
def wtv (h : Nat) : Array Value := (Array.range 81).map fun j => .int .i64 (if j ≤ h then (wt j : Int) else 0)
theorem zero81_run : ∀ w, (zeroValue 119).run Tryz.prog w = .ok (.agg zero81) w := by
  have h : (Tryz.prog.info? 119).map (·.zero) = some (some (.agg zero81)) := by kernel_rfl
  intro w
  cases hi : Tryz.prog.info? 119 with
  | none => simp [hi] at h
  | some i =>
    have hz : i.zero = some (.agg zero81) := by simpa [hi] using h
    simp [zeroValue, typeInfo, hi, hz]
theorem wtv_size (h : Nat) : (wtv h).size = 81 := by simp [wtv]
theorem wtv_at (h j : Nat) (hj : j < 81) : (wtv h)[j]? = some (.int .i64 (if j ≤ h then (wt j : Int) else 0)) := by simp [wtv, hj]
theorem wtv_at2 (h j : Nat) : (wtv h)[j]? = if j < 81 then some (.int .i64 (if j ≤ h then (wt j : Int) else 0)) else none := by
  by_cases hj : j < 81
  · rw [if_pos hj]; exact wtv_at h j hj
  · rw [if_neg hj]; exact Array.getElem?_eq_none (by rw [wtv_size]; omega)
theorem zero81_at (j : Nat) : zero81[j]? = if j < 81 then some (.int .i64 0) else none := by
  by_cases hj : j < 81
  · rw [if_pos hj]; simp [zero81, hj]
  · rw [if_neg hj]; exact Array.getElem?_eq_none (by simp [zero81]; omega)
theorem wtv_zero : zero81.setIfInBounds 0 (.int .i64 1) = wtv 0 := by
  apply Array.ext_getElem?
  intro j
  rw [wtv_at2]
  by_cases e : 0 = j
  · subst e
    rw [Array.getElem?_setIfInBounds_self_of_lt (by simp [zero81])]
    rfl
  · rw [Array.getElem?_setIfInBounds_ne e, zero81_at]
    have h2 : ¬ j ≤ 0 := by omega
    rw [if_neg h2]
theorem wtv_step (h : Nat) (hh : h + 1 < 81) (v : Int) (hv : v = (wt (h + 1) : Int)) : (wtv h).setIfInBounds (h + 1) (.int .i64 v) = wtv (h + 1) := by
  subst hv
  apply Array.ext_getElem?
  intro j
  rw [wtv_at2]
  by_cases e : h + 1 = j
  · subst e
    rw [Array.getElem?_setIfInBounds_self_of_lt (by rw [wtv_size]; exact hh), if_pos hh, if_pos (Nat.le_refl _)]
  · rw [Array.getElem?_setIfInBounds_ne e, wtv_at2]
    by_cases e2 : j ≤ h
    · rw [if_pos e2, if_pos (show j ≤ h + 1 by omega)]
    · rw [if_neg e2, if_neg (show ¬ j ≤ h + 1 by omega)]
theorem wtv_one (h : Nat) : (wtv h).all (·.oneCell') = true := by
  rw [Array.all_eq_true]
  intro i h
  simp [wtv, Value.oneCell']
def WRel (w : World) (i : Value) (wr : World) : Prop :=
  ∃ k : Nat, k < 81 ∧ i = .int .i64 ((k : Int) + 1) ∧ wr.heap[w.heap.size]? = some (.cells zero81 119 (0, 0)) ∧ wr.heap[w.heap.size + 1]? = some (.cells (wtv k) 119 (0, 0)) ∧ Below w.heap.size w wr
theorem WRel.drew {w wr : World} {i : Value} (h : WRel w i wr) : WRel w i wr.drew := by
  obtain ⟨k, h1, h2, h3, h4, h5⟩ := h
  exact ⟨k, h1, h2, h3, h4, h5.drew⟩
set_option maxHeartbeats 1000000 in
set_option maxRecDepth 100000 in
theorem weights_any (w : World) : Calls Tryz.prog 85 #[] w fun e w' => e = .returned (.agg (wtv 80)) ∧ Below w.heap.size w w' := by
  have hz := zero81_run
  have hu : (Tryz.prog.underlying 119) = some (.array 81 3) := by kernel_rfl
  have hi : (Tryz.prog.info? 119).map (·.size) = some 81 := by kernel_rfl
  have HU := Lib.hid hu
  have HI := Lib.hid hi
  clear hu hi
  go_enter Tryz.func85, Tryz.ntmps85
  go_upto_region 2 with fail
  have hB0 : Below w.heap.size w ((w.alloc (Obj.cells zero81 119)).alloc (Obj.cells zero81 119)) := ((Below.refl _ _).alloc (Nat.le_refl _) _).alloc (by simp) _
  have h0 := heap_alloc2_old w (Obj.cells zero81 119) (Obj.cells zero81 119)
  have h1 := heap_alloc2_new w (Obj.cells zero81 119) (Obj.cells zero81 119)
  clear hz
  generalize (w.alloc (Obj.cells zero81 119)).alloc (Obj.cells zero81 119) = w1 at hB0 h0 h1 ⊢
  have hc0 : w1.cell? ⟨w.heap.size + 1, 0, none⟩ = some (.int .i64 0) := by rw [cell_of_row _ _ _ _ _ _ h1, zero81_at]; rfl
  have hf0 := frozen_of_row w1 (w.heap.size + 1) 0 zero81 _ h1
  have HR0 : Hid (WRel w (.int .i64 1) (w1.setCell ⟨w.heap.size + 1, 0, none⟩ (.int .i64 1))) := ⟨0, by omega, rfl, by
    rw [heap_setCell_other _ _ _ _ (by show w.heap.size ≠ w.heap.size + 1; omega)]
    exact h0, by rw [← wtv_zero]; exact heap_setCell_same w1 (w.heap.size + 1) 0 zero81 _ _ h1, hB0.setCell (by show w.heap.size ≤ w.heap.size + 1; omega) _⟩
  clear hB0 h0 h1
  go_wp2_with fail
  go_loopw [2] (fun i wr => WRel w i wr) (fun i _ => 81 - (intOf i).toNat)
  case atStart => exact HR0.out
  case round =>
    clear HR0 hc0 hf0
    obtain ⟨k, hk, rfl, h0, h1, hB⟩ := hrel
    by_cases hlt : k < 80
    · have hki : (k : Int) + 1 ≤ 80 := by omega
      have hk0 : (0 : Int) ≤ (k : Int) := by omega
      have HK : Hid (k < 80) := hlt
      have hwl : wt k < 1000000000000 := Nat.lt_of_le_of_lt (wt_mono (show k ≤ 80 by omega)) wt_small
      have hc1 : wr.cell? ⟨w.heap.size + 1, k, none⟩ = some (.int .i64 (wt k : Int)) := by
        rw [cell_of_row _ _ _ _ _ _ h1, wtv_at _ _ (by omega), if_pos (Nat.le_refl k)]
      have hc2 : wr.cell? ⟨w.heap.size + 1, k + 1, none⟩ = some (.int .i64 0) := by
        rw [cell_of_row _ _ _ _ _ _ h1, wtv_at _ _ (by omega), if_neg (by omega)]
      have hf2 := frozen_of_row wr (w.heap.size + 1) (k + 1) (wtv k) _ h1
      have HST : Hid (∀ v : Int, v = (wt (k + 1) : Int) → WRel w (.int .i64 ((k : Int) + 1 + 1)) (wr.setCell ⟨w.heap.size + 1, k + 1, none⟩ (.int .i64 v))) := fun v hv => ⟨k + 1, by omega, by congr 1, by
        rw [heap_setCell_other _ _ _ _ (by show w.heap.size ≠ w.heap.size + 1; omega)]
        exact h0, by rw [← wtv_step k (by omega) v hv]; exact heap_setCell_same wr (w.heap.size + 1) (k + 1) (wtv k) _ _ h1, hB.setCell (by show w.heap.size ≤ w.heap.size + 1; omega) _⟩
      have hw : ((wt (k + 1) : Nat) : Int) = (wt k : Int) + ((wt k : Int) + 2) / 3 := by rw [wt_succ]; omega
      have HW := Lib.hid hw
      clear hw
      generalize wt k = X at hc1 hwl HW
      have hX1 : IntKind.i64.wrap ((X : Int) + 2) = (X : Int) + 2 := by rw [IntKind.wrap_i64]; omega
      have hX2 : IntKind.i64.wrap ((X : Int) + ((X : Int) + 2) / 3) = (X : Int) + ((X : Int) + 2) / 3 := by rw [IntKind.wrap_i64]; omega
      have hk1 : (k : Int) + 1 - 1 = (k : Int) := by omega
      have HWL := Lib.hid hwl
      clear hB h0 h1 hwl hlt hk
      go_upto_region 6 with fail
      go_region
      have hv : wrap64 ((X : Int) + wrap64 (((X : Int) + 2).tdiv 3)) = (wt (k + 1) : Int) := by
        rw [HW.out, Int.tdiv_eq_ediv_of_nonneg (by omega)]
        have := HWL.out
        unfold wrap64
        omega
      have hst := HST.out _ hv
      clear HW HST
      generalize wrap64 ((X : Int) + wrap64 (((X : Int) + 2).tdiv 3)) = v at hst hv ⊢
      have HST := Lib.hid hst
      clear hst hv HWL
      go_wp2_with fail
      exact ⟨HST.out.drew, by simp [intOf]; omega⟩
    · obtain rfl : k = 80 := by omega
      have H0 := Lib.hid h0
      have H1 := Lib.hid h1
      have HB := Lib.hid hB
      clear h0 h1 hB hlt hk
      go_wp2_with (first | refine wpList_load_row rfl 119 (.tmp 1) rfl (w.heap.size + 1) rfl 119 (wtv 80) (0, 0) _ H1.out HU.out rfl (by rw [HI.out, wtv_size]) ?_ | refine wpList_store_row rfl 119 (.tmp 0) (.tmp 21) rfl w.heap.size (wtv 80) rfl rfl 119 zero81 H0.out (by rw [HI.out, wtv_size]) (by rw [wtv_size]; simp [zero81]) (wtv_one _) ?_)
      exact bodyPost_ret (v := .agg (wtv 80)) (results_cell_row rfl _ _ w.heap.size 119 (wtv 80) (0, 0) _ rfl (setRow_heap _ _ _ _ _ _ H0.out) HU.out rfl (by rw [HI.out, wtv_size])) rfl ⟨rfl, below_setRow HB.out (Nat.le_refl _) _⟩
set_option maxHeartbeats 1000000 in
set_option maxRecDepth 100000 in
theorem refMaxHeight_any (n : Int) (w : World) (h0 : -9223372036854775808 ≤ n) (h1 : n ≤ 9223372036854775807) : Calls Tryz.prog 48 #[.int .i64 n] w (Calm w (.int .i64 (xhI n))) := by
  by_cases hr : 0 ≤ n ∧ n ≤ 2147483647
  · obtain ⟨m, rfl⟩ := Int.eq_ofNat_of_zero_le hr.1
    have hm : (m : Int) ≤ 2147483647 := hr.2
    have hM : xhI (m : Int) = (xh m : Int) := by
      unfold xhI
      rw [if_pos hr, Int.toNat_natCast]
    have hg1 : decide ((m : Int) < 0) = false := decide_eq_false (by omega)
    have hg2 : decide ((2147483647 : Int) < (m : Int)) = false := decide_eq_false (by omega)
    have hz := zero81_run
    have hu : (Tryz.prog.underlying 119) = some (.array 81 3) := by kernel_rfl
    have hi : (Tryz.prog.info? 119).map (·.size) = some 81 := by kernel_rfl
    have HU := Lib.hid hu
    have HI := Lib.hid hi
    rw [hM]
    clear hM h0 h1 hr hu hi
    go_enter Tryz.func48, Tryz.ntmps48
    go_wp2_with fail
    refine (weights_any w).mono ?_
    rintro e w1 ⟨rfl, hb⟩
    have hnew := heap_alloc_new w1 (Obj.cells zero81 119)
    have HW1 := Lib.hid hnew
    have HB := Lib.hid (hb.trans ((below_new7 w1 (Obj.cells zero81 119)).mono hb.size))
    have hsz : w.heap.size ≤ w1.heap.size := hb.size
    clear hb hnew
    go_wp2_with (refine wpList_store_row rfl 119 (.tmp 3) (.tmp 11) rfl w1.heap.size (wtv 80) rfl rfl 119 zero81 HW1.out (by rw [HI.out, wtv_size]) (by rw [wtv_size]; simp [zero81]) (wtv_one _) ?_)
    have hrow : ((w1.alloc (Obj.cells zero81 119)).setRow w1.heap.size (wtv 80)).heap[w1.heap.size]? = some (.cells (wtv 80) 119 (0, 0)) := setRow_heap _ _ _ _ _ _ HW1.out
    have HBF : Hid (Below w.heap.size w ((w1.alloc (Obj.cells zero81 119)).setRow w1.heap.size (wtv 80))) := below_setRow HB.out hsz _
    have HROW := Lib.hid hrow
    clear hrow hsz hz
    generalize (w1.alloc (Obj.cells zero81 119)).setRow w1.heap.size (wtv 80) = w2 at HROW HBF ⊢
    generalize w1.heap.size = q at HROW ⊢
    clear HW1 HB
    have HST : Hid (xhF m 80 0 = xh m) := rfl
    go_loopw [4] (fun i wr => ∃ h : Nat, h ≤ 80 ∧ i = .int .i64 (h : Int) ∧ xhF m (80 - h) h = xh m ∧ wr = w2) (fun i _ => 80 - (intOf i).toNat)
    case atStart => exact ⟨0, Nat.zero_le _, rfl, HST.out, rfl⟩
    case round =>
      clear HST
      obtain ⟨h, hh, rfl, hx, rfl⟩ := hrel
      by_cases hlt : h < 80
      · have hc : wr.cell? ⟨q, h + 1, none⟩ = some (.int .i64 (wt (h + 1) : Int)) := by
          rw [cell_of_row _ _ _ _ _ _ HROW.out, wtv_at _ _ (by omega), if_pos (by omega)]
        have hwl : wt (h + 1) < 1000000000000 := Nat.lt_of_le_of_lt (wt_mono (show h + 1 ≤ 80 by omega)) wt_small
        have hwp := wt_pos (h + 1)
        have hd1 : decide ((h : Int) < 80) = true := decide_eq_true (by omega)
        have hhi : (h : Int) + 1 < 81 := by omega
        have hh0 : (0 : Int) ≤ (h : Int) + 1 := by omega
        have hht : ((h : Int) + 1).toNat = h + 1 := by omega
        have hw1 : IntKind.i64.wrap ((wt (h + 1) : Int) - 1) = (wt (h + 1) : Int) - 1 := by rw [IntKind.wrap_i64]; omega
        have HX := Lib.hid hx
        have HLT : Hid (h < 80) := hlt
        have HE : Hid (∀ f, xhF m (f + 1) h = if wt (h + 1) - 1 ≤ m then xhF m f (h + 1) else h) := fun f => rfl
        by_cases hle : wt (h + 1) - 1 ≤ m
        · have hd2 : decide ((wt (h + 1) : Int) - 1 ≤ (m : Int)) = true := decide_eq_true (by omega)
          have HX2 : Hid (xhF m (80 - (h + 1)) (h + 1) = xh m) := by
            have h1 := HE.out (80 - (h + 1))
            rw [if_pos hle] at h1
            rw [show 80 - (h + 1) + 1 = 80 - h by have := HLT.out; omega] at h1
            exact h1.symm.trans HX.out
          clear HX HE hle hwl hwp hlt hh hx
          generalize wt (h + 1) = X at hc hw1 hd2
          go_wp2_with fail
          exact ⟨⟨h + 1, by have := HLT.out; omega, by go_num, HX2.out, by first | rfl | trivial⟩, by have := HLT.out; simp [intOf]; omega⟩
        · have hd2 : decide ((wt (h + 1) : Int) - 1 ≤ (m : Int)) = false := decide_eq_false (by omega)
          have HX2 : Hid (h = xh m) := by
            have h1 := HE.out (80 - (h + 1))
            rw [if_neg hle] at h1
            rw [show 80 - (h + 1) + 1 = 80 - h by have := HLT.out; omega] at h1
            exact h1.symm.trans HX.out
          clear HX HE hle hwl hwp hlt hh hx
          generalize wt (h + 1) = X at hc hw1 hd2
          go_wp2_with fail
          go_ret
          exact ⟨by rw [← HX2.out]; rfl, HBF.out⟩
      · obtain rfl : h = 80 := by omega
        have HX2 : Hid (80 = xh m) := hx
        clear hx hlt hh
        go_wp2_with fail
        go_ret
        exact ⟨by rw [← HX2.out]; rfl, HBF.out⟩
  · have HM : xhI n = -1 := if_neg hr
    rw [HM]
    clear HM
    by_cases hn : n < 0
    · have g1 := decide_eq_true hn
      clear hr hn
      go_enter Tryz.func48, Tryz.ntmps48
      go_wp2
      go_ret
      exact ⟨rfl, Below.refl _ _⟩
    · have g1 := decide_eq_false hn
      have g2 : decide ((2147483647 : Int) < n) = true := decide_eq_true (by omega)
      clear hr hn
      go_enter Tryz.func48, Tryz.ntmps48
      go_wp2
      go_ret
      exact ⟨rfl, Below.refl _ _⟩
end Go.Proofs.YtnimbgcploohiaaGreat
set_option linter.unusedVariables false
set_option linter.unusedSimpArgs false
namespace Go.Proofs.YtnimbgcploohiaaGreat
open Go.RowKit
/-- the node at an index; a zero node where there is none -/
def Ar.nz (A : Ar) (i : Nat) : Nd := if A.σ.on i = true then A.nd i else Nd.zero
theorem ndRow_one (x : Nd) : (ndRow x).all (·.oneCell') = true := by simp [ndRow, Value.oneCell']
set_option maxHeartbeats 1000000 in
set_option maxRecDepth 100000 in
theorem refNode_any {w : World} {a b : Option Addr} {N c m d i : Nat} {A : Ar} (h : SlotsAt w a N A.sl) (hok : A.σ.Ok) (hN : A.σ.cap = N) (hi : i < 4294967296) :
    Calls Tryz.prog 54 #[.agg #[.slice a N c, .slice b m d], .int .u32 (i : Int)] w (Calm w (.agg (ndRow (A.nz i)))) := by
  have hcap := hok.cap2
  have hz : ∀ w, (zeroValue 65).run Tryz.prog w = .ok (.agg (ndRow Nd.zero)) w := by
    have h : (Tryz.prog.info? 65).map (·.zero) = some (some (.agg (ndRow Nd.zero))) := by kernel_rfl
    intro w
    cases hi : Tryz.prog.info? 65 with
    | none => simp [hi] at h
    | some i =>
      have hz : i.zero = some (.agg (ndRow Nd.zero)) := by simpa [hi] using h
      simp [zeroValue, typeInfo, hi, hz]
  have hin : (Tryz.prog.info? 65).map (·.size) = some 8 := by kernel_rfl
  have HI := Lib.hid hin
  have hal := al_on hok i
  obtain ⟨w1, hw1⟩ : ∃ w1, w1 = (w.alloc (Obj.cells #[Value.slice a N c, Value.slice b m d] 40)).alloc (Obj.cells (ndRow Nd.zero) 65) := ⟨_, rfl⟩
  have hb1 : Below w.heap.size w w1 := by rw [hw1]; exact ((Below.refl _ _).alloc (Nat.le_refl _) _).alloc (by simp) _
  have HB1 := Lib.hid hb1
  have hrow1 : w1.heap[w.heap.size + 1]? = some (.cells (ndRow Nd.zero) 65 (0, 0)) := by rw [hw1]; exact heap_alloc2_new w _ _
  have HR1 := Lib.hid hrow1
  have hbox : w1.heap[w.heap.size]? = some (.cells #[Value.slice a N c, Value.slice b m d] 40 (0, 0)) := by rw [hw1]; exact heap_alloc2_old w _ _
  obtain ⟨hc0, hc1⟩ := two_cells hbox
  have hs1 := h.below hb1
  have HS1 := Lib.hid hs1
  have HBOX := Lib.hid hbox
  have hcall := dallocated_any (b := b) (m := m) (d := d) (c := c) hs1 (by omega) hi
  have HC : Hid (Calls Tryz.prog 87 #[.agg #[.slice a N c, .slice b m d], .int .u32 (i : Int)] w1 (Calm w1 (.bool (A.σ.on i)))) := by
    have e : decide (1 ≤ i ∧ i ≤ N ∧ (A.sl (i - 1)).on = true) = A.σ.on i := by
      rw [← hN]
      have h2 : (1 ≤ i ∧ i ≤ A.σ.cap ∧ (A.sl (i - 1)).on = true) ↔ A.σ.on i = true := hal
      cases ho : A.σ.on i
      · exact decide_eq_false fun h3 => by rw [h2, ho] at h3; cases h3
      · exact decide_eq_true (h2.2 ho)
    rw [e] at hcall
    exact hcall
  clear hcall hal hs1 hrow1 hb1 hbox hin
  go_enter Tryz.func54, Tryz.ntmps54
  go_upto_region 1 with fail
  rw [← hw1]
  have HU : Hid _ := Lib.hid Tryz.underlying65
  have hq : w.heap.size + 1 < w1.heap.size := (Array.getElem?_eq_some_iff.1 HR1.out).1
  have hsz1 : w.heap.size ≤ w1.heap.size := by omega
  clear hw1 hz h
  go_wp2_with fail
  refine HC.out.mono ?_
  rintro e w2 ⟨rfl, hb2⟩
  have HR2 : Hid (w2.heap[w.heap.size + 1]? = some (.cells (ndRow Nd.zero) 65 (0, 0))) := (hb2.block _ hq).trans HR1.out
  have HB2 : Hid (Below w.heap.size w w2) := HB1.out.trans (hb2.mono hsz1)
  have hbox2 := (hb2.block w.heap.size (by omega)).trans HBOX.out
  obtain ⟨hc0, hc1⟩ := two_cells hbox2
  have hS2 := HS1.out.below hb2
  clear hbox2 hb2 hsz1 hq
  cases ho : A.σ.on i
  · have hnz : A.nz i = Nd.zero := by unfold Ar.nz; rw [ho]; rfl
    have HNZ := Lib.hid hnz
    clear hnz hS2 ho
    go_wp2_with (refine wpList_store_row rfl 65 (.tmp 4) (.tmp 9) rfl (w.heap.size + 1) (ndRow Nd.zero) rfl rfl 65 _ HR2.out HI.out rfl (ndRow_one _) ?_)
    exact bodyPost_ret (v := .agg (ndRow Nd.zero)) (results_cell_row rfl _ _ (w.heap.size + 1) 65 (ndRow Nd.zero) (0, 0) _ rfl (setRow_heap _ _ _ _ _ _ HR2.out) HU.out rfl HI.out) rfl ⟨by rw [HNZ.out], below_setRow HB2.out (Nat.le_succ _) _⟩
  · have hnz : A.nz i = A.nd i := by unfold Ar.nz; rw [ho]; rfl
    have h1 := hok.on i ho
    rw [hN] at h1
    obtain ⟨j, rfl⟩ : ∃ j, i = j + 1 := ⟨i - 1, by omega⟩
    obtain ⟨b', off, rfl, hlb, _, _, _, d3, d4, d5, d6, d7, d8, d9, d10⟩ := hS2.all (show j < N by omega)
    have e : (A.sl j).nd = A.nd (j + 1) := rfl
    rw [e] at d3 d4 d5 d6 d7 d8 d9 d10
    generalize A.nd (j + 1) = x at d3 d4 d5 d6 d7 d8 d9 d10 hnz
    have HNZ := Lib.hid hnz
    have hX1 : (1 : Int) ≤ ((j + 1 : Nat) : Int) := by omega
    obtain ⟨Xi, hXi⟩ : ∃ Y : Int, ((j + 1 : Nat) : Int) = Y := ⟨_, rfl⟩
    have hXw : IntKind.u32.wrap (Xi - 1) = Xi - 1 := by rw [IntKind.wrap_u32']; omega
    have hX2 : (Xi - 1).toNat = j := by omega
    have hX4 : Xi - 1 < (N : Int) := by omega
    have hX5 : (0 : Int) ≤ Xi - 1 := by omega
    rw [hXi] at hX1 ⊢
    clear hXi hnz hS2 ho h1 e hi
    go_wp2_with (refine wpList_store_row rfl 65 (.tmp 4) (.tmp 16) rfl (w.heap.size + 1) (ndRow x) rfl rfl 65 _ HR2.out HI.out rfl (ndRow_one _) ?_)
    exact bodyPost_ret (v := .agg (ndRow x)) (results_cell_row rfl _ _ (w.heap.size + 1) 65 (ndRow x) (0, 0) _ rfl (setRow_heap _ _ _ _ _ _ HR2.out) HU.out rfl HI.out) rfl ⟨by rw [HNZ.out], below_setRow HB2.out (Nat.le_succ _) _⟩
end Go.Proofs.YtnimbgcploohiaaGreat
set_option linter.unusedVariables false
set_option linter.unusedSimpArgs false
namespace Go.Proofs.YtnimbgcploohiaaGreat
open Go.RowKit
theorem ensV_len (l : List En) : (ensV l).length = l.length * 2 := by
  induction l with
  | nil => rfl
  | cons a t ih => simp only [ensV, List.flatMap_cons, List.length_append, List.length_cons] at ih ⊢; rw [ih]; simp [enV]; omega
theorem made_ens {w w' : World} {l : List En} {e : Ending} (h : MadeEns w l e w') (hw : ∀ e ∈ l, i64R e.key ∧ i64R e.val) {N : Nat} (hN : l.length = N) : ∃ a c, e = .returned (.slice a N c) ∧ EnsAt w' a l ∧ Below w.heap.size w w' := by
  subst hN
  obtain ⟨a, c, h1, h2, h3⟩ := h
  exact ⟨a, c, h1, ens_at h2 hw, h3⟩
end Go.Proofs.YtnimbgcploohiaaGreat
set_option linter.unusedVariables false
set_option linter.unusedSimpArgs false
namespace Go.Proofs.YtnimbgcploohiaaGreat
open Go.RowKit
theorem below_newL (w : World) (o : Obj) : Below w.heap.size w (w.alloc o) := (Below.refl _ _).alloc (Nat.le_refl _) _
end Go.Proofs.YtnimbgcploohiaaGreat
set_option linter.unusedVariables false
set_option linter.unusedSimpArgs false
namespace Go.Proofs.YtnimbgcploohiaaGreat
open Go.RowKit
end Go.Proofs.YtnimbgcploohiaaGreat
set_option linter.unusedVariables false
set_option linter.unusedSimpArgs false
namespace Go.Proofs.YtnimbgcploohiaaGreat
open Go.RowKit
theorem filt_succ {l : List En} {j : Nat} {e : En} (h : l[j]? = some e) (p : En → Bool) : (l.take (j + 1)).filter p = (l.take j).filter p ++ (if p e = true then [e] else []) := by
  obtain ⟨hj, he⟩ := List.getElem?_eq_some_iff.1 h
  rw [List.take_succ_eq_append_getElem hj, List.filter_append, he]
  congr 1
  cases hp : p e <;> simp [hp]
/-- a row of entries while it is gathered -/
def SubRel (w : World) (g : Nat → List En) (n : Nat) (x i : Value) (wr : World) : Prop :=
  ∃ j : Nat, i = .int .i64 (j : Int) ∧ j ≤ n ∧ ESt w.heap.size w (g j) x wr
theorem SubRel.start (w : World) (g : Nat → List En) (n : Nat) (hg : g 0 = []) : SubRel w g n (.slice none 0 0) (.int .i64 0) w := ⟨0, rfl, Nat.zero_le _, by rw [hg]; exact ESt.start w rfl⟩
theorem ESt.made {w w' : World} {l : List En} {v : Value} (h : ESt w.heap.size w l v w') : MadeEns w l (.returned v) w' := by
  obtain ⟨a, c, rfl⟩ := h.val
  exact ⟨a, c, rfl, h.row, h.below⟩
set_option maxHeartbeats 2000000 in
set_option maxRecDepth 100000 in
theorem between_any {w : World} {a : Option Addr} {n c : Nat} {l : List En} (lo hi : Int) (h : EnsAt w a l) (hn : l.length = n) (hl : n ≤ 1000000) :
    Calls Tryz.prog 11 #[.slice a n c, .int .i64 lo, .int .i64 hi] w (MadeEns w (betE l lo hi)) := by
  have HE := Lib.hid h
  have HN := Lib.hid hn
  have hni : (n : Int) ≤ 1000000 := by omega
  have HL := Lib.hid hl
  have HLEN : Hid (∀ j, (betE (l.take j) lo hi).length ≤ 1000000) := fun j => by
    have h1 := List.length_filter_le (fun e : En => decide (lo ≤ e.key ∧ e.key ≤ hi)) (l.take j)
    have h2 := List.length_take_le' j l
    show ((l.take j).filter _).length ≤ _
    omega
  have HS : Hid (∀ j e, l[j]? = some e → betE (l.take (j + 1)) lo hi = betE (l.take j) lo hi ++ (if lo ≤ e.key ∧ e.key ≤ hi then [e] else [])) := fun j e he => by
    have := filt_succ he fun e : En => decide (lo ≤ e.key ∧ e.key ≤ hi)
    simp only [decide_eq_true_eq] at this
    exact this
  have HLENB : Hid (∀ j, (betE (l.take j) lo hi).length ≤ 100000000) := fun j => Nat.le_trans (HLEN.out j) (by decide)
  have HR0 := Lib.hid (SubRel.start w (fun j => betE (l.take j) lo hi) n (by simp [betE]))
  clear h hn hl
  go_enter Tryz.func11, Tryz.ntmps11
  go_wp2_with fail
  go_loopw [7, 8] (fun x i wr => SubRel w (fun j => betE (l.take j) lo hi) n x i wr) (fun _ i _ => n - (intOf i).toNat)
  case atStart => exact HR0.out
  case round =>
    clear HR0
    obtain ⟨j, rfl, hj, hst⟩ := hrel
    replace hst : ESt w.heap.size w (betE (l.take j) lo hi) _ wr := hst
    have HST := Lib.hid hst
    have hj0 : (0 : Int) ≤ (j : Int) := by omega
    obtain ⟨xa, xc, rfl⟩ := hst.val
    clear hst
    by_cases hlt : j < n
    · have hji : (j : Int) < (n : Int) := by omega
      obtain ⟨e, he⟩ : ∃ e, l[j]? = some e := ⟨_, List.getElem?_eq_getElem (by have := HN.out; omega)⟩
      obtain ⟨b, off, rfl, hb, c0, c1⟩ := (HE.out.below HST.out.below).at he
      have hs := HS.out j e he
      have HX := Lib.hid hs
      have HLT := Lib.hid hlt
      clear hs he hb hlt hj
      by_cases h1 : lo ≤ e.key
      · have d1 : decide (lo ≤ e.key) = true := decide_eq_true h1
        by_cases h2 : e.key ≤ hi
        · have d2 : decide (e.key ≤ hi) = true := decide_eq_true h2
          have HY : Hid (betE (l.take (j + 1)) lo hi = betE (l.take j) lo hi ++ [e]) := by show _ = _; rw [HX.out, if_pos ⟨h1, h2⟩]
          clear h1 h2
          go_wp2_with (at_builtin; refine wpList_append_en rfl (.tmp 31) (.tmp 36) rfl (HST.out.from (below_newL _ _) rfl) rfl rfl e wr.heap.size rfl (cell_newE _ _ _) (HLENB.out j) ?_; intro v5 w5 hc5)
          exact ⟨⟨j + 1, by go_num, by have := HLT.out; omega, by show ESt _ _ (betE (l.take (j + 1)) lo hi) _ _; rw [HY.out]; exact hc5⟩, by have := HLT.out; simp [intOf]; omega⟩
        · have d2 : decide (e.key ≤ hi) = false := decide_eq_false h2
          have HY : Hid (betE (l.take (j + 1)) lo hi = betE (l.take j) lo hi) := by show _ = _; rw [HX.out, if_neg (fun h => h2 h.2), List.append_nil]
          clear h1 h2
          go_wp2_with fail
          exact ⟨⟨j + 1, by go_num, by have := HLT.out; omega, by show ESt _ _ (betE (l.take (j + 1)) lo hi) _ _; rw [HY.out]; exact HST.out⟩, by have := HLT.out; simp [intOf]; omega⟩
      · have d1 : decide (lo ≤ e.key) = false := decide_eq_false h1
        have HY : Hid (betE (l.take (j + 1)) lo hi = betE (l.take j) lo hi) := by show _ = _; rw [HX.out, if_neg (fun h => h1 h.1), List.append_nil]
        clear h1
        go_wp2_with fail
        exact ⟨⟨j + 1, by go_num, by have := HLT.out; omega, by show ESt _ _ (betE (l.take (j + 1)) lo hi) _ _; rw [HY.out]; exact HST.out⟩, by have := HLT.out; simp [intOf]; omega⟩
    · have hji : ¬ (j : Int) < (n : Int) := by omega
      have HK : Hid (betE (l.take j) lo hi = betE l lo hi) := by show _ = _; rw [List.take_of_length_le (by have := HN.out; omega)]
      clear hj hlt
      go_wp2_with fail
      go_ret
      rw [← HK.out]
      first
        | exact HST.out.made
        | (have := HST.out.made; simp only [List.length_take] at this; exact this)
theorem ensV_app (l m : List En) : ensV (l ++ m) = ensV l ++ ensV m := by simp [ensV]
theorem ensV_ones (l : List En) : ∀ u ∈ ensV l, u.oneCell' = true := by
  intro u hu
  obtain ⟨e, he, h⟩ := List.mem_flatMap.1 hu
  exact en_one e u h
theorem add_atE (b off j : Nat) : (⟨b, off, none⟩ : Addr).add j = ⟨b, off + j, none⟩ := by simp [Addr.add]
section
variable {Z : Nat} {w2 w w' : World} {l : List En} {v v' : Value}
theorem step_append_en {ops : Array Oper} {o : Oper} {a : Act} {K : Act → World → Prop} {Q : Exit → Act → World → Prop} {E : Prop} (hgd : o.guard = none) (s x : Operand)
    (ho : o.op = .call { callee := .builtin .append, args := #[s, x], argTypes := #[22, 22] })
    (hc : ESt Z w2 l v w) (hZ : w2.heap.size = Z) (hs : a.eval s = v) (e : En) (g : Nat) (hx : a.eval x = .slice (some ⟨g, 0, none⟩) 1 1)
    (hn : ∀ j u, (enV e)[j]? = some u → w.cell? ((⟨g, 0, none⟩ : Addr).add j) = some u) (hl : l.length ≤ 100000000)
    (h : ∀ v' w', ESt Z w2 (l ++ [e]) v' w' → w.grownBy w' v.ownBlock → K (a.put o.dst v') w') : if Region.wanted o (yielded ops a.tmps) = true then Oper.wp Tryz.prog o a w K Q else E := by
  have hw : Region.wanted o (yielded ops a.tmps) = true := by simp [Region.wanted, hgd]
  rw [if_pos hw]
  obtain ⟨i, ji, jz0, jz1, jz2⟩ := info_parts enInfo
  refine wp_append_own w s x 22 ho Z 34 i (.agg #[.int .i64 0, .int .i64 0]) 2 16 Tryz.underlying22 ji jz0 jz1 jz2 rfl (by decide) v l.length (ensV l) hs hc.row ⟨g, 0, none⟩ 1 1 (enV e) hx rfl hn (en_one e) (by unfold maxLen; omega) (by omega) (by have := hc.below.size; omega) ?_
  intro v' w' ho' hg _
  refine h v' w' ?_ hg
  obtain ⟨a', c', hv⟩ := row_val ho'
  refine ⟨⟨a', c', by rw [List.length_append]; exact hv⟩, ?_, hc.below.grown hg (by have := hc.below.size; omega) (row_from hc.row)⟩
  rw [List.length_append, ensV_snoc]
  exact ho'
end
/-- append of a row of entries to a row of the call's own -/
theorem wpList_append_rowE {ops : Array Oper} {rest : List Oper} {o : Oper} {a : Act} {w w2 : World} {Q : Exit → Act → World → Prop} {Z B : Nat} {l0 l : List En} {v : Value} (hgd : o.guard = none) (s x : Operand)
    (ho : o.op = .call { callee := .builtin .append, args := #[s, x], argTypes := #[22, 22] })
    (hc : ESt Z w2 l0 v w) (hZ : w2.heap.size = Z) (hs : a.eval s = v) (ad : Option Addr) (c m : Nat) (hm : l.length = m) (hx : a.eval x = .slice ad m c) (hrow : w.ownsRow B 34 2 (.slice ad m c) m (ensV l)) (hl : l0.length + m ≤ 100000000)
    (h : ∀ v' w', ESt Z w2 (l0 ++ l) v' w' → wpList Tryz.prog ops Q rest (a.put o.dst v') w') : wpList Tryz.prog ops Q (o :: rest) a w := by
  obtain ⟨i, ji, jz0, jz1, jz2⟩ := info_parts enInfo
  subst hm
  rcases hrow.2 with ⟨hv, hn⟩ | ⟨g, cap, cur, hv, hB, hcc, hn, hcm, hss, htt⟩
  · have hl0 : l = [] := List.eq_nil_of_length_eq_zero (by omega)
    rw [hv] at hx
    refine wpList_append_own_none hgd s x 22 ho Z 34 i 2 Tryz.underlying22 ji v l0.length (ensV l0) hs hc.row hx ?_
    exact h v w (by rw [hl0, List.append_nil]; exact hc)
  · simp only [Value.slice.injEq] at hv
    obtain ⟨rfl, _, _⟩ := hv
    refine wpList_append_own _ hgd s x 22 ho Z 34 i (.agg #[.int .i64 0, .int .i64 0]) 2 16 Tryz.underlying22 ji jz0 jz1 jz2 rfl (by decide) v l0.length (ensV l0) hs hc.row ⟨g, 0, none⟩ l.length c (ensV l) hx (ensV_len l) (fun j u hu => ?_) (ensV_ones l) (by unfold maxLen; omega) (by omega) (by have := hc.below.size; omega) ?_
    · have hj : j < l.length * 2 := by have := (List.getElem?_eq_some_iff.1 hu).1; rwa [ensV_len] at this
      rw [add_atE, Nat.zero_add, hrow.cellAt j hj, hu]
    · intro v' w' ho' hg _
      refine h v' w' ?_
      obtain ⟨a', c', hv⟩ := row_val ho'
      refine ⟨⟨a', c', by rw [List.length_append]; exact hv⟩, ?_, hc.below.grown hg (by have := hc.below.size; omega) (row_from hc.row)⟩
      rw [List.length_append, ensV_app]
      exact ho'
theorem below_alT {w0 w : World} (h : Below w0.heap.size w0 w) (o : Obj) : Below w0.heap.size w0 (w.alloc o) := h.trans ((below_newL w o).mono h.size)
end Go.Proofs.YtnimbgcploohiaaGreat
set_option linter.unusedVariables false
set_option linter.unusedSimpArgs false
namespace Go.Proofs.YtnimbgcploohiaaGreat
open Go.RowKit
def ListSpec (A : Ar) (i : Nat) (t : Tr) : Prop := ∀ (w : World) (a b : Option Addr) (N c m d : Nat), A.σ.cap = N → SlotsAt w a N A.sl → t.size ≤ 1000000 →
  Calls Tryz.prog 55 #[.agg #[.slice a N c, .slice b m d], .int .u32 (i : Int)] w (MadeEns w (t.ents A.nd))
set_option maxHeartbeats 4000000 in
set_option maxRecDepth 100000 in
theorem listT_node {A : Ar} {i : Nat} {l r : Tr} (hok : A.σ.Ok) (h0 : i ≠ 0) (h1 : A.σ.on i = true) (ihl : ListSpec A (A.nd i).left l) (ihr : ListSpec A (A.nd i).right r) : ListSpec A i (.node i l r) := by
  intro w a b N c m d hN hS hsz
  have hi := hok.on i h1
  have hcap := hok.cap2
  have hi32 : i < 4294967296 := by omega
  have hne0 : ((i : Int) == 0) = false := by simp; omega
  have HI := Lib.hid hi32
  have HOK := Lib.hid hok
  have HON := Lib.hid h1
  have HN := Lib.hid hN
  have hsz2 : (Tr.node i l r).size = l.size + r.size + 1 := rfl
  have HSZ : Hid (l.size ≤ 1000000 ∧ r.size ≤ 1000000) := ⟨by omega, by omega⟩
  have hb1 := below_newL w (Obj.cells #[.slice a N c, .slice b m d] 40)
  have hx1 := heap_alloc_new w (Obj.cells #[.slice a N c, .slice b m d] 40)
  have hS1 := hS.below hb1
  have hg1 : w.heap.size < (w.alloc (Obj.cells #[.slice a N c, .slice b m d] 40)).heap.size := by simp
  have HL := Lib.hid ihl
  have HR := Lib.hid ihr
  clear hN hS hsz hsz2 ihl ihr hok h1 hi hcap hi32
  go_enter Tryz.func55, Tryz.ntmps55
  go_upto_region 1 with fail
  generalize w.alloc (Obj.cells #[.slice a N c, .slice b m d] 40) = w1 at hb1 hx1 hS1 hg1 ⊢
  generalize w.heap.size = g at hx1 hg1 ⊢
  have HB1 := Lib.hid hb1
  have HX1 := Lib.hid hx1
  have HS1 := Lib.hid hS1
  have HG1 := Lib.hid hg1
  obtain ⟨q0, q1⟩ := two_cells hx1
  clear hb1 hx1 hS1 hg1
  go_wp2_with fail
  refine (refNode_any (b := b) (m := m) (d := d) (c := c) HS1.out HOK.out HN.out HI.out).mono ?_
  rintro e w2 ⟨rfl, hb2⟩
  have hnz : A.nz i = A.nd i := by unfold Ar.nz; rw [HON.out]; rfl
  rw [hnz]
  have HB2 : Hid (Below w1.heap.size w1 w2) := hb2
  clear hnz q0 q1 hb2
  unfold ndRow
  have hb4 := below_newL w2 (Obj.cells (ndRow (A.nd i)) 65)
  have hn4 := heap_alloc_new w2 (Obj.cells (ndRow (A.nd i)) 65)
  have hg4 : w2.heap.size < (w2.alloc (Obj.cells (ndRow (A.nd i)) 65)).heap.size := by simp
  go_upto_region 4 with fail
  rw [show #[Value.int .i64 (A.nd i).key, .int .i64 (A.nd i).val, .int .u32 ((A.nd i).left : Int), .int .u32 ((A.nd i).right : Int), .int .i64 (A.nd i).size, .int .i64 (A.nd i).sum, .int .i64 (A.nd i).mn, .int .i64 (A.nd i).mx] = ndRow (A.nd i) from rfl]
  have HB4 : Hid (Below w1.heap.size w1 (w2.alloc (Obj.cells (ndRow (A.nd i)) 65))) := HB2.out.trans (hb4.mono HB2.out.size)
  generalize w2.alloc (Obj.cells (ndRow (A.nd i)) 65) = w4 at hn4 hg4 HB4 ⊢
  generalize w2.heap.size = gn at hn4 hg4 ⊢
  have HN4 := Lib.hid hn4
  have HG4 := Lib.hid hg4
  clear hb4 hn4 hg4 HB2
  obtain ⟨kx, hkx⟩ : ∃ x, (A.nd i).key = x := ⟨_, rfl⟩
  obtain ⟨vx, hvx⟩ : ∃ x, (A.nd i).val = x := ⟨_, rfl⟩
  obtain ⟨lx, hlx⟩ : ∃ x, (A.nd i).left = x := ⟨_, rfl⟩
  obtain ⟨rx, hrx⟩ : ∃ x, (A.nd i).right = x := ⟨_, rfl⟩
  have HENT : Hid ((Tr.node i l r).ents A.nd = l.ents A.nd ++ ⟨kx, vx⟩ :: r.ents A.nd) := by show _ = _; rw [Tr.ents_node, hkx, hvx]
  have HC : Hid (∀ wx, Below w4.heap.size w4 wx → (wx.cell? ⟨g, 0, none⟩ = some (.slice a N c) ∧ wx.cell? ⟨g, 1, none⟩ = some (.slice b m d)) ∧ (wx.cell? ⟨gn, 0, none⟩ = some (.int .i64 kx) ∧ wx.cell? ⟨gn, 1, none⟩ = some (.int .i64 vx) ∧ wx.cell? ⟨gn, 2, none⟩ = some (.int .u32 (lx : Int)) ∧ wx.cell? ⟨gn, 3, none⟩ = some (.int .u32 (rx : Int))) ∧ SlotsAt wx a N A.sl ∧ Below w.heap.size w wx) := fun wx hb => by
    have hb' : Below w1.heap.size w1 wx := HB4.out.trans (hb.mono HB4.out.size)
    have hq := (hb'.block g HG1.out).trans HX1.out
    have hn := (hb.block gn HG4.out).trans HN4.out
    subst hkx hvx hlx hrx
    exact ⟨two_cells hq, ⟨by rw [cell_of_row _ _ _ _ _ _ hn]; rfl, by rw [cell_of_row _ _ _ _ _ _ hn]; rfl, by rw [cell_of_row _ _ _ _ _ _ hn]; rfl, by rw [cell_of_row _ _ _ _ _ _ hn]; rfl⟩, HS1.out.below hb', HB1.out.trans (hb'.mono HB1.out.size)⟩
  rw [hlx] at HL
  rw [hrx] at HR
  have HLE : Hid ((l.ents A.nd).length ≤ 1000000 ∧ (r.ents A.nd).length ≤ 1000000) := ⟨by rw [Tr.ents_len]; exact HSZ.out.1, by rw [Tr.ents_len]; exact HSZ.out.2⟩
  clear hkx hvx hlx hrx
  obtain ⟨L1, hL1⟩ : ∃ L, l.ents A.nd = L := ⟨_, rfl⟩
  obtain ⟨L2, hL2⟩ : ∃ L, r.ents A.nd = L := ⟨_, rfl⟩
  rw [hL1, hL2] at HENT HLE
  have HL1 := Lib.hid hL1
  have HL2 := Lib.hid hL2
  clear hL1 hL2
  go_cut [6] (fun s6 wx => ∃ v, s6 = v ∧ ESt w4.heap.size w4 (L1 ++ [⟨kx, vx⟩]) v wx)
  case first =>
    have hS0 : Below w4.heap.size w4 w4.drew := (Below.refl _ _).drew
    obtain ⟨⟨q0, q1⟩, ⟨n0, n1, n2, n3⟩, -, -⟩ := HC.out _ hS0
    have HCALL : Hid (∀ wx, Below w4.heap.size w4 wx → Calls Tryz.prog 55 #[.agg #[.slice a N c, .slice b m d], .int .u32 (lx : Int)] wx (fun e wL => ∃ xa xc, e = .returned (.slice xa L1.length xc) ∧ ESt w4.heap.size w4 L1 (.slice xa L1.length xc) wL ∧ Below wx.heap.size wx wL)) := fun wx hww => by
      refine (HL.out _ a b N c m d HN.out (HC.out _ hww).2.2.1 HSZ.out.1).mono ?_
      rintro e wL ⟨xa, xc, rfl, hrowL, hbL⟩
      rw [HL1.out] at hrowL ⊢
      exact ⟨xa, xc, rfl, ⟨⟨xa, xc, rfl⟩, row_mono hrowL hww.size, hww.trans (hbL.mono hww.size)⟩, hbL⟩
    have HKEEP : Hid (∀ w', Below w4.heap.size w4 w' → Below w4.heap.size w4 w' ∧ w'.cell? ⟨g, 0, none⟩ = some (.slice a N c) ∧ w'.cell? ⟨g, 1, none⟩ = some (.slice b m d) ∧ w'.cell? ⟨gn, 0, none⟩ = some (.int .i64 kx) ∧ w'.cell? ⟨gn, 1, none⟩ = some (.int .i64 vx) ∧ w'.cell? ⟨gn, 2, none⟩ = some (.int .u32 (lx : Int)) ∧ w'.cell? ⟨gn, 3, none⟩ = some (.int .u32 (rx : Int))) := fun w' hb => by
      have hz := HC.out w' hb
      exact ⟨hb, hz.1.1, hz.1.2, hz.2.1.1, hz.2.1.2.1, hz.2.1.2.2.1, hz.2.1.2.2.2⟩
    go_region_held3 (fun w' => Below w4.heap.size w4 w' ∧ w'.cell? ⟨g, 0, none⟩ = some (.slice a N c) ∧ w'.cell? ⟨g, 1, none⟩ = some (.slice b m d) ∧ w'.cell? ⟨gn, 0, none⟩ = some (.int .i64 kx) ∧ w'.cell? ⟨gn, 1, none⟩ = some (.int .i64 vx) ∧ w'.cell? ⟨gn, 2, none⟩ = some (.int .u32 (lx : Int)) ∧ w'.cell? ⟨gn, 3, none⟩ = some (.int .u32 (rx : Int))) ((refine HKEEP.out _ ?_; repeat (first | with_reducible assumption | with_reducible exact Below.refl _ _ | with_reducible refine Below.drew ?_ | with_reducible refine below_alT ?_ _))) (first
      | (go_at_call 55; refine (HCALL.out _ (by repeat (first | with_reducible assumption | with_reducible exact Below.refl _ _ | with_reducible refine Below.drew ?_ | with_reducible refine below_alT ?_ _))).mono ?_; rintro e wL ⟨xa, xc, rfl, hEL, hbL⟩; have hSL := hEL.below; obtain ⟨⟨q0, q1⟩, ⟨n0, n1, n2, n3⟩, -, -⟩ := HC.out _ hSL)
      | (refine step_append_en rfl (.tmp 15) (.tmp 21) rfl (hEL.from (below_newL _ _) rfl) rfl rfl ⟨kx, vx⟩ _ rfl (cell_newE _ _ _) (Nat.le_trans HLE.out.1 (by decide)) ?_; intro v5 w5 hc5 hg5; have hS5 := hc5.below; obtain ⟨⟨q0, q1⟩, ⟨n0, n1, n2, n3⟩, -, -⟩ := HC.out _ hS5)
      | (refine step_append_en rfl (.tmp 15) (.tmp 21) rfl hEL rfl rfl ⟨kx, vx⟩ _ rfl (fun j u hu => (hbL.cell (by simp [Addr.add]; split <;> exact Nat.lt_succ_self _)).trans (cell_newE _ ⟨kx, vx⟩ _ j u hu)) (Nat.le_trans HLE.out.1 (by decide)) ?_; intro v5 w5 hc5 hg5; have hS5 := hc5.below; obtain ⟨⟨q0, q1⟩, ⟨n0, n1, n2, n3⟩, -, -⟩ := HC.out _ hS5))
    all_goals (go_wp2_with fail; go_meet; exact ⟨_, rfl, hc5⟩)
  case' rest =>
    rename World => w5
    obtain ⟨v5, h6, hc5⟩ := hcut
    subst h6
    obtain ⟨xa, xc, hv5⟩ := hc5.val
    have HE5 := Lib.hid hc5
    obtain ⟨⟨q0, q1⟩, ⟨n0, n1, n2, n3⟩, hsl5, -⟩ := HC.out w5 hc5.below
    have HSL5 := Lib.hid hsl5
    have HLB : Hid ((L1 ++ [(⟨kx, vx⟩ : En)]).length + L2.length ≤ 100000000) := by
      have h := HLE.out
      show _ ≤ _
      rw [List.length_append]
      simp only [List.length_cons, List.length_nil]
      omega
    obtain ⟨n1', hn1⟩ : ∃ k, (L1 ++ [(⟨kx, vx⟩ : En)]).length = k := ⟨_, rfl⟩
    obtain ⟨n2', hn2⟩ : ∃ k, L2.length = k := ⟨_, rfl⟩
    rw [hn1] at hv5
    have HN2 := Lib.hid hn2
    rw [hv5] at HE5
    subst hv5
    clear hc5 hsl5 hn1 hn2
    go_wp2_with fail
    refine (HR.out w5 a b N c m d HN.out HSL5.out HSZ.out.2).mono ?_
    rintro e w6 ⟨ya, yc, rfl, hrow6, hb6⟩
    rw [HL2.out, HN2.out] at hrow6 ⊢
    have HE6 := Lib.hid (HE5.out.from hb6 rfl)
    have HRW6 := Lib.hid hrow6
    clear hrow6 hb6 q0 q1 n0 n1 n2 n3
    go_wp2_with (at_builtin; refine wpList_append_rowE rfl (.tmp 23) (.tmp 27) rfl HE6.out rfl rfl ya yc n2' HN2.out rfl HRW6.out (by have := HLB.out; have := HN2.out; omega) ?_; intro v7 w7 hc7)
    go_ret
    obtain ⟨za, zc, rfl⟩ := hc7.val
    have hfin : L1 ++ [(⟨kx, vx⟩ : En)] ++ L2 = (Tr.node i l r).ents A.nd := by rw [HENT.out]; simp
    have hbw := (HC.out w7 hc7.below).2.2.2
    rw [← hfin]
    exact ⟨za, zc, rfl, row_mono hc7.row ((HC.out w4 (Below.refl _ _)).2.2.2).size, hbw⟩
set_option maxHeartbeats 4000000 in
set_option maxRecDepth 100000 in
theorem listT_nil (A : Ar) : ListSpec A 0 .nil := by
  intro w a b N c m d hN hS hsz
  have hb1 := below_newL w (Obj.cells #[.slice a N c, .slice b m d] 40)
  have HB1 := Lib.hid hb1
  clear hb1
  go_enter Tryz.func55, Tryz.ntmps55
  go_wp2_with fail
  go_ret
  exact ⟨none, 0, rfl, World.ownsRow_nil _ _ _ _, HB1.out⟩
/-- List of the reference reads a subtree in order. -/
theorem listT_any {A : Ar} {i : Nat} {t : Tr} (hok : A.σ.Ok) (hs : Sub A i t) : ListSpec A i t := by
  induction hs with
  | nil => exact listT_nil A
  | node i l r h0 h1 _ _ ihl ihr => exact listT_node hok h0 h1 ihl ihr
end Go.Proofs.YtnimbgcploohiaaGreat
set_option linter.unusedVariables false
namespace Go.Proofs.YtnimbgcploohiaaGreat
open Go.RowKit
/-- the remainder that is never negative -/
theorem mod_any (n m : Int) (w : World) (h1 : -9223372036854775808 ≤ n) (h2 : n ≤ 9223372036854775807) (h3 : 1 ≤ m) (h4 : m ≤ 9223372036854775807) :
    Calls Tryz.prog 10 #[.int .i64 n, .int .i64 m] w fun e w' => e = .returned (.int .i64 (n % m)) ∧ w = w' := by
  by_cases h : 0 ≤ n
  · have hb := Int.emod_nonneg n (b := m) (by omega)
    have hc := Int.emod_lt_of_pos n (b := m) (by omega)
    go_enter Tryz.func10, Tryz.ntmps10
    go_wp2
    go_ret
    exact ⟨rfl, rfl⟩
  · have e := mod_of_tmod n m (by omega) h3
    have hb : -m < n.tmod m ∧ n.tmod m ≤ 0 := by
      rw [tmod_neg n m (by omega) h3]
      have h5 := Int.emod_nonneg (-n) (b := m) (by omega)
      have h6 := Int.emod_lt_of_pos (-n) (b := m) (by omega)
      omega
    obtain ⟨hb1, hb2⟩ := hb
    have H := Lib.hid e
    clear e
    go_enter Tryz.func10, Tryz.ntmps10
    go_wp2
    · have hlt : n.tmod m < 0 := by assumption
      go_ret
      exact ⟨ret_int (by rw [H.out, if_pos hlt]), rfl⟩
    · have hlt : 0 ≤ n.tmod m := by assumption
      go_ret
      exact ⟨ret_int (by rw [H.out, if_neg (by omega)]), rfl⟩
end Go.Proofs.YtnimbgcploohiaaGreat
set_option linter.unusedVariables false
set_option linter.unusedSimpArgs false
namespace Go.Proofs.YtnimbgcploohiaaGreat
open Go.RowKit
section
variable {I : AImpl} {B : Nat} {w0 w w' : World} {p : Value} {A : Ar} {rd : Int} {G : Nat → Prop}
theorem mr_reads (h : MR I B w0 w p A rd G) : Calls Tryz.prog 14 #[p] w (Quiet w (.int .u64 rd)) := by
  obtain ⟨F, h1, _⟩ := h.has
  exact I.reads p A rd F w h1
end
theorem height_kit (n : Int) (w : World) (h0 : 0 ≤ n) (h1 : n ≤ 2147483647) : Calls Tryz.prog 18 #[.int .i64 n] w (Calm w (.int .i64 (xhI n))) := by
  have HC := Lib.hid (refMaxHeight_any n w (by omega) (by omega))
  clear h0 h1
  go_enter Tryz.func18, Tryz.ntmps18
  go_wp2_with fail
  refine HC.out.mono ?_
  rintro e w1 ⟨rfl, hb⟩
  have HB := Lib.hid hb
  clear hb
  go_wp2_with fail
  go_ret
  exact ⟨rfl, HB.out⟩
theorem within_any {I : AImpl} {B : Nat} {w0 w : World} {p : Value} {A : Ar} {rd since most : Int} {G : Nat → Prop} (h : MR I B w0 w p A rd G) (h0 : 0 ≤ since) (h1 : since ≤ rd) (h2 : rd ≤ since + most) (h3 : rd ≤ 4398046511104) (h4 : most ≤ 1000000) :
    Calls Tryz.prog 17 #[p, .int .u64 since, .int .i64 most] w (Calm w (.bool true)) := by
  obtain ⟨F, hI, _⟩ := h.has
  obtain ⟨pa, rfl⟩ := I.ptr hI
  have HMR := Lib.hid h
  have hge : decide (since ≤ rd) = true := decide_eq_true h1
  have hw1 : IntKind.u64.wrap (rd - since) = rd - since := by rw [IntKind.wrap_u64]; omega
  have hw2 : IntKind.u64.wrap most = most := by rw [IntKind.wrap_u64]; omega
  have hle : decide (rd - since ≤ most) = true := decide_eq_true (by omega)
  clear h hI h0 h1 h2 h3 h4
  go_enter Tryz.func17, Tryz.ntmps17
  go_wp2_with fail
  refine (mr_reads HMR.out).mono ?_
  rintro e w1 ⟨rfl, q1, rfl⟩
  have hb1 : Below w.heap.size w (w.drewN q1) := below_drewN (Below.refl _ _) q1
  have HM1 := Lib.hid (HMR.out.calm hb1)
  have HB1 := Lib.hid hb1
  clear hb1 HMR
  generalize w.drewN q1 = w1 at HM1 HB1 ⊢
  go_wp2_with fail
  refine (mr_reads HM1.out).mono ?_
  rintro e w2 ⟨rfl, q2, rfl⟩
  have HB2 : Hid (Below w.heap.size w (w1.drewN q2)) := HB1.out.trans ((below_drewN (Below.refl _ _) q2).mono HB1.out.size)
  generalize w1.drewN q2 = w2 at HB2 ⊢
  go_wp2_with fail
  go_ret
  exact ⟨rfl, HB2.out⟩
end Go.Proofs.YtnimbgcploohiaaGreat
set_option linter.unusedVariables false
set_option linter.unusedSimpArgs false
namespace Go.Proofs.YtnimbgcploohiaaGreat
open Go.RowKit
section
variable {I : AImpl} {B : Nat} {w0 w w' : World} {p : Value} {A : Ar} {rd rd' : Int} {rs : List Row} {bs : List (Nat × Obj)}
/-- a row that was made -/
theorem Scn.row (h : Scn I B w0 w p A rd rs bs) (hb : Below w.heap.size w w') {e : TypeId} {s n : Nat} {v : Value} {xs : List Value} (hr : w'.ownsRow w.heap.size e s v n xs) : Scn I B w0 w' p A rd (⟨e, s, v, n, xs⟩ :: rs) bs := by
  have h' := h.calm hb
  refine ⟨h.mr.fresh hb fun k hk => ?_, fun r hr' => ?_, h'.boxes, List.pairwise_cons.2 ⟨fun r hr' k hk e' => ?_, h.rr⟩, h.bb, fun r hr' b hb' => ?_⟩
  · rcases hk with ⟨r, hr', hk⟩ | hk
    · rcases List.mem_cons.1 hr' with rfl | hr'
      · exact .inr (row_lt hr k hk)
      · exact .inl (.inl ⟨r, hr', hk⟩)
    · exact .inl (.inr hk)
  · rcases List.mem_cons.1 hr' with rfl | hr'
    · exact row_mono hr h.mr.hB
    · exact h'.rows r hr'
  · have h1 := (row_lt hr k hk).1
    have h2 := h.lt (.inl ⟨r, hr', e'⟩)
    omega
  · rcases List.mem_cons.1 hr' with rfl | hr'
    · intro e'
      have h1 := (row_lt hr _ e').1
      have h2 := h.lt (.inr ⟨b, hb', rfl⟩)
      omega
    · exact h.rb r hr' b hb'
theorem Scn.less {rs' : List Row} {bs' : List (Nat × Obj)} (h : Scn I B w0 w p A rd rs bs) (h1 : rs'.Sublist rs) (h2 : bs'.Sublist bs) : Scn I B w0 w p A rd rs' bs' :=
  ⟨h.mr.less fun k hk => by (rcases hk with ⟨r, hr, hk⟩ | ⟨b, hb, hk⟩; exact .inl ⟨r, h1.subset hr, hk⟩; exact .inr ⟨b, h2.subset hb, hk⟩), fun r hr => h.rows r (h1.subset hr), fun b hb => h.boxes b (h2.subset hb), h.rr.sublist h1, h.bb.sublist h2, fun r hr b hb => h.rb r (h1.subset hr) b (h2.subset hb)⟩
theorem Scn.reads (h : Scn I B w0 w p A rd rs bs) : Calls Tryz.prog 14 #[p] w fun e w' => e = .returned (.int .u64 rd) ∧ Scn I B w0 w' p A rd rs bs := by
  refine (mr_reads h.mr).mono ?_
  rintro e w1 ⟨he, q, rfl⟩
  exact ⟨he, h.calm (below_drewN (Below.refl _ _) q)⟩
/-- two rows that were made by one call -/
theorem Scn.row2 (h : Scn I B w0 w p A rd rs bs) (hb : Below w.heap.size w w') {e e' : TypeId} {s s' n n' : Nat} {v v' : Value} {xs xs' : List Value} (hr : w'.ownsRow w.heap.size e s v n xs) (hr2 : w'.ownsRow w.heap.size e' s' v' n' xs') (hne : ∀ k, v'.ownBlock = some k → v.ownBlock ≠ some k) :
    Scn I B w0 w' p A rd (⟨e', s', v', n', xs'⟩ :: ⟨e, s, v, n, xs⟩ :: rs) bs := by
  have h1 := h.row hb hr
  refine ⟨h.mr.fresh hb fun k hk => ?_, fun r hr' => ?_, h1.boxes, List.pairwise_cons.2 ⟨fun r hr' k hk e' => ?_, h1.rr⟩, h.bb, fun r hr' b hb' => ?_⟩
  · rcases hk with ⟨r, hr', hk⟩ | hk
    · rcases List.mem_cons.1 hr' with rfl | hr'
      · exact .inr (row_lt hr2 k hk)
      · rcases List.mem_cons.1 hr' with rfl | hr'
        · exact .inr (row_lt hr k hk)
        · exact .inl (.inl ⟨r, hr', hk⟩)
    · exact .inl (.inr hk)
  · rcases List.mem_cons.1 hr' with rfl | hr'
    · exact row_mono hr2 h.mr.hB
    · exact h1.rows r hr'
  · rcases List.mem_cons.1 hr' with rfl | hr'
    · exact hne k hk e'
    · have h2 := (row_lt hr2 k hk).1
      have h3 := h.lt (.inl ⟨r, hr', e'⟩)
      omega
  · rcases List.mem_cons.1 hr' with rfl | hr'
    · intro e'
      have h2 := (row_lt hr2 _ e').1
      have h3 := h.lt (.inr ⟨b, hb', rfl⟩)
      omega
    · exact h1.rb r hr' b hb'
theorem Scn.dump (h : Scn I B w0 w p A rd rs bs) : Calls Tryz.prog 13 #[p] w
    fun e w' => ∃ a c b d, e = .returned (.agg #[.slice a A.σ.cap c, .slice b A.σ.free.length d]) ∧ Scn I B w0 w' p A rd (⟨28, 1, .slice b A.σ.free.length d, A.σ.free.length, u32s A.σ.free⟩ :: ⟨77, 11, .slice a A.σ.cap c, A.σ.cap, slotsV A⟩ :: rs) bs ∧ Below w.heap.size w w' := by
  obtain ⟨F, h1, _⟩ := h.mr.has
  refine (I.dump p A rd F w h1).mono ?_
  rintro e w1 ⟨a, c, b, d, rfl, hr1, hr2, hb⟩
  exact ⟨a, c, b, d, rfl, h.row2 hb hr1 hr2 (row_ne (by decide) hr2 hr1), hb⟩
end
end Go.Proofs.YtnimbgcploohiaaGreat
set_option linter.unusedVariables false
set_option linter.unusedSimpArgs false
namespace Go.Proofs.YtnimbgcploohiaaGreat
open Go.RowKit
section
variable {I : AImpl} {B : Nat} {w0 w w' : World} {p : Value} {A : Ar} {rd rd' : Int} {rs : List Row} {bs : List (Nat × Obj)}
theorem Scn.free (h : Scn I B w0 w p A rd rs bs) : Calls Tryz.prog 19 #[p] w fun e w' => e = .returned (.int .i64 (A.σ.free.length : Int)) ∧ Scn I B w0 w' p A rd rs bs := by
  obtain ⟨F, f1, f2, f3⟩ := h.mr.has
  refine (I.freeN p A rd F w f1).mono ?_
  rintro e w1 ⟨h3, q, h4⟩
  exact ⟨h3, by subst h4; exact h.calm (below_drewN (Below.refl _ _) _)⟩
end
/-- a dump's rows, later -/
theorem Scn.slots_of {I : AImpl} {B : Nat} {w0 w : World} {p : Value} {A A0 : Ar} {rd : Int} {rs : List Row} {bs : List (Nat × Obj)} {st : List Nat} {held : Nat → Nat} {a : Option Addr} {c N : Nat} (h : Scn I B w0 w p A rd rs bs) (hv : A0.Inv st held) (hN : A0.σ.cap = N) (hm : (⟨77, 11, .slice a N c, N, slotsV A0⟩ : Row) ∈ rs) : SlotsAt w a N A0.sl := by
  subst hN
  exact slots_at hv (h.rows _ hm)
end Go.Proofs.YtnimbgcploohiaaGreat
set_option linter.unusedVariables false
set_option linter.unusedSimpArgs false
namespace Go.Proofs.YtnimbgcploohiaaGreat
open Go.RowKit
set_option maxHeartbeats 1000000 in
set_option maxRecDepth 100000 in
theorem refNeed_any (a b c more extra factor : Int) (w : World) (hb : in64 a ∧ in64 b ∧ in64 c) (hm : 0 ≤ more ∧ more ≤ 1) (hx : vld a → vld b → vld c → 0 ≤ extra ∧ extra ≤ 1000000) (hf : 0 ≤ factor ∧ factor ≤ 12) :
    Calls Tryz.prog 29 #[.int .i64 a, .int .i64 b, .int .i64 c, .int .i64 more, .int .i64 extra, .int .i64 factor] w (Calm w (.int .i64 (needI a b c more extra factor))) := by
  obtain ⟨hba, hbb, hbc⟩ := hb
  have h7 : decide (a < 0) = true ∨ (decide (a < 0) = false ∧ decide (65536 < a) = true) ∨ (decide (a < 0) = false ∧ decide (65536 < a) = false ∧ decide (b < 0) = true) ∨ (decide (a < 0) = false ∧ decide (65536 < a) = false ∧ decide (b < 0) = false ∧ decide (65536 < b) = true) ∨
      (decide (a < 0) = false ∧ decide (65536 < a) = false ∧ decide (b < 0) = false ∧ decide (65536 < b) = false ∧ decide (c < 0) = true) ∨ (decide (a < 0) = false ∧ decide (65536 < a) = false ∧ decide (b < 0) = false ∧ decide (65536 < b) = false ∧ decide (c < 0) = false ∧ decide (65536 < c) = true) ∨
      (decide (a < 0) = false ∧ decide (65536 < a) = false ∧ decide (b < 0) = false ∧ decide (65536 < b) = false ∧ decide (c < 0) = false ∧ decide (65536 < c) = false) := by
    simp only [decide_eq_true_eq, decide_eq_false_iff_not]
    omega
  have HB : Hid ((decide (a < 0) = true ∨ decide (65536 < a) = true ∨ decide (b < 0) = true ∨ decide (65536 < b) = true ∨ decide (c < 0) = true ∨ decide (65536 < c) = true) → needI a b c more extra factor = -1) := fun h => by
    unfold needI
    rw [if_neg]
    rintro ⟨⟨a1, a2⟩, ⟨b1, b2⟩, ⟨c1, c2⟩⟩
    simp only [decide_eq_true_eq] at h
    omega
  rcases h7 with h1 | ⟨h1, h2⟩ | ⟨h1, h2, h3⟩ | ⟨h1, h2, h3, h4⟩ | ⟨h1, h2, h3, h4, h5⟩ | ⟨h1, h2, h3, h4, h5, h6⟩ | ⟨h1, h2, h3, h4, h5, h6⟩
  · have HE : Hid (needI a b c more extra factor = -1) := HB.out (.inl h1)
    clear hba hbb hbc hm hx hf HB
    go_enter Tryz.func29, Tryz.ntmps29
    go_wp2_with fail
    go_ret
    exact ⟨by rw [HE.out]; rfl, Below.refl _ _⟩
  · have HE : Hid (needI a b c more extra factor = -1) := HB.out (.inr (.inl h2))
    clear hba hbb hbc hm hx hf HB
    go_enter Tryz.func29, Tryz.ntmps29
    go_wp2_with fail
    go_ret
    exact ⟨by rw [HE.out]; rfl, Below.refl _ _⟩
  · have HE : Hid (needI a b c more extra factor = -1) := HB.out (.inr (.inr (.inl h3)))
    clear hba hbb hbc hm hx hf HB
    go_enter Tryz.func29, Tryz.ntmps29
    go_wp2_with fail
    go_ret
    exact ⟨by rw [HE.out]; rfl, Below.refl _ _⟩
  · have HE : Hid (needI a b c more extra factor = -1) := HB.out (.inr (.inr (.inr (.inl h4))))
    clear hba hbb hbc hm hx hf HB
    go_enter Tryz.func29, Tryz.ntmps29
    go_wp2_with fail
    go_ret
    exact ⟨by rw [HE.out]; rfl, Below.refl _ _⟩
  · have HE : Hid (needI a b c more extra factor = -1) := HB.out (.inr (.inr (.inr (.inr (.inl h5)))))
    clear hba hbb hbc hm hx hf HB
    go_enter Tryz.func29, Tryz.ntmps29
    go_wp2_with fail
    go_ret
    exact ⟨by rw [HE.out]; rfl, Below.refl _ _⟩
  · have HE : Hid (needI a b c more extra factor = -1) := HB.out (.inr (.inr (.inr (.inr (.inr h6)))))
    clear hba hbb hbc hm hx hf HB
    go_enter Tryz.func29, Tryz.ntmps29
    go_wp2_with fail
    go_ret
    exact ⟨by rw [HE.out]; rfl, Below.refl _ _⟩
  · have hva : vld a := ⟨by have := of_decide_eq_false h1; omega, by have := of_decide_eq_false h2; omega⟩
    have hvb : vld b := ⟨by have := of_decide_eq_false h3; omega, by have := of_decide_eq_false h4; omega⟩
    have hvc : vld c := ⟨by have := of_decide_eq_false h5; omega, by have := of_decide_eq_false h6; omega⟩
    have HE : Hid (needI a b c more extra factor = extra + factor * (xhI (a + b + c + more) + 2)) := if_pos ⟨hva, hvb, hvc⟩
    have hxx := hx hva hvb hvc
    obtain ⟨a1, a2⟩ := hva
    obtain ⟨b1, b2⟩ := hvb
    obtain ⟨c1, c2⟩ := hvc
    have w1 : IntKind.i64.wrap (a + b) = a + b := by rw [IntKind.wrap_i64]; omega
    have w2 : IntKind.i64.wrap (a + b + c) = a + b + c := by rw [IntKind.wrap_i64]; omega
    have w3 : IntKind.i64.wrap (a + b + c + more) = a + b + c + more := by rw [IntKind.wrap_i64]; omega
    have HR : Hid (in64 (a + b + c + more)) := ⟨by omega, by omega⟩
    have hX := xhI_in (n := a + b + c + more) (by omega) (by omega)
    have HXR := Lib.hid hX
    have HFX : Hid (0 ≤ factor ∧ factor ≤ 12 ∧ 0 ≤ extra ∧ extra ≤ 1000000) := ⟨hf.1, hf.2, hxx.1, hxx.2⟩
    clear hba hbb hbc hm hx hf HB hxx hX a1 a2 b1 b2 c1 c2
    go_enter Tryz.func29, Tryz.ntmps29
    go_wp2_with fail
    refine (refMaxHeight_any (a + b + c + more) w HR.out.1 HR.out.2).mono ?_
    rintro e w5 ⟨rfl, hb5⟩
    have HB5 := Lib.hid hb5
    generalize xhI (a + b + c + more) = X at HE HXR ⊢
    have w4 : IntKind.i64.wrap (X + 2) = X + 2 := by rw [IntKind.wrap_i64]; have := HXR.out; omega
    have w5' : IntKind.i64.wrap (factor * (X + 2)) = factor * (X + 2) := by
      have h1 := HXR.out
      have h2 := HFX.out
      have h3 : 0 ≤ factor * (X + 2) := Int.mul_nonneg h2.1 (by omega)
      have h4 : factor * (X + 2) ≤ 12 * 82 := Int.mul_le_mul h2.2.1 (by omega) (by omega) (by decide)
      rw [IntKind.wrap_i64]; omega
    have w6' : IntKind.i64.wrap (extra + factor * (X + 2)) = extra + factor * (X + 2) := by
      have h1 := HXR.out
      have h2 := HFX.out
      have h3 : 0 ≤ factor * (X + 2) := Int.mul_nonneg h2.1 (by omega)
      have h4 : factor * (X + 2) ≤ 12 * 82 := Int.mul_le_mul h2.2.1 (by omega) (by omega) (by decide)
      rw [IntKind.wrap_i64]; omega
    clear hb5
    go_wp2_with fail
    go_ret
    exact ⟨by rw [HE.out]; rfl, HB5.out⟩
theorem in0 : in64 0 := ⟨by decide, by decide⟩
theorem refSplit_any (n : Int) (w : World) (hn : in64 n) : Calls Tryz.prog 6 #[.int .i64 n] w (Calm w (.int .i64 (splitI n))) := by
  have HC := Lib.hid (refNeed_any n 0 0 0 0 12 w ⟨hn, in0, in0⟩ ⟨by decide, by decide⟩ (fun _ _ _ => ⟨by decide, by decide⟩) ⟨by decide, by decide⟩)
  clear hn
  go_enter Tryz.func6, Tryz.ntmps6
  go_wp2_with fail
  refine HC.out.mono ?_
  rintro e w1 ⟨rfl, hb1⟩
  have HB := Lib.hid hb1
  clear hb1
  go_wp2_with fail
  go_ret
  exact ⟨rfl, HB.out⟩
end Go.Proofs.YtnimbgcploohiaaGreat
set_option linter.unusedVariables false
namespace Go.Proofs.YtnimbgcploohiaaGreat
open Go.RowKit
structure But (q : Nat) (w w' : World) : Prop where
  os : w'.os = w.os
  tape : w'.tape = w.tape
  output : w'.output = w.output
  size : w.heap.size ≤ w'.heap.size
  block : ∀ k, k < w.heap.size → k ≠ q → w'.heap[k]? = w.heap[k]?
section
variable {q : Nat} {w w' w0 : World}
theorem But.refl (q : Nat) (w : World) : But q w w := ⟨rfl, rfl, rfl, Nat.le_refl _, fun _ _ _ => rfl⟩
theorem But.trans {w1 : World} (h : But q w w1) (h' : But q w1 w') : But q w w' :=
  ⟨h'.os.trans h.os, h'.tape.trans h.tape, h'.output.trans h.output, Nat.le_trans h.size h'.size, fun k hk hne => (h'.block k (Nat.lt_of_lt_of_le hk h.size) hne).trans (h.block k hk hne)⟩
theorem But.of_below (h : Below w.heap.size w w') : But q w w' := ⟨h.os, h.tape, h.output, h.size, fun k hk _ => h.block k hk⟩
theorem But.belowB {B : Nat} (h : But q w w') (hq : B ≤ q) (hB : B ≤ w.heap.size) : Below B w w' := ⟨h.os, h.tape, h.output, h.size, fun k hk => h.block k (by omega) (by omega)⟩
theorem But.set (w : World) (o : Nat) (v : Value) : But q w (w.setCell ⟨q, o, none⟩ v) := by
  have hb : Below q w (w.setCell ⟨q, o, none⟩ v) := (Below.refl q w).setCell (Nat.le_refl _) _
  exact ⟨hb.os, hb.tape, hb.output, hb.size, fun k hk hne => heap_setCell_other _ _ _ _ hne⟩
theorem But.row (h : But q w w') {k : Nat} {o : Obj} (hk : w.heap[k]? = some o) (hne : k ≠ q) : w'.heap[k]? = some o := (h.block k (Array.getElem?_eq_some_iff.1 hk).1 hne).trans hk
theorem SlotsAt.but {a : Option Addr} {n : Nat} {S : Nat → Sl} (h : SlotsAt w a n S) (hb : But q w w') (hq : ∀ b off, a = some ⟨b, off, none⟩ → b ≠ q) : SlotsAt w' a n S := by
  refine ⟨fun i hi => ?_, h.kid⟩
  obtain ⟨b, off, ha, hlt, hc⟩ := h.cell i hi
  refine ⟨b, off, ha, Nat.lt_of_lt_of_le hlt hb.size, fun j v hv => ?_⟩
  rw [← hc j v hv]
  exact World.cell?_of_block (w := w) (a := ⟨b, off + i * 11 + j, none⟩) (hb.block b hlt (hq b off ha))
end
end Go.Proofs.YtnimbgcploohiaaGreat
