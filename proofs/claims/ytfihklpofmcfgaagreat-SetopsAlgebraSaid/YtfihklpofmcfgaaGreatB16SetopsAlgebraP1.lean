/- Of the proof of B16SetopsAlgebraP: Bytes, Base, PlayPure, RefNum, RefNear, RefSub, KitMod, Scene, RefRsv, JnAw, JnDuo, RefOut, Near, InsPath, UpPl0, SetPl, UpCon, SetAlg, BalW, RsOk, JnCat, UpN, UpOk1. -/
import Derived.Test.YtfihklpofmcfgaaGreatB1612
import Derived.Lib.Zigzag
import Derived.Laws.BitsAllLaws
import Derived.Laws.Bits128
import Derived.RowKit
import Derived.Below
import Derived.Laws.OwnMore
import Derived.OwnWalk
import Derived.Deep.Draws
import Derived.Test.YtfihklpofmcfgaaGreatRows
import Derived.WalkKit
import Derived.WalkSpells
import Derived.WalkLawsBesides
import Derived.ProofKit
import Derived.Outline
import Derived.Lib.Hide
import Derived.BigQuiet
import Derived.Deep.QuietTactic
import Derived.OpenShut
import Derived.Laws.Rows
import Derived.Laws.CopyOwn
import Derived.Deep.DeepCutAuto
import Derived.RegionTactic
import Derived.Laws.AppendOwnNone
import Derived.Deep.RegionHeldLaw
import Derived.Deep.RegionHeld3
set_option linter.unusedVariables false
namespace Go.Proofs.YtfihklpofmcfgaaGreat
open Go
theorem tmod_neg (n m : Int) (h : n < 0) (hm : 1 ≤ m) : n.tmod m = -((-n) % m) := by
  have : n = -(-n) := by omega
  rw [this, Int.neg_tmod, Int.tmod_eq_emod_of_nonneg (by omega)]
  simp
theorem mod_of_tmod (n m : Int) (h : n < 0) (hm : 1 ≤ m) : n % m = if n.tmod m < 0 then n.tmod m + m else n.tmod m := by
  have e := tmod_neg n m h hm
  have h1 := Int.emod_nonneg (-n) (b := m) (by omega)
  have h2 := Int.emod_lt_of_pos (-n) (b := m) (by omega)
  have h3 := Int.mul_ediv_add_emod (-n) m
  split
  · have : n = (m - (-n) % m) + m * (-((-n) / m) - 1) := by rw [Int.mul_sub, Int.mul_neg]; omega
    rw [e]
    rw [this, Int.add_mul_emod_self_left, Int.emod_eq_of_lt (by omega) (by omega), ← this]
    omega
  · have h0 : (-n) % m = 0 := by omega
    rw [e, h0]
    exact Int.emod_eq_zero_of_dvd ((Int.dvd_neg).1 (Int.dvd_of_emod_eq_zero h0))
end Go.Proofs.YtfihklpofmcfgaaGreat
namespace Go.Proofs.YtfihklpofmcfgaaGreat
open Go Go.RowKit
end Go.Proofs.YtfihklpofmcfgaaGreat
namespace Go.Proofs.YtfihklpofmcfgaaGreat
open Go.RowKit
theorem wf_u64 {n : Int} (h : (Lit.int .u64 n).wf = true) : 0 ≤ n ∧ n < 18446744073709551616 := by have := bounds_u64 h; omega
end Go.Proofs.YtfihklpofmcfgaaGreat
namespace Go.Proofs.YtfihklpofmcfgaaGreat
theorem count_erase {l : List Nat} {k : Nat} (h : k < l.length) (j : Nat) : l.count j = (l.take k ++ l.drop (k + 1)).count j + if l.getD k 0 = j then 1 else 0 := by
  have e : l = l.take k ++ l.getD k 0 :: l.drop (k + 1) := by
    rw [List.getD_eq_getElem?_getD, List.getElem?_eq_getElem h]
    simp
  have e2 : l.count j = (l.take k ++ l.getD k 0 :: l.drop (k + 1)).count j := congrArg (List.count j) e
  rw [e2, List.count_append, List.count_append, List.count_cons]
  by_cases e3 : l.getD k 0 = j
  · rw [if_pos e3, if_pos (by simpa using e3)]; omega
  · rw [if_neg e3, if_neg (by simpa using e3)]; omega
theorem hof_erase0 {l : List Nat} {k : Nat} (h : k < l.length) (h0 : l.getD k 0 = 0) : hof (l.take k ++ l.drop (k + 1)) = hof l := by
  funext j
  unfold hof
  split
  · rfl
  · rename_i hj
    rw [count_erase h j, h0, if_neg (fun e => hj e.symm)]
    rfl
theorem hof_erase {l : List Nat} {k i : Nat} (h : k < l.length) (hi : l.getD k 0 = i) (h0 : i ≠ 0) : hof (l.take k ++ l.drop (k + 1)) = less (hof l) i := by
  funext j
  show (if j = 0 then 0 else (l.take k ++ l.drop (k + 1)).count j) = (if j = i then (if i = 0 then 0 else l.count i) - 1 else (if j = 0 then 0 else l.count j))
  have hc := count_erase h j
  rw [hi] at hc
  by_cases hj : j = 0
  · subst hj; rw [if_pos rfl, if_neg (fun e => h0 e.symm), if_pos rfl]
  · rw [if_neg hj]
    by_cases e : j = i
    · subst e; rw [if_pos rfl] at hc; rw [if_pos rfl, if_neg hj]; omega
    · rw [if_neg (fun e2 => e e2.symm)] at hc; rw [if_neg e, if_neg hj]; omega
end Go.Proofs.YtfihklpofmcfgaaGreat
set_option linter.unusedSimpArgs false
namespace Go.Proofs.YtfihklpofmcfgaaGreat
open Go.RowKit
def zero81 : Array Value := Array.replicate 81 (.int .i64 0)
/-- the weights up to height h, then zeros -/
def wtv (h : Nat) : Array Value := (Array.range 81).map fun j => .int .i64 (if j ≤ h then (wt j : Int) else 0)
theorem zero81_run : ∀ w, (zeroValue 154).run Tryz.prog w = .ok (.agg zero81) w := by
  have h : (Tryz.prog.info? 154).map (·.zero) = some (some (.agg zero81)) := by kernel_rfl
  intro w
  cases hi : Tryz.prog.info? 154 with
  | none => simp [hi] at h
  | some i =>
    have hz : i.zero = some (.agg zero81) := by simpa [hi] using h
    simp [zeroValue, typeInfo, hi, hz]
theorem wtv_size (h : Nat) : (wtv h).size = 81 := by simp [wtv]
theorem wtv_at (h j : Nat) (hj : j < 81) : (wtv h)[j]? = some (.int .i64 (if j ≤ h then (wt j : Int) else 0)) := by simp [wtv, hj]
theorem wtv_at2 (h j : Nat) : (wtv h)[j]? = if j < 81 then some (.int .i64 (if j ≤ h then (wt j : Int) else 0)) else none := by
  by_cases hj : j < 81
  · rw [if_pos hj]; exact wtv_at h j hj
  · rw [if_neg hj]; exact Array.getElem?_eq_none (by rw [wtv_size]; omega)
theorem zero81_at (j : Nat) : zero81[j]? = if j < 81 then some (.int .i64 0) else none := by
  by_cases hj : j < 81
  · rw [if_pos hj]; simp [zero81, hj]
  · rw [if_neg hj]; exact Array.getElem?_eq_none (by simp [zero81]; omega)
theorem wtv_zero : zero81.setIfInBounds 0 (.int .i64 1) = wtv 0 := by
  apply Array.ext_getElem?
  intro j
  rw [wtv_at2]
  by_cases e : 0 = j
  · subst e
    rw [Array.getElem?_setIfInBounds_self_of_lt (by simp [zero81])]
    rfl
  · rw [Array.getElem?_setIfInBounds_ne e, zero81_at]
    have h2 : ¬ j ≤ 0 := by omega
    rw [if_neg h2]
theorem wtv_step (h : Nat) (hh : h + 1 < 81) (v : Int) (hv : v = (wt (h + 1) : Int)) : (wtv h).setIfInBounds (h + 1) (.int .i64 v) = wtv (h + 1) := by
  subst hv
  apply Array.ext_getElem?
  intro j
  rw [wtv_at2]
  by_cases e : h + 1 = j
  · subst e
    rw [Array.getElem?_setIfInBounds_self_of_lt (by rw [wtv_size]; exact hh), if_pos hh, if_pos (Nat.le_refl _)]
  · rw [Array.getElem?_setIfInBounds_ne e, wtv_at2]
    by_cases e2 : j ≤ h
    · rw [if_pos e2, if_pos (show j ≤ h + 1 by omega)]
    · rw [if_neg e2, if_neg (show ¬ j ≤ h + 1 by omega)]
theorem wtv_one (h : Nat) : (wtv h).all (·.oneCell') = true := by
  rw [Array.all_eq_true]
  intro i h
  simp [wtv, Value.oneCell']
def WRel (w : World) (i : Value) (wr : World) : Prop :=
  ∃ k : Nat, k < 81 ∧ i = .int .i64 ((k : Int) + 1) ∧ wr.heap[w.heap.size]? = some (.cells zero81 154 (0, 0)) ∧ wr.heap[w.heap.size + 1]? = some (.cells (wtv k) 154 (0, 0)) ∧ Below w.heap.size w wr
theorem WRel.drew {w wr : World} {i : Value} (h : WRel w i wr) : WRel w i wr.drew := by
  obtain ⟨k, h1, h2, h3, h4, h5⟩ := h
  exact ⟨k, h1, h2, h3, h4, h5.drew⟩
set_option maxHeartbeats 1000000 in
set_option maxRecDepth 100000 in
theorem weights_any (w : World) : Calls Tryz.prog 108 #[] w fun e w' => e = .returned (.agg (wtv 80)) ∧ Below w.heap.size w w' := by
  have hz := zero81_run
  have hu : (Tryz.prog.underlying 154) = some (.array 81 3) := by kernel_rfl
  have hi : (Tryz.prog.info? 154).map (·.size) = some 81 := by kernel_rfl
  have HU := Lib.hid hu
  have HI := Lib.hid hi
  clear hu hi
  go_enter Tryz.func108, Tryz.ntmps108
  go_upto_region 2 with fail
  have hB0 : Below w.heap.size w ((w.alloc (Obj.cells zero81 154)).alloc (Obj.cells zero81 154)) := ((Below.refl _ _).alloc (Nat.le_refl _) _).alloc (by simp) _
  have h0 := heap_alloc2_old w (Obj.cells zero81 154) (Obj.cells zero81 154)
  have h1 := heap_alloc2_new w (Obj.cells zero81 154) (Obj.cells zero81 154)
  clear hz
  generalize (w.alloc (Obj.cells zero81 154)).alloc (Obj.cells zero81 154) = w1 at hB0 h0 h1 ⊢
  have hc0 : w1.cell? ⟨w.heap.size + 1, 0, none⟩ = some (.int .i64 0) := by rw [cell_of_row _ _ _ _ _ _ h1, zero81_at]; rfl
  have hf0 := frozen_of_row w1 (w.heap.size + 1) 0 zero81 _ h1
  have HR0 : Hid (WRel w (.int .i64 1) (w1.setCell ⟨w.heap.size + 1, 0, none⟩ (.int .i64 1))) := ⟨0, by omega, rfl, by
    rw [heap_setCell_other _ _ _ _ (by show w.heap.size ≠ w.heap.size + 1; omega)]
    exact h0, by rw [← wtv_zero]; exact heap_setCell_same w1 (w.heap.size + 1) 0 zero81 _ _ h1, hB0.setCell (by show w.heap.size ≤ w.heap.size + 1; omega) _⟩
  clear hB0 h0 h1
  go_wp2_with fail
  go_loopw [2] (fun i wr => WRel w i wr) (fun i _ => 81 - (intOf i).toNat)
  case atStart => exact HR0.out
  case round =>
    clear HR0 hc0 hf0
    obtain ⟨k, hk, rfl, h0, h1, hB⟩ := hrel
    by_cases hlt : k < 80
    · have hki : (k : Int) + 1 ≤ 80 := by omega
      have hk0 : (0 : Int) ≤ (k : Int) := by omega
      have HK : Hid (k < 80) := hlt
      have hwl : wt k < 1000000000000 := Nat.lt_of_le_of_lt (wt_mono (show k ≤ 80 by omega)) wt_small
      have hc1 : wr.cell? ⟨w.heap.size + 1, k, none⟩ = some (.int .i64 (wt k : Int)) := by
        rw [cell_of_row _ _ _ _ _ _ h1, wtv_at _ _ (by omega), if_pos (Nat.le_refl k)]
      have hc2 : wr.cell? ⟨w.heap.size + 1, k + 1, none⟩ = some (.int .i64 0) := by
        rw [cell_of_row _ _ _ _ _ _ h1, wtv_at _ _ (by omega), if_neg (by omega)]
      have hf2 := frozen_of_row wr (w.heap.size + 1) (k + 1) (wtv k) _ h1
      have HST : Hid (∀ v : Int, v = (wt (k + 1) : Int) → WRel w (.int .i64 ((k : Int) + 1 + 1)) (wr.setCell ⟨w.heap.size + 1, k + 1, none⟩ (.int .i64 v))) := fun v hv => ⟨k + 1, by omega, by congr 1, by
        rw [heap_setCell_other _ _ _ _ (by show w.heap.size ≠ w.heap.size + 1; omega)]
        exact h0, by rw [← wtv_step k (by omega) v hv]; exact heap_setCell_same wr (w.heap.size + 1) (k + 1) (wtv k) _ _ h1, hB.setCell (by show w.heap.size ≤ w.heap.size + 1; omega) _⟩
      have hw : ((wt (k + 1) : Nat) : Int) = (wt k : Int) + ((wt k : Int) + 2) / 3 := by rw [wt_succ]; omega
      have HW := Lib.hid hw
      clear hw
      generalize wt k = X at hc1 hwl HW
      have hX1 : IntKind.i64.wrap ((X : Int) + 2) = (X : Int) + 2 := by rw [IntKind.wrap_i64]; omega
      have hX2 : IntKind.i64.wrap ((X : Int) + ((X : Int) + 2) / 3) = (X : Int) + ((X : Int) + 2) / 3 := by rw [IntKind.wrap_i64]; omega
      have hk1 : (k : Int) + 1 - 1 = (k : Int) := by omega
      have HWL := Lib.hid hwl
      clear hB h0 h1 hwl hlt hk
      go_upto_region 6 with fail
      go_region
      have hv : wrap64 ((X : Int) + wrap64 (((X : Int) + 2).tdiv 3)) = (wt (k + 1) : Int) := by
        rw [HW.out, Int.tdiv_eq_ediv_of_nonneg (by omega)]
        have := HWL.out
        unfold wrap64
        omega
      have hst := HST.out _ hv
      clear HW HST
      generalize wrap64 ((X : Int) + wrap64 (((X : Int) + 2).tdiv 3)) = v at hst hv ⊢
      have HST := Lib.hid hst
      clear hst hv HWL
      go_wp2_with fail
      exact ⟨HST.out.drew, by simp [intOf]; omega⟩
    · obtain rfl : k = 80 := by omega
      have H0 := Lib.hid h0
      have H1 := Lib.hid h1
      have HB := Lib.hid hB
      clear h0 h1 hB hlt hk
      go_wp2_with (first | refine wpList_load_row rfl 154 (.tmp 1) rfl (w.heap.size + 1) rfl 154 (wtv 80) (0, 0) _ H1.out HU.out rfl (by rw [HI.out, wtv_size]) ?_ | refine wpList_store_row rfl 154 (.tmp 0) (.tmp 21) rfl w.heap.size (wtv 80) rfl rfl 154 zero81 H0.out (by rw [HI.out, wtv_size]) (by rw [wtv_size]; simp [zero81]) (wtv_one _) ?_)
      exact bodyPost_ret (v := .agg (wtv 80)) (results_cell_row rfl _ _ w.heap.size 154 (wtv 80) (0, 0) _ rfl (setRow_heap _ _ _ _ _ _ H0.out) HU.out rfl (by rw [HI.out, wtv_size])) rfl ⟨rfl, below_setRow HB.out (Nat.le_refl _) _⟩
set_option maxHeartbeats 1000000 in
set_option maxRecDepth 100000 in
theorem refMaxHeight_any (n : Int) (w : World) (h0 : -9223372036854775808 ≤ n) (h1 : n ≤ 9223372036854775807) : Calls Tryz.prog 87 #[.int .i64 n] w (Calm w (.int .i64 (xhI n))) := by
  by_cases hr : 0 ≤ n ∧ n ≤ 2147483647
  · obtain ⟨m, rfl⟩ := Int.eq_ofNat_of_zero_le hr.1
    have hm : (m : Int) ≤ 2147483647 := hr.2
    have hM : xhI (m : Int) = (xh m : Int) := by
      unfold xhI
      rw [if_pos hr, Int.toNat_natCast]
    have hg1 : decide ((m : Int) < 0) = false := decide_eq_false (by omega)
    have hg2 : decide ((2147483647 : Int) < (m : Int)) = false := decide_eq_false (by omega)
    have hz := zero81_run
    have hu : (Tryz.prog.underlying 154) = some (.array 81 3) := by kernel_rfl
    have hi : (Tryz.prog.info? 154).map (·.size) = some 81 := by kernel_rfl
    have HU := Lib.hid hu
    have HI := Lib.hid hi
    rw [hM]
    clear hM h0 h1 hr hu hi
    go_enter Tryz.func87, Tryz.ntmps87
    go_wp2_with fail
    refine (weights_any w).mono ?_
    rintro e w1 ⟨rfl, hb⟩
    have hnew := heap_alloc_new w1 (Obj.cells zero81 154)
    have HW1 := Lib.hid hnew
    have HB := Lib.hid (hb.trans ((below_new7 w1 (Obj.cells zero81 154)).mono hb.size))
    have hsz : w.heap.size ≤ w1.heap.size := hb.size
    clear hb hnew
    go_wp2_with (refine wpList_store_row rfl 154 (.tmp 3) (.tmp 11) rfl w1.heap.size (wtv 80) rfl rfl 154 zero81 HW1.out (by rw [HI.out, wtv_size]) (by rw [wtv_size]; simp [zero81]) (wtv_one _) ?_)
    have hrow : ((w1.alloc (Obj.cells zero81 154)).setRow w1.heap.size (wtv 80)).heap[w1.heap.size]? = some (.cells (wtv 80) 154 (0, 0)) := setRow_heap _ _ _ _ _ _ HW1.out
    have HBF : Hid (Below w.heap.size w ((w1.alloc (Obj.cells zero81 154)).setRow w1.heap.size (wtv 80))) := below_setRow HB.out hsz _
    have HROW := Lib.hid hrow
    clear hrow hsz hz
    generalize (w1.alloc (Obj.cells zero81 154)).setRow w1.heap.size (wtv 80) = w2 at HROW HBF ⊢
    generalize w1.heap.size = q at HROW ⊢
    clear HW1 HB
    have HST : Hid (xhF m 80 0 = xh m) := rfl
    go_loopw [4] (fun i wr => ∃ h : Nat, h ≤ 80 ∧ i = .int .i64 (h : Int) ∧ xhF m (80 - h) h = xh m ∧ wr = w2) (fun i _ => 80 - (intOf i).toNat)
    case atStart => exact ⟨0, Nat.zero_le _, rfl, HST.out, rfl⟩
    case round =>
      clear HST
      obtain ⟨h, hh, rfl, hx, rfl⟩ := hrel
      by_cases hlt : h < 80
      · have hc : wr.cell? ⟨q, h + 1, none⟩ = some (.int .i64 (wt (h + 1) : Int)) := by
          rw [cell_of_row _ _ _ _ _ _ HROW.out, wtv_at _ _ (by omega), if_pos (by omega)]
        have hwl : wt (h + 1) < 1000000000000 := Nat.lt_of_le_of_lt (wt_mono (show h + 1 ≤ 80 by omega)) wt_small
        have hwp := wt_pos (h + 1)
        have hd1 : decide ((h : Int) < 80) = true := decide_eq_true (by omega)
        have hhi : (h : Int) + 1 < 81 := by omega
        have hh0 : (0 : Int) ≤ (h : Int) + 1 := by omega
        have hht : ((h : Int) + 1).toNat = h + 1 := by omega
        have hw1 : IntKind.i64.wrap ((wt (h + 1) : Int) - 1) = (wt (h + 1) : Int) - 1 := by rw [IntKind.wrap_i64]; omega
        have HX := Lib.hid hx
        have HLT : Hid (h < 80) := hlt
        have HE : Hid (∀ f, xhF m (f + 1) h = if wt (h + 1) - 1 ≤ m then xhF m f (h + 1) else h) := fun f => rfl
        by_cases hle : wt (h + 1) - 1 ≤ m
        · have hd2 : decide ((wt (h + 1) : Int) - 1 ≤ (m : Int)) = true := decide_eq_true (by omega)
          have HX2 : Hid (xhF m (80 - (h + 1)) (h + 1) = xh m) := by
            have h1 := HE.out (80 - (h + 1))
            rw [if_pos hle] at h1
            rw [show 80 - (h + 1) + 1 = 80 - h by have := HLT.out; omega] at h1
            exact h1.symm.trans HX.out
          clear HX HE hle hwl hwp hlt hh hx
          generalize wt (h + 1) = X at hc hw1 hd2
          go_wp2_with fail
          exact ⟨⟨h + 1, by have := HLT.out; omega, by go_num, HX2.out, by first | rfl | trivial⟩, by have := HLT.out; simp [intOf]; omega⟩
        · have hd2 : decide ((wt (h + 1) : Int) - 1 ≤ (m : Int)) = false := decide_eq_false (by omega)
          have HX2 : Hid (h = xh m) := by
            have h1 := HE.out (80 - (h + 1))
            rw [if_neg hle] at h1
            rw [show 80 - (h + 1) + 1 = 80 - h by have := HLT.out; omega] at h1
            exact h1.symm.trans HX.out
          clear HX HE hle hwl hwp hlt hh hx
          generalize wt (h + 1) = X at hc hw1 hd2
          go_wp2_with fail
          go_ret
          exact ⟨by rw [← HX2.out]; rfl, HBF.out⟩
      · obtain rfl : h = 80 := by omega
        have HX2 : Hid (80 = xh m) := hx
        clear hx hlt hh
        go_wp2_with fail
        go_ret
        exact ⟨by rw [← HX2.out]; rfl, HBF.out⟩
  · have HM : xhI n = -1 := if_neg hr
    rw [HM]
    clear HM
    by_cases hn : n < 0
    · have g1 := decide_eq_true hn
      clear hr hn
      go_enter Tryz.func87, Tryz.ntmps87
      go_wp2
      go_ret
      exact ⟨rfl, Below.refl _ _⟩
    · have g1 := decide_eq_false hn
      have g2 : decide ((2147483647 : Int) < n) = true := decide_eq_true (by omega)
      clear hr hn
      go_enter Tryz.func87, Tryz.ntmps87
      go_wp2
      go_ret
      exact ⟨rfl, Below.refl _ _⟩
theorem below_newL (w : World) (o : Obj) : Below w.heap.size w (w.alloc o) := (Below.refl _ _).alloc (Nat.le_refl _) _
theorem filt_succ {l : List En} {j : Nat} {e : En} (h : l[j]? = some e) (p : En → Bool) : (l.take (j + 1)).filter p = (l.take j).filter p ++ (if p e = true then [e] else []) := by
  obtain ⟨hj, he⟩ := List.getElem?_eq_some_iff.1 h
  rw [List.take_succ_eq_append_getElem hj, List.filter_append, he]
  congr 1
  cases hp : p e <;> simp [hp]
/-- a row of entries while it is gathered -/
def SubRel (w : World) (g : Nat → List En) (n : Nat) (x i : Value) (wr : World) : Prop :=
  ∃ j : Nat, i = .int .i64 (j : Int) ∧ j ≤ n ∧ ESt w.heap.size w (g j) x wr
theorem SubRel.start (w : World) (g : Nat → List En) (n : Nat) (hg : g 0 = []) : SubRel w g n (.slice none 0 0) (.int .i64 0) w := ⟨0, rfl, Nat.zero_le _, by rw [hg]; exact ESt.start w rfl⟩
theorem ESt.made {w w' : World} {l : List En} {v : Value} (h : ESt w.heap.size w l v w') : MadeEns w l (.returned v) w' := by
  obtain ⟨a, c, rfl⟩ := h.val
  exact ⟨a, c, rfl, h.row, h.below⟩
/-- the remainder that is never negative -/
theorem mod_any (n m : Int) (w : World) (h1 : -9223372036854775808 ≤ n) (h2 : n ≤ 9223372036854775807) (h3 : 1 ≤ m) (h4 : m ≤ 9223372036854775807) :
    Calls Tryz.prog 15 #[.int .i64 n, .int .i64 m] w fun e w' => e = .returned (.int .i64 (n % m)) ∧ w = w' := by
  by_cases h : 0 ≤ n
  · have hb := Int.emod_nonneg n (b := m) (by omega)
    have hc := Int.emod_lt_of_pos n (b := m) (by omega)
    go_enter Tryz.func15, Tryz.ntmps15
    go_wp2
    go_ret
    exact ⟨rfl, rfl⟩
  · have e := mod_of_tmod n m (by omega) h3
    have hb : -m < n.tmod m ∧ n.tmod m ≤ 0 := by
      rw [tmod_neg n m (by omega) h3]
      have h5 := Int.emod_nonneg (-n) (b := m) (by omega)
      have h6 := Int.emod_lt_of_pos (-n) (b := m) (by omega)
      omega
    obtain ⟨hb1, hb2⟩ := hb
    have H := Lib.hid e
    clear e
    go_enter Tryz.func15, Tryz.ntmps15
    go_wp2
    · have hlt : n.tmod m < 0 := by assumption
      go_ret
      exact ⟨ret_int (by rw [H.out, if_pos hlt]), rfl⟩
    · have hlt : 0 ≤ n.tmod m := by assumption
      go_ret
      exact ⟨ret_int (by rw [H.out, if_neg (by omega)]), rfl⟩
section
variable {I : AImpl} {B : Nat} {w0 w w' : World} {p : Value} {A : Ar} {rd rd' : Int} {rs : List Row} {bs : List (Nat × Obj)}
theorem Scn.less {rs' : List Row} {bs' : List (Nat × Obj)} (h : Scn I B w0 w p A rd rs bs) (h1 : rs'.Sublist rs) (h2 : bs'.Sublist bs) : Scn I B w0 w p A rd rs' bs' :=
  ⟨h.mr.less fun k hk => by (rcases hk with ⟨r, hr, hk⟩ | ⟨b, hb, hk⟩; exact .inl ⟨r, h1.subset hr, hk⟩; exact .inr ⟨b, h2.subset hb, hk⟩), fun r hr => h.rows r (h1.subset hr), fun b hb => h.boxes b (h2.subset hb), h.rr.sublist h1, h.bb.sublist h2, fun r hr b hb => h.rb r (h1.subset hr) b (h2.subset hb)⟩
/-- the first box is written anew -/
theorem Scn.set {g : Nat} {o o' : Obj} (h : Scn I B w0 w p A rd rs ((g, o) :: bs)) (hw : w'.heap[g]? = some o') (ho : w'.os = w.os ∧ w'.tape = w.tape ∧ w'.output = w.output ∧ w'.heap.size = w.heap.size ∧ ∀ k, k ≠ g → w'.heap[k]? = w.heap[k]?) :
    Scn I B w0 w' p A rd rs ((g, o') :: bs) := by
  obtain ⟨o1, o2, o3, o4, o5⟩ := ho
  obtain ⟨F, f1, f2, f3⟩ := h.mr.has
  obtain ⟨h1, h2⟩ := List.pairwise_cons.1 h.bb
  have hgB : B ≤ g := (h.boxes (g, o) (by simp)).1
  refine ⟨⟨⟨F, I.keep f1 fun k hk => o5 k fun e => (f3 g (.inr ⟨(g, o), by simp, rfl⟩)).2 (e ▸ hk), f2, fun k hk => ?_⟩, h.mr.below.trans ⟨o1, o2, o3, Nat.le_of_eq o4.symm, fun k hk => o5 k (by omega)⟩, by rw [o4]; exact h.mr.hB⟩, fun r hr => row_keep (h.rows r hr) fun k hk => o5 k fun e => h.rb r hr (g, o) (by simp) (e ▸ hk), fun b hb => ?_, h.rr, List.pairwise_cons.2 ⟨h1, h2⟩, fun r hr b hb => ?_⟩
  · have : SG rs ((g, o) :: bs) k := by
      rcases hk with hk | ⟨b, hb, rfl⟩
      · exact .inl hk
      · rcases List.mem_cons.1 hb with rfl | hb
        · exact .inr ⟨(g, o), by simp, rfl⟩
        · exact .inr ⟨b, by simp [hb], rfl⟩
    exact ⟨by rw [o4]; exact (f3 k this).1, (f3 k this).2⟩
  · rcases List.mem_cons.1 hb with rfl | hb
    · exact ⟨hgB, hw⟩
    · exact ⟨(h.boxes b (by simp [hb])).1, (o5 b.1 (fun e => h1 b hb e.symm)).trans (h.boxes b (by simp [hb])).2⟩
  · rcases List.mem_cons.1 hb with rfl | hb
    · exact h.rb r hr (g, o) (by simp)
    · exact h.rb r hr b (by simp [hb])
/-- a box of two numbers is written -/
theorem Scn.set2 {g : Nat} {x0 y0 : Value} {t : TypeId} (h : Scn I B w0 w p A rd rs ((g, .cells #[x0, y0] t (0, 0)) :: bs)) (x y : Value) :
    Scn I B w0 ((w.setCell ⟨g, 0, none⟩ x).setCell ⟨g, 1, none⟩ y) p A rd rs ((g, .cells #[x, y] t (0, 0)) :: bs) := by
  refine h.set ?_ ⟨rfl, rfl, rfl, by simp [World.setCell], fun k hk => by rw [heap_setCell_other _ _ _ _ hk, heap_setCell_other _ _ _ _ hk]⟩
  rw [heap_setCell_same _ g 1 _ _ _ (heap_setCell_same w g 0 _ _ _ (h.boxes (g, .cells #[x0, y0] t (0, 0)) (by simp)).2)]; rfl
end
set_option maxHeartbeats 1000000 in
set_option maxRecDepth 100000 in
theorem refNeed_any (a b c more extra factor : Int) (w : World) (hb : in64 a ∧ in64 b ∧ in64 c) (hm : 0 ≤ more ∧ more ≤ 1) (hx : vld a → vld b → vld c → 0 ≤ extra ∧ extra ≤ 1000000) (hf : 0 ≤ factor ∧ factor ≤ 12) :
    Calls Tryz.prog 57 #[.int .i64 a, .int .i64 b, .int .i64 c, .int .i64 more, .int .i64 extra, .int .i64 factor] w (Calm w (.int .i64 (needI a b c more extra factor))) := by
  obtain ⟨hba, hbb, hbc⟩ := hb
  have h7 : decide (a < 0) = true ∨ (decide (a < 0) = false ∧ decide (65536 < a) = true) ∨ (decide (a < 0) = false ∧ decide (65536 < a) = false ∧ decide (b < 0) = true) ∨ (decide (a < 0) = false ∧ decide (65536 < a) = false ∧ decide (b < 0) = false ∧ decide (65536 < b) = true) ∨
      (decide (a < 0) = false ∧ decide (65536 < a) = false ∧ decide (b < 0) = false ∧ decide (65536 < b) = false ∧ decide (c < 0) = true) ∨ (decide (a < 0) = false ∧ decide (65536 < a) = false ∧ decide (b < 0) = false ∧ decide (65536 < b) = false ∧ decide (c < 0) = false ∧ decide (65536 < c) = true) ∨
      (decide (a < 0) = false ∧ decide (65536 < a) = false ∧ decide (b < 0) = false ∧ decide (65536 < b) = false ∧ decide (c < 0) = false ∧ decide (65536 < c) = false) := by
    simp only [decide_eq_true_eq, decide_eq_false_iff_not]
    omega
  have HB : Hid ((decide (a < 0) = true ∨ decide (65536 < a) = true ∨ decide (b < 0) = true ∨ decide (65536 < b) = true ∨ decide (c < 0) = true ∨ decide (65536 < c) = true) → needI a b c more extra factor = -1) := fun h => by
    unfold needI
    rw [if_neg]
    rintro ⟨⟨a1, a2⟩, ⟨b1, b2⟩, ⟨c1, c2⟩⟩
    simp only [decide_eq_true_eq] at h
    omega
  rcases h7 with h1 | ⟨h1, h2⟩ | ⟨h1, h2, h3⟩ | ⟨h1, h2, h3, h4⟩ | ⟨h1, h2, h3, h4, h5⟩ | ⟨h1, h2, h3, h4, h5, h6⟩ | ⟨h1, h2, h3, h4, h5, h6⟩
  · have HE : Hid (needI a b c more extra factor = -1) := HB.out (.inl h1)
    clear hba hbb hbc hm hx hf HB
    go_enter Tryz.func57, Tryz.ntmps57
    go_wp2_with fail
    go_ret
    exact ⟨by rw [HE.out]; rfl, Below.refl _ _⟩
  · have HE : Hid (needI a b c more extra factor = -1) := HB.out (.inr (.inl h2))
    clear hba hbb hbc hm hx hf HB
    go_enter Tryz.func57, Tryz.ntmps57
    go_wp2_with fail
    go_ret
    exact ⟨by rw [HE.out]; rfl, Below.refl _ _⟩
  · have HE : Hid (needI a b c more extra factor = -1) := HB.out (.inr (.inr (.inl h3)))
    clear hba hbb hbc hm hx hf HB
    go_enter Tryz.func57, Tryz.ntmps57
    go_wp2_with fail
    go_ret
    exact ⟨by rw [HE.out]; rfl, Below.refl _ _⟩
  · have HE : Hid (needI a b c more extra factor = -1) := HB.out (.inr (.inr (.inr (.inl h4))))
    clear hba hbb hbc hm hx hf HB
    go_enter Tryz.func57, Tryz.ntmps57
    go_wp2_with fail
    go_ret
    exact ⟨by rw [HE.out]; rfl, Below.refl _ _⟩
  · have HE : Hid (needI a b c more extra factor = -1) := HB.out (.inr (.inr (.inr (.inr (.inl h5)))))
    clear hba hbb hbc hm hx hf HB
    go_enter Tryz.func57, Tryz.ntmps57
    go_wp2_with fail
    go_ret
    exact ⟨by rw [HE.out]; rfl, Below.refl _ _⟩
  · have HE : Hid (needI a b c more extra factor = -1) := HB.out (.inr (.inr (.inr (.inr (.inr h6)))))
    clear hba hbb hbc hm hx hf HB
    go_enter Tryz.func57, Tryz.ntmps57
    go_wp2_with fail
    go_ret
    exact ⟨by rw [HE.out]; rfl, Below.refl _ _⟩
  · have hva : vld a := ⟨by have := of_decide_eq_false h1; omega, by have := of_decide_eq_false h2; omega⟩
    have hvb : vld b := ⟨by have := of_decide_eq_false h3; omega, by have := of_decide_eq_false h4; omega⟩
    have hvc : vld c := ⟨by have := of_decide_eq_false h5; omega, by have := of_decide_eq_false h6; omega⟩
    have HE : Hid (needI a b c more extra factor = extra + factor * (xhI (a + b + c + more) + 2)) := if_pos ⟨hva, hvb, hvc⟩
    have hxx := hx hva hvb hvc
    obtain ⟨a1, a2⟩ := hva
    obtain ⟨b1, b2⟩ := hvb
    obtain ⟨c1, c2⟩ := hvc
    have w1 : IntKind.i64.wrap (a + b) = a + b := by rw [IntKind.wrap_i64]; omega
    have w2 : IntKind.i64.wrap (a + b + c) = a + b + c := by rw [IntKind.wrap_i64]; omega
    have w3 : IntKind.i64.wrap (a + b + c + more) = a + b + c + more := by rw [IntKind.wrap_i64]; omega
    have HR : Hid (in64 (a + b + c + more)) := ⟨by omega, by omega⟩
    have hX := xhI_in (n := a + b + c + more) (by omega) (by omega)
    have HXR := Lib.hid hX
    have HFX : Hid (0 ≤ factor ∧ factor ≤ 12 ∧ 0 ≤ extra ∧ extra ≤ 1000000) := ⟨hf.1, hf.2, hxx.1, hxx.2⟩
    clear hba hbb hbc hm hx hf HB hxx hX a1 a2 b1 b2 c1 c2
    go_enter Tryz.func57, Tryz.ntmps57
    go_wp2_with fail
    refine (refMaxHeight_any (a + b + c + more) w HR.out.1 HR.out.2).mono ?_
    rintro e w5 ⟨rfl, hb5⟩
    have HB5 := Lib.hid hb5
    generalize xhI (a + b + c + more) = X at HE HXR ⊢
    have w4 : IntKind.i64.wrap (X + 2) = X + 2 := by rw [IntKind.wrap_i64]; have := HXR.out; omega
    have w5' : IntKind.i64.wrap (factor * (X + 2)) = factor * (X + 2) := by
      have h1 := HXR.out
      have h2 := HFX.out
      have h3 : 0 ≤ factor * (X + 2) := Int.mul_nonneg h2.1 (by omega)
      have h4 : factor * (X + 2) ≤ 12 * 82 := Int.mul_le_mul h2.2.1 (by omega) (by omega) (by decide)
      rw [IntKind.wrap_i64]; omega
    have w6' : IntKind.i64.wrap (extra + factor * (X + 2)) = extra + factor * (X + 2) := by
      have h1 := HXR.out
      have h2 := HFX.out
      have h3 : 0 ≤ factor * (X + 2) := Int.mul_nonneg h2.1 (by omega)
      have h4 : factor * (X + 2) ≤ 12 * 82 := Int.mul_le_mul h2.2.1 (by omega) (by omega) (by decide)
      rw [IntKind.wrap_i64]; omega
    clear hb5
    go_wp2_with fail
    go_ret
    exact ⟨by rw [HE.out]; rfl, HB5.out⟩
def insI (n : Int) : Int := needI n 0 0 1 0 4
theorem in0 : in64 0 := ⟨by decide, by decide⟩
theorem refInsert_any (n : Int) (w : World) (hn : in64 n) : Calls Tryz.prog 35 #[.int .i64 n] w (Calm w (.int .i64 (insI n))) := by
  have HC := Lib.hid (refNeed_any n 0 0 1 0 4 w ⟨hn, in0, in0⟩ ⟨by decide, by decide⟩ (fun _ _ _ => ⟨by decide, by decide⟩) ⟨by decide, by decide⟩)
  clear hn
  go_enter Tryz.func35, Tryz.ntmps35
  go_wp2_with fail
  refine HC.out.mono ?_
  rintro e w1 ⟨rfl, hb1⟩
  have HB := Lib.hid hb1
  clear hb1
  go_wp2_with fail
  go_ret
  exact ⟨rfl, HB.out⟩
theorem refSetOperation_any (l r : Int) (w : World) (hl : in64 l) (hr : in64 r) : Calls Tryz.prog 19 #[.int .i64 l, .int .i64 r] w (Calm w (.int .i64 (setI l r))) := by
  have HC := Lib.hid (refNeed_any l r 0 0 0 0 w ⟨hl, hr, in0⟩ ⟨by decide, by decide⟩ (fun _ _ _ => ⟨by decide, by decide⟩) ⟨by decide, by decide⟩)
  have HC2 := Lib.hid (fun wx => refNeed_any l r 0 0 (l + r) 12 wx ⟨hl, hr, in0⟩ ⟨by decide, by decide⟩ (fun h1 h2 h3 => by unfold vld at h1 h2 h3; omega) ⟨by decide, by decide⟩)
  by_cases hv : vld l ∧ vld r ∧ vld 0
  · have h0 : needI l r 0 0 0 0 = 0 := by unfold needI; rw [if_pos hv]; omega
    have HZ := Lib.hid h0
    have hw1 : IntKind.i64.wrap (l + r) = l + r := by unfold vld at hv; rw [IntKind.wrap_i64]; omega
    clear hv h0 hl hr
    go_enter Tryz.func19, Tryz.ntmps19
    go_wp2_with fail
    refine HC.out.mono ?_
    rintro e w1 ⟨rfl, hb1⟩
    rw [HZ.out]
    have HB := Lib.hid hb1
    clear hb1
    go_wp2_with fail
    refine (HC2.out w1).mono ?_
    rintro e w2 ⟨rfl, hb2⟩
    have HB2 : Hid (Below w.heap.size w w2) := HB.out.trans (hb2.mono HB.out.size)
    clear hb2
    go_wp2_with fail
    go_ret
    exact ⟨rfl, HB2.out⟩
  · have h0 : needI l r 0 0 0 0 = -1 := by unfold needI; rw [if_neg hv]
    have h1 : setI l r = -1 := by unfold setI needI; rw [if_neg hv]
    have HZ := Lib.hid h0
    have HE := Lib.hid h1
    clear hv h0 h1 HC2 hl hr
    go_enter Tryz.func19, Tryz.ntmps19
    go_wp2_with fail
    refine HC.out.mono ?_
    rintro e w1 ⟨rfl, hb1⟩
    rw [HZ.out]
    have HB := Lib.hid hb1
    clear hb1
    go_wp2_with fail
    go_ret
    exact ⟨by rw [HE.out]; rfl, HB.out⟩
end Go.Proofs.YtfihklpofmcfgaaGreat
namespace Go.Proofs.YtfihklpofmcfgaaGreat
open Go.RowKit
/-- a number of spare slots, whatever it is -/
def SpareQ (need : Int) (w : World) (e : Ending) (w' : World) : Prop := ∃ sp : Nat, e = .returned (.int .i64 (sp : Int)) ∧ (sp : Int) ≤ need + 8 ∧ w' = w
section
variable {I : AImpl} {B : Nat} {w0 w : World} {p : Value} {A : Ar} {rd : Int} {rs : List Row} {bs : List (Nat × Obj)}
theorem hof_head (i : Nat) (l : List Nat) : (if i = 0 then hof (i :: l) else less (hof (i :: l)) i) = hof l := by
  by_cases h0 : i = 0
  · rw [if_pos h0]
    have h := hof_erase0 (l := i :: l) (k := 0) (by simp) h0
    exact h.symm
  · rw [if_neg h0]
    have h := hof_erase (l := i :: l) (k := 0) (i := i) (by simp) rfl h0
    exact h.symm
end
theorem results_tmp6 {fn : Func} {a b c d e f : Tmp} (h : fn.results = #[.tmp a, .tmp b, .tmp c, .tmp d, .tmp e, .tmp f]) (tmps : Array Value) (P : Program) (w : World) :
    (results fn tmps).run P w = .ok (.tuple #[tmps.getD a undef, tmps.getD b undef, tmps.getD c undef, tmps.getD d undef, tmps.getD e undef, tmps.getD f undef]) w := by
  simp [results, h]
theorem xh_mono {m n : Nat} (h : m ≤ n) (hn : n ≤ 2147483647) : xh m ≤ xh n := xh_le hn (by have := (xh_spec (n := m) (by omega)).1; omega)
def outE (l : List En) (lo hi : Int) : List En := l.filter fun e => decide (e.key < lo ∨ hi < e.key)
set_option maxHeartbeats 2000000 in
set_option maxRecDepth 100000 in
theorem outside_any {w : World} {a : Option Addr} {n c : Nat} {l : List En} (lo hi : Int) (h : EnsAt w a l) (hn : l.length = n) (hl : n ≤ 1000000) :
    Calls Tryz.prog 71 #[.slice a n c, .int .i64 lo, .int .i64 hi] w (MadeEns w (outE l lo hi)) := by
  have HE := Lib.hid h
  have HN := Lib.hid hn
  have hni : (n : Int) ≤ 1000000 := by omega
  have HL := Lib.hid hl
  have HLEN : Hid (∀ j, (outE (l.take j) lo hi).length ≤ 1000000) := fun j => by
    have h1 := List.length_filter_le (fun e : En => decide (e.key < lo ∨ hi < e.key)) (l.take j)
    have h2 := List.length_take_le' j l
    show ((l.take j).filter _).length ≤ _
    omega
  have HS : Hid (∀ j e, l[j]? = some e → outE (l.take (j + 1)) lo hi = outE (l.take j) lo hi ++ (if e.key < lo ∨ hi < e.key then [e] else [])) := fun j e he => by
    have := filt_succ he fun e : En => decide (e.key < lo ∨ hi < e.key)
    simp only [decide_eq_true_eq] at this
    exact this
  have HLENB : Hid (∀ j, (outE (l.take j) lo hi).length ≤ 100000000) := fun j => Nat.le_trans (HLEN.out j) (by decide)
  have HR0 := Lib.hid (SubRel.start w (fun j => outE (l.take j) lo hi) n (by simp [outE]))
  clear h hn hl
  go_enter Tryz.func71, Tryz.ntmps71
  go_wp2_with fail
  go_loopw [7, 8] (fun x i wr => SubRel w (fun j => outE (l.take j) lo hi) n x i wr) (fun _ i _ => n - (intOf i).toNat)
  case atStart => exact HR0.out
  case round =>
    clear HR0
    obtain ⟨j, rfl, hj, hst⟩ := hrel
    replace hst : ESt w.heap.size w (outE (l.take j) lo hi) _ wr := hst
    have HST := Lib.hid hst
    have hj0 : (0 : Int) ≤ (j : Int) := by omega
    obtain ⟨xa, xc, rfl⟩ := hst.val
    clear hst
    by_cases hlt : j < n
    · have hji : (j : Int) < (n : Int) := by omega
      obtain ⟨e, he⟩ : ∃ e, l[j]? = some e := ⟨_, List.getElem?_eq_getElem (by have := HN.out; omega)⟩
      obtain ⟨b, off, rfl, hb, c0, c1⟩ := (HE.out.below HST.out.below).at he
      have hs := HS.out j e he
      have HX := Lib.hid hs
      have HLT := Lib.hid hlt
      clear hs he hb hlt hj
      by_cases h1 : e.key < lo
      · have d1 : decide (e.key < lo) = true := decide_eq_true h1
        have HY : Hid (outE (l.take (j + 1)) lo hi = outE (l.take j) lo hi ++ [e]) := by show _ = _; rw [HX.out, if_pos (.inl h1)]
        clear h1
        go_wp2_with (at_builtin; refine wpList_append_en rfl (.tmp 31) (.tmp 36) rfl (HST.out.from (below_newL _ _) rfl) rfl rfl e wr.heap.size rfl (cell_newE _ _ _) (HLENB.out j) ?_; intro v5 w5 hc5)
        exact ⟨⟨j + 1, by go_num, by have := HLT.out; omega, by show ESt _ _ (outE (l.take (j + 1)) lo hi) _ _; rw [HY.out]; exact hc5⟩, by have := HLT.out; simp [intOf]; omega⟩
      · have d1 : decide (e.key < lo) = false := decide_eq_false h1
        by_cases h2 : hi < e.key
        · have d2 : decide (e.key > hi) = true := decide_eq_true h2
          have d3 : decide (hi < e.key) = true := decide_eq_true h2
          have HY : Hid (outE (l.take (j + 1)) lo hi = outE (l.take j) lo hi ++ [e]) := by show _ = _; rw [HX.out, if_pos (.inr h2)]
          clear h1 h2
          go_wp2_with (at_builtin; refine wpList_append_en rfl (.tmp 31) (.tmp 36) rfl (HST.out.from (below_newL _ _) rfl) rfl rfl e wr.heap.size rfl (cell_newE _ _ _) (HLENB.out j) ?_; intro v5 w5 hc5)
          exact ⟨⟨j + 1, by go_num, by have := HLT.out; omega, by show ESt _ _ (outE (l.take (j + 1)) lo hi) _ _; rw [HY.out]; exact hc5⟩, by have := HLT.out; simp [intOf]; omega⟩
        · have d2 : decide (e.key > hi) = false := decide_eq_false h2
          have d3 : decide (hi < e.key) = false := decide_eq_false h2
          have HY : Hid (outE (l.take (j + 1)) lo hi = outE (l.take j) lo hi) := by show _ = _; rw [HX.out, if_neg (fun h => h.elim h1 h2), List.append_nil]
          clear h1 h2
          go_wp2_with fail
          exact ⟨⟨j + 1, by go_num, by have := HLT.out; omega, by show ESt _ _ (outE (l.take (j + 1)) lo hi) _ _; rw [HY.out]; exact HST.out⟩, by have := HLT.out; simp [intOf]; omega⟩
    · have hji : ¬ (j : Int) < (n : Int) := by omega
      have HK : Hid (outE (l.take j) lo hi = outE l lo hi) := by show _ = _; rw [List.take_of_length_le (by have := HN.out; omega)]
      clear hj hlt
      go_wp2_with fail
      go_ret
      rw [← HK.out]
      first
        | exact HST.out.made
        | (have := HST.out.made; simp only [List.length_take] at this; exact this)
end Go.Proofs.YtfihklpofmcfgaaGreat
namespace Go.Proofs.YtfihklpofmcfgaaGreat
theorem get_of {l : List En} (h : Up l) {e : En} (he : e ∈ l) : getE l e.key = some e := by
  obtain ⟨j, hj, hje⟩ := List.mem_iff_getElem.1 he
  cases hg : getE l e.key with
  | none =>
    unfold getE at hg
    have := List.find?_eq_none.1 hg e he
    simp at this
  | some e' =>
    unfold getE at hg
    have h1 := List.mem_of_find?_eq_some hg
    have h2 := List.find?_some hg
    have h3 : e'.key = e.key := of_decide_eq_true h2
    obtain ⟨i, hi, hie⟩ := List.mem_iff_getElem.1 h1
    have r1 := rank_of h (j := j) (e := e) (by rw [List.getElem?_eq_getElem hj, hje])
    have r2 := rank_of h (j := i) (e := e') (by rw [List.getElem?_eq_getElem hi, hie])
    rw [h3] at r2
    have hij : i = j := by omega
    subst hij
    rw [← hje, ← hie]
open Go.RowKit
section
variable {I : AImpl} {w wr : World} {F F1 : Nat → Prop} {p : Value} {A : Ar} {rd : Int} {rs : List Row} {bs : List (Nat × Obj)} {a : Option Addr} {c : Nat} {P : List Nat}
/-- the slice (a, length of P, c) reads as P, and is none of the arena's -/
def PathAt (w : World) (F : Nat → Prop) (a : Option Addr) (c : Nat) (P : List Nat) : Prop :=
  P.length ≤ c ∧ (P = [] ∨ ∃ g o, a = some ⟨g, o, none⟩ ∧ g < w.heap.size ∧ ¬ F g ∧ ∀ (m x : Nat), P[m]? = some x → w.cell? ⟨g, o + m, none⟩ = some (.int .u32 (x : Int)))
theorem PathAt.ins (h : PathAt w F a c P) (hi : Ins I w F p A rd rs bs wr) (hF : ∀ k, (OldI w F k ∨ SG rs bs k) → k < wr.heap.size ∧ ¬ F1 k) : PathAt wr F1 a c P := by
  refine ⟨h.1, h.2.imp id ?_⟩
  rintro ⟨g, o, rfl, h1, h2, h3⟩
  have hg := hF g (.inl ⟨h1, h2⟩)
  exact ⟨g, o, rfl, hg.1, hg.2, fun m x hx => (World.cell?_of_block (hi.kp g ⟨h1, h2⟩)).trans (h3 m x hx)⟩
theorem PathAt.tail {x : Nat} (h : PathAt w F a c (x :: P)) : PathAt w F (if c = 1 then a else a.map (·.add 1)) (c - 1) P := by
  obtain ⟨h1, h2⟩ := h
  rw [List.length_cons] at h1
  refine ⟨by omega, ?_⟩
  rcases h2 with h2 | ⟨g, o, rfl, h3, h4, h5⟩
  · cases h2
  by_cases hc : c = 1
  · exact .inl (List.eq_nil_of_length_eq_zero (by omega))
  · rw [if_neg hc]
    exact .inr ⟨g, o + 1, rfl, h3, h4, fun m y hy => by have := h5 (m + 1) y (by simpa using hy); rw [show o + 1 + m = o + (m + 1) by omega]; exact this⟩
theorem PathAt.head {x : Nat} (h : PathAt w F a c (x :: P)) (hi : Ins I w F p A rd rs bs wr) : ∃ g o, a = some ⟨g, o, none⟩ ∧ wr.cell? ⟨g, o, none⟩ = some (.int .u32 (x : Int)) := by
  rcases h.2 with h2 | ⟨g, o, rfl, h3, h4, h5⟩
  · cases h2
  · exact ⟨g, o, rfl, (World.cell?_of_block (hi.kp g ⟨h3, h4⟩)).trans (h5 0 x rfl)⟩
/-- a call that reads and gives a row of indexes -/
theorem Ins.path {bd : Int} {f : FuncId} {args : Array Value} (h : Ins I w F p A rd rs bs wr) (hc : ∀ F1, I.Is wr p A rd F1 → Calls Tryz.prog f args wr (PathRes I p A rd F1 bd P wr)) :
    Calls Tryz.prog f args wr fun e w' => ∃ rd' a c, e = .returned (.slice a P.length c) ∧ Ins I w F p A rd' (⟨26, 1, .slice a P.length c, P.length, u32s P⟩ :: rs) bs w' ∧ rd ≤ rd' ∧ rd' ≤ rd + bd := by
  obtain ⟨F1, f1, f2, f3⟩ := h.mr.has
  refine (hc F1 f1).mono ?_
  rintro e w1 ⟨F', rd', a, c, rfl, hal, hI, h0, h1, hrow, hnF⟩
  have hst := h.mr.stepA f2 f3 hal hI
  refine ⟨rd', a, c, rfl, ⟨⟨⟨F', hI, fun _ _ => Nat.zero_le _, fun k hk => ?_⟩, hst.1.below, hst.1.hB⟩, fun k hk => (hst.2 k (.inl hk)).trans (h.kp k hk), fun r hr => ?_, fun b hb => ⟨(h.boxes b hb).1, (hst.2 b.1 (.inr (.inr ⟨b, hb, rfl⟩))).trans (h.boxes b hb).2⟩, List.pairwise_cons.2 ⟨fun r hr k hk e => ?_, h.rr⟩, h.bb, fun r hr b hb => ?_⟩, h0, h1⟩
  · rcases hk with hk | ⟨r, hr, hk⟩ | ⟨b, hb, rfl⟩
    · exact hal.apart f3 k (.inl hk)
    · rcases List.mem_cons.1 hr with rfl | hr
      · exact ⟨(row_lt hrow k hk).2, hnF k hk⟩
      · exact hal.apart f3 k (.inr (.inl ⟨r, hr, hk⟩))
    · exact hal.apart f3 b.1 (.inr (.inr ⟨b, hb, rfl⟩))
  · rcases List.mem_cons.1 hr with rfl | hr
    · exact row_mono hrow h.size
    · exact row_keep (h.rows r hr) fun k hk' => hst.2 k (.inr (.inl ⟨r, hr, hk'⟩))
  · have h1 := row_from hrow k hk
    have h2 := h.lt (.inl ⟨r, hr, e⟩)
    omega
  · rcases List.mem_cons.1 hr with rfl | hr
    · intro e
      have h1 := row_from hrow b.1 e
      have h2 := h.lt (.inr ⟨b, hb, rfl⟩)
      omega
    · exact h.rb r hr b hb
theorem PathAt.ofRow {B : Nat} (hr : wr.ownsRow B 26 1 (.slice a P.length c) P.length (u32s P)) (hg : ∀ g, (Value.slice a P.length c).ownBlock = some g → g < wr.heap.size ∧ ¬ F1 g) : PathAt wr F1 a c P := by
  have hle : P.length ≤ c := by
    rcases hr.2 with ⟨h1, h2⟩ | ⟨g, cap, cur, h1, _, _, h2, _⟩
    · omega
    · injection h1 with _ _ h3
      omega
  refine ⟨hle, ?_⟩
  cases P with
  | nil => exact .inl rfl
  | cons x P =>
    obtain ⟨g, rfl, h1, -⟩ := row_cell hr (j := 0) (by simp)
    refine .inr ⟨g, 0, rfl, h1, (hg g rfl).2, fun m y hy => ?_⟩
    obtain ⟨g', hgg, -, h3⟩ := row_cell hr (j := m) (List.getElem?_eq_some_iff.1 hy).1
    have hgg' : g = g' := by injection hgg with q; injection q
    subst hgg'
    rw [Nat.zero_add, h3]
    unfold u32s
    rw [List.getElem?_map, hy]
    rfl
end
end Go.Proofs.YtfihklpofmcfgaaGreat
namespace Go.Proofs.YtfihklpofmcfgaaGreat
theorem out_up0 {l : List En} (h : Up l) (lo hi : Int) : Up (outE l lo hi) := List.Pairwise.filter _ h
theorem out_mem (l : List En) (k : Int) (y : En) : y ∈ outE l k k ↔ y ∈ l ∧ y.key ≠ k := by
  unfold outE
  rw [List.mem_filter]
  simp only [decide_eq_true_eq]
  constructor <;> (rintro ⟨h, h'⟩; exact ⟨h, by omega⟩)
theorem get_ins {l : List En} (hu : Up l) (e : En) : getE (insE l e) e.key = some e := getE_found0 (insE_up e hu) ((ins_mem l e e).2 (.inl rfl))
theorem ins_in {l : List En} (hu : Up l) {e : En} (h : getE l e.key = some e) : insE l e = l := by
  refine up_ext (insE_up e hu) hu fun y => ?_
  have he := ((getE_iff hu e.key e).1 h).1
  rw [ins_mem]
  constructor
  · rintro (rfl | ⟨h1, _⟩)
    · exact he
    · exact h1
  · intro hy
    by_cases hk : y.key = e.key
    · have := getE_found0 hu hy
      rw [hk, h] at this
      exact .inl (Option.some.inj this).symm
    · exact .inr ⟨hy, hk⟩
theorem excE_len (l m : List En) : (excE l m).length ≤ l.length + m.length := by
  have h1 := unionE_len (subE l m) (subE m l) 1
  have h2 := subE_len l m
  have h3 := subE_len m l
  unfold excE
  omega
open Go.RowKit
/-- how often an update may read -/
def updBd (n : Nat) : Int := 60 * ((xh (n + 1) : Int) + 2)
def InsQ (A : Ar) (rd : Int) (held : Nat → Nat) (i : Nat) (t : Tr) (l : List En) (e : En) (en : Ending) (B : Ar) (rd' : Int) : Prop :=
  rd ≤ rd' ∧ rd' ≤ rd + updBd l.length ∧ (
  (getE l e.key = some e ∧ en = .returned (.tuple #[.int .u32 (i : Int), .int .i64 e.val, .bool true, .int .i64 0]) ∧ Got A held B i t l ∧ B.σ.free.length = A.σ.free.length) ∨
  (getE l e.key ≠ some e ∧ (A.σ.free.length : Int) < insI (l.length : Int) ∧ en = .returned (.tuple #[.int .u32 0, .int .i64 0, .bool false, .int .i64 2]) ∧ B = A) ∨
  (getE l e.key ≠ some e ∧ insI (l.length : Int) ≤ (A.σ.free.length : Int) ∧ ∃ (j : Nat) (u : Tr), en = .returned (.tuple #[.int .u32 (j : Int), .int .i64 ((getE l e.key).elim 0 (·.val)), .bool (getE l e.key).isSome, .int .i64 0]) ∧ Got A held B j u (insE l e) ∧ (A.σ.free.length : Int) ≤ (B.σ.free.length : Int) + insI (l.length : Int) ∧ B.σ.free.length ≤ A.σ.free.length))
def DelQ (A : Ar) (rd : Int) (held : Nat → Nat) (l : List En) (k : Int) (en : Ending) (B : Ar) (rd' : Int) : Prop :=
  rd ≤ rd' ∧ rd' ≤ rd + updBd l.length ∧ (
  (getE l k = none ∧ en = .returned (.tuple #[.int .u32 0, .int .i64 0, .int .i64 4]) ∧ B = A) ∨
  (getE l k ≠ none ∧ (A.σ.free.length : Int) < delI (l.length : Int) ∧ en = .returned (.tuple #[.int .u32 0, .int .i64 0, .int .i64 2]) ∧ B = A) ∨
  (getE l k ≠ none ∧ delI (l.length : Int) ≤ (A.σ.free.length : Int) ∧ ∃ (j : Nat) (u : Tr), en = .returned (.tuple #[.int .u32 (j : Int), .int .i64 ((getE l k).elim 0 (·.val)), .int .i64 0]) ∧ Got A held B j u (outE l k k) ∧ (A.σ.free.length : Int) ≤ (B.σ.free.length : Int) + delI (l.length : Int) ∧ B.σ.free.length ≤ A.σ.free.length))
structure UpdImpl (I : AImpl) : Prop where
  insert : ∀ {p : Value} {A : Ar} {rd : Int} {F : Nat → Prop} {held : Nat → Nat} {i : Nat} {t : Tr} {l : List En} (e : En) (w : World), I.Is w p A rd F → A.Inv [] held → (∀ j, held j ≤ 1048000) → TreeAt A i t l → WfL l → 0 ≤ rd → rd ≤ 1099510000000 → i64R e.key → i64R e.val →
    Calls Tryz.prog 40 #[p, .int .u32 (i : Int), .agg #[.int .i64 e.key, .int .i64 e.val]] w (Mut I p F (InsQ A rd held i t l e) w)
  delete : ∀ {p : Value} {A : Ar} {rd : Int} {F : Nat → Prop} {held : Nat → Nat} {i : Nat} {t : Tr} {l : List En} (k : Int) (w : World), I.Is w p A rd F → A.Inv [] held → (∀ j, held j ≤ 1048000) → TreeAt A i t l → WfL l → 0 ≤ rd → rd ≤ 1099510000000 → i64R k →
    Calls Tryz.prog 38 #[p, .int .u32 (i : Int), .int .i64 k] w (Mut I p F (DelQ A rd held l k) w)
theorem insE_wf {l : List En} {e : En} (h : WfL l) (he : i64R e.key ∧ i64R e.val) : WfL (insE l e) := fun y hy => (insE_mem hy).elim (h y) fun e' => e' ▸ he
theorem out_wf {l : List En} (h : WfL l) (lo hi : Int) : WfL (outE l lo hi) := fun y hy => h y (List.mem_filter.1 hy).1
end Go.Proofs.YtfihklpofmcfgaaGreat
namespace Go.Proofs.YtfihklpofmcfgaaGreat
theorem union_swap {l m : List En} (hl : Up l) (hm : Up m) : unionE l m 1 = unionE m l 2 := by
  refine up_get_ext (unionE_up hl _ _ _ hl) (unionE_up hm _ _ _ hm) fun k => ?_
  rw [get_union hl hm, get_union hm hl]
  cases h1 : getE l k with
  | none => cases h2 : getE m k with
    | none => rfl
    | some y => have k2 := getE_key h2; subst k2; simp [mixE, h1]
  | some x =>
    have k1 := getE_key h1
    cases h2 : getE m k with
    | none => subst k1; simp [mixE, h2]
    | some y => have k2 := getE_key h2; simp [mixE, k1, k2, h1, h2, chooseV]
theorem exc_alg {l m : List En} (hl : Up l) (hm : Up m) : excE l m = subE (unionE l m 1) (intE l m 1) := by
  have hu : Up (unionE l m 1) := unionE_up hl 1 m l hl
  refine up_get_ext (excE_up hl) (subE_up hu _) fun k => ?_
  rw [get_sub hu, get_int hl, get_union hl hm]
  unfold excE
  rw [get_union (subE_up hl m) (subE_up hm l), get_sub hl, get_sub hm]
  cases h1 : getE l k with
  | none => cases h2 : getE m k with
    | none => rfl
    | some y => have k2 := getE_key h2; simp [mixE, k2, h1, get_sub hl]
  | some x =>
    have k1 := getE_key h1
    cases h2 : getE m k with
    | none => simp [bothE, k1, h2]
    | some y => simp [bothE, k1, h2]
theorem cnt_key {l : List En} (hu : Up l) (k : Int) : l.countP (fun x => decide (x.key = k)) = if (getE l k).isSome then 1 else 0 := by
  induction l with
  | nil => rfl
  | cons e t ih =>
    have hu' := List.pairwise_cons.1 hu
    rw [List.countP_cons, getE_cons]
    by_cases h : e.key = k
    · have h2 : t.countP (fun x => decide (x.key = k)) = 0 := List.countP_eq_zero.2 fun y hy => by have := hu'.1 y hy; simp; omega
      rw [h2]
      simp [h]
    · rw [ih hu'.2]
      simp [h]
theorem len_out (l : List En) (hu : Up l) (k : Int) : l.length = (outE l k k).length + if (getE l k).isSome then 1 else 0 := by
  rw [← cnt_key hu k, List.length_eq_countP_add_countP (fun x => decide (x.key = k))]
  unfold outE
  rw [← List.countP_eq_length_filter, Nat.add_comm]
  congr 1
  refine List.countP_congr fun y _ => ?_
  simp
  omega
theorem ins_len_all {l : List En} (hu : Up l) (f : En) : (insE l f).length + (if (getE l f.key).isSome then 1 else 0) = l.length + 1 := by
  have h1 := len_out (insE l f) (insE_up f hu) f.key
  have h2 := len_out l hu f.key
  rw [get_ins hu f] at h1
  have h3 : outE (insE l f) f.key f.key = outE l f.key f.key := up_ext (List.Pairwise.filter _ (insE_up f hu)) (List.Pairwise.filter _ hu) fun y => by
    rw [out_mem, out_mem, ins_mem]
    constructor
    · rintro ⟨rfl | h, h'⟩
      · exact absurd rfl h'
      · exact h
    · rintro ⟨h, h'⟩
      exact ⟨.inr ⟨h, h'⟩, h'⟩
  rw [h3] at h1
  simp at h1
  omega
theorem int_len_cnt (l m : List En) (p : Int) : (intE l m p).length = l.countP fun x => (getE m x.key).isSome := by
  unfold intE
  rw [List.length_filterMap_eq_countP]
  refine List.countP_congr fun y _ => ?_
  unfold bothE
  cases getE m y.key <;> simp
theorem union_int_len {l : List En} (p q : Int) (hl : Up l) : ∀ (j : Nat) {m : List En}, Up m → m.length = j → (unionE l m p).length + (intE l m q).length = l.length + m.length
  | 0, m, hm, hj => by
    obtain rfl := List.length_eq_zero_iff.1 hj
    have : intE l [] q = [] := by rw [← List.length_eq_zero_iff, int_len_cnt]; exact List.countP_eq_zero.2 fun y _ => by simp [getE]
    rw [this]; rfl
  | j + 1, m, hm, hj => by
    obtain ⟨t, e, rfl⟩ : ∃ t e, m = t ++ [e] := ⟨m.dropLast, m.getLast (by intro h; rw [h] at hj; cases hj), (List.dropLast_concat_getLast _).symm⟩
    have hu := List.pairwise_append.1 hm
    have ih := union_int_len p q hl j hu.1 (by simpa using hj)
    have hn : getE t e.key = none := getE_none fun y hy => by have := hu.2.2 y hy e (by simp); omega
    have hU : unionE l (t ++ [e]) p = insE (unionE l t p) (mixE l p e) := by unfold unionE; rw [List.foldl_append]; rfl
    have h1 := ins_len_all (unionE_up hl p t l hl) (mixE l p e)
    have h2 : getE (unionE l t p) (mixE l p e).key = getE l e.key := by
      have := get_union hl hu.1 p e.key
      rw [hn] at this
      exact this
    rw [show List.foldl (fun out e => insE out (mixE l p e)) l t = unionE l t p from rfl, h2, ← hU] at h1
    have h3 : (intE l (t ++ [e]) q).length = (intE l t q).length + if (getE l e.key).isSome then 1 else 0 := by
      rw [int_len_cnt, int_len_cnt, ← cnt_key hl]
      clear ih h1 h2 hU hl
      induction l with
      | nil => rfl
      | cons x s ihs =>
        rw [List.countP_cons, List.countP_cons, List.countP_cons, ihs, getE_app, getE_cons]
        by_cases h : x.key = e.key
        · rw [h, hn]; simp [h]; omega
        · have h' : ¬ e.key = x.key := fun e' => h e'.symm
          rw [if_neg h']
          have hg : getE ([] : List En) x.key = none := rfl
          rw [hg]
          cases getE t x.key with
          | none => simp [h]
          | some z => simp [h]; omega
    rw [List.length_append, List.length_singleton]
    omega
/-- one key more on the heavy side -/
theorem hv_more {l r : Nat} (h : wb l r) : hv l (r + 1) := by
  unfold wb hv at *
  omega
open Go.RowKit
set_option maxHeartbeats 1000000 in
set_option maxRecDepth 100000 in
theorem rsInsert_any (n : Int) (w : World) (hn : in64 n) : Calls Tryz.prog 72 #[.int .i64 n] w (Calm w (.int .i64 (insI n))) := by
  by_cases vn : vld n
  rotate_left
  · have HE : Hid (insI n = -1) := by show insI n = -1; unfold insI needI; rw [if_neg (fun h => vn h.1)]
    have HV : Hid (decide (vld n) = false) := decide_eq_false vn
    clear hn vn
    go_enter Tryz.func72, Tryz.ntmps72
    go_wp2_with fail
    refine (valid_any n _).mono ?_
    rintro e wv ⟨rfl, rfl⟩
    rw [HV.out]
    go_wp2_with fail
    go_ret
    exact ⟨by rw [HE.out]; rfl, Below.refl _ _⟩
  have hE : insI n = 0 + 4 * (xhI (n + 0 + 0 + 1) + 2) := need_ok vn vld0 vld0
  have HVn : Hid (decide (vld n) = true) := decide_eq_true vn
  rw [show n + 0 + 0 + 1 = n + 1 by omega] at hE
  have har : 0 ≤ n + 1 ∧ n + 1 ≤ 1000000 := by unfold vld at vn; omega
  have hpi := path_in (f := 4) ⟨by decide, by decide⟩ har.1 har.2
  have HC : Hid (∀ wx, Calls Tryz.prog 98 #[.int .i64 (n + 1)] wx (Calm wx (.int .i64 (xhI (n + 1) + 2)))) := fun wx => pathR_any (n + 1) wx har.1 har.2
  obtain ⟨Q, hQ⟩ : ∃ Q, xhI (n + 1) + 2 = Q := ⟨_, rfl⟩
  rw [hQ] at hE hpi HC
  have hq1 : IntKind.i64.wrap (4 * Q) = 4 * Q := by rw [IntKind.wrap_i64]; omega
  have hs0 : IntKind.i64.wrap (n + 1) = n + 1 := by unfold vld at vn; rw [IntKind.wrap_i64]; omega
  have HE := Lib.hid hE
  clear hE har hpi hQ hn vn
  go_enter Tryz.func72, Tryz.ntmps72
  go_wp2_with fail
  refine (valid_any n _).mono ?_
  rintro e wv ⟨rfl, rfl⟩
  rw [HVn.out]
  go_wp2_with fail
  refine (HC.out _).mono ?_
  rintro e w2 ⟨rfl, hb2⟩
  have HB2 := Lib.hid hb2
  clear hb2
  go_wp2_with fail
  go_ret
  exact ⟨by rw [HE.out, Int.zero_add]; rfl, HB2.out⟩
set_option maxHeartbeats 1000000 in
set_option maxRecDepth 100000 in
theorem rsDelete_any (n : Int) (w : World) (hn : in64 n) : Calls Tryz.prog 68 #[.int .i64 n] w (Calm w (.int .i64 (delI n))) := by
  by_cases vn : vld n
  rotate_left
  · have HE : Hid (delI n = -1) := by show delI n = -1; unfold delI needI; rw [if_neg (fun h => vn h.1)]
    have HV : Hid (decide (vld n) = false) := decide_eq_false vn
    clear hn vn
    go_enter Tryz.func68, Tryz.ntmps68
    go_wp2_with fail
    refine (valid_any n _).mono ?_
    rintro e wv ⟨rfl, rfl⟩
    rw [HV.out]
    go_wp2_with fail
    go_ret
    exact ⟨by rw [HE.out]; rfl, Below.refl _ _⟩
  have hE : delI n = 0 + 4 * (xhI (n + 0 + 0 + 0) + 2) := need_ok vn vld0 vld0
  have HVn : Hid (decide (vld n) = true) := decide_eq_true vn
  rw [show n + 0 + 0 + 0 = n by omega] at hE
  have har : 0 ≤ n ∧ n ≤ 1000000 := by unfold vld at vn; omega
  have hpi := path_in (f := 4) ⟨by decide, by decide⟩ har.1 har.2
  have HC : Hid (∀ wx, Calls Tryz.prog 98 #[.int .i64 (n)] wx (Calm wx (.int .i64 (xhI (n) + 2)))) := fun wx => pathR_any (n) wx har.1 har.2
  obtain ⟨Q, hQ⟩ : ∃ Q, xhI (n) + 2 = Q := ⟨_, rfl⟩
  rw [hQ] at hE hpi HC
  have hq1 : IntKind.i64.wrap (4 * Q) = 4 * Q := by rw [IntKind.wrap_i64]; omega
  have HE := Lib.hid hE
  clear hE har hpi hQ hn vn
  go_enter Tryz.func68, Tryz.ntmps68
  go_wp2_with fail
  refine (valid_any n _).mono ?_
  rintro e wv ⟨rfl, rfl⟩
  rw [HVn.out]
  go_wp2_with fail
  refine (HC.out _).mono ?_
  rintro e w2 ⟨rfl, hb2⟩
  have HB2 := Lib.hid hb2
  clear hb2
  go_wp2_with fail
  go_ret
  exact ⟨by rw [HE.out, Int.zero_add]; rfl, HB2.out⟩
theorem concatS_any (I : AImpl) {p : Value} {A : Ar} {rd : Int} {F : Nat → Prop} {held : Nat → Nat} {L R : Nat} {tl tr : Tr} {ll lr : List En} (w : World) (hI : I.Is w p A rd F) (hv : A.Inv [] held) (hm : ∀ j, held j ≤ 1048000) (hL : TreeAt A L tl ll) (hR : TreeAt A R tr lr) (hwl : WfL ll) (hwr : WfL lr) (h0 : 0 ≤ rd) (h1 : rd ≤ 1099511000000) :
    Calls Tryz.prog 99 #[p, .int .u32 (L : Int), .int .u32 (R : Int)] w (Mut I p F (CatS A rd held L R ll lr) w) :=
  concatH_any I w hI hv (fun j => Nat.le_trans (hm j) (by decide)) hL hR hwl hwr h0 h1
end Go.Proofs.YtfihklpofmcfgaaGreat
namespace Go.Proofs.YtfihklpofmcfgaaGreat
theorem hb_more_l {ll ll' lr : List En} (h : wbL ll lr) (h1 : ll.length ≤ ll'.length) (h2 : ll'.length ≤ ll.length + 1) : HbL ll' lr := by
  obtain ⟨g1, g2⟩ := h
  unfold HbL wbL
  by_cases hc : 3 * (lr.length + 1) < ll'.length + 1
  · refine .inr (.inr ⟨hc, ?_⟩)
    have e : ll'.length + 1 = ll.length + 1 + 1 := by omega
    rw [e]
    exact hv_more (l := lr.length + 1) (r := ll.length + 1) ⟨g2, g1⟩
  · exact .inl ⟨by omega, by omega⟩
theorem hb_more_r {ll lr lr' : List En} (h : wbL ll lr) (h1 : lr.length ≤ lr'.length) (h2 : lr'.length ≤ lr.length + 1) : HbL ll lr' := by
  obtain ⟨g1, g2⟩ := h
  unfold HbL wbL
  by_cases hc : 3 * (ll.length + 1) < lr'.length + 1
  · refine .inr (.inl ⟨hc, ?_⟩)
    have e : lr'.length + 1 = lr.length + 1 + 1 := by omega
    rw [e]
    exact hv_more (l := ll.length + 1) (r := lr.length + 1) ⟨g1, g2⟩
  · exact .inl ⟨by omega, by omega⟩
theorem hb_less_l {ll ll' lr : List En} (h : wbL ll lr) (h1 : ll'.length ≤ ll.length) (h2 : ll.length ≤ ll'.length + 1) : HbL ll' lr := by
  obtain ⟨g1, g2⟩ := h
  unfold HbL wbL
  by_cases hc : 3 * (ll'.length + 1) < lr.length + 1
  · refine .inr (.inl ⟨hc, ?_⟩)
    have e : ll.length + 1 = ll'.length + 1 + 1 := by omega
    rw [e] at g1 g2
    exact hv_less (l := ll'.length + 1) (r := lr.length + 1) ⟨g1, g2⟩
  · exact .inl ⟨by omega, by omega⟩
theorem hb_less_r {ll lr lr' : List En} (h : wbL ll lr) (h1 : lr'.length ≤ lr.length) (h2 : lr.length ≤ lr'.length + 1) : HbL ll lr' := by
  obtain ⟨g1, g2⟩ := h
  unfold HbL wbL
  by_cases hc : 3 * (lr'.length + 1) < ll.length + 1
  · refine .inr (.inr ⟨hc, ?_⟩)
    have e : lr.length + 1 = lr'.length + 1 + 1 := by omega
    rw [e] at g1 g2
    exact hv_less (l := lr'.length + 1) (r := ll.length + 1) ⟨g2, g1⟩
  · exact .inl ⟨by omega, by omega⟩
theorem filN1 {l : List En} {q : En → Bool} (h : ∀ e ∈ l, q e = true) : l.filter q = l := List.filter_eq_self.2 h
theorem get_l {ll lr : List En} {e : En} {k : Int} (hu : Up (ll ++ e :: lr)) (hk : k < e.key) : getE (ll ++ e :: lr) k = getE ll k := by
  obtain ⟨-, -, h3, h4⟩ := up_app hu
  have hge : ∀ x ∈ e :: lr, k < x.key := fun x hx => by
    rcases List.mem_cons.1 hx with rfl | hx
    · exact hk
    · have := h4 x hx; omega
  rw [getE_app, getE_none (l := e :: lr) (fun x hx => by have := hge x hx; omega), Option.or_none]
theorem get_r {ll lr : List En} {e : En} {k : Int} (hu : Up (ll ++ e :: lr)) (hk : e.key < k) : getE (ll ++ e :: lr) k = getE lr k := by
  obtain ⟨-, -, h3, h4⟩ := up_app hu
  rw [getE_app, getE_none (l := ll) (fun x hx => by have := h3 x hx; omega), Option.none_or]
  unfold getE
  rw [List.find?_cons_of_neg (by simp; omega)]
theorem up_mid {ll lr : List En} {e : En} (h1 : Up ll) (h2 : Up lr) (h3 : ∀ x ∈ ll, x.key < e.key) (h4 : ∀ x ∈ lr, e.key < x.key) : Up (ll ++ e :: lr) := by
  refine List.pairwise_append.2 ⟨h1, List.pairwise_cons.2 ⟨h4, h2⟩, fun x hx y hy => ?_⟩
  rcases List.mem_cons.1 hy with rfl | hy
  · exact h3 x hx
  · have := h3 x hx; have := h4 y hy; omega
theorem ins_l {ll lr : List En} {x e : En} (hu : Up (ll ++ x :: lr)) (hk : e.key < x.key) : insE (ll ++ x :: lr) e = insE ll e ++ x :: lr := by
  obtain ⟨h1, h2, h3, h4⟩ := up_app hu
  refine up_ext (insE_up e hu) (up_mid (insE_up e h1) h2 (fun y hy => ?_) h4) fun y => ?_
  · rcases (ins_mem ll e y).1 hy with rfl | ⟨h, _⟩
    · exact hk
    · exact h3 y h
  · rw [ins_mem, List.mem_append, List.mem_append, ins_mem]
    constructor
    · rintro (h | ⟨h | h, h'⟩)
      · exact .inl (.inl h)
      · exact .inl (.inr ⟨h, h'⟩)
      · exact .inr h
    · rintro ((h | ⟨h, h'⟩) | h)
      · exact .inl h
      · exact .inr ⟨.inl h, h'⟩
      · refine .inr ⟨.inr h, ?_⟩
        rcases List.mem_cons.1 h with rfl | h
        · omega
        · have := h4 y h; omega
theorem ins_r {ll lr : List En} {x e : En} (hu : Up (ll ++ x :: lr)) (hk : x.key < e.key) : insE (ll ++ x :: lr) e = ll ++ x :: insE lr e := by
  obtain ⟨h1, h2, h3, h4⟩ := up_app hu
  refine up_ext (insE_up e hu) (up_mid h1 (insE_up e h2) h3 fun y hy => ?_) fun y => ?_
  · rcases (ins_mem lr e y).1 hy with rfl | ⟨h, _⟩
    · exact hk
    · exact h4 y h
  · rw [ins_mem, List.mem_append, List.mem_append, List.mem_cons, List.mem_cons, ins_mem]
    constructor
    · rintro (h | ⟨h | h | h, h'⟩)
      · exact .inr (.inr (.inl h))
      · exact .inl h
      · exact .inr (.inl h)
      · exact .inr (.inr (.inr ⟨h, h'⟩))
    · rintro (h | h | h | ⟨h, h'⟩)
      · exact .inr ⟨.inl h, by have := h3 y h; omega⟩
      · exact .inr ⟨.inr (.inl h), by rw [h]; omega⟩
      · exact .inl h
      · exact .inr ⟨.inr (.inr h), h'⟩
theorem ins_m {ll lr : List En} {x e : En} (hu : Up (ll ++ x :: lr)) (hk : e.key = x.key) : insE (ll ++ x :: lr) e = ll ++ e :: lr := by
  obtain ⟨h1, h2, h3, h4⟩ := up_app hu
  refine up_ext (insE_up e hu) (up_mid h1 h2 (fun y hy => by rw [hk]; exact h3 y hy) fun y hy => by rw [hk]; exact h4 y hy) fun y => ?_
  rw [ins_mem, List.mem_append, List.mem_append, List.mem_cons, List.mem_cons]
  constructor
  · rintro (h | ⟨h | h | h, h'⟩)
    · exact .inr (.inl h)
    · exact .inl h
    · rw [h, hk] at h'; exact absurd rfl h'
    · exact .inr (.inr h)
  · rintro (h | h | h)
    · exact .inr ⟨.inl h, by have := h3 y h; omega⟩
    · exact .inl h
    · exact .inr ⟨.inr (.inr h), by have := h4 y h; omega⟩
theorem out_l {ll lr : List En} {x : En} {k : Int} (hu : Up (ll ++ x :: lr)) (hk : k < x.key) : outE (ll ++ x :: lr) k k = outE ll k k ++ x :: lr := by
  obtain ⟨-, -, h3, h4⟩ := up_app hu
  unfold outE
  rw [List.filter_append, filN1 (l := x :: lr)]
  intro y hy
  rcases List.mem_cons.1 hy with rfl | hy
  · simp; omega
  · have := h4 y hy; simp; omega
theorem out_r {ll lr : List En} {x : En} {k : Int} (hu : Up (ll ++ x :: lr)) (hk : x.key < k) : outE (ll ++ x :: lr) k k = ll ++ x :: outE lr k k := by
  obtain ⟨-, -, h3, h4⟩ := up_app hu
  unfold outE
  rw [List.filter_append, List.filter_cons, if_pos (by simp; omega), filN1 (l := ll)]
  intro y hy
  have := h3 y hy
  simp; omega
theorem out_m {ll lr : List En} {x : En} (hu : Up (ll ++ x :: lr)) : outE (ll ++ x :: lr) x.key x.key = ll ++ lr := by
  obtain ⟨-, -, h3, h4⟩ := up_app hu
  unfold outE
  rw [List.filter_append, List.filter_cons, if_neg (by simp), filN1 (l := ll), filN1 (l := lr)]
  · intro y hy; have := h4 y hy; simp; omega
  · intro y hy; have := h3 y hy; simp; omega
theorem out_lenN (l : List En) : ∀ (hu : Up l) (k : Int), (outE l k k).length ≤ l.length ∧ l.length ≤ (outE l k k).length + 1 := by
  intro hu k
  refine ⟨List.length_filter_le _ _, ?_⟩
  induction l with
  | nil => simp
  | cons x t ih =>
    obtain ⟨h1, h2⟩ := List.pairwise_cons.1 hu
    have h3 := ih h2
    unfold outE at h3 ⊢
    rw [List.filter_cons]
    by_cases hx : x.key = k
    · rw [if_neg (by simp; omega), filN1 (l := t) (fun y hy => by have := h1 y hy; simp; omega)]
      simp
    · rw [if_pos (by simp; omega)]
      simp only [List.length_cons]
      omega
theorem ins_lenN {l : List En} (hu : Up l) (e : En) : l.length ≤ (insE l e).length ∧ (insE l e).length ≤ l.length + 1 := by
  refine ⟨?_, insE_len l e⟩
  have h1 := out_lenN (insE l e) (insE_up e hu) e.key
  have h2 : outE (insE l e) e.key e.key = outE l e.key e.key := up_ext (out_up0 (insE_up e hu) _ _) (out_up0 hu _ _) fun y => by
    rw [out_mem, out_mem, ins_mem]
    constructor
    · rintro ⟨h | ⟨h, _⟩, h'⟩
      · rw [h] at h'; exact absurd rfl h'
      · exact ⟨h, h'⟩
    · rintro ⟨h, h'⟩
      exact ⟨.inr ⟨h, h'⟩, h'⟩
  have h3 := out_lenN l hu e.key
  have h4 : e ∈ insE l e := (ins_mem l e e).2 (.inl rfl)
  have h5 : (outE (insE l e) e.key e.key).length < (insE l e).length := by
    unfold outE
    refine Nat.lt_of_le_of_ne (List.length_filter_le _ _) fun q => ?_
    have := (List.length_filter_eq_length_iff.1 q) e h4
    simp at this
  rw [h2] at h1 h5
  omega
/-- what a call made of an arena has no more free slots -/
theorem kept_free {A B : Ar} (hA : A.σ.Ok) (hB : B.σ.Ok) (h : A.Kept B) : B.σ.free.length ≤ A.σ.free.length := by
  refine nd_len hB.nodup fun x hx => ?_
  have h1 := (hB.free x).1 hx
  refine (hA.free x).2 ⟨h1.1, by rw [← h.cap]; exact h1.2.1, ?_⟩
  cases ho : A.σ.on x
  · rfl
  · have h2 := h.on x ho
    rw [h1.2.2] at h2
    cases h2
open Go.RowKit
set_option maxHeartbeats 16000000 in
set_option maxRecDepth 100000 in
theorem replL_any (I : AImpl) (K : RotImpl I) (KN : ShNum) {p : Value} {A0 A : Ar} {rd k : Int} {F : Nat → Prop} {held : Nat → Nat} {x : Nat} {X : Nd} {tl tr : Tr} {ll lr : List En} (w : World) (hI : I.Is w p A rd F) (hM : Mid A0 held A [x]) (hm : ∀ j, held j ≤ 1048480)
    (hL : At A x tl ll) (hR : At A X.right tr lr) (hwl : WfL ll) (hwr : WfL lr) (hwe : i64R X.key ∧ i64R X.val) (hb : HbL ll lr) (hs : ll.length + lr.length + 1 ≤ 2147483647) (h0 : 0 ≤ rd) (h1 : rd ≤ 2199023254900) (hfr : (wbL ll lr ∧ 1 ≤ A.σ.free.length) ∨ 4 ≤ A.σ.free.length) (hk : k < X.key) :
    Calls Tryz.prog 100 #[p, .agg #[Value.int .i64 X.key, .int .i64 X.val, .int .u32 (X.left : Int), .int .u32 (X.right : Int), .int .i64 X.size, .int .i64 X.sum, .int .i64 X.mn, .int .i64 X.mx], .int .i64 k, .int .u32 (x : Int)] w (Mut I p F (BalQ A0 A rd held ll lr ⟨X.key, X.val⟩) w) := by
  obtain ⟨pa, rfl⟩ := I.ptr hI
  have hs0 := (Ins.start hI).box #[Value.int .i64 X.key, .int .i64 X.val, .int .u32 (X.left : Int), .int .u32 (X.right : Int), .int .i64 X.size, .int .i64 X.sum, .int .i64 X.mn, .int .i64 X.mx] 81
  have HK := Lib.hid K
  have HKN := Lib.hid KN
  have HM := Lib.hid hM
  have HH := Lib.hid hm
  have HL := Lib.hid hL
  have HR := Lib.hid hR
  have HW : Hid (WfL ll ∧ WfL lr ∧ (i64R X.key ∧ i64R X.val)) := ⟨hwl, hwr, hwe⟩
  have HB := Lib.hid hb
  have HSZ := Lib.hid hs
  have HFR := Lib.hid hfr
  have HRD : Hid (0 ≤ rd ∧ rd ≤ 2199023254900) := ⟨h0, h1⟩
  have d1 : decide (k < X.key) = true := decide_eq_true hk
  clear hI hM hm hL hR hwl hwr hwe hb hs hfr h0 h1 K KN
  go_enter Tryz.func100, Tryz.ntmps100
  go_upto_region 1 with fail
  generalize w.alloc (Obj.cells #[Value.int .i64 X.key, .int .i64 X.val, .int .u32 (X.left : Int), .int .u32 (X.right : Int), .int .i64 X.size, .int .i64 X.sum, .int .i64 X.mn, .int .i64 X.mx] 81) = w1 at hs0 ⊢
  generalize w.heap.size = g at hs0 ⊢
  have hsd := hs0.calm (Below.refl _ _).drew
  obtain ⟨⟨x0, x1, x2, x3, x4, x5, x6, x7⟩, -⟩ := hs0.row8 (g := g) (X := X) (by simp [ndRow])
  have HSD := Lib.hid hsd
  clear hsd hs0
  go_region
  obtain ⟨⟨x0, x1, x2, x3, x4, x5, x6, x7⟩, -⟩ := HSD.out.row8 (g := g) (X := X) (by simp [ndRow])
  go_wp2_with fail
  refine (HSD.out.mut fun F1 hI1 => balance_any I HK.out HKN.out ⟨X.key, X.val⟩ _ hI1 HM.out.inv HM.out.agg (fun j => Nat.le_trans (plL_le HH.out [x] j) (show 1048480 + 1 ≤ 1048490 by decide)) HL.out HR.out HW.out.1 HW.out.2.1 HW.out.2.2 HB.out HSZ.out HRD.out.1 HRD.out.2 HFR.out).mono ?_
  rintro eB wB ⟨B, rdB, ⟨b1, b2, j, t, rfl, b3, b4, b5, b6⟩, hsB⟩
  obtain ⟨u1, u2, u3, u4, u5⟩ := nest_give HM.out b3 b4
  have HSB := Lib.hid hsB
  have HU : Hid (B.Inv [x] (plL held [j]) ∧ B.Idx x ∧ x < 4294967296) := ⟨u1, u2, idx_lt32 b3.inv u2⟩
  have HQ : Hid (BalQ A0 A rd held ll lr ⟨X.key, X.val⟩ (.returned (.tuple #[.int .u32 (j : Int), .int .i64 0])) (B.gone x) rdB) := ⟨b1, b2, j, t, rfl, u3, u5, fun q => by have := b5 q; omega, by omega⟩
  clear hsB HSD b1 b2 b3 b4 b5 b6 u1 u2 u3 u4 u5 x0 x1 x2 x3 x4 x5 x6 x7
  go_wp2_with fail
  refine (HSB.out.release HU.out.2.2 HU.out.2.1 HU.out.1).mono ?_
  rintro en w9 ⟨rfl, hs9⟩
  have HE := Lib.hid hs9.ends
  clear hs9 HSB
  go_wp2_with fail
  go_ret2
  obtain ⟨F', hal, hI⟩ := HE.out
  exact ⟨F', _, rdB, hal, hI, HQ.out⟩
set_option maxHeartbeats 16000000 in
set_option maxRecDepth 100000 in
theorem replR_any (I : AImpl) (K : RotImpl I) (KN : ShNum) {p : Value} {A0 A : Ar} {rd k : Int} {F : Nat → Prop} {held : Nat → Nat} {x : Nat} {X : Nd} {tl tr : Tr} {ll lr : List En} (w : World) (hI : I.Is w p A rd F) (hM : Mid A0 held A [x]) (hm : ∀ j, held j ≤ 1048480)
    (hL : At A X.left tl ll) (hR : At A x tr lr) (hwl : WfL ll) (hwr : WfL lr) (hwe : i64R X.key ∧ i64R X.val) (hb : HbL ll lr) (hs : ll.length + lr.length + 1 ≤ 2147483647) (h0 : 0 ≤ rd) (h1 : rd ≤ 2199023254900) (hfr : (wbL ll lr ∧ 1 ≤ A.σ.free.length) ∨ 4 ≤ A.σ.free.length) (hk : ¬ k < X.key) :
    Calls Tryz.prog 100 #[p, .agg #[Value.int .i64 X.key, .int .i64 X.val, .int .u32 (X.left : Int), .int .u32 (X.right : Int), .int .i64 X.size, .int .i64 X.sum, .int .i64 X.mn, .int .i64 X.mx], .int .i64 k, .int .u32 (x : Int)] w (Mut I p F (BalQ A0 A rd held ll lr ⟨X.key, X.val⟩) w) := by
  obtain ⟨pa, rfl⟩ := I.ptr hI
  have hs0 := (Ins.start hI).box #[Value.int .i64 X.key, .int .i64 X.val, .int .u32 (X.left : Int), .int .u32 (X.right : Int), .int .i64 X.size, .int .i64 X.sum, .int .i64 X.mn, .int .i64 X.mx] 81
  have HK := Lib.hid K
  have HKN := Lib.hid KN
  have HM := Lib.hid hM
  have HH := Lib.hid hm
  have HL := Lib.hid hL
  have HR := Lib.hid hR
  have HW : Hid (WfL ll ∧ WfL lr ∧ (i64R X.key ∧ i64R X.val)) := ⟨hwl, hwr, hwe⟩
  have HB := Lib.hid hb
  have HSZ := Lib.hid hs
  have HFR := Lib.hid hfr
  have HRD : Hid (0 ≤ rd ∧ rd ≤ 2199023254900) := ⟨h0, h1⟩
  have d1 : decide (k < X.key) = false := decide_eq_false hk
  clear hI hM hm hL hR hwl hwr hwe hb hs hfr h0 h1 K KN
  go_enter Tryz.func100, Tryz.ntmps100
  go_upto_region 1 with fail
  generalize w.alloc (Obj.cells #[Value.int .i64 X.key, .int .i64 X.val, .int .u32 (X.left : Int), .int .u32 (X.right : Int), .int .i64 X.size, .int .i64 X.sum, .int .i64 X.mn, .int .i64 X.mx] 81) = w1 at hs0 ⊢
  generalize w.heap.size = g at hs0 ⊢
  have hsd := hs0.calm (Below.refl _ _).drew
  obtain ⟨⟨x0, x1, x2, x3, x4, x5, x6, x7⟩, -⟩ := hs0.row8 (g := g) (X := X) (by simp [ndRow])
  have HSD := Lib.hid hsd
  clear hsd hs0
  go_region
  obtain ⟨⟨x0, x1, x2, x3, x4, x5, x6, x7⟩, -⟩ := HSD.out.row8 (g := g) (X := X) (by simp [ndRow])
  go_wp2_with fail
  refine (HSD.out.mut fun F1 hI1 => balance_any I HK.out HKN.out ⟨X.key, X.val⟩ _ hI1 HM.out.inv HM.out.agg (fun j => Nat.le_trans (plL_le HH.out [x] j) (show 1048480 + 1 ≤ 1048490 by decide)) HL.out HR.out HW.out.1 HW.out.2.1 HW.out.2.2 HB.out HSZ.out HRD.out.1 HRD.out.2 HFR.out).mono ?_
  rintro eB wB ⟨B, rdB, ⟨b1, b2, j, t, rfl, b3, b4, b5, b6⟩, hsB⟩
  obtain ⟨u1, u2, u3, u4, u5⟩ := nest_give HM.out b3 b4
  have HSB := Lib.hid hsB
  have HU : Hid (B.Inv [x] (plL held [j]) ∧ B.Idx x ∧ x < 4294967296) := ⟨u1, u2, idx_lt32 b3.inv u2⟩
  have HQ : Hid (BalQ A0 A rd held ll lr ⟨X.key, X.val⟩ (.returned (.tuple #[.int .u32 (j : Int), .int .i64 0])) (B.gone x) rdB) := ⟨b1, b2, j, t, rfl, u3, u5, fun q => by have := b5 q; omega, by omega⟩
  clear hsB HSD b1 b2 b3 b4 b5 b6 u1 u2 u3 u4 u5 x0 x1 x2 x3 x4 x5 x6 x7
  go_wp2_with fail
  refine (HSB.out.release HU.out.2.2 HU.out.2.1 HU.out.1).mono ?_
  rintro en w9 ⟨rfl, hs9⟩
  have HE := Lib.hid hs9.ends
  clear hs9 HSB
  go_wp2_with fail
  go_ret2
  obtain ⟨F', hal, hI⟩ := HE.out
  exact ⟨F', _, rdB, hal, hI, HQ.out⟩
/-- what replaceChild answers where the child was made anew -/
def RepQ (A B : Ar) (rd : Int) (held : Nat → Nat) (l : List En) (en : Ending) (C : Ar) (rd' : Int) : Prop :=
  rd ≤ rd' ∧ rd' ≤ rd + 9 ∧ ∃ (j : Nat) (t : Tr), en = .returned (.tuple #[.int .u32 (j : Int), .int .i64 0]) ∧ Mid A held C [j] ∧ At C j t l ∧ B.σ.free.length ≤ C.σ.free.length + 3
def RepOk (I : AImpl) (p : Value) (A : Ar) (held : Nat → Nat) (X : Nd) (k : Int) (lc l : List En) : Prop := ∀ {w1 : World} {B : Ar} {rd1 : Int} {F1 : Nat → Prop} {j : Nat} {u : Tr}, I.Is w1 p B rd1 F1 → Mid A held B [j] → At B j u lc → 4 ≤ B.σ.free.length → 0 ≤ rd1 → rd1 ≤ 2199023254900 →
    Calls Tryz.prog 100 #[p, .agg #[Value.int .i64 X.key, .int .i64 X.val, .int .u32 (X.left : Int), .int .u32 (X.right : Int), .int .i64 X.size, .int .i64 X.sum, .int .i64 X.mn, .int .i64 X.mx], .int .i64 k, .int .u32 (j : Int)] w1 (Mut I p F1 (RepQ A B rd1 held l) w1)
theorem repOk_l (I : AImpl) (K : RotImpl I) (KN : ShNum) {p : Value} {A : Ar} {held : Nat → Nat} {X : Nd} {k : Int} {tr : Tr} {lc lr l : List En} (hm : ∀ j, held j ≤ 1048480) (hR : At A X.right tr lr) (hwl : WfL lc) (hwr : WfL lr) (hwe : i64R X.key ∧ i64R X.val) (hb : HbL lc lr) (hs : lc.length + lr.length + 1 ≤ 2147483647) (hk : k < X.key) (hl : lc ++ ⟨X.key, X.val⟩ :: lr = l) : RepOk I p A held X k lc l :=
  fun {w1 B rd1 F1 j u} hI hM hj hf h0 h1 => (replL_any I K KN w1 hI hM hm hj (hR.kept hM.kept) hwl hwr hwe hb hs h0 h1 (.inr hf) hk).mono fun en w' ⟨F', C, rd', c1, c2, q1, q2, j2, t2, q3, q4, q5, _, q6⟩ => ⟨F', C, rd', c1, c2, q1, q2, j2, t2, q3, q4, hl ▸ q5, q6⟩
theorem repOk_r (I : AImpl) (K : RotImpl I) (KN : ShNum) {p : Value} {A : Ar} {held : Nat → Nat} {X : Nd} {k : Int} {tl : Tr} {ll lc l : List En} (hm : ∀ j, held j ≤ 1048480) (hL : At A X.left tl ll) (hwl : WfL ll) (hwr : WfL lc) (hwe : i64R X.key ∧ i64R X.val) (hb : HbL ll lc) (hs : ll.length + lc.length + 1 ≤ 2147483647) (hk : ¬ k < X.key) (hl : ll ++ ⟨X.key, X.val⟩ :: lc = l) : RepOk I p A held X k lc l :=
  fun {w1 B rd1 F1 j u} hI hM hj hf h0 h1 => (replR_any I K KN w1 hI hM hm (hL.kept hM.kept) hj hwl hwr hwe hb hs h0 h1 (.inr hf) hk).mono fun en w' ⟨F', C, rd', c1, c2, q1, q2, j2, t2, q3, q4, q5, _, q6⟩ => ⟨F', C, rd', c1, c2, q1, q2, j2, t2, q3, q4, hl ▸ q5, q6⟩
end Go.Proofs.YtfihklpofmcfgaaGreat
