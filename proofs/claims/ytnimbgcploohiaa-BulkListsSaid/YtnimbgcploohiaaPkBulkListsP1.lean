/- Of the proof of PkBulkListsP: Bytes, Trees, RefNum, RefSub, KitMod, LkCon, Scene, JnDuo, LawBkList. -/
import Derived.Test.YtnimbgcploohiaaPk1
import Derived.Test.YtnimbgcploohiaaPk2
import Derived.Test.YtnimbgcploohiaaPk3
import Derived.Test.YtnimbgcploohiaaPk4
import Derived.Test.YtnimbgcploohiaaPk5
import Derived.Test.YtnimbgcploohiaaPk7
import Derived.Lib.Zigzag
import Derived.Laws.BitsAllLaws
import Derived.Laws.Bits128
import Derived.RowKit
import Derived.Below
import Derived.Laws.OwnMore
import Derived.OwnWalk
import Derived.Deep.Draws
import Derived.Laws.BitsLemmas
import Derived.Laws.Rows
import Derived.Laws.CopyOwn
import Derived.Deep.DeepCutAuto
import Derived.RegionTactic
import Derived.Laws.AppendOwnNone
import Derived.Deep.RegionHeldLaw
import Derived.Deep.QuietTactic
import Derived.Deep.RegionHeld3
set_option linter.unusedVariables false
namespace Go.Proofs.Ytnimbgcploohiaa
open Go
theorem tmod_neg (n m : Int) (h : n < 0) (hm : 1 ≤ m) : n.tmod m = -((-n) % m) := by
  have : n = -(-n) := by omega
  rw [this, Int.neg_tmod, Int.tmod_eq_emod_of_nonneg (by omega)]
  simp
theorem mod_of_tmod (n m : Int) (h : n < 0) (hm : 1 ≤ m) : n % m = if n.tmod m < 0 then n.tmod m + m else n.tmod m := by
  have e := tmod_neg n m h hm
  have h1 := Int.emod_nonneg (-n) (b := m) (by omega)
  have h2 := Int.emod_lt_of_pos (-n) (b := m) (by omega)
  have h3 := Int.mul_ediv_add_emod (-n) m
  split
  · have : n = (m - (-n) % m) + m * (-((-n) / m) - 1) := by rw [Int.mul_sub, Int.mul_neg]; omega
    rw [e]
    rw [this, Int.add_mul_emod_self_left, Int.emod_eq_of_lt (by omega) (by omega), ← this]
    omega
  · have h0 : (-n) % m = 0 := by omega
    rw [e, h0]
    exact Int.emod_eq_zero_of_dvd ((Int.dvd_neg).1 (Int.dvd_of_emod_eq_zero h0))
end Go.Proofs.Ytnimbgcploohiaa
set_option linter.unusedVariables false
namespace Go.Proofs.Ytnimbgcploohiaa
open Go Go.RowKit
end Go.Proofs.Ytnimbgcploohiaa
set_option linter.unusedVariables false
namespace Go.Proofs.Ytnimbgcploohiaa
end Go.Proofs.Ytnimbgcploohiaa
set_option linter.unusedVariables false
namespace Go.Proofs.Ytnimbgcploohiaa
end Go.Proofs.Ytnimbgcploohiaa
set_option linter.unusedVariables false
namespace Go.Proofs.Ytnimbgcploohiaa
theorem wt_small : wt 80 < 1000000000000 := by decide
def xhI (n : Int) : Int := if 0 ≤ n ∧ n ≤ 2147483647 then (xh n.toNat : Int) else -1
end Go.Proofs.Ytnimbgcploohiaa
set_option linter.unusedVariables false
set_option linter.unusedSimpArgs false
namespace Go.Proofs.Ytnimbgcploohiaa
open Go.RowKit
def zero81 : Array Value := Array.replicate 81 (.int .i64 0)
/-- the weights up to height h, then zeros -/
def wtv (h : Nat) : Array Value := (Array.range 81).map fun j => .int .i64 (if j ≤ h then (wt j : Int) else 0)
theorem zero81_run : ∀ w, (zeroValue 117).run Try.prog w = .ok (.agg zero81) w := by
  have h : (Try.prog.info? 117).map (·.zero) = some (some (.agg zero81)) := by kernel_rfl
  intro w
  cases hi : Try.prog.info? 117 with
  | none => simp [hi] at h
  | some i =>
    have hz : i.zero = some (.agg zero81) := by simpa [hi] using h
    simp [zeroValue, typeInfo, hi, hz]
theorem wtv_size (h : Nat) : (wtv h).size = 81 := by simp [wtv]
theorem wtv_at (h j : Nat) (hj : j < 81) : (wtv h)[j]? = some (.int .i64 (if j ≤ h then (wt j : Int) else 0)) := by simp [wtv, hj]
theorem wtv_at2 (h j : Nat) : (wtv h)[j]? = if j < 81 then some (.int .i64 (if j ≤ h then (wt j : Int) else 0)) else none := by
  by_cases hj : j < 81
  · rw [if_pos hj]; exact wtv_at h j hj
  · rw [if_neg hj]; exact Array.getElem?_eq_none (by rw [wtv_size]; omega)
theorem zero81_at (j : Nat) : zero81[j]? = if j < 81 then some (.int .i64 0) else none := by
  by_cases hj : j < 81
  · rw [if_pos hj]; simp [zero81, hj]
  · rw [if_neg hj]; exact Array.getElem?_eq_none (by simp [zero81]; omega)
theorem wtv_zero : zero81.setIfInBounds 0 (.int .i64 1) = wtv 0 := by
  apply Array.ext_getElem?
  intro j
  rw [wtv_at2]
  by_cases e : 0 = j
  · subst e
    rw [Array.getElem?_setIfInBounds_self_of_lt (by simp [zero81])]
    rfl
  · rw [Array.getElem?_setIfInBounds_ne e, zero81_at]
    have h2 : ¬ j ≤ 0 := by omega
    rw [if_neg h2]
theorem wtv_step (h : Nat) (hh : h + 1 < 81) (v : Int) (hv : v = (wt (h + 1) : Int)) : (wtv h).setIfInBounds (h + 1) (.int .i64 v) = wtv (h + 1) := by
  subst hv
  apply Array.ext_getElem?
  intro j
  rw [wtv_at2]
  by_cases e : h + 1 = j
  · subst e
    rw [Array.getElem?_setIfInBounds_self_of_lt (by rw [wtv_size]; exact hh), if_pos hh, if_pos (Nat.le_refl _)]
  · rw [Array.getElem?_setIfInBounds_ne e, wtv_at2]
    by_cases e2 : j ≤ h
    · rw [if_pos e2, if_pos (show j ≤ h + 1 by omega)]
    · rw [if_neg e2, if_neg (show ¬ j ≤ h + 1 by omega)]
theorem wtv_one (h : Nat) : (wtv h).all (·.oneCell') = true := by
  rw [Array.all_eq_true]
  intro i h
  simp [wtv, Value.oneCell']
def WRel (w : World) (i : Value) (wr : World) : Prop :=
  ∃ k : Nat, k < 81 ∧ i = .int .i64 ((k : Int) + 1) ∧ wr.heap[w.heap.size]? = some (.cells zero81 117 (0, 0)) ∧ wr.heap[w.heap.size + 1]? = some (.cells (wtv k) 117 (0, 0)) ∧ Below w.heap.size w wr
theorem WRel.drew {w wr : World} {i : Value} (h : WRel w i wr) : WRel w i wr.drew := by
  obtain ⟨k, h1, h2, h3, h4, h5⟩ := h
  exact ⟨k, h1, h2, h3, h4, h5.drew⟩
set_option maxHeartbeats 1000000 in
set_option maxRecDepth 100000 in
theorem weights_any (w : World) : Calls Try.prog 64 #[] w fun e w' => e = .returned (.agg (wtv 80)) ∧ Below w.heap.size w w' := by
  have hz := zero81_run
  have hu : (Try.prog.underlying 117) = some (.array 81 3) := by kernel_rfl
  have hi : (Try.prog.info? 117).map (·.size) = some 81 := by kernel_rfl
  have HU := Lib.hid hu
  have HI := Lib.hid hi
  clear hu hi
  go_enter Try.func64, Try.ntmps64
  go_upto_region 2 with fail
  have hB0 : Below w.heap.size w ((w.alloc (Obj.cells zero81 117)).alloc (Obj.cells zero81 117)) := ((Below.refl _ _).alloc (Nat.le_refl _) _).alloc (by simp) _
  have h0 := heap_alloc2_old w (Obj.cells zero81 117) (Obj.cells zero81 117)
  have h1 := heap_alloc2_new w (Obj.cells zero81 117) (Obj.cells zero81 117)
  clear hz
  generalize (w.alloc (Obj.cells zero81 117)).alloc (Obj.cells zero81 117) = w1 at hB0 h0 h1 ⊢
  have hc0 : w1.cell? ⟨w.heap.size + 1, 0, none⟩ = some (.int .i64 0) := by rw [cell_of_row _ _ _ _ _ _ h1, zero81_at]; rfl
  have hf0 := frozen_of_row w1 (w.heap.size + 1) 0 zero81 _ h1
  have HR0 : Hid (WRel w (.int .i64 1) (w1.setCell ⟨w.heap.size + 1, 0, none⟩ (.int .i64 1))) := ⟨0, by omega, rfl, by
    rw [heap_setCell_other _ _ _ _ (by show w.heap.size ≠ w.heap.size + 1; omega)]
    exact h0, by rw [← wtv_zero]; exact heap_setCell_same w1 (w.heap.size + 1) 0 zero81 _ _ h1, hB0.setCell (by show w.heap.size ≤ w.heap.size + 1; omega) _⟩
  clear hB0 h0 h1
  go_wp2_with fail
  go_loopw [2] (fun i wr => WRel w i wr) (fun i _ => 81 - (intOf i).toNat)
  case atStart => exact HR0.out
  case round =>
    clear HR0 hc0 hf0
    obtain ⟨k, hk, rfl, h0, h1, hB⟩ := hrel
    by_cases hlt : k < 80
    · have hki : (k : Int) + 1 ≤ 80 := by omega
      have hk0 : (0 : Int) ≤ (k : Int) := by omega
      have HK : Hid (k < 80) := hlt
      have hwl : wt k < 1000000000000 := Nat.lt_of_le_of_lt (wt_mono (show k ≤ 80 by omega)) wt_small
      have hc1 : wr.cell? ⟨w.heap.size + 1, k, none⟩ = some (.int .i64 (wt k : Int)) := by
        rw [cell_of_row _ _ _ _ _ _ h1, wtv_at _ _ (by omega), if_pos (Nat.le_refl k)]
      have hc2 : wr.cell? ⟨w.heap.size + 1, k + 1, none⟩ = some (.int .i64 0) := by
        rw [cell_of_row _ _ _ _ _ _ h1, wtv_at _ _ (by omega), if_neg (by omega)]
      have hf2 := frozen_of_row wr (w.heap.size + 1) (k + 1) (wtv k) _ h1
      have HST : Hid (∀ v : Int, v = (wt (k + 1) : Int) → WRel w (.int .i64 ((k : Int) + 1 + 1)) (wr.setCell ⟨w.heap.size + 1, k + 1, none⟩ (.int .i64 v))) := fun v hv => ⟨k + 1, by omega, by congr 1, by
        rw [heap_setCell_other _ _ _ _ (by show w.heap.size ≠ w.heap.size + 1; omega)]
        exact h0, by rw [← wtv_step k (by omega) v hv]; exact heap_setCell_same wr (w.heap.size + 1) (k + 1) (wtv k) _ _ h1, hB.setCell (by show w.heap.size ≤ w.heap.size + 1; omega) _⟩
      have hw : ((wt (k + 1) : Nat) : Int) = (wt k : Int) + ((wt k : Int) + 2) / 3 := by rw [wt_succ]; omega
      have HW := Lib.hid hw
      clear hw
      generalize wt k = X at hc1 hwl HW
      have hX1 : IntKind.i64.wrap ((X : Int) + 2) = (X : Int) + 2 := by rw [IntKind.wrap_i64]; omega
      have hX2 : IntKind.i64.wrap ((X : Int) + ((X : Int) + 2) / 3) = (X : Int) + ((X : Int) + 2) / 3 := by rw [IntKind.wrap_i64]; omega
      have hk1 : (k : Int) + 1 - 1 = (k : Int) := by omega
      have HWL := Lib.hid hwl
      clear hB h0 h1 hwl hlt hk
      go_upto_region 6 with fail
      go_region
      have hv : wrap64 ((X : Int) + wrap64 (((X : Int) + 2).tdiv 3)) = (wt (k + 1) : Int) := by
        rw [HW.out, Int.tdiv_eq_ediv_of_nonneg (by omega)]
        have := HWL.out
        unfold wrap64
        omega
      have hst := HST.out _ hv
      clear HW HST
      generalize wrap64 ((X : Int) + wrap64 (((X : Int) + 2).tdiv 3)) = v at hst hv ⊢
      have HST := Lib.hid hst
      clear hst hv HWL
      go_wp2_with fail
      exact ⟨HST.out.drew, by simp [intOf]; omega⟩
    · obtain rfl : k = 80 := by omega
      have H0 := Lib.hid h0
      have H1 := Lib.hid h1
      have HB := Lib.hid hB
      clear h0 h1 hB hlt hk
      go_wp2_with (first | refine wpList_load_row rfl 117 (.tmp 1) rfl (w.heap.size + 1) rfl 117 (wtv 80) (0, 0) _ H1.out HU.out rfl (by rw [HI.out, wtv_size]) ?_ | refine wpList_store_row rfl 117 (.tmp 0) (.tmp 21) rfl w.heap.size (wtv 80) rfl rfl 117 zero81 H0.out (by rw [HI.out, wtv_size]) (by rw [wtv_size]; simp [zero81]) (wtv_one _) ?_)
      exact bodyPost_ret (v := .agg (wtv 80)) (results_cell_row rfl _ _ w.heap.size 117 (wtv 80) (0, 0) _ rfl (setRow_heap _ _ _ _ _ _ H0.out) HU.out rfl (by rw [HI.out, wtv_size])) rfl ⟨rfl, below_setRow HB.out (Nat.le_refl _) _⟩
set_option maxHeartbeats 1000000 in
set_option maxRecDepth 100000 in
theorem refMaxHeight_any (n : Int) (w : World) (h0 : -9223372036854775808 ≤ n) (h1 : n ≤ 9223372036854775807) : Calls Try.prog 50 #[.int .i64 n] w (Calm w (.int .i64 (xhI n))) := by
  by_cases hr : 0 ≤ n ∧ n ≤ 2147483647
  · obtain ⟨m, rfl⟩ := Int.eq_ofNat_of_zero_le hr.1
    have hm : (m : Int) ≤ 2147483647 := hr.2
    have hM : xhI (m : Int) = (xh m : Int) := by
      unfold xhI
      rw [if_pos hr, Int.toNat_natCast]
    have hg1 : decide ((m : Int) < 0) = false := decide_eq_false (by omega)
    have hg2 : decide ((2147483647 : Int) < (m : Int)) = false := decide_eq_false (by omega)
    have hz := zero81_run
    have hu : (Try.prog.underlying 117) = some (.array 81 3) := by kernel_rfl
    have hi : (Try.prog.info? 117).map (·.size) = some 81 := by kernel_rfl
    have HU := Lib.hid hu
    have HI := Lib.hid hi
    rw [hM]
    clear hM h0 h1 hr hu hi
    go_enter Try.func50, Try.ntmps50
    go_wp2_with fail
    refine (weights_any w).mono ?_
    rintro e w1 ⟨rfl, hb⟩
    have hnew := heap_alloc_new w1 (Obj.cells zero81 117)
    have HW1 := Lib.hid hnew
    have HB := Lib.hid (hb.trans ((below_new7 w1 (Obj.cells zero81 117)).mono hb.size))
    have hsz : w.heap.size ≤ w1.heap.size := hb.size
    clear hb hnew
    go_wp2_with (refine wpList_store_row rfl 117 (.tmp 3) (.tmp 11) rfl w1.heap.size (wtv 80) rfl rfl 117 zero81 HW1.out (by rw [HI.out, wtv_size]) (by rw [wtv_size]; simp [zero81]) (wtv_one _) ?_)
    have hrow : ((w1.alloc (Obj.cells zero81 117)).setRow w1.heap.size (wtv 80)).heap[w1.heap.size]? = some (.cells (wtv 80) 117 (0, 0)) := setRow_heap _ _ _ _ _ _ HW1.out
    have HBF : Hid (Below w.heap.size w ((w1.alloc (Obj.cells zero81 117)).setRow w1.heap.size (wtv 80))) := below_setRow HB.out hsz _
    have HROW := Lib.hid hrow
    clear hrow hsz hz
    generalize (w1.alloc (Obj.cells zero81 117)).setRow w1.heap.size (wtv 80) = w2 at HROW HBF ⊢
    generalize w1.heap.size = q at HROW ⊢
    clear HW1 HB
    have HST : Hid (xhF m 80 0 = xh m) := rfl
    go_loopw [4] (fun i wr => ∃ h : Nat, h ≤ 80 ∧ i = .int .i64 (h : Int) ∧ xhF m (80 - h) h = xh m ∧ wr = w2) (fun i _ => 80 - (intOf i).toNat)
    case atStart => exact ⟨0, Nat.zero_le _, rfl, HST.out, rfl⟩
    case round =>
      clear HST
      obtain ⟨h, hh, rfl, hx, rfl⟩ := hrel
      by_cases hlt : h < 80
      · have hc : wr.cell? ⟨q, h + 1, none⟩ = some (.int .i64 (wt (h + 1) : Int)) := by
          rw [cell_of_row _ _ _ _ _ _ HROW.out, wtv_at _ _ (by omega), if_pos (by omega)]
        have hwl : wt (h + 1) < 1000000000000 := Nat.lt_of_le_of_lt (wt_mono (show h + 1 ≤ 80 by omega)) wt_small
        have hwp := wt_pos (h + 1)
        have hd1 : decide ((h : Int) < 80) = true := decide_eq_true (by omega)
        have hhi : (h : Int) + 1 < 81 := by omega
        have hh0 : (0 : Int) ≤ (h : Int) + 1 := by omega
        have hht : ((h : Int) + 1).toNat = h + 1 := by omega
        have hw1 : IntKind.i64.wrap ((wt (h + 1) : Int) - 1) = (wt (h + 1) : Int) - 1 := by rw [IntKind.wrap_i64]; omega
        have HX := Lib.hid hx
        have HLT : Hid (h < 80) := hlt
        have HE : Hid (∀ f, xhF m (f + 1) h = if wt (h + 1) - 1 ≤ m then xhF m f (h + 1) else h) := fun f => rfl
        by_cases hle : wt (h + 1) - 1 ≤ m
        · have hd2 : decide ((wt (h + 1) : Int) - 1 ≤ (m : Int)) = true := decide_eq_true (by omega)
          have HX2 : Hid (xhF m (80 - (h + 1)) (h + 1) = xh m) := by
            have h1 := HE.out (80 - (h + 1))
            rw [if_pos hle] at h1
            rw [show 80 - (h + 1) + 1 = 80 - h by have := HLT.out; omega] at h1
            exact h1.symm.trans HX.out
          clear HX HE hle hwl hwp hlt hh hx
          generalize wt (h + 1) = X at hc hw1 hd2
          go_wp2_with fail
          exact ⟨⟨h + 1, by have := HLT.out; omega, by go_num, HX2.out, by first | rfl | trivial⟩, by have := HLT.out; simp [intOf]; omega⟩
        · have hd2 : decide ((wt (h + 1) : Int) - 1 ≤ (m : Int)) = false := decide_eq_false (by omega)
          have HX2 : Hid (h = xh m) := by
            have h1 := HE.out (80 - (h + 1))
            rw [if_neg hle] at h1
            rw [show 80 - (h + 1) + 1 = 80 - h by have := HLT.out; omega] at h1
            exact h1.symm.trans HX.out
          clear HX HE hle hwl hwp hlt hh hx
          generalize wt (h + 1) = X at hc hw1 hd2
          go_wp2_with fail
          go_ret
          exact ⟨by rw [← HX2.out]; rfl, HBF.out⟩
      · obtain rfl : h = 80 := by omega
        have HX2 : Hid (80 = xh m) := hx
        clear hx hlt hh
        go_wp2_with fail
        go_ret
        exact ⟨by rw [← HX2.out]; rfl, HBF.out⟩
  · have HM : xhI n = -1 := if_neg hr
    rw [HM]
    clear HM
    by_cases hn : n < 0
    · have g1 := decide_eq_true hn
      clear hr hn
      go_enter Try.func50, Try.ntmps50
      go_wp2
      go_ret
      exact ⟨rfl, Below.refl _ _⟩
    · have g1 := decide_eq_false hn
      have g2 : decide ((2147483647 : Int) < n) = true := decide_eq_true (by omega)
      clear hr hn
      go_enter Try.func50, Try.ntmps50
      go_wp2
      go_ret
      exact ⟨rfl, Below.refl _ _⟩
end Go.Proofs.Ytnimbgcploohiaa
set_option linter.unusedVariables false
set_option linter.unusedSimpArgs false
namespace Go.Proofs.Ytnimbgcploohiaa
open Go.RowKit
theorem filt_succ {l : List En} {j : Nat} {e : En} (h : l[j]? = some e) (p : En → Bool) : (l.take (j + 1)).filter p = (l.take j).filter p ++ (if p e = true then [e] else []) := by
  obtain ⟨hj, he⟩ := List.getElem?_eq_some_iff.1 h
  rw [List.take_succ_eq_append_getElem hj, List.filter_append, he]
  congr 1
  cases hp : p e <;> simp [hp]
/-- a row of entries while it is gathered -/
def SubRel (w : World) (g : Nat → List En) (n : Nat) (x i : Value) (wr : World) : Prop :=
  ∃ j : Nat, i = .int .i64 (j : Int) ∧ j ≤ n ∧ ESt w.heap.size w (g j) x wr
theorem SubRel.start (w : World) (g : Nat → List En) (n : Nat) (hg : g 0 = []) : SubRel w g n (.slice none 0 0) (.int .i64 0) w := ⟨0, rfl, Nat.zero_le _, by rw [hg]; exact ESt.start w rfl⟩
theorem ESt.made {w w' : World} {l : List En} {v : Value} (h : ESt w.heap.size w l v w') : MadeEns w l (.returned v) w' := by
  obtain ⟨a, c, rfl⟩ := h.val
  exact ⟨a, c, rfl, h.row, h.below⟩
set_option maxHeartbeats 2000000 in
set_option maxRecDepth 100000 in
theorem between_any {w : World} {a : Option Addr} {n c : Nat} {l : List En} (lo hi : Int) (h : EnsAt w a l) (hn : l.length = n) (hl : n ≤ 1000000) :
    Calls Try.prog 23 #[.slice a n c, .int .i64 lo, .int .i64 hi] w (MadeEns w (betE l lo hi)) := by
  have HE := Lib.hid h
  have HN := Lib.hid hn
  have hni : (n : Int) ≤ 1000000 := by omega
  have HL := Lib.hid hl
  have HLEN : Hid (∀ j, (betE (l.take j) lo hi).length ≤ 1000000) := fun j => by
    have h1 := List.length_filter_le (fun e : En => decide (lo ≤ e.key ∧ e.key ≤ hi)) (l.take j)
    have h2 := List.length_take_le' j l
    show ((l.take j).filter _).length ≤ _
    omega
  have HS : Hid (∀ j e, l[j]? = some e → betE (l.take (j + 1)) lo hi = betE (l.take j) lo hi ++ (if lo ≤ e.key ∧ e.key ≤ hi then [e] else [])) := fun j e he => by
    have := filt_succ he fun e : En => decide (lo ≤ e.key ∧ e.key ≤ hi)
    simp only [decide_eq_true_eq] at this
    exact this
  have HLENB : Hid (∀ j, (betE (l.take j) lo hi).length ≤ 100000000) := fun j => Nat.le_trans (HLEN.out j) (by decide)
  have HR0 := Lib.hid (SubRel.start w (fun j => betE (l.take j) lo hi) n (by simp [betE]))
  clear h hn hl
  go_enter Try.func23, Try.ntmps23
  go_wp2_with fail
  go_loopw [7, 8] (fun x i wr => SubRel w (fun j => betE (l.take j) lo hi) n x i wr) (fun _ i _ => n - (intOf i).toNat)
  case atStart => exact HR0.out
  case round =>
    clear HR0
    obtain ⟨j, rfl, hj, hst⟩ := hrel
    replace hst : ESt w.heap.size w (betE (l.take j) lo hi) _ wr := hst
    have HST := Lib.hid hst
    have hj0 : (0 : Int) ≤ (j : Int) := by omega
    obtain ⟨xa, xc, rfl⟩ := hst.val
    clear hst
    by_cases hlt : j < n
    · have hji : (j : Int) < (n : Int) := by omega
      obtain ⟨e, he⟩ : ∃ e, l[j]? = some e := ⟨_, List.getElem?_eq_getElem (by have := HN.out; omega)⟩
      obtain ⟨b, off, rfl, hb, c0, c1⟩ := (HE.out.below HST.out.below).at he
      have hs := HS.out j e he
      have HX := Lib.hid hs
      have HLT := Lib.hid hlt
      clear hs he hb hlt hj
      by_cases h1 : lo ≤ e.key
      · have d1 : decide (lo ≤ e.key) = true := decide_eq_true h1
        by_cases h2 : e.key ≤ hi
        · have d2 : decide (e.key ≤ hi) = true := decide_eq_true h2
          have HY : Hid (betE (l.take (j + 1)) lo hi = betE (l.take j) lo hi ++ [e]) := by show _ = _; rw [HX.out, if_pos ⟨h1, h2⟩]
          clear h1 h2
          go_wp2_with (at_builtin; refine wpList_append_en rfl (.tmp 31) (.tmp 36) rfl (HST.out.from (below_newL _ _) rfl) rfl rfl e wr.heap.size rfl (cell_newE _ _ _) (HLENB.out j) ?_; intro v5 w5 hc5)
          exact ⟨⟨j + 1, by go_num, by have := HLT.out; omega, by show ESt _ _ (betE (l.take (j + 1)) lo hi) _ _; rw [HY.out]; exact hc5⟩, by have := HLT.out; simp [intOf]; omega⟩
        · have d2 : decide (e.key ≤ hi) = false := decide_eq_false h2
          have HY : Hid (betE (l.take (j + 1)) lo hi = betE (l.take j) lo hi) := by show _ = _; rw [HX.out, if_neg (fun h => h2 h.2), List.append_nil]
          clear h1 h2
          go_wp2_with fail
          exact ⟨⟨j + 1, by go_num, by have := HLT.out; omega, by show ESt _ _ (betE (l.take (j + 1)) lo hi) _ _; rw [HY.out]; exact HST.out⟩, by have := HLT.out; simp [intOf]; omega⟩
      · have d1 : decide (lo ≤ e.key) = false := decide_eq_false h1
        have HY : Hid (betE (l.take (j + 1)) lo hi = betE (l.take j) lo hi) := by show _ = _; rw [HX.out, if_neg (fun h => h1 h.1), List.append_nil]
        clear h1
        go_wp2_with fail
        exact ⟨⟨j + 1, by go_num, by have := HLT.out; omega, by show ESt _ _ (betE (l.take (j + 1)) lo hi) _ _; rw [HY.out]; exact HST.out⟩, by have := HLT.out; simp [intOf]; omega⟩
    · have hji : ¬ (j : Int) < (n : Int) := by omega
      have HK : Hid (betE (l.take j) lo hi = betE l lo hi) := by show _ = _; rw [List.take_of_length_le (by have := HN.out; omega)]
      clear hj hlt
      go_wp2_with fail
      go_ret
      rw [← HK.out]
      first
        | exact HST.out.made
        | (have := HST.out.made; simp only [List.length_take] at this; exact this)
set_option maxHeartbeats 2000000 in
set_option maxRecDepth 100000 in
theorem head_any {w : World} {a : Option Addr} {n c : Nat} {l : List En} (m : Int) (h : EnsAt w a l) (hn : l.length = n) (hl : n ≤ 1000000) :
    Calls Try.prog 22 #[.slice a n c, .int .i64 m] w (MadeEns w (l.take m.toNat)) := by
  have HE := Lib.hid h
  have HN := Lib.hid hn
  have hni : (n : Int) ≤ 1000000 := by omega
  have HL := Lib.hid hl
  have HLEN : Hid (∀ j, (l.take j).length ≤ 1000000) := fun j => by
    have h2 := List.length_take_le' j l
    show (l.take j).length ≤ _
    omega
  have HLENB : Hid (∀ j, (l.take j).length ≤ 100000000) := fun j => Nat.le_trans (HLEN.out j) (by decide)
  have HR0 : Hid (∃ j : Nat, (Value.int .i64 0) = .int .i64 (j : Int) ∧ j ≤ n ∧ ((j : Int) ≤ m ∨ j = 0) ∧ ESt w.heap.size w (l.take j) (.slice none 0 0) w) := ⟨0, rfl, Nat.zero_le _, .inr rfl, by simp; exact ESt.start w rfl⟩
  clear h hn hl
  go_enter Try.func22, Try.ntmps22
  go_wp2_with fail
  go_loopw [5, 6] (fun x i wr => ∃ j : Nat, i = .int .i64 (j : Int) ∧ j ≤ n ∧ ((j : Int) ≤ m ∨ j = 0) ∧ ESt w.heap.size w (l.take j) x wr) (fun _ i _ => n - (intOf i).toNat)
  case atStart => exact HR0.out
  case round =>
    clear HR0
    obtain ⟨j, rfl, hj, hjm, hst⟩ := hrel
    have HST := Lib.hid hst
    have hj0 : (0 : Int) ≤ (j : Int) := by omega
    have HM := Lib.hid hjm
    obtain ⟨xa, xc, rfl⟩ := hst.val
    clear hst
    by_cases hlt : j < n
    · have hji : (j : Int) < (n : Int) := by omega
      by_cases hm : (j : Int) < m
      · have hmd : decide ((j : Int) < m) = true := decide_eq_true hm
        obtain ⟨e, he⟩ : ∃ e, l[j]? = some e := ⟨_, List.getElem?_eq_getElem (by have := HN.out; omega)⟩
        obtain ⟨b, off, rfl, hb, c0, c1⟩ := (HE.out.below HST.out.below).at he
        have HY : Hid (l.take (j + 1) = l.take j ++ [e]) := by
          obtain ⟨h1, h2⟩ := List.getElem?_eq_some_iff.1 he
          show _ = _
          rw [List.take_succ_eq_append_getElem h1, h2]
        have HLT : Hid (j < n ∧ (j : Int) < m) := ⟨hlt, hm⟩
        clear he hb hlt hj hjm
        go_wp2_with (at_builtin; refine wpList_append_en rfl (.tmp 18) (.tmp 23) rfl (HST.out.from (below_newL _ _) rfl) rfl rfl e wr.heap.size rfl (cell_newE _ _ _) (HLENB.out j) ?_; intro v5 w5 hc5)
        exact ⟨⟨j + 1, by go_num, by have := HLT.out; omega, .inl (by have := HLT.out; omega), by rw [HY.out]; exact hc5⟩, by have := HLT.out; simp [intOf]; omega⟩
      · have hmd : decide ((j : Int) < m) = false := decide_eq_false hm
        have HK : Hid (l.take j = l.take m.toNat) := by
          show _ = _
          rw [show m.toNat = j by omega]
        clear hj hlt hm hjm
        go_wp2_with fail
        go_ret
        rw [← HK.out]
        first
        | exact HST.out.made
        | (have := HST.out.made; simp only [List.length_take] at this; exact this)
    · have hji : ¬ (j : Int) < (n : Int) := by omega
      have HK : Hid (l.take j = l.take m.toNat) := by
        show _ = _
        have h1 := HN.out
        rcases hjm with h | h
        · rw [List.take_of_length_le (by omega), List.take_of_length_le (by omega)]
        · have h3 : l = [] := List.eq_nil_of_length_eq_zero (by omega)
          rw [h3]; simp
      clear hj hlt hjm
      go_wp2_with fail
      go_ret
      rw [← HK.out]
      first
        | exact HST.out.made
        | (have := HST.out.made; simp only [List.length_take] at this; exact this)
end Go.Proofs.Ytnimbgcploohiaa
set_option linter.unusedVariables false
namespace Go.Proofs.Ytnimbgcploohiaa
open Go.RowKit
/-- the remainder that is never negative -/
theorem mod_any (n m : Int) (w : World) (h1 : -9223372036854775808 ≤ n) (h2 : n ≤ 9223372036854775807) (h3 : 1 ≤ m) (h4 : m ≤ 9223372036854775807) :
    Calls Try.prog 27 #[.int .i64 n, .int .i64 m] w fun e w' => e = .returned (.int .i64 (n % m)) ∧ w = w' := by
  by_cases h : 0 ≤ n
  · have hb := Int.emod_nonneg n (b := m) (by omega)
    have hc := Int.emod_lt_of_pos n (b := m) (by omega)
    go_enter Try.func27, Try.ntmps27
    go_wp2
    go_ret
    exact ⟨rfl, rfl⟩
  · have e := mod_of_tmod n m (by omega) h3
    have hb : -m < n.tmod m ∧ n.tmod m ≤ 0 := by
      rw [tmod_neg n m (by omega) h3]
      have h5 := Int.emod_nonneg (-n) (b := m) (by omega)
      have h6 := Int.emod_lt_of_pos (-n) (b := m) (by omega)
      omega
    obtain ⟨hb1, hb2⟩ := hb
    have H := Lib.hid e
    clear e
    go_enter Try.func27, Try.ntmps27
    go_wp2
    · have hlt : n.tmod m < 0 := by assumption
      go_ret
      exact ⟨ret_int (by rw [H.out, if_pos hlt]), rfl⟩
    · have hlt : 0 ≤ n.tmod m := by assumption
      go_ret
      exact ⟨ret_int (by rw [H.out, if_neg (by omega)]), rfl⟩
end Go.Proofs.Ytnimbgcploohiaa
set_option linter.unusedVariables false
set_option linter.unusedSimpArgs false
namespace Go.Proofs.Ytnimbgcploohiaa
open Go.RowKit
section
variable {I : AImpl} {B : Nat} {w0 w w' : World} {p : Value} {A : Ar} {rd : Int} {G : Nat → Prop}
theorem mr_reads (h : MR I B w0 w p A rd G) : Calls Try.prog 19 #[p] w (Quiet w (.int .u64 rd)) := by
  obtain ⟨F, h1, _⟩ := h.has
  exact I.reads p A rd F w h1
end
theorem height_kit (n : Int) (w : World) (h0 : 0 ≤ n) (h1 : n ≤ 2147483647) : Calls Try.prog 25 #[.int .i64 n] w (Calm w (.int .i64 (xhI n))) := by
  have HC := Lib.hid (refMaxHeight_any n w (by omega) (by omega))
  clear h0 h1
  go_enter Try.func25, Try.ntmps25
  go_wp2_with fail
  refine HC.out.mono ?_
  rintro e w1 ⟨rfl, hb⟩
  have HB := Lib.hid hb
  clear hb
  go_wp2_with fail
  go_ret
  exact ⟨rfl, HB.out⟩
theorem xhI_nat {n : Nat} (h : n ≤ 2147483647) : xhI (n : Int) = (xh n : Int) := by
  unfold xhI
  rw [if_pos ⟨by omega, by omega⟩, Int.toNat_natCast]
theorem within_any {I : AImpl} {B : Nat} {w0 w : World} {p : Value} {A : Ar} {rd since most : Int} {G : Nat → Prop} (h : MR I B w0 w p A rd G) (h0 : 0 ≤ since) (h1 : since ≤ rd) (h2 : rd ≤ since + most) (h3 : rd ≤ 4398046511104) (h4 : most ≤ 1000000) :
    Calls Try.prog 24 #[p, .int .u64 since, .int .i64 most] w (Calm w (.bool true)) := by
  obtain ⟨F, hI, _⟩ := h.has
  obtain ⟨pa, rfl⟩ := I.ptr hI
  have HMR := Lib.hid h
  have hge : decide (since ≤ rd) = true := decide_eq_true h1
  have hw1 : IntKind.u64.wrap (rd - since) = rd - since := by rw [IntKind.wrap_u64]; omega
  have hw2 : IntKind.u64.wrap most = most := by rw [IntKind.wrap_u64]; omega
  have hle : decide (rd - since ≤ most) = true := decide_eq_true (by omega)
  clear h hI h0 h1 h2 h3 h4
  go_enter Try.func24, Try.ntmps24
  go_wp2_with fail
  refine (mr_reads HMR.out).mono ?_
  rintro e w1 ⟨rfl, q1, rfl⟩
  have hb1 : Below w.heap.size w (w.drewN q1) := below_drewN (Below.refl _ _) q1
  have HM1 := Lib.hid (HMR.out.calm hb1)
  have HB1 := Lib.hid hb1
  clear hb1 HMR
  generalize w.drewN q1 = w1 at HM1 HB1 ⊢
  go_wp2_with fail
  refine (mr_reads HM1.out).mono ?_
  rintro e w2 ⟨rfl, q2, rfl⟩
  have HB2 : Hid (Below w.heap.size w (w1.drewN q2)) := HB1.out.trans ((below_drewN (Below.refl _ _) q2).mono HB1.out.size)
  generalize w1.drewN q2 = w2 at HB2 ⊢
  go_wp2_with fail
  go_ret
  exact ⟨rfl, HB2.out⟩
end Go.Proofs.Ytnimbgcploohiaa
set_option linter.unusedVariables false
set_option linter.unusedSimpArgs false
namespace Go.Proofs.Ytnimbgcploohiaa
open Go.RowKit
section
variable {I : AImpl} {B : Nat} {w0 w w' : World} {p : Value} {A : Ar} {rd rd' : Int} {rs : List Row} {bs : List (Nat × Obj)}
theorem Scn.reads (h : Scn I B w0 w p A rd rs bs) : Calls Try.prog 19 #[p] w fun e w' => e = .returned (.int .u64 rd) ∧ Scn I B w0 w' p A rd rs bs := by
  refine (mr_reads h.mr).mono ?_
  rintro e w1 ⟨he, q, rfl⟩
  exact ⟨he, h.calm (below_drewN (Below.refl _ _) q)⟩
end
end Go.Proofs.Ytnimbgcploohiaa
set_option linter.unusedVariables false
set_option linter.unusedSimpArgs false
namespace Go.Proofs.Ytnimbgcploohiaa
open Go.RowKit
end Go.Proofs.Ytnimbgcploohiaa
set_option linter.unusedVariables false
set_option linter.unusedSimpArgs false
namespace Go.Proofs.Ytnimbgcploohiaa
open Go.RowKit
theorem EnsAt.tail {w : World} {a : Option Addr} {l : List En} (h : EnsAt w a l) (k : Nat) : EnsAt w (a.map fun x => x.add (k * 2)) (l.drop k) :=
  ⟨fun j e he => by
    rw [List.getElem?_drop] at he
    obtain ⟨b, off, rfl, hlt, h1, h2⟩ := h.cell (k + j) e he
    refine ⟨b, off + k * 2, by simp [Addr.add], hlt, ?_, ?_⟩
    · rw [← h1]; congr 2; omega
    · rw [← h2]; congr 2; omega, fun e he => h.wf e (List.mem_of_mem_drop he)⟩
end Go.Proofs.Ytnimbgcploohiaa
set_option linter.unusedVariables false
set_option linter.unusedSimpArgs false
namespace Go.Proofs.Ytnimbgcploohiaa
open Go.RowKit
end Go.Proofs.Ytnimbgcploohiaa
set_option linter.unusedVariables false
set_option linter.unusedSimpArgs false
namespace Go.Proofs.Ytnimbgcploohiaa
open Go.RowKit
theorem mod_quiet15 {n m : Int} {p : Nat} (h1 : -9223372036854775808 ≤ n) (h2 : n ≤ 9223372036854775807) (h3 : 1 ≤ m) (h4 : m ≤ 9223372036854775807) (hp : n % m = (p : Int)) (w : World) :
    Calls Try.prog 27 #[.int .i64 n, .int .i64 m] w (Quiet w (.int .i64 (p : Int))) := by
  refine (mod_any n m w h1 h2 h3 h4).mono ?_
  rintro e w' ⟨h5, rfl⟩
  exact ⟨by rw [h5, hp], 0, rfl⟩
theorem sliceE_len (l : List En) (f t : Int) : (sliceE l f t).length ≤ l.length := by
  unfold sliceE
  split
  · rw [List.length_take, List.length_drop]; omega
  · exact Nat.zero_le _
theorem slice_sub {l : List En} {f t : Int} {y : En} (h : y ∈ sliceE l f t) : y ∈ l := by
  unfold sliceE at h
  split at h
  · exact List.mem_of_mem_drop (List.mem_of_mem_take h)
  · cases h
def BlRel (I : AImpl) (B : Nat) (w0 : World) (p : Value) (A : Ar) (rs : List Row) (bs : List (Nat × Obj)) (lo hi lim f t k : Value) (wr : World) : Prop :=
  ∃ (lo0 hi0 lim0 f0 t0 : Int) (j : Nat) (rd : Int), lo = .int .i64 lo0 ∧ hi = .int .i64 hi0 ∧ lim = .int .i64 lim0 ∧ f = .int .i64 f0 ∧ t = .int .i64 t0 ∧ k = .int .i64 (j : Int) ∧ j ≤ 2 ∧ i64R lo0 ∧ i64R hi0 ∧ i64R lim0 ∧ i64R f0 ∧ i64R t0 ∧ 0 ≤ rd ∧ rd ≤ 5000 * (j : Int) ∧ Scn I B w0 wr p A rd rs bs
set_option maxHeartbeats 8000000 in
set_option maxRecDepth 100000 in
theorem lists_walk (I : AImpl) (K : BkImpl I) {a : Option Addr} {n c : Nat} {raw : List En} {tilt : Int} {lo hi lim f t0 : Int} {w : World} (hE : EnsAt w a raw) (hn : raw.length = n) (hnm : n ≤ 9223372036854775807) (ht0 : 0 ≤ tilt) (ht1 : tilt < 18446744073709551616) (hlo : i64R lo) (hhi : i64R hi) (hlim : i64R lim) (hf : i64R f) (ht : i64R t0) :
    Calls Try.prog 4 #[.slice a n c, .int .u64 tilt, .int .i64 lo, .int .i64 hi, .int .i64 lim, .int .i64 f, .int .i64 t0] w (Calm w (.bool true)) := by
  have HK := Lib.hid K
  have HARG : Hid (i64R lo ∧ i64R hi ∧ i64R lim ∧ i64R f ∧ i64R t0) := ⟨hlo, hhi, hlim, hf, ht⟩
  clear K hlo hhi hlim hf ht
  have HWF : Hid (∀ y ∈ listE raw 150, i64R y.key ∧ i64R y.val) := fun y hy => hE.wf y (listE_mem hy)
  have HL := Lib.hid (list_any (c := c) (k := 150) hE hn hnm (by decide))
  have HT : Hid (0 ≤ tilt ∧ tilt < 18446744073709551616) := ⟨ht0, ht1⟩
  have HUP := Lib.hid (listE_up raw 150)
  have HLEN := Lib.hid (listE_len raw 150)
  clear hE hn hnm ht0 ht1
  go_enter Try.func4, Try.ntmps4
  go_wp2_with fail
  refine HL.out.mono ?_
  rintro e w1 ⟨a1, c1, rfl, hr1, hb1⟩
  have HR1 := Lib.hid hr1
  have HB1 := Lib.hid hb1
  clear hr1 hb1 HL
  generalize listE raw 150 = l at HUP HLEN HR1 HWF ⊢
  obtain ⟨L, hL⟩ : ∃ L, l.length = L := ⟨_, rfl⟩
  rw [hL] at HLEN HR1 ⊢
  have HLL := Lib.hid hL
  have hLi : (L : Int) ≤ 150 := by have := HLEN.out; omega
  have HE1 := Lib.hid (ens_row hL HR1.out HWF.out)
  have HC1 := Lib.hid (row_caps HR1.out)
  clear hL
  go_wp2_with fail
  refine (grow_any I (sp := 1) (m := L + 1) HE1.out HLL.out HC1.out.1 HC1.out.2 rfl (by omega) (by have := HLEN.out; omega) HT.out.1 HT.out.2).mono ?_
  rintro e w2 ⟨p, A, ri, t, F, rfl, hg⟩
  obtain ⟨pa, rfl⟩ := I.ptr hg.is
  have HTR := Lib.hid (hg.planted.tree HUP.out)
  have HPL := Lib.hid hg.planted
  have HS2 := Lib.hid (Scn.init hg HB1.out HR1.out)
  clear hg HR1 HE1 HC1 HT
  go_wp2_with fail
  refine (awake15_any I HK.out w2).mono ?_
  rintro e w3 ⟨rfl, hb3⟩
  have HS3 := Lib.hid (HS2.out.calm hb3)
  clear hb3 HS2
  have HXH : Hid (xhI (L : Int) = (xh L : Int)) := xhI_nat (by have := HLEN.out; omega)
  have hx80 := (xh_spec (n := L) (by have := HLEN.out; omega)).2.1
  obtain ⟨X0, hX0⟩ : ∃ X : Int, (xh L : Int) = X := ⟨_, rfl⟩
  rw [hX0] at HXH
  have hX0b : 0 ≤ X0 ∧ X0 ≤ 80 := by omega
  obtain ⟨D, hD⟩ : ∃ D : Int, 12 * (X0 + 2) = D := ⟨_, rfl⟩
  have v1 : IntKind.i64.wrap (X0 + 2) = X0 + 2 := by rw [IntKind.wrap_i64]; omega
  have v2 : IntKind.i64.wrap (12 * (X0 + 2)) = D := by rw [IntKind.wrap_i64]; omega
  have HD : Hid (24 ≤ D ∧ D ≤ 1000) := ⟨by omega, by omega⟩
  have HBD : Hid (∀ m : Nat, bulkBd l.length m = D + 4 * (m : Int)) := fun m => by unfold bulkBd; rw [HLL.out, hX0, hD]
  have HHT : Hid (∀ wx, Calls Try.prog 25 #[.int .i64 (L : Int)] wx (Calm wx (.int .i64 X0))) := fun wx => by rw [← HXH.out]; exact height_kit _ wx (by omega) (by have := HLEN.out; omega)
  clear hx80 hX0 hX0b hD
  go_wp2_with fail
  refine HS3.out.dump.mono ?_
  rintro e w4 ⟨da, dc, db, dd, rfl, hs4, hb4⟩
  have hs5 := hs4.box #[.slice da A.σ.cap dc, .slice db A.σ.free.length dd] 33
  clear hs4 hb4 HS3
  go_upto_region 6 with fail
  generalize w4.alloc (Obj.cells #[.slice da A.σ.cap dc, .slice db A.σ.free.length dd] 33) = w6 at hs5 ⊢
  generalize w4.heap.size = q at hs5 ⊢
  generalize hrs : [(⟨35, 1, .slice db A.σ.free.length dd, A.σ.free.length, u32s A.σ.free⟩ : Row), ⟨81, 11, .slice da A.σ.cap dc, A.σ.cap, slotsV A⟩, ⟨58, 2, .slice a1 L c1, L, ensV l⟩] = rs at hs5
  generalize hbs : [(q, Obj.cells #[.slice da A.σ.cap dc, .slice db A.σ.free.length dd] 33 (0, 0))] = bs at hs5
  have HRS := Lib.hid hrs
  have HBS := Lib.hid hbs
  have HRL : Hid ((⟨58, 2, .slice a1 L c1, L, ensV l⟩ : Row) ∈ rs) := by show _ ∈ _; rw [← hrs]; simp
  have HLJ : Hid (∀ {wx : World} {rd : Int} {rs' : List Row} {bs' : List (Nat × Obj)}, Scn I w.heap.size w wx (.pointer (some pa)) A rd (rs' ++ rs) bs' → EnsAt wx a1 l) := fun {wx rd rs' bs'} h => ens_row HLL.out (h.rows ⟨58, 2, .slice a1 L c1, L, ensV l⟩ (List.mem_append_right _ HRL.out)) HWF.out
  have hc1 := row_caps (hs5.rows _ HRL.out)
  have HC1' : Hid (L ≤ c1 ∧ c1 ≤ maxLen) := hc1
  have hci : (L : Int) ≤ (c1 : Int) := by have := hc1.1; omega
  have hcx : (c1 : Int) ≤ 9223372036854775807 := by have := hc1.2; unfold maxLen at this; omega
  have HR0 : Hid (BlRel I w.heap.size w (.pointer (some pa)) A rs bs (.int .i64 lo) (.int .i64 hi) (.int .i64 lim) (.int .i64 f) (.int .i64 t0) (.int .i64 0) w6) := ⟨lo, hi, lim, f, t0, 0, 0, rfl, rfl, rfl, rfl, rfl, rfl, by omega, HARG.out.1, HARG.out.2.1, HARG.out.2.2.1, HARG.out.2.2.2.1, HARG.out.2.2.2.2, by decide, by decide, hs5⟩
  clear hrs hbs hs5 HARG hc1
  go_wp2_with fail
  go_loopw [2, 3, 4, 5, 6, 20] (fun lo hi lim f t k wr => BlRel I w.heap.size w (.pointer (some pa)) A rs bs lo hi lim f t k wr) (fun _ _ _ _ _ k _ => 2 - (intOf k).toNat)
  case atStart => exact HR0.out
  case round =>
    clear HR0
    obtain ⟨lo, hi, lim, f, t0, j, rd, rfl, rfl, rfl, rfl, rfl, rfl, hj, g1, g2, g3, g4, g5, hrd0, hrd1, hS⟩ := hrel
    have HS := Lib.hid hS
    have HG : Hid (i64R lo ∧ i64R hi ∧ i64R lim ∧ i64R f ∧ i64R t0) := ⟨g1, g2, g3, g4, g5⟩
    have HRD : Hid (0 ≤ rd ∧ rd ≤ 5000 * (j : Int) ∧ j ≤ 2) := ⟨hrd0, hrd1, hj⟩
    clear hS hj hrd0 hrd1 g1 g2 g3 g4 g5
    by_cases hlt : j < 2
    · have hji : (j : Int) < 2 := by omega
      have HLT := Lib.hid hlt
      clear hlt
      have hVl : (firstE (betE l lo hi) lim).length ≤ L := by
        rw [← HLL.out]
        unfold firstE
        rw [List.length_take]
        have : (betE l lo hi).length ≤ l.length := List.length_filter_le _ _
        omega
      obtain ⟨V, hV⟩ : ∃ V, (firstE (betE l lo hi) lim).length = V := ⟨_, rfl⟩
      rw [hV] at hVl
      have hW : WfL (firstE (betE l lo hi) lim) := fun y hy => HWF.out y ((List.mem_filter.1 (List.mem_of_mem_take hy)).1)
      have HV : Hid ((firstE (betE l lo hi) lim).length = V ∧ V ≤ L ∧ WfL (firstE (betE l lo hi) lim)) := ⟨hV, hVl, hW⟩
      have v3 : IntKind.i64.wrap (4 * (V : Int)) = 4 * (V : Int) := by rw [IntKind.wrap_i64]; omega
      have v4 : IntKind.i64.wrap (D + 4 * (V : Int)) = D + 4 * (V : Int) := by have := HD.out; rw [IntKind.wrap_i64]; omega
      have hW2 : WfL (betE l lo hi) := bet_wf HWF.out lo hi
      obtain ⟨U, hU⟩ : ∃ U, (betE l lo hi).length = U := ⟨_, rfl⟩
      have HU : Hid ((betE l lo hi).length = U ∧ U ≤ L ∧ WfL (betE l lo hi)) := ⟨hU, by rw [← HLL.out, ← hU]; exact List.length_filter_le _ _, hW2⟩
      clear hV hVl hW hW2 hU
      go_wp2_with fail
      refine HS.out.reads.mono ?_
      rintro e w7 ⟨rfl, hs7⟩
      have HS7 := Lib.hid hs7
      clear hs7 HS
      go_wp2_with fail
      refine (HS7.out.ens (fun F hI => HK.out.range lo hi lim _ hI HTR.out HRD.out.1 (by have := HRD.out; omega) HG.out.1 HG.out.2.1 HG.out.2.2.1) HV.out.1).mono ?_
      rintro e w8 ⟨a8, c8, rd8, rfl, hs8, h80, h81⟩
      rw [HBD.out, HV.out.1] at h81
      have HS8 := Lib.hid hs8
      have HRD8 : Hid (rd ≤ rd8 ∧ rd8 ≤ rd + (D + 4 * (V : Int))) := ⟨h80, h81⟩
      clear hs8 h80 h81 HS7
      go_wp2_with fail
      refine (between_any lo hi (HLJ.out (rs' := [_]) HS8.out) HLL.out (by have := HLEN.out; omega)).mono ?_
      rintro e w9 ⟨a9, c9, rfl, hr9, hb9⟩
      have HS9 := Lib.hid (HS8.out.row hb9 hr9)
      rw [HU.out.1] at HS9 ⊢
      clear hr9 hb9 HS8
      go_wp2_with fail
      refine (head_any lim (ens_row (w := w9) (B := w.heap.size) (c := c9) HU.out.1 (HS9.out.rows _ List.mem_cons_self) HU.out.2.2) HU.out.1 (by have := HLEN.out; have := HU.out; omega)).mono ?_
      rw [show (betE l lo hi).take lim.toNat = firstE (betE l lo hi) lim from rfl]
      rintro e w10 ⟨a10, c10, rfl, hr10, hb10⟩
      have HS10 := Lib.hid (HS9.out.row hb10 hr10)
      rw [HV.out.1] at HS10 ⊢
      clear hr10 hb10 HS9
      go_wp2_with fail
      refine (same_ens (ens_row (w := w10) (B := w.heap.size) (c := c8) HV.out.1 (HS10.out.rows ⟨58, 2, .slice a8 V c8, V, ensV (firstE (betE l lo hi) lim)⟩ (by simp)) HV.out.2.2) (ens_row (w := w10) (B := w.heap.size) (c := c10) HV.out.1 (HS10.out.rows ⟨58, 2, .slice a10 V c10, V, ensV (firstE (betE l lo hi) lim)⟩ (by simp)) HV.out.2.2) HV.out.1 (by have := HV.out; have := HLEN.out; omega)).mono ?_
      rintro e w11 ⟨rfl, hb11⟩
      have HS11 := Lib.hid ((HS10.out.calm hb11).less (rs' := rs) (((List.sublist_cons_self _ _).trans (List.sublist_cons_self _ _)).trans (List.sublist_cons_self _ _)) (List.Sublist.refl _))
      clear hb11 HS10
      go_wp2_with fail
      refine (HHT.out w11).mono ?_
      rintro e w12 ⟨rfl, hb12⟩
      have HS12 := Lib.hid (HS11.out.calm hb12)
      clear hb12 HS11
      go_wp2_with fail
      refine (within_any HS12.out.mr HRD.out.1 HRD8.out.1 HRD8.out.2 (by have := HRD8.out; have := HRD.out; have := HD.out; have := HV.out; have := HLEN.out; omega) (by have := HD.out; have := HV.out; have := HLEN.out; omega)).mono ?_
      rintro e w13 ⟨rfl, hb13⟩
      have HS13 := Lib.hid (HS12.out.calm hb13)
      have HRE8 : Hid (0 ≤ rd8 ∧ rd8 ≤ 5000 * (j : Int) + 2000) := by have h1 := HRD.out; have h2 := HRD8.out; have h3 := HD.out; have h4 := HV.out; have h5 := HLEN.out; exact ⟨by omega, by omega⟩
      clear hb13 HS12 HRD8 v3 v4
      have hVl2 : (sliceE l f t0).length ≤ L := by rw [← HLL.out]; exact sliceE_len _ _ _
      obtain ⟨V2, hV2⟩ : ∃ V, (sliceE l f t0).length = V := ⟨_, rfl⟩
      rw [hV2] at hVl2
      have HV2 : Hid ((sliceE l f t0).length = V2 ∧ V2 ≤ L ∧ WfL (sliceE l f t0)) := ⟨hV2, hVl2, fun y hy => HWF.out y (slice_sub hy)⟩
      have v3 : IntKind.i64.wrap (4 * (V2 : Int)) = 4 * (V2 : Int) := by rw [IntKind.wrap_i64]; omega
      have v4 : IntKind.i64.wrap (D + 4 * (V2 : Int)) = D + 4 * (V2 : Int) := by have := HD.out; rw [IntKind.wrap_i64]; omega
      clear hV2 hVl2
      go_wp2_with fail
      refine HS13.out.reads.mono ?_
      rintro e w14 ⟨rfl, hs14⟩
      have HS14 := Lib.hid hs14
      clear hs14 HS13
      go_wp2_with fail
      refine (HS14.out.ens (fun F hI => HK.out.slice f t0 _ hI HTR.out HWF.out HRE8.out.1 (by have := HRE8.out; have := HLT.out; omega) HG.out.2.2.2.1 HG.out.2.2.2.2) HV2.out.1).mono ?_
      rintro e w15 ⟨a15, c15, rd15, rfl, hs15, h80, h81⟩
      rw [HBD.out, HV2.out.1] at h81
      have HS15 := Lib.hid hs15
      have HRD15 : Hid (rd8 ≤ rd15 ∧ rd15 ≤ rd8 + (D + 4 * (V2 : Int))) := ⟨h80, h81⟩
      have HENS : Hid (EnsAt w15 a1 l) := HLJ.out (rs' := [_]) hs15
      clear hs15 h80 h81 HS14
      go_upto_region 16 with fail
      obtain ⟨cc, hcc⟩ : ∃ cc : Bool, decide (0 ≤ f ∧ f ≤ t0 ∧ t0 ≤ (L : Int)) = cc := ⟨_, rfl⟩
      go_cut [97] from 85 to 97 (fun s97 wx => s97 = .bool cc ∧ w15 = wx)
      case first =>
        have hmeet : ∀ (b1 b2 b3 : Bool), decide (0 ≤ f) = b1 → decide (f ≤ t0) = b2 → decide (t0 ≤ (L : Int)) = b3 → cc = (b1 && b2 && b3) := fun b1 b2 b3 e1 e2 e3 => by
          rw [← hcc, ← e1, ← e2, ← e3]
          by_cases h1 : 0 ≤ f <;> by_cases h2 : f ≤ t0 <;> by_cases h3 : t0 ≤ (L : Int) <;> simp [h1, h2, h3]
        obtain ⟨b1, h1⟩ : ∃ b, decide (0 ≤ f) = b := ⟨_, rfl⟩
        obtain ⟨b2, h2⟩ : ∃ b, decide (f ≤ t0) = b := ⟨_, rfl⟩
        obtain ⟨b3, h3⟩ : ∃ b, decide (t0 ≤ (L : Int)) = b := ⟨_, rfl⟩
        have HME : Hid (cc = (b1 && b2 && b3)) := hmeet b1 b2 b3 h1 h2 h3
        clear hmeet hcc
        cases b1
        · go_wp2_with fail
          go_meet
          exact ⟨by rw [HME.out]; rfl, rfl⟩
        · cases b2
          · go_wp2_with fail
            go_meet
            exact ⟨by rw [HME.out]; rfl, rfl⟩
          · go_wp2_with fail
            go_meet
            exact ⟨by rw [HME.out]; rfl, rfl⟩
      case' rest =>
        obtain ⟨rfl, rfl⟩ := hcut
        go_upto_if 97 with fail
        go_cut [24] from 98 to 101 (fun s24 wx => ∃ za zc, s24 = .slice za V2 zc ∧ EnsAt w15 za (sliceE l f t0) ∧ w15 = wx)
        case first =>
          by_cases hco : 0 ≤ f ∧ f ≤ t0 ∧ t0 ≤ (L : Int)
          · rw [decide_eq_true hco] at hcc
            subst hcc
            obtain ⟨h1, h2, h3⟩ := hco
            obtain ⟨f1, rfl⟩ := Int.eq_ofNat_of_zero_le h1
            obtain ⟨t1, rfl⟩ := Int.eq_ofNat_of_zero_le (show 0 ≤ t0 by omega)
            have hse : sliceE l (f1 : Int) (t1 : Int) = (l.drop f1).take (t1 - f1) := by
              unfold sliceE
              rw [if_pos ⟨h1, h2, by rw [HLL.out]; exact h3⟩, Int.toNat_natCast, Int.toNat_natCast]
            have hv2 : V2 = t1 - f1 := by
              rw [← HV2.out.1, hse, List.length_take, List.length_drop, HLL.out]
              omega
            have HSE := Lib.hid hse
            have HV2' := Lib.hid hv2
            have hft0 : (f1 : Int).toNat = f1 := Int.toNat_natCast _
            have htt0 : (t1 : Int).toNat = t1 := Int.toNat_natCast _
            have hf1c : (f1 : Int) ≤ (c1 : Int) := by omega
            have ht1c : (t1 : Int) ≤ (c1 : Int) := by omega
            have ht10 : (0 : Int) ≤ (t1 : Int) := by omega
            clear hse hv2
            by_cases hcf : c1 = f1
            · subst hcf
              have hen : EnsAt w15 a1 ((l.drop c1).take (t1 - c1)) := by
                have h0 : (l.drop c1).take (t1 - c1) = [] := List.eq_nil_of_length_eq_zero (by rw [List.length_take, List.length_drop, HLL.out]; have := HC1'.out.1; omega)
                rw [h0]; exact EnsAt.nil _ _
              have HEN := Lib.hid hen
              clear hen
              go_wp2_with fail
              go_meet
              exact ⟨_, _, by rw [HV2'.out], by rw [HSE.out]; exact HEN.out, rfl⟩
            · go_wp2_with fail
              go_meet
              exact ⟨_, _, by rw [HV2'.out], by rw [HSE.out]; exact (HENS.out.tail f1).take (t1 - f1), rfl⟩
          · rw [decide_eq_false hco] at hcc
            subst hcc
            have hz : sliceE l f t0 = [] := by unfold sliceE; rw [if_neg (by rw [HLL.out]; exact hco)]
            have hv2 : V2 = 0 := by rw [← HV2.out.1, hz]; rfl
            have HSE := Lib.hid hz
            have HV2' := Lib.hid hv2
            clear hz hv2 hco
            go_wp2_with fail
            go_meet
            exact ⟨none, 0, by rw [HV2'.out], by rw [HSE.out]; exact EnsAt.nil _ _, rfl⟩
        case' rest =>
          obtain ⟨za, zc, rfl, hz, rfl⟩ := hcut
          have HZ := Lib.hid hz
          clear hz
          go_wp2_with fail
          refine (same_ens (ens_row (w := w15) (B := w.heap.size) (c := c15) HV2.out.1 (HS15.out.rows _ List.mem_cons_self) HV2.out.2.2) HZ.out HV2.out.1 (by have := HV2.out; have := HLEN.out; omega)).mono ?_
          rintro e w16 ⟨rfl, hb16⟩
          have HS16 := Lib.hid ((HS15.out.calm hb16).less (rs' := rs) (List.sublist_cons_self _ _) (List.Sublist.refl _))
          clear hb16 HS15 HZ HENS
          go_wp2_with fail
          refine (HHT.out w16).mono ?_
          rintro e w17 ⟨rfl, hb17⟩
          have HS17 := Lib.hid (HS16.out.calm hb17)
          clear hb17 HS16
          go_wp2_with fail
          refine (within_any HS17.out.mr HRE8.out.1 HRD15.out.1 HRD15.out.2 (by have := HRD15.out; have := HRE8.out; have := HD.out; have := HV2.out; have := HLEN.out; have := HLT.out; omega) (by have := HD.out; have := HV2.out; have := HLEN.out; omega)).mono ?_
          rintro e w18 ⟨rfl, hb18⟩
          have HS18 := Lib.hid (HS17.out.calm hb18)
          have HRE15 : Hid (0 ≤ rd15 ∧ rd15 ≤ 5000 * ((j + 1 : Nat) : Int)) := by have h1 := HRE8.out; have h2 := HRD15.out; have h3 := HD.out; have h4 := HV2.out; have h5 := HLEN.out; exact ⟨by omega, by omega⟩
          clear hb18 HS17 HRD15 v3 v4
          have n1 := Int.emod_nonneg lim (b := 40) (by decide)
          have n2 := Int.emod_lt_of_pos lim (b := 40) (by decide)
          have n3 := Int.emod_nonneg f (b := (L : Int) + 1) (by omega)
          have n4 := Int.emod_lt_of_pos f (b := (L : Int) + 1) (by omega)
          have n5 := Int.emod_nonneg t0 (b := (L : Int) + 2) (by omega)
          have n6 := Int.emod_lt_of_pos t0 (b := (L : Int) + 2) (by omega)
          obtain ⟨m1, hm1⟩ := Int.eq_ofNat_of_zero_le n1
          obtain ⟨m2, hm2⟩ := Int.eq_ofNat_of_zero_le n3
          obtain ⟨m3, hm3⟩ := Int.eq_ofNat_of_zero_le n5
          rw [hm1] at n2
          rw [hm2] at n4
          rw [hm3] at n6
          have u1 : IntKind.i64.wrap ((L : Int) + 1) = (L : Int) + 1 := by rw [IntKind.wrap_i64]; omega
          have u2 : IntKind.i64.wrap ((L : Int) + 2) = (L : Int) + 2 := by rw [IntKind.wrap_i64]; omega
          have HM : Hid ((m1 : Int) < 40 ∧ (m2 : Int) < (L : Int) + 1 ∧ (m3 : Int) < (L : Int) + 2) := ⟨n2, n4, n6⟩
          have HMM : Hid (lim % 40 = (m1 : Int) ∧ f % ((L : Int) + 1) = (m2 : Int) ∧ t0 % ((L : Int) + 2) = (m3 : Int)) := ⟨hm1, hm2, hm3⟩
          clear n1 n2 n3 n4 n5 n6 hm1 hm2 hm3
          go_wp2_with fail
          refine (mod_any lim 40 _ HG.out.2.2.1.1 HG.out.2.2.1.2 (by decide) (by decide)).mono ?_
          rw [HMM.out.1]
          rintro e w19 ⟨rfl, rfl⟩
          go_wp2_with fail
          refine (mod_any f ((L : Int) + 1) _ HG.out.2.2.2.1.1 HG.out.2.2.2.1.2 (by omega) (by omega)).mono ?_
          rw [HMM.out.2.1]
          rintro e w20 ⟨rfl, rfl⟩
          go_wp2_with fail
          refine (mod_any t0 ((L : Int) + 2) _ HG.out.2.2.2.2.1 HG.out.2.2.2.2.2 (by omega) (by omega)).mono ?_
          rw [HMM.out.2.2]
          rintro e w21 ⟨rfl, rfl⟩
          have HMR : Hid (i64R (m1 : Int) ∧ i64R (m2 : Int) ∧ i64R (m3 : Int)) := by have h1 := HM.out; have h2 := HLEN.out; exact ⟨⟨by omega, by omega⟩, ⟨by omega, by omega⟩, ⟨by omega, by omega⟩⟩
          clear HMM u1 u2
          by_cases hl0 : 0 < L
          · have hgt : decide ((L : Int) > 0) = true := decide_eq_true (by omega)
            have hgt2 : decide ((0 : Int) < (L : Int)) = true := decide_eq_true (by omega)
            have hgt3 : (0 : Int) < (L : Int) := by omega
            have p1 := Int.emod_nonneg (m2 : Int) (b := (L : Int)) (by omega)
            have p2 := Int.emod_lt_of_pos (m2 : Int) (b := (L : Int)) (by omega)
            have p3 := Int.emod_nonneg (m1 : Int) (b := (L : Int)) (by omega)
            have p4 := Int.emod_lt_of_pos (m1 : Int) (b := (L : Int)) (by omega)
            obtain ⟨P, hP⟩ := Int.eq_ofNat_of_zero_le p1
            obtain ⟨Q, hQ⟩ := Int.eq_ofNat_of_zero_le p3
            rw [hP] at p2
            rw [hQ] at p4
            obtain ⟨Q2, hQ2⟩ : ∃ Q2 : Nat, (L : Int) - 1 - (Q : Int) = (Q2 : Int) := ⟨L - 1 - Q, by omega⟩
            have hQ2L : (Q2 : Int) < (L : Int) := by omega
            obtain ⟨eP, heP⟩ : ∃ e, l[P]? = some e := ⟨_, List.getElem?_eq_getElem (by have := HLL.out; omega)⟩
            obtain ⟨eQ, heQ⟩ : ∃ e, l[Q2]? = some e := ⟨_, List.getElem?_eq_getElem (by have := HLL.out; omega)⟩
            have HWP := Lib.hid (HWF.out eP (List.mem_of_getElem? heP)).1
            have HWQ := Lib.hid (HWF.out eQ (List.mem_of_getElem? heQ)).1
            obtain ⟨M1, hM1⟩ : ∃ M : Int, (m1 : Int) = M := ⟨_, rfl⟩
            obtain ⟨M2, hM2⟩ : ∃ M : Int, (m2 : Int) = M := ⟨_, rfl⟩
            have HMB := Lib.hid HM.out
            rw [hM1, hM2] at HMR HMB ⊢
            rw [hM1] at hQ
            rw [hM2] at hP
            have HM0 : Hid (0 ≤ M1 ∧ 0 ≤ M2) := ⟨by omega, by omega⟩
            have HM1 : Hid (∀ wx, Calls Try.prog 27 #[.int .i64 M2, .int .i64 (L : Int)] wx (Quiet wx (.int .i64 (P : Int)))) := fun wx => mod_quiet15 (by have := HMR.out.2.1.1; omega) (by have := HMR.out.2.1.2; omega) (by omega) (by omega) hP wx
            have HM2 : Hid (∀ wx, Calls Try.prog 27 #[.int .i64 M1, .int .i64 (L : Int)] wx (Quiet wx (.int .i64 (Q : Int)))) := fun wx => mod_quiet15 (by have := HMR.out.1.1; omega) (by have := HMR.out.1.2; omega) (by omega) (by omega) hQ wx
            obtain ⟨b, off, hab, hb, c0, -⟩ := (HLJ.out (rs' := []) HS18.out).at heP
            obtain ⟨b', off', hab', hb', d0, -⟩ := (HLJ.out (rs' := []) HS18.out).at heQ
            rw [hab] at hab'
            obtain ⟨rfl, rfl⟩ : b = b' ∧ off = off' := by simpa using hab'
            have w1' : IntKind.i64.wrap ((L : Int) - 1) = (L : Int) - 1 := by rw [IntKind.wrap_i64]; omega
            have w2' : IntKind.i64.wrap ((L : Int) - 1 - (Q : Int)) = (Q2 : Int) := by rw [IntKind.wrap_i64]; omega
            have hP0 : (0 : Int) ≤ (P : Int) := by omega
            have hQ0 : (0 : Int) ≤ (Q2 : Int) := by omega
            have hPL : (P : Int) < (L : Int) := p2
            subst hab
            clear hab' heP heQ hb hb' p1 p3 hP hQ p2 p4 hl0 hQ2 hM1 hM2
            go_upto_region 22 with fail
            go_quiet (first
              | (go_at_call_of 27 (Value.int .i64 M2); exact Calls.quiet_of (HM1.out _))
              | (go_at_call_of 27 (Value.int .i64 M1); exact Calls.quiet_of (HM2.out _)))
            rename Nat => dq
            have HS21 : Hid (Scn I w.heap.size w (w18.drewN dq) (.pointer (some pa)) A rd15 rs bs) := HS18.out.calm (below_drewN (Below.refl _ _) dq)
            generalize w18.drewN dq = w22 at HS21 ⊢
            clear c0 d0 HS18
            go_wp2_with fail
            exact ⟨⟨eP.key, eQ.key, M1, M2, (m3 : Int), j + 1, rd15, rfl, rfl, rfl, rfl, rfl, by go_num, by have := HLT.out; omega, HWP.out, HWQ.out, HMR.out.1, HMR.out.2.1, HMR.out.2.2, HRE15.out.1, HRE15.out.2, HS21.out⟩, by have := HLT.out; simp [intOf]; omega⟩
          · have hgt : decide ((L : Int) > 0) = false := decide_eq_false (by omega)
            have hgt2 : decide ((0 : Int) < (L : Int)) = false := decide_eq_false (by omega)
            have hgt3 : ¬ (0 : Int) < (L : Int) := by omega
            clear hl0
            go_wp2_with fail
            exact ⟨⟨lo, hi, (m1 : Int), (m2 : Int), (m3 : Int), j + 1, rd15, rfl, rfl, rfl, rfl, rfl, by go_num, by have := HLT.out; omega, HG.out.1, HG.out.2.1, HMR.out.1, HMR.out.2.1, HMR.out.2.2, HRE15.out.1, HRE15.out.2, HS18.out⟩, by have := HLT.out; simp [intOf]; omega⟩
    · obtain rfl : j = 2 := by have h1 := HRD.out; omega
      have HRD0 : Hid (0 ≤ rd ∧ rd ≤ 10000) := by have h1 := HRD.out; exact ⟨by omega, by omega⟩
      have HFC : Hid (A.σ.cap ≤ 65536 ∧ A.σ.free.length ≤ 65536) := by have h1 := HPL.out.inv.ok.len; have h2 := HPL.out.inv.ok.cap2; exact ⟨h2, by omega⟩
      clear hlt HRD HG
      have HCEL : Hid (∀ {wx : World} {rd : Int} {rs' : List Row}, Scn I w.heap.size w wx (.pointer (some pa)) A rd rs' bs → wx.cell? ⟨q, 0, none⟩ = some (.slice da A.σ.cap dc) ∧ wx.cell? ⟨q, 1, none⟩ = some (.slice db A.σ.free.length dd)) := fun {wx rd rs'} h =>
        two_cells (h.boxes (q, Obj.cells #[.slice da A.σ.cap dc, .slice db A.σ.free.length dd] 33 (0, 0)) (by rw [← HBS.out]; simp)).2
      have hSd := HS.out.calm (Below.refl _ _).drew
      obtain ⟨q0, q1⟩ := HCEL.out HS.out
      go_upto_region 23 with fail
      go_region_held3 (fun w' => w'.cell? ⟨q, 0, none⟩ = some (.slice da A.σ.cap dc) ∧ w'.cell? ⟨q, 1, none⟩ = some (.slice db A.σ.free.length dd)) (go_keep) (first
        | (go_at_call 28; refine (hSd.ens (fun F hI => HK.out.list _ hI HTR.out HWF.out HRD0.out.1 (by have := HRD0.out; omega)) HLL.out).mono ?_; rintro e wA ⟨aA, cA, rdA, rfl, hsA, -, -⟩; obtain ⟨q0, q1⟩ := HCEL.out hsA)
        | (go_at_call 21; refine (same_ens (ens_row (w := wA) (B := w.heap.size) (c := cA) HLL.out (hsA.rows _ List.mem_cons_self) HWF.out) (HLJ.out (rs' := [_]) hsA) HLL.out (by have := HLEN.out; omega)).mono ?_; rintro e wB ⟨rfl, hbB⟩; have hsB := hsA.calm hbB; obtain ⟨q0, q1⟩ := HCEL.out hsB)
        | (go_at_call 9; refine hsB.dump.mono ?_; rintro e wC ⟨ea, ec, eb, ed, rfl, hsC, hbC⟩; obtain ⟨q0, q1⟩ := HCEL.out hsC)
        | (go_at_call 12; refine (same_dump A.σ.free rfl (slots_at HPL.out.inv (hsC.rows ⟨81, 11, .slice ea A.σ.cap ec, A.σ.cap, slotsV A⟩ (by simp))) (slots_at HPL.out.inv (hsC.rows ⟨81, 11, .slice da A.σ.cap dc, A.σ.cap, slotsV A⟩ (by rw [← HRS.out]; simp))) (hsC.rows ⟨35, 1, .slice eb A.σ.free.length ed, A.σ.free.length, u32s A.σ.free⟩ (by simp)) (hsC.rows ⟨35, 1, .slice db A.σ.free.length dd, A.σ.free.length, u32s A.σ.free⟩ (by rw [← HRS.out]; simp)) HFC.out.1 HFC.out.2).mono ?_; rintro e wD ⟨rfl, hbD⟩; have hsD := hsC.calm hbD; obtain ⟨q0, q1⟩ := HCEL.out hsD))
      all_goals (go_wp2_with fail; go_ret; exact ⟨rfl, hsD.below⟩)
end Go.Proofs.Ytnimbgcploohiaa
