/- The reference's Balanced, weights, MinKeys and MaxHeight answer as plain numbers say, for all arguments. -/
import Derived.Test.YtkhfofpbmnapjaaTrees
import Derived.Test.YtkhfofpbmnapjaaBase
import Derived.Test.YtkhfofpbmnapjaaOwn
import Derived.Laws.Rows
import Derived.Laws.CopyOwn
import Derived.Deep.DeepCutAuto
import Derived.RegionTactic
set_option linter.unusedVariables false
set_option linter.unusedSimpArgs false
namespace Go.Proofs.Ytkhfofpbmnapjaa
open Go.RowKit

set_option maxRecDepth 100000 in
theorem refBalanced_any (l r : Int) (w : World) (hl0 : -9223372036854775808 ≤ l) (hl1 : l ≤ 9223372036854775807) (hr0 : -9223372036854775808 ≤ r) (hr1 : r ≤ 9223372036854775807) :
    Calls Try.prog 64 #[.int .i64 l, .int .i64 r] w fun e w' => e = .returned (.bool (bal l r)) ∧ w' = w := by
  by_cases h : 0 ≤ l ∧ l ≤ 2147483647 ∧ 0 ≤ r ∧ r ≤ 2147483647
  · obtain ⟨h1, h2, h3, h4⟩ := h
    have HB : Hid (bal l r = (decide (l + 1 ≤ 3 * (r + 1)) && decide (r + 1 ≤ 3 * (l + 1)))) := by
      unfold bal
      rw [← Bool.decide_and]
      exact decide_eq_decide.2 ⟨fun h => ⟨h.2.2.2.2.1, h.2.2.2.2.2⟩, fun h => ⟨h1, h2, h3, h4, h.1, h.2⟩⟩
    have e1 : IntKind.i64.wrap (l + 1) = l + 1 := by rw [IntKind.wrap_i64]; omega
    have e2 : IntKind.i64.wrap (r + 1) = r + 1 := by rw [IntKind.wrap_i64]; omega
    have e3 : IntKind.i64.wrap (3 * (r + 1)) = 3 * (r + 1) := by rw [IntKind.wrap_i64]; omega
    have e4 : IntKind.i64.wrap (3 * (l + 1)) = 3 * (l + 1) := by rw [IntKind.wrap_i64]; omega
    have g1 : decide (l < 0) = false := decide_eq_false (by omega)
    have g2 : decide (2147483647 < l) = false := decide_eq_false (by omega)
    have g3 : decide (r < 0) = false := decide_eq_false (by omega)
    have g4 : decide (2147483647 < r) = false := decide_eq_false (by omega)
    rw [HB.out]
    clear HB hl0 hl1 hr0 hr1 h1 h2 h3 h4
    by_cases hc : l + 1 ≤ 3 * (r + 1)
    · have hc2 := decide_eq_true hc
      go_enter Try.func64, Try.ntmps64
      go_wp2
      go_ret
      exact ⟨by simp [hc], rfl⟩
    · have hc2 := decide_eq_false hc
      go_enter Try.func64, Try.ntmps64
      go_wp2
      go_ret
      exact ⟨by simp [hc], rfl⟩
  · have HB : bal l r = false := decide_eq_false fun h2 => h ⟨h2.1, h2.2.1, h2.2.2.1, h2.2.2.2.1⟩
    rw [HB]
    clear HB
    by_cases h1 : l < 0
    · have g1 := decide_eq_true h1
      clear h h1
      go_enter Try.func64, Try.ntmps64
      go_wp2
      go_ret
      exact ⟨rfl, rfl⟩
    · have g1 := decide_eq_false h1
      by_cases h2 : 2147483647 < l
      · have g2 := decide_eq_true h2
        clear h h1 h2
        go_enter Try.func64, Try.ntmps64
        go_wp2
        go_ret
        exact ⟨rfl, rfl⟩
      · have g2 := decide_eq_false h2
        by_cases h3 : r < 0
        · have g3 := decide_eq_true h3
          clear h h1 h2 h3
          go_enter Try.func64, Try.ntmps64
          go_wp2
          go_ret
          exact ⟨rfl, rfl⟩
        · have g3 := decide_eq_false h3
          have g4 : decide (2147483647 < r) = true := decide_eq_true (by omega)
          clear h h1 h2 h3
          go_enter Try.func64, Try.ntmps64
          go_wp2
          go_ret
          exact ⟨rfl, rfl⟩
theorem below_new7 (w : World) (o : Obj) : Below w.heap.size w (w.alloc o) := (Below.refl _ _).alloc (Nat.le_refl _) _
theorem below_chain7 {a b c : World} (h : Below a.heap.size a b) (h1 : Below b.heap.size b c) : Below a.heap.size a c := h.trans (h1.mono h.size)
def zero81 : Array Value := Array.replicate 81 (.int .i64 0)
/-- the weights up to height h, then zeros -/
def wtv (h : Nat) : Array Value := (Array.range 81).map fun j => .int .i64 (if j ≤ h then (wt j : Int) else 0)
theorem wtv_size (h : Nat) : (wtv h).size = 81 := by simp [wtv]
theorem wtv_at (h j : Nat) (hj : j < 81) : (wtv h)[j]? = some (.int .i64 (if j ≤ h then (wt j : Int) else 0)) := by simp [wtv, hj]
theorem wtv_at2 (h j : Nat) : (wtv h)[j]? = if j < 81 then some (.int .i64 (if j ≤ h then (wt j : Int) else 0)) else none := by
  by_cases hj : j < 81
  · rw [if_pos hj]; exact wtv_at h j hj
  · rw [if_neg hj]; exact Array.getElem?_eq_none (by rw [wtv_size]; omega)
theorem zero81_at (j : Nat) : zero81[j]? = if j < 81 then some (.int .i64 0) else none := by
  by_cases hj : j < 81
  · rw [if_pos hj]; simp [zero81, hj]
  · rw [if_neg hj]; exact Array.getElem?_eq_none (by simp [zero81]; omega)
theorem wtv_zero : zero81.setIfInBounds 0 (.int .i64 1) = wtv 0 := by
  apply Array.ext_getElem?
  intro j
  rw [wtv_at2]
  by_cases e : 0 = j
  · subst e
    rw [Array.getElem?_setIfInBounds_self_of_lt (by simp [zero81])]
    rfl
  · rw [Array.getElem?_setIfInBounds_ne e, zero81_at]
    have h2 : ¬ j ≤ 0 := by omega
    rw [if_neg h2]
theorem wtv_step (h : Nat) (hh : h + 1 < 81) (v : Int) (hv : v = (wt (h + 1) : Int)) : (wtv h).setIfInBounds (h + 1) (.int .i64 v) = wtv (h + 1) := by
  subst hv
  apply Array.ext_getElem?
  intro j
  rw [wtv_at2]
  by_cases e : h + 1 = j
  · subst e
    rw [Array.getElem?_setIfInBounds_self_of_lt (by rw [wtv_size]; exact hh), if_pos hh, if_pos (Nat.le_refl _)]
  · rw [Array.getElem?_setIfInBounds_ne e, wtv_at2]
    by_cases e2 : j ≤ h
    · rw [if_pos e2, if_pos (show j ≤ h + 1 by omega)]
    · rw [if_neg e2, if_neg (show ¬ j ≤ h + 1 by omega)]
theorem wtv_one (h : Nat) : (wtv h).all (·.oneCell') = true := by
  rw [Array.all_eq_true]
  intro i h
  simp [wtv, Value.oneCell']
end Go.Proofs.Ytkhfofpbmnapjaa
