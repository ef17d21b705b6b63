/- What is asked of the program's ranks, stated, not proved here; the example of the chapter. -/
import Derived.Test.YtbjmblfifnjafaaScene
import Derived.Test.YtbjmblfifnjafaaRefSub
set_option linter.unusedVariables false
set_option linter.unusedSimpArgs false
namespace Go.Proofs.Ytbjmblfifnjafaa
open Go.RowKit
/-- how often may be read -/
def mostJ (n : Nat) : Int := 6 * ((xh n : Int) + 2)
theorem mostJ_le {n : Nat} (h : n ≤ 2147483647) : mostJ n ≤ 492 ∧ 0 ≤ mostJ n := by
  have h1 := (xh_spec h).2.1
  unfold mostJ
  omega
def cntE (l : List En) (lo hi : Int) : Nat := (betE l lo hi).length
theorem cntE_le (l : List En) (lo hi : Int) : cntE l lo hi ≤ l.length := List.length_filter_le _ _
def midE (l : List En) : Option En := selE l ((((l.length + 1) / 2 : Nat) : Int) - 1)
structure RkImpl (I : AImpl) : Prop where
  count : ∀ {p : Value} {A : Ar} {rd : Int} {F : Nat → Prop} {i : Nat} {t : Tr} {l : List En} (lo hi : Int) (w : World), I.Is w p A rd F → TreeAt A i t l → 0 ≤ rd → rd ≤ 1099511627776 → i64R lo → i64R hi →
    Calls Try.prog 25 #[p, .int .u32 (i : Int), .int .i64 lo, .int .i64 hi] w (ReadsTo I p A rd F (2 * mostJ l.length) (.int .i64 (cntE l lo hi : Int)) w)
/-! ### counts, plain -/
theorem cnt_cons (x : En) (t : List En) (lo hi : Int) : cntE (x :: t) lo hi = cntE t lo hi + (if lo ≤ x.key ∧ x.key ≤ hi then 1 else 0) := by
  unfold cntE betE
  rw [List.filter_cons]
  by_cases h : lo ≤ x.key ∧ x.key ≤ hi
  · simp [h]
  · simp [h]
theorem rk_cons (x : En) (t : List En) (k : Int) : rankE (x :: t) k = rankE t k + (if x.key < k then 1 else 0) := by
  unfold rankE
  rw [List.countP_cons]
  by_cases h : x.key < k <;> simp [h]
theorem cnt_add : ∀ (l : List En) {lo mid hi : Int}, lo ≤ mid → mid < hi → cntE l lo mid + cntE l (mid + 1) hi = cntE l lo hi
  | [], _, _, _, _, _ => rfl
  | x :: t, lo, mid, hi, h1, h2 => by
    have ih := cnt_add t h1 h2
    rw [cnt_cons, cnt_cons, cnt_cons]
    by_cases a1 : lo ≤ x.key ∧ x.key ≤ mid
    · rw [if_pos a1, if_neg (by omega), if_pos (by omega)]; omega
    · by_cases a2 : mid + 1 ≤ x.key ∧ x.key ≤ hi
      · rw [if_neg a1, if_pos a2, if_pos (by omega)]; omega
      · rw [if_neg a1, if_neg a2, if_neg (by omega)]; omega
theorem cnt_rank : ∀ (l : List En) {lo mid : Int}, lo ≤ mid → cntE l lo mid + rankE l lo = rankE l (mid + 1)
  | [], _, _, _ => rfl
  | x :: t, lo, mid, h1 => by
    have ih := cnt_rank t h1
    rw [cnt_cons, rk_cons, rk_cons]
    by_cases a1 : x.key < lo
    · rw [if_neg (by omega), if_pos a1, if_pos (by omega)]; omega
    · by_cases a2 : x.key < mid + 1
      · rw [if_pos (by omega), if_neg a1, if_pos a2]; omega
      · rw [if_neg (by omega), if_neg a1, if_neg a2]; omega
theorem cnt_all : ∀ {l : List En} {lo hi : Int}, (∀ e ∈ l, lo ≤ e.key ∧ e.key ≤ hi) → cntE l lo hi = l.length
  | [], _, _, _ => rfl
  | x :: t, lo, hi, h => by
    rw [cnt_cons, cnt_all (fun e he => h e (by simp [he])), if_pos (h x (by simp))]; rfl
theorem cnt_none (l : List En) {lo hi : Int} (h : hi < lo) : cntE l lo hi = 0 := by
  unfold cntE betE
  rw [List.length_eq_zero_iff, List.filter_eq_nil_iff]
  intro e _
  simp
  omega
end Go.Proofs.Ytbjmblfifnjafaa
