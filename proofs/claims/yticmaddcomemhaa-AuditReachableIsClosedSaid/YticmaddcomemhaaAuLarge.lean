/- Is a dump larger than the statements consider? -/
import Derived.Test.YticmaddcomemhaaAuCon
set_option linter.unusedVariables false
namespace Go.Proofs.Yticmaddcomemhaa
open Go.RowKit
set_option maxHeartbeats 1000000 in
set_option maxRecDepth 100000 in
theorem large_any (w : World) (a b ra : Option Addr) (n c m d L rc : Nat) :
    Calls Try.prog 8 #[.agg #[.slice a n c, .slice b m d], .slice ra L rc] w (Calm w (.bool (decide (60 < n ∨ 60 < m ∨ 60 < L)))) := by
  have hb1 := below_new w (Obj.cells #[Value.slice a n c, Value.slice b m d] 25)
  have HB := Lib.hid hb1
  obtain ⟨hc0, hc1⟩ := (DBox.new w a b n c m d).cells
  clear hb1
  by_cases h1 : 60 < n
  · have h1i : (60 : Int) < (n : Int) := by omega
    rw [show decide (60 < n ∨ 60 < m ∨ 60 < L) = true by simp [h1]]
    go_enter Try.func8, Try.ntmps8
    go_wp2
    go_ret
    exact ⟨rfl, HB.out⟩
  · have h1i : ¬ (60 : Int) < (n : Int) := by omega
    by_cases h2 : 60 < m
    · have h2i : (60 : Int) < (m : Int) := by omega
      rw [show decide (60 < n ∨ 60 < m ∨ 60 < L) = true by simp [h2]]
      go_enter Try.func8, Try.ntmps8
      go_wp2
      go_ret
      exact ⟨rfl, HB.out⟩
    · have h2i : ¬ (60 : Int) < (m : Int) := by omega
      by_cases h3 : 60 < L
      · have h3i : (60 : Int) < (L : Int) := by omega
        rw [show decide (60 < n ∨ 60 < m ∨ 60 < L) = true by simp [h3]]
        go_enter Try.func8, Try.ntmps8
        go_wp2
        go_ret
        exact ⟨rfl, HB.out⟩
      · have h3i : ¬ (60 : Int) < (L : Int) := by omega
        rw [show decide (60 < n ∨ 60 < m ∨ 60 < L) = false by simp; omega]
        go_enter Try.func8, Try.ntmps8
        go_wp2
        go_ret
        exact ⟨rfl, HB.out⟩
end Go.Proofs.Yticmaddcomemhaa
