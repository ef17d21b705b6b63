/- Same says whether two slices of bytes are equal, for every two slices that read. Condition: the first is shorter than 2 to the 48. -/
import Derived.Test.YtdaenfhedepiaaaBase
set_option linter.unusedVariables false
namespace Go.Proofs.Ytdaenfhedepiaaa
open Go.RowKit

set_option maxHeartbeats 400000 in
theorem same_any (a c : Option Addr) (n cap m cp : Nat) (xs ys : List Int) (w : World) (h : Bs w a n cap xs) (h' : Bs w c m cp ys) (hn : n ≤ 281474976710656) :
    Calls Try.prog 20 #[.slice a n cap, .slice c m cp] w (Quiet w (.bool (decide (xs = ys)))) := by
  by_cases hnm : n = m
  · subst hnm
    have HH := Lib.hid h
    have HH' := Lib.hid h'
    clear h h'
    go_enter Try.func20, Try.ntmps20
    go_wp2
    go_loopw [5] (fun i wr => ∃ k : Nat, k ≤ n ∧ i = .int .i64 k ∧ xs.take k = ys.take k ∧ ∃ q, wr = w.drewN q) (fun i _ => n - (intOf i).toNat)
    case atStart => exact ⟨0, Nat.zero_le _, rfl, rfl, 0, rfl⟩
    case round =>
      obtain ⟨k, hk, rfl, he, q, rfl⟩ := hrel
      have HE := Lib.hid he
      clear he
      by_cases hlt : k < n
      · obtain ⟨b, off, rfl, hbb, hcell⟩ := HH.out.at_ (by omega)
        obtain ⟨b', off', rfl, hbb', hcell'⟩ := HH'.out.at_ (by omega)
        have hc := hcell k hlt
        have hc' := hcell' k hlt
        have hlt' : (k : Int) < (n : Int) := by omega
        have hk0 : (0 : Int) ≤ (k : Int) := by omega
        clear hcell hcell'
        go_wp2
        go_quiet (fail)
        go_wp2
        · go_ret
          have hx : (xs[k]?.getD 0 != ys[k]?.getD 0) = true := by assumption
          have e : ¬ xs = ys := by intro e; subst e; simp at hx
          exact ⟨by rw [decide_eq_false e]; rfl, q + nq, by rw [World.drewN_drewN]⟩
        · have hx : (xs[k]?.getD 0 != ys[k]?.getD 0) = false := by assumption
          exact ⟨⟨k + 1, by omega, by go_num, take_eq_snoc HH.out.len HH'.out.len hlt HE.out (by simpa using hx), _, rfl⟩, by simp [intOf]; omega⟩
      · obtain rfl : k = n := by omega
        go_wp2
        go_ret
        have e : xs = ys := by
          have := HE.out
          rw [List.take_of_length_le (by rw [HH.out.len]; exact Nat.le_refl _), List.take_of_length_le (by rw [HH'.out.len]; exact Nat.le_refl _)] at this
          exact this
        exact ⟨by rw [decide_eq_true e]; rfl, q, rfl⟩
  · have hne : ((n : Int) != (m : Int)) = true := by simp; omega
    have HH := Lib.hid h
    have HH' := Lib.hid h'
    clear h h' hnm
    go_enter Try.func20, Try.ntmps20
    go_wp2
    go_ret
    have e : ¬ xs = ys := by
      intro e
      have h1 := HH.out.len
      have h2 := HH'.out.len
      rw [e, h2] at h1
      subst h1
      simp at hne
    exact ⟨by rw [decide_eq_false e]; rfl, 0, rfl⟩
end Go.Proofs.Ytdaenfhedepiaaa
