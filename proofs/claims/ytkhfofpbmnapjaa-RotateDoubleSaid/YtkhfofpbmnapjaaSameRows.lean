/- Same says of two rows of the call's own with the same numbers that they are equal. -/
import Derived.Test.YtkhfofpbmnapjaaSlotsCon
import Derived.Deep.QuietTactic
set_option linter.unusedVariables false
namespace Go.Proofs.Ytkhfofpbmnapjaa
open Go.RowKit
theorem u32s_nth {l : List Nat} {j : Nat} (h : j < l.length) : (u32s l)[j]? = some (.int .u32 ((l.getD j 0 : Nat) : Int)) := by
  simp [u32s, List.getD_eq_getElem?_getD, h]
set_option maxHeartbeats 400000 in
theorem same_rows {B B' : Nat} {a a' : Option Addr} {c c' : Nat} (l : List Nat) (w : World) (hl : (l.length : Int) ≤ 65536) (h : w.ownsRow B 28 1 (.slice a l.length c) l.length (u32s l)) (h' : w.ownsRow B' 28 1 (.slice a' l.length c') l.length (u32s l)) :
    Calls Try.prog 36 #[.slice a l.length c, .slice a' l.length c'] w (Calm w (.bool true)) := by
  have HH := Lib.hid h
  have HH' := Lib.hid h'
  clear h h'
  obtain ⟨n, hn⟩ : ∃ n, n = l.length := ⟨_, rfl⟩
  rw [← hn] at hl ⊢
  have HN := Lib.hid hn
  clear hn
  go_enter Try.func36, Try.ntmps36
  go_wp2
  go_loopw [5] (fun i wr => ∃ k : Nat, k ≤ n ∧ i = .int .i64 k ∧ ∃ q, wr = w.drewN q) (fun i _ => n - (intOf i).toNat)
  case atStart => exact ⟨0, Nat.zero_le _, rfl, 0, rfl⟩
  case round =>
    obtain ⟨k, hk, rfl, q, rfl⟩ := hrel
    by_cases hlt : k < n
    · have hk2 : k < l.length := by rw [← HN.out]; exact hlt
      obtain ⟨b, rfl, hbb, hc⟩ := row_cell HH.out hk2
      obtain ⟨b', rfl, hbb', hc'⟩ := row_cell HH'.out hk2
      rw [u32s_nth hk2] at hc hc'
      have hlt' : (k : Int) < (n : Int) := by omega
      have hk0 : (0 : Int) ≤ (k : Int) := by omega
      generalize ((l.getD k 0 : Nat) : Int) = x at hc hc'
      have hne : (x != x) = false := by simp
      clear hk2
      go_wp2
      go_quiet (fail)
      go_wp2
      exact ⟨⟨k + 1, by omega, by go_num, _, rfl⟩, by simp [intOf]; omega⟩
    · obtain rfl : k = n := by omega
      go_wp2
      go_ret
      exact ⟨rfl, below_drewN (Below.refl _ _) q⟩
end Go.Proofs.Ytkhfofpbmnapjaa
