/- Same says of two slices of descriptions that read the same that they are equal. -/
import Derived.Test.YtkhfofpbmnapjaaDumpR
set_option linter.unusedVariables false
namespace Go.Proofs.Ytkhfofpbmnapjaa
open Go.RowKit
set_option maxHeartbeats 2000000 in
set_option maxRecDepth 100000 in
theorem same_slots {w : World} {a a' : Option Addr} {n c c' : Nat} {S : Nat → Sl} (h : SlotsAt w a n S) (h' : SlotsAt w a' n S) (hn : n ≤ 65536) :
    Calls Try.prog 35 #[.slice a n c, .slice a' n c'] w (Calm w (.bool true)) := by
  have hni : (n : Int) ≤ 65536 := by omega
  have HH := Lib.hid h
  have HH' := Lib.hid h'
  clear h h'
  go_enter Try.func35, Try.ntmps35
  go_wp2
  go_loopw [5] (fun i wr => ∃ k : Nat, k ≤ n ∧ i = .int .i64 (k : Int) ∧ ∃ d, wr = w.drewN d) (fun i _ => n - (intOf i).toNat)
  case atStart => exact ⟨0, Nat.zero_le _, rfl, 0, rfl⟩
  case round =>
    obtain ⟨k, hk, rfl, d, rfl⟩ := hrel
    by_cases hlt : k < n
    · have hki : (k : Int) < (n : Int) := by omega
      have hk0 : (0 : Int) ≤ (k : Int) := by omega
      obtain ⟨b, off, rfl, hb, d0, d1, d2, d3, d4, d5, d6, d7, d8, d9, d10⟩ := HH.out.all hlt
      obtain ⟨b', off', rfl, hb', e0, e1, e2, e3, e4, e5, e6, e7, e8, e9, e10⟩ := HH'.out.all hlt
      generalize (S k).on = x0 at d0 e0
      generalize (S k).cnt = x1 at d1 e1
      generalize (S k).gen = x2 at d2 e2
      generalize (S k).nd.key = x3 at d3 e3
      generalize (S k).nd.val = x4 at d4 e4
      generalize ((S k).nd.left : Int) = x5 at d5 e5
      generalize ((S k).nd.right : Int) = x6 at d6 e6
      generalize (S k).nd.size = x7 at d7 e7
      generalize (S k).nd.sum = x8 at d8 e8
      generalize (S k).nd.mn = x9 at d9 e9
      generalize (S k).nd.mx = x10 at d10 e10
      go_wp2
      go_quiet (fail)
      go_wp2
      exact ⟨⟨k + 1, by omega, by go_num, _, rfl⟩, by simp [intOf]; omega⟩
    · obtain rfl : k = n := by omega
      go_wp2
      go_ret
      exact ⟨rfl, below_drewN (Below.refl _ _) d⟩
end Go.Proofs.Ytkhfofpbmnapjaa
