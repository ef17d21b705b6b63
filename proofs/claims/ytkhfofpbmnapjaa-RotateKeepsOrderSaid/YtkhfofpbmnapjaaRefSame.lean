/- The reference's Same on lists of entries. -/
import Derived.Test.YtkhfofpbmnapjaaRefNear
import Derived.Deep.QuietTactic
set_option linter.unusedVariables false
set_option linter.unusedSimpArgs false
namespace Go.Proofs.Ytkhfofpbmnapjaa
open Go.RowKit
set_option maxHeartbeats 2000000 in
set_option maxRecDepth 100000 in
theorem same_ens {w : World} {a b : Option Addr} {n c d : Nat} {l : List En} (h : EnsAt w a l) (h' : EnsAt w b l) (hn : l.length = n) (hl : n ≤ 1000000) :
    Calls Try.prog 22 #[.slice a n c, .slice b n d] w (Calm w (.bool true)) := by
  have hni : (n : Int) ≤ 1000000 := by omega
  have HH := Lib.hid h
  have HH' := Lib.hid h'
  have HN := Lib.hid hn
  clear h h' hn
  go_enter Try.func22, Try.ntmps22
  go_wp2_with fail
  go_loopw [5] (fun i wr => ∃ k : Nat, k ≤ n ∧ i = .int .i64 (k : Int) ∧ ∃ q, wr = w.drewN q) (fun i _ => n - (intOf i).toNat)
  case atStart => exact ⟨0, Nat.zero_le _, rfl, 0, rfl⟩
  case round =>
    obtain ⟨k, hk, rfl, q, rfl⟩ := hrel
    by_cases hlt : k < n
    · have hki : (k : Int) < (n : Int) := by omega
      have hk0 : (0 : Int) ≤ (k : Int) := by omega
      obtain ⟨e, he⟩ : ∃ e, l[k]? = some e := ⟨_, List.getElem?_eq_getElem (by have := HN.out; omega)⟩
      obtain ⟨g, off, rfl, hb, c0, c1⟩ := HH.out.at he
      obtain ⟨g', off', rfl, hb', d0, d1⟩ := HH'.out.at he
      generalize e.key = x0 at c0 d0
      generalize e.val = x1 at c1 d1
      have HLT := Lib.hid hlt
      clear he hb hb' hk hlt
      go_wp2_with fail
      go_quiet (fail)
      go_wp2_with fail
      exact ⟨⟨k + 1, by have := HLT.out; omega, by go_num, _, rfl⟩, by have := HLT.out; simp [intOf]; omega⟩
    · have hki : ¬ (k : Int) < (n : Int) := by omega
      clear hlt hk
      go_wp2_with fail
      go_ret
      exact ⟨rfl, below_drewN (Below.refl _ _) q⟩
end Go.Proofs.Ytkhfofpbmnapjaa
