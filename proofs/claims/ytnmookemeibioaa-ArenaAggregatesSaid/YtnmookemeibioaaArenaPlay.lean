/- The client of layer 5's statements: an arena and the row of the references that it holds; it picks one of them. Unfinished: step and play are to come. -/
import Derived.Test.YtnmookemeibioaaArenaLaw
import Derived.Deep.QuietTactic
import Derived.BigQuiet
set_option linter.unusedVariables false
namespace Go.Proofs.Ytnmookemeibioaa
open Go.RowKit

theorem held_get {l : List Nat} {j : Nat} (h : j < l.length) : (u32s l)[j]? = some (.int .u32 ((l.getD j 0 : Nat) : Int)) := by
  simp [u32s, List.getD_eq_getElem?_getD, h]
def APick (w : World) (l : List Nat) (e : Ending) (w' : World) : Prop := ∃ y d : Nat, (y = 0 ∨ y ∈ l) ∧ e = .returned (.int .u32 (y : Int)) ∧ w' = w.drewN d
set_option maxHeartbeats 1000000 in
set_option maxRecDepth 100000 in
theorem apick_any (u : Int) (q : Nat) (xa : Option Addr) (xc B : Nat) (l : List Nat) (w : World) (h0 : 0 ≤ u) (h1 : u < 4294967296) (hx : w.cell? ⟨q, 1, none⟩ = some (.slice xa l.length xc)) (hr : w.ownsRow B 41 1 (.slice xa l.length xc) l.length (u32s l)) (hn : l.length ≤ 65536) (hl : ∀ y ∈ l, y < 4294967296) :
    Calls Try.prog 68 #[.pointer (some ⟨q, 0, none⟩), .int .u32 u] w (APick w l) := by
  by_cases h4 : u % 4 = 0
  · have hb : (u % 4 == 0) = true := by simp [h4]
    clear hr hl
    go_enter Try.func68, Try.ntmps68
    go_wp2
    all_goals
      go_ret
      exact ⟨0, 0, .inl rfl, rfl, rfl⟩
  · have hb : (u % 4 == 0) = false := by simp [h4]
    by_cases hl0 : l.length = 0
    · rw [hl0] at hx
      clear hr hl
      go_enter Try.func68, Try.ntmps68
      go_wp2
      all_goals
        go_ret
        exact ⟨0, 0, .inl rfl, rfl, rfl⟩
    · have hlp : (0 : Int) < (l.length : Int) := by omega
      have hli : (l.length : Int) ≤ 65536 := by omega
      have hlz : ((l.length : Int) == 0) = false := beq_eq_false_iff_ne.2 (by omega)
      have h6 := Int.emod_nonneg u (b := (l.length : Int)) (by omega)
      have h7 := Int.emod_lt_of_pos u (b := (l.length : Int)) (by omega)
      obtain ⟨j, hj⟩ := Int.eq_ofNat_of_zero_le h6
      have hjl : j < l.length := by omega
      obtain ⟨g, rfl, hg, hc⟩ := row_cell hr hjl
      have hc2 := hc.trans (held_get hjl)
      have hm : l.getD j 0 ∈ l := by rw [List.getD_eq_getElem?_getD, List.getElem?_eq_getElem hjl]; exact List.getElem_mem _
      have HM := Lib.hid hm
      generalize hY : l.getD j 0 = Y at hc2
      have HY := Lib.hid hY
      generalize hL : l.length = L at *
      have HJ := Lib.hid hj
      clear hr hl hc hm hg h6 h7 hY hl0 h4
      go_enter Try.func68, Try.ntmps68
      go_wp2
      go_quiet (fail)
      go_wp2
      go_ret
      exact ⟨Y, _, .inr (by rw [← HY.out]; exact HM.out), rfl, rfl⟩
end Go.Proofs.Ytnmookemeibioaa
