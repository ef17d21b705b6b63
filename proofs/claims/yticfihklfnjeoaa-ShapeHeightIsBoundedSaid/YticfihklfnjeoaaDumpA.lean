/- A dump in memory: its slots read as plain data. The reference's kids and Allocated. -/
import Derived.Test.YticfihklfnjeoaaArenaPure2
import Derived.Test.YticfihklfnjeoaaBase
import Derived.Test.YticfihklfnjeoaaOwn
import Derived.Deep.QuietTactic
import Derived.BigQuiet
import Derived.BigGuardPart
set_option linter.unusedVariables false
namespace Go.Proofs.Yticfihklfnjeoaa
open Go.RowKit

/-- a slot's description -/
structure Sl where
  on : Bool
  cnt : Int
  gen : Int
  nd : Nd
def slV (s : Sl) : List Value := [.bool s.on, .int .i64 s.cnt, .int .u32 s.gen, .int .i64 s.nd.key, .int .i64 s.nd.val, .int .u32 (s.nd.left : Int), .int .u32 (s.nd.right : Int), .int .i64 s.nd.size, .int .i64 s.nd.sum, .int .i64 s.nd.mn, .int .i64 s.nd.mx]
/-- slot i + 1 of the n slots reads as S i -/
structure SlotsAt (w : World) (a : Option Addr) (n : Nat) (S : Nat → Sl) : Prop where
  cell : ∀ i, i < n → ∃ b off, a = some ⟨b, off, none⟩ ∧ b < w.heap.size ∧ ∀ j v, (slV (S i))[j]? = some v → w.cell? ⟨b, off + i * 11 + j, none⟩ = some v
  kid : ∀ i, i < n → (S i).nd.left < 4294967296 ∧ (S i).nd.right < 4294967296
theorem SlotsAt.below {w w' : World} {a : Option Addr} {n : Nat} {S : Nat → Sl} (h : SlotsAt w a n S) (hb : Below w.heap.size w w') : SlotsAt w' a n S := by
  refine ⟨fun i hi => ?_, h.kid⟩
  obtain ⟨b, off, ha, hlt, hc⟩ := h.cell i hi
  exact ⟨b, off, ha, Nat.lt_of_lt_of_le hlt hb.size, fun j v hv => by rw [← hc j v hv]; exact hb.cell (p := ⟨b, off + i * 11 + j, none⟩) hlt⟩
set_option maxHeartbeats 1000000 in
set_option maxRecDepth 100000 in
theorem dallocated_any {w : World} {a b : Option Addr} {n c m d i : Nat} {S : Nat → Sl} (h : SlotsAt w a n S) (hn : n ≤ 65536) (hi : i < 4294967296) :
    Calls Try.prog 38 #[.agg #[.slice a n c, .slice b m d], .int .u32 (i : Int)] w (Calm w (.bool (decide (1 ≤ i ∧ i ≤ n ∧ (S (i - 1)).on = true)))) := by
  have hb1 : Below w.heap.size w (w.alloc (Obj.cells #[Value.slice a n c, Value.slice b m d] 37)) := (Below.refl _ _).alloc (Nat.le_refl _) _
  have HB := Lib.hid hb1
  clear hb1
  have hni : (n : Int) ≤ 65536 := by omega
  by_cases h0 : 1 ≤ i ∧ i ≤ n
  · obtain ⟨j, rfl⟩ : ∃ j, i = j + 1 := ⟨i - 1, by omega⟩
    obtain ⟨b', off, rfl, hlt, hc⟩ := h.cell j (by omega)
    have hc0 : w.cell? ⟨b', off + j * 11, none⟩ = _ := hc 0 _ rfl
    have hjn : (j : Int) < (n : Int) := by omega
    have hjn2 : (j : Int) + 1 ≤ (n : Int) := by omega
    have hj1 : (1 : Int) ≤ (j : Int) + 1 := by omega
    rw [show decide (1 ≤ j + 1 ∧ j + 1 ≤ n ∧ (S (j + 1 - 1)).on = true) = (S j).on by
      have : 1 ≤ j + 1 ∧ j + 1 ≤ n := h0
      simp [this]]
    generalize (S j).on = o at *
    clear h hc h0 hi
    go_enter Try.func38, Try.ntmps38
    go_wp2
    go_ret
    exact ⟨rfl, HB.out⟩
  · rw [show decide (1 ≤ i ∧ i ≤ n ∧ (S (i - 1)).on = true) = false by simp; omega]
    by_cases h1 : i = 0
    · subst h1
      clear h h0
      go_enter Try.func38, Try.ntmps38
      go_wp2
      go_ret
      exact ⟨rfl, HB.out⟩
    · have hin : ¬ (i : Int) ≤ (n : Int) := by omega
      have hi1 : (1 : Int) ≤ (i : Int) := by omega
      clear h h0
      go_enter Try.func38, Try.ntmps38
      go_wp2
      go_ret
      exact ⟨rfl, HB.out⟩
end Go.Proofs.Yticfihklfnjeoaa
