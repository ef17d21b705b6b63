/- A slice of slices of bytes that came in, read as lists; what frames it needs. -/
import Derived.Test.YtdaenfhedepiaaaBase
import Derived.Deep.Matrix
set_option linter.unusedVariables false
namespace Go.Proofs.Ytdaenfhedepiaaa
open Go.RowKit Go.Deep

/-- the slice of slices (a, n) holds slices with the bytes P r -/
def RowsIn (w : World) (a : Option Addr) (n : Nat) (A : Nat → Option Addr) (L C : Nat → Nat) (P : Nat → List Int) : Prop :=
  ∀ r, r < n → ∃ b off, a = some ⟨b, off, none⟩ ∧ b < w.heap.size ∧ w.cell? ⟨b, off + r, none⟩ = some (.slice (A r) (L r) (C r)) ∧ Bs w (A r) (L r) (C r) (P r)
theorem RowsIn.below {w w' : World} {a : Option Addr} {n : Nat} {A : Nat → Option Addr} {L C : Nat → Nat} {P : Nat → List Int} (h : RowsIn w a n A L C P) (hb : Below w.heap.size w w') : RowsIn w' a n A L C P := by
  intro r hr
  obtain ⟨b, off, ha, hlt, hc, hs⟩ := h r hr
  exact ⟨b, off, ha, Nat.lt_of_lt_of_le hlt hb.size, (hb.cell (p := ⟨b, off + r, none⟩) hlt).trans hc, hs.below hb⟩
theorem rows_in {H : Type} {enc : TypeId × Value → H} {W : World} {a : Option Addr} {n cap fuel : Nat} {x : DataW H × List MemPlace}
    (h : DataW.trod enc Try.prog W 0 (fun _ => true) true fuel 42 (Value.slice a n cap).cells.toList = some x) :
    n ≤ cap ∧ cap ≤ maxLen ∧ ∃ A L C P, RowsIn W a n A L C P := by
  rcases open_int_rows Try.underlying42 Try.underlying22 Try.underlying5 (by kernel_rfl) (by kernel_rfl) h with ⟨hcs, _⟩ | ⟨a', n', cap', A, L, C, Z, hcs, _, hl, hm, _, hx⟩
  · simp [Value.cells] at hcs
    obtain ⟨rfl, rfl, rfl⟩ := hcs
    exact ⟨Nat.le_refl _, Nat.zero_le _, fun _ => none, fun _ => 0, fun _ => 0, fun _ => [], fun r hr => by omega⟩
  · simp [Value.cells] at hcs
    obtain ⟨rfl, rfl, rfl⟩ := hcs
    refine ⟨hl, hm, A, L, C, fun r => (Z r).take (L r), fun r hr => ?_⟩
    obtain ⟨h1, h2, h3, h4, h5, h6, h7⟩ := hx r (by omega)
    obtain ⟨b, off, spot⟩ := a'
    have hspot : spot = none := by simpa [Addr.add] using World.cell?_spot (hx 0 (by omega)).1
    subst hspot
    rw [add_at] at h1
    refine ⟨b, off, rfl, World.block_lt_of_cell? W _ h1, h1, bs_of_row ?_⟩
    cases hA : A r with
    | none =>
      have := h6 hA
      exact .inl ⟨rfl, by omega, this, List.eq_nil_of_length_eq_zero (by omega)⟩
    | some y => exact .inr ⟨y, rfl, h2, h3, h4, fun i hi => (h7 y hA).2 i (by omega), h5⟩
end Go.Proofs.Ytdaenfhedepiaaa
