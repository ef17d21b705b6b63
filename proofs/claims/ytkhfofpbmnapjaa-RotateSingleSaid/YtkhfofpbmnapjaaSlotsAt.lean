/- A row of slots' descriptions that a dump holds, read; a row of numbers, read. -/
import Derived.Test.YtkhfofpbmnapjaaSoundP
import Derived.Test.YtkhfofpbmnapjaaDumpE
set_option linter.unusedVariables false
namespace Go.Proofs.Ytkhfofpbmnapjaa
open Go.RowKit
theorem flat_at {α : Type} {f : α → List Value} {m : Nat} (hm : ∀ x, (f x).length = m) : ∀ (l : List α) (i j : Nat) (x : α), l[i]? = some x → j < m → (l.flatMap f)[i * m + j]? = (f x)[j]?
  | [], i, j, x, h, hj => by simp at h
  | a :: t, 0, j, x, h, hj => by
    simp at h
    subst h
    rw [List.flatMap_cons, Nat.zero_mul, Nat.zero_add, List.getElem?_append_left (by rw [hm]; exact hj)]
  | a :: t, i + 1, j, x, h, hj => by
    simp at h
    rw [List.flatMap_cons, List.getElem?_append_right (by rw [hm, Nat.succ_mul]; omega), hm, show (i + 1) * m + j - m = i * m + j by rw [Nat.succ_mul]; omega]
    exact flat_at hm t i j x h hj
/-- a dump's row of slots, read -/
theorem slots_at {w : World} {B c : Nat} {a : Option Addr} {A : Ar} {st : List Nat} {held : Nat → Nat} (hI : A.Inv st held) (h : w.ownsRow B 75 11 (.slice a A.σ.cap c) A.σ.cap (slotsV A)) : SlotsAt w a A.σ.cap A.sl := by
  have hcap := hI.ok.cap2
  refine ⟨fun i hi => ?_, fun i hi => ?_⟩
  · rcases h.2 with ⟨hv, hn⟩ | ⟨g, cap, cur, hv, hB, hc, hn, hcm, hs, ht⟩
    · omega
    · simp only [Value.slice.injEq] at hv
      obtain ⟨rfl, _, _⟩ := hv
      refine ⟨g, 0, rfl, (Array.getElem?_eq_some_iff.1 hc).1, fun j v hv => ?_⟩
      have hj : j < 11 := by have := (List.getElem?_eq_some_iff.1 hv).1; simpa [slV] using this
      rw [Nat.zero_add, h.cellAt (i * 11 + j) (by omega)]
      have h1 := flat_at (f := slotV A) (m := 11) (fun x => rfl) (List.range' 1 A.σ.cap) i j (i + 1) (by rw [List.getElem?_range' hi]; simp; omega) hj
      show ((List.range' 1 A.σ.cap).flatMap (slotV A))[i * 11 + j]? = some v
      rw [h1]
      exact hv
  · show (A.nd (i + 1)).left < _ ∧ (A.nd (i + 1)).right < _
    by_cases ho : A.σ.on (i + 1) = true
    · have hc := hI.child (i + 1) ho
      have key : ∀ y, (y = 0 ∨ A.σ.on y = true) → y < 4294967296 := fun y hy => by
        rcases hy with hy | hy
        · omega
        · have := hI.ok.on y hy; omega
      exact ⟨key _ hc.1, key _ hc.2⟩
    · rw [(hI.off (i + 1) (by simpa using ho)).2]
      exact ⟨by decide, by decide⟩
theorem row_u32 {w : World} {B c : Nat} {a : Option Addr} {l : List Nat} (h : w.ownsRow B 28 1 (.slice a l.length c) l.length (u32s l)) (hl : ∀ y ∈ l, y < 4294967296) : U32At w a l := by
  refine ⟨fun j hj => ?_, hl⟩
  obtain ⟨g, rfl, hg, hc⟩ := row_cell h hj
  refine ⟨g, 0, rfl, hg, ?_⟩
  rw [Nat.zero_add, hc]
  simp [u32s, List.getD_eq_getElem?_getD, hj]
end Go.Proofs.Ytkhfofpbmnapjaa
