/- A dump in memory: its slots read as plain data. The reference's kids and Allocated. How often each slot occurs in a list: the reference's counts. -/
import Derived.Test.YtbjmblfifnjafaaTrees
import Derived.Test.YtbjmblfifnjafaaBase
import Derived.Test.YtbjmblfifnjafaaOwn
import Derived.Deep.QuietTactic
import Derived.BigQuiet
import Derived.BigGuardPart
set_option linter.unusedVariables false
namespace Go.Proofs.Ytbjmblfifnjafaa
open Go.RowKit

/-- a slot's description -/
structure Sl where
  on : Bool
  cnt : Int
  gen : Int
  nd : Nd
def slV (s : Sl) : List Value := [.bool s.on, .int .i64 s.cnt, .int .u32 s.gen, .int .i64 s.nd.key, .int .i64 s.nd.val, .int .u32 (s.nd.left : Int), .int .u32 (s.nd.right : Int), .int .i64 s.nd.size, .int .i64 s.nd.sum, .int .i64 s.nd.mn, .int .i64 s.nd.mx]
/-- slot i + 1 of the n slots reads as S i -/
structure SlotsAt (w : World) (a : Option Addr) (n : Nat) (S : Nat → Sl) : Prop where
  cell : ∀ i, i < n → ∃ b off, a = some ⟨b, off, none⟩ ∧ b < w.heap.size ∧ ∀ j v, (slV (S i))[j]? = some v → w.cell? ⟨b, off + i * 11 + j, none⟩ = some v
  kid : ∀ i, i < n → (S i).nd.left < 4294967296 ∧ (S i).nd.right < 4294967296
theorem SlotsAt.below {w w' : World} {a : Option Addr} {n : Nat} {S : Nat → Sl} (h : SlotsAt w a n S) (hb : Below w.heap.size w w') : SlotsAt w' a n S := by
  refine ⟨fun i hi => ?_, h.kid⟩
  obtain ⟨b, off, ha, hlt, hc⟩ := h.cell i hi
  exact ⟨b, off, ha, Nat.lt_of_lt_of_le hlt hb.size, fun j v hv => by rw [← hc j v hv]; exact hb.cell (p := ⟨b, off + i * 11 + j, none⟩) hlt⟩
end Go.Proofs.Ytbjmblfifnjafaa
set_option linter.unusedVariables false
namespace Go.Proofs.Ytbjmblfifnjafaa
open Go.RowKit

theorem i64sInfo : (Try.prog.info? 3).map (fun i => (i.zero, i.size, i.bytes)) = some (some (.int .i64 0), 1, 8) := by kernel_rfl
/-- a row of numbers -/
def natR (n : Nat) (f : Nat → Nat) : List Value := (List.range n).map fun i => .int .i64 ((f i : Nat) : Int)
theorem natR_at {n i : Nat} (f : Nat → Nat) (h : i < n) : (natR n f)[i]? = some (.int .i64 ((f i : Nat) : Int)) := by simp [natR, h]
theorem natR_zero (n : Nat) : (madeCells (Value.int .i64 0).cells (n * 1)).toList = natR n fun _ => 0 := by
  rw [Nat.mul_one]
  refine (toList_madeCells_one (.int .i64 0) n).trans ?_
  unfold natR
  simp [List.map_const']
theorem natR_set {n i : Nat} (f : Nat → Nat) (x : Int) (v : Nat) (hx : x = (v : Int)) : (natR n f).set i (.int .i64 x) = natR n fun j => if j = i then v else f j := by
  subst hx
  apply List.ext_getElem?
  intro j
  unfold natR
  rw [List.getElem?_set]
  by_cases hj : j < n
  · by_cases e : i = j
    · subst e; simp [hj]
    · have e2 : ¬ j = i := fun h => e h.symm
      simp [hj, e, e2]
  · by_cases e : i = j
    · subst e; simp [hj]
    · simp [hj, e]
/-- a slice of slot numbers reads as l -/
structure U32At (w : World) (a : Option Addr) (l : List Nat) : Prop where
  cell : ∀ j, j < l.length → ∃ b off, a = some ⟨b, off, none⟩ ∧ b < w.heap.size ∧ w.cell? ⟨b, off + j, none⟩ = some (.int .u32 ((l.getD j 0 : Nat) : Int))
  lt : ∀ x ∈ l, x < 4294967296
theorem U32At.below {w w' : World} {a : Option Addr} {l : List Nat} (h : U32At w a l) (hb : Below w.heap.size w w') : U32At w' a l := by
  refine ⟨fun j hj => ?_, h.lt⟩
  obtain ⟨b, off, ha, hlt, hc⟩ := h.cell j hj
  exact ⟨b, off, ha, Nat.lt_of_lt_of_le hlt hb.size, by rw [← hc]; exact hb.cell (p := ⟨b, off + j, none⟩) hlt⟩
theorem getD_mem {l : List Nat} {k : Nat} (h : k < l.length) : l.getD k 0 ∈ l := by
  rw [List.getD_eq_getElem?_getD, List.getElem?_eq_getElem h]; exact List.getElem_mem _
theorem count_step {l : List Nat} {k : Nat} (h : k < l.length) (x : Nat) : (l.take (k + 1)).count x = (l.take k).count x + if l.getD k 0 = x then 1 else 0 := by
  rw [List.take_succ_eq_append_getElem h, List.count_append, List.getD_eq_getElem?_getD, List.getElem?_eq_getElem h]
  by_cases e : l[k] = x
  · simp [e]
  · simp [e]
def MadeRow (w : World) (n : Nat) (f : Nat → Nat) (e : Ending) (w' : World) : Prop :=
  ∃ g, e = .returned (.slice (some ⟨g, 0, none⟩) n n) ∧ w'.ownsRow w.heap.size 3 1 (.slice (some ⟨g, 0, none⟩) n n) n (natR n f) ∧ Below w.heap.size w w'
end Go.Proofs.Ytbjmblfifnjafaa
