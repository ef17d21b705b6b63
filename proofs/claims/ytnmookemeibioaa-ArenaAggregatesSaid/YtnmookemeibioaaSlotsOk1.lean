/- The program's allocator: what lies in memory, and its queries. -/
import Derived.Test.YtnmookemeibioaaSlotsCon
import Derived.Deep.QuietTactic
import Derived.BigGuardPart
set_option linter.unusedVariables false
namespace Go.Proofs.Ytnmookemeibioaa
open Go.RowKit

/-- the cells of the row of structs -/
def sts (σ : St) : List Value := (List.range (σ.cap * 2)).map fun k => if k % 2 = 0 then .bool (σ.on (k / 2 + 1)) else .int .u32 (σ.gen (k / 2 + 1))
theorem sts_at0 (σ : St) (j : Nat) (h : j < σ.cap) : (sts σ)[j * 2]? = some (.bool (σ.on (j + 1))) := by
  have h1 : j * 2 < σ.cap * 2 := by omega
  simp [sts, h1]
theorem sts_at1 (σ : St) (j : Nat) (h : j < σ.cap) : (sts σ)[j * 2 + 1]? = some (.int .u32 (σ.gen (j + 1))) := by
  have h1 : j * 2 + 1 < σ.cap * 2 := by omega
  have h2 : (j * 2 + 1) % 2 = 1 := by omega
  have h3 : (j * 2 + 1) / 2 = j := by omega
  simp [sts, h1, h2, h3]
structure Lie (w : World) (pb : Nat) (σ : St) (st : List Nat) (us : Nat) (sa ra : Option Addr) (sc rc : Nat) : Prop where
  ok : σ.Ok
  free : σ.free = st.reverse ++ List.range' (us + 1) (σ.cap - us)
  us1 : us ≤ σ.cap
  box : w.heap[pb]? = some (.cells #[.slice sa σ.cap sc, .slice ra st.length rc, .int .i64 (us : Int)] 99 (0, 0))
  states : w.ownsRow 0 101 2 (.slice sa σ.cap sc) σ.cap (sts σ)
  stack : w.ownsRow 0 41 1 (.slice ra st.length rc) st.length (u32s st)
  ne1 : (Value.slice sa σ.cap sc).ownBlock ≠ some pb
  ne2 : (Value.slice ra st.length rc).ownBlock ≠ some pb
/-- the blocks that it occupies -/
def Foot (pb : Nat) (sa ra : Option Addr) (k : Nat) : Prop := k = pb ∨ (∃ x, sa = some x ∧ x.block = k) ∨ ∃ x, ra = some x ∧ x.block = k
def IsS (w : World) (p : Value) (σ : St) (F : Nat → Prop) : Prop :=
  ∃ (pb : Nat) (st : List Nat) (us : Nat) (sa ra : Option Addr) (sc rc : Nat), p = .pointer (some ⟨pb, 0, none⟩) ∧ Lie w pb σ st us sa ra sc rc ∧ ∀ k, F k ↔ Foot pb sa ra k
theorem row_head2 {w : World} {B n c : Nat} {e : TypeId} {a : Option Addr} {xs : List Value} (h : w.ownsRow B e 2 (.slice a n c) n xs) (h0 : 0 < n) : ∃ g, a = some ⟨g, 0, none⟩ := by
  rcases h.2 with ⟨_, hn⟩ | ⟨g, cap, cur, hv, _⟩
  · omega
  · simp only [Value.slice.injEq] at hv
    exact ⟨g, hv.1⟩
section
variable {w w' : World} {pb : Nat} {σ : St} {st : List Nat} {us : Nat} {sa ra : Option Addr} {sc rc : Nat}
theorem Lie.dom (h : Lie w pb σ st us sa ra sc rc) : ∀ k, Foot pb sa ra k → k < w.heap.size := by
  intro k hk
  rcases hk with rfl | ⟨x, rfl, rfl⟩ | ⟨x, rfl, rfl⟩
  · exact (Array.getElem?_eq_some_iff.1 h.box).1
  · exact (row_lt h.states _ rfl).2
  · exact (row_lt h.stack _ rfl).2
theorem Lie.keep (h : Lie w pb σ st us sa ra sc rc) (hk : ∀ k, Foot pb sa ra k → w'.heap[k]? = w.heap[k]?) : Lie w' pb σ st us sa ra sc rc := by
  refine ⟨h.ok, h.free, h.us1, (hk pb (.inl rfl)).trans h.box, row_keep h.states fun k e => hk k ?_, row_keep h.stack fun k e => hk k ?_, h.ne1, h.ne2⟩
  · cases sa with
    | none => simp [Value.ownBlock] at e
    | some x => simp [Value.ownBlock] at e; exact .inr (.inl ⟨x, rfl, e⟩)
  · cases ra with
    | none => simp [Value.ownBlock] at e
    | some x => simp [Value.ownBlock] at e; exact .inr (.inr ⟨x, rfl, e⟩)
theorem Lie.cells (h : Lie w pb σ st us sa ra sc rc) :
    w.cell? ⟨pb, 0, none⟩ = some (.slice sa σ.cap sc) ∧ w.cell? ⟨pb, 1, none⟩ = some (.slice ra st.length rc) ∧ w.cell? ⟨pb, 2, none⟩ = some (.int .i64 (us : Int)) := by
  refine ⟨?_, ?_, ?_⟩ <;> (rw [cell_of_row _ _ _ _ _ _ h.box]; rfl)
set_option maxHeartbeats 1000000 in
set_option maxRecDepth 100000 in
theorem s_isSlot (h : Lie w pb σ st us sa ra sc rc) (i : Nat) (hi : i < 4294967296) :
    Calls Try.prog 62 #[.pointer (some ⟨pb, 0, none⟩), .int .u32 (i : Int)] w (Quiet w (.bool (decide (1 ≤ i ∧ i ≤ σ.cap)))) := by
  obtain ⟨hc0, hc1, hc2⟩ := h.cells
  have hcap := h.ok.cap2
  have hcw : IntKind.u32.wrap (σ.cap : Int) = (σ.cap : Int) := by rw [IntKind.wrap_u32']; omega
  clear h
  rcases (show i = 0 ∨ 1 ≤ i by omega) with rfl | h0
  · rw [show decide (1 ≤ 0 ∧ 0 ≤ σ.cap) = false by simp]
    go_enter Try.func62, Try.ntmps62
    go_wp2
    go_ret
    exact ⟨rfl, 0, rfl⟩
  · rw [show decide (1 ≤ i ∧ i ≤ σ.cap) = decide (i ≤ σ.cap) by simp only [h0, true_and]]
    have hi1 : (1 : Int) ≤ (i : Int) := by omega
    go_enter Try.func62, Try.ntmps62
    go_wp2
    go_ret
    exact ⟨rfl, 0, rfl⟩
set_option maxHeartbeats 1000000 in
set_option maxRecDepth 100000 in
theorem s_allocated (h : Lie w pb σ st us sa ra sc rc) (i : Nat) (hi : i < 4294967296) :
    Calls Try.prog 45 #[.pointer (some ⟨pb, 0, none⟩), .int .u32 (i : Int)] w (Quiet w (.bool (σ.on i))) := by
  obtain ⟨hc0, hc1, hc2⟩ := h.cells
  obtain ⟨b, hb⟩ : ∃ b, σ.on i = b := ⟨_, rfl⟩
  rw [hb]
  have hcap := h.ok.cap2
  go_enter Try.func45, Try.ntmps45
  go_wp2_with fail
  refine (s_isSlot h i hi).mono ?_
  rintro e w1 ⟨rfl, q, rfl⟩
  have hd0 : (w.drewN q).cell? ⟨pb, 0, none⟩ = some (.slice sa σ.cap sc) := hc0
  by_cases hic : 1 ≤ i ∧ i ≤ σ.cap
  · obtain ⟨j, rfl⟩ : ∃ j, i = j + 1 := ⟨i - 1, by omega⟩
    rw [show decide (1 ≤ j + 1 ∧ j + 1 ≤ σ.cap) = true by simp; omega]
    obtain ⟨g, rfl⟩ := row_head2 h.states (by omega)
    have hcs : (w.drewN q).cell? ⟨g, j * 2, none⟩ = some (.bool (σ.on (j + 1))) := (h.states.cellAt (j * 2) (by omega)).trans (sts_at0 σ j (by omega))
    rw [hb] at hcs
    have hjc : (j : Int) < (σ.cap : Int) := by omega
    have hj0 : (0 : Int) ≤ (j : Int) := by omega
    generalize hW : w.drewN q = w1 at hd0 hcs ⊢
    have HW := Lib.hid hW
    clear h hic hW hc0 hc1 hc2 hb
    go_wp2
    go_ret
    exact ⟨rfl, q, HW.out.symm⟩
  · obtain rfl : b = false := by
      cases b with
      | true => exact absurd (h.ok.on i hb) hic
      | false => rfl
    rw [show decide (1 ≤ i ∧ i ≤ σ.cap) = false by simpa using hic]
    clear h hic hb
    go_wp2
    go_ret
    exact ⟨rfl, q, rfl⟩
set_option maxHeartbeats 1000000 in
set_option maxRecDepth 100000 in
theorem s_generation (h : Lie w pb σ st us sa ra sc rc) (i : Nat) (hi : i < 4294967296) :
    Calls Try.prog 46 #[.pointer (some ⟨pb, 0, none⟩), .int .u32 (i : Int)] w (Quiet w (.int .u32 (σ.gen i))) := by
  obtain ⟨hc0, hc1, hc2⟩ := h.cells
  obtain ⟨b, hb⟩ : ∃ b, σ.gen i = b := ⟨_, rfl⟩
  rw [hb]
  have hcap := h.ok.cap2
  go_enter Try.func46, Try.ntmps46
  go_wp2_with fail
  refine (s_isSlot h i hi).mono ?_
  rintro e w1 ⟨rfl, q, rfl⟩
  have hd0 : (w.drewN q).cell? ⟨pb, 0, none⟩ = some (.slice sa σ.cap sc) := hc0
  by_cases hic : 1 ≤ i ∧ i ≤ σ.cap
  · obtain ⟨j, rfl⟩ : ∃ j, i = j + 1 := ⟨i - 1, by omega⟩
    rw [show decide (1 ≤ j + 1 ∧ j + 1 ≤ σ.cap) = true by simp; omega]
    obtain ⟨g, rfl⟩ := row_head2 h.states (by omega)
    have hcs : (w.drewN q).cell? ⟨g, j * 2 + 1, none⟩ = some (.int .u32 (σ.gen (j + 1))) := (h.states.cellAt (j * 2 + 1) (by omega)).trans (sts_at1 σ j (by omega))
    rw [hb] at hcs
    have hjc : (j : Int) < (σ.cap : Int) := by omega
    have hj0 : (0 : Int) ≤ (j : Int) := by omega
    generalize hW : w.drewN q = w1 at hd0 hcs ⊢
    have HW := Lib.hid hW
    clear h hic hW hc0 hc1 hc2 hb
    go_wp2
    go_ret
    exact ⟨rfl, q, HW.out.symm⟩
  · obtain rfl : b = 0 := by rw [← hb]; exact h.ok.out i (by omega)
    rw [show decide (1 ≤ i ∧ i ≤ σ.cap) = false by simpa using hic]
    clear h hic hb
    go_wp2
    go_ret
    exact ⟨rfl, q, rfl⟩
set_option maxRecDepth 100000 in
theorem s_capacity (h : Lie w pb σ st us sa ra sc rc) :
    Calls Try.prog 42 #[.pointer (some ⟨pb, 0, none⟩)] w (Quiet w (.int .i64 (σ.cap : Int))) := by
  obtain ⟨hc0, hc1, hc2⟩ := h.cells
  clear h
  go_enter Try.func42, Try.ntmps42
  go_wp2
  go_ret
  exact ⟨rfl, 0, rfl⟩
theorem Lie.stlen (h : Lie w pb σ st us sa ra sc rc) : σ.free.length = st.length + (σ.cap - us) ∧ st.length ≤ 65536 := by
  have h1 := h.ok.len
  have h2 := h.ok.cap2
  have h3 := congrArg List.length h.free
  simp at h3
  omega
set_option maxHeartbeats 1000000 in
set_option maxRecDepth 100000 in
theorem s_free (h : Lie w pb σ st us sa ra sc rc) :
    Calls Try.prog 41 #[.pointer (some ⟨pb, 0, none⟩)] w (Quiet w (.int .i64 (σ.free.length : Int))) := by
  obtain ⟨hc0, hc1, hc2⟩ := h.cells
  have hcap := h.ok.cap2
  obtain ⟨hl1, hl2⟩ := h.stlen
  have hf := h.us1
  have hci : (σ.cap : Int) ≤ 65536 := by omega
  have hfi : (us : Int) ≤ (σ.cap : Int) := by omega
  have hsi : (st.length : Int) ≤ 65536 := by omega
  have hv : Hid ((st.length : Int) + (σ.cap : Int) - (us : Int) = (σ.free.length : Int)) := by show _ = _; omega
  have HC := fun q => s_capacity (w := w.drewN q) (h.keep fun k _ => rfl)
  clear h hl1 hl2 hcap hf
  go_enter Try.func41, Try.ntmps41
  go_wp2
  go_quiet ((go_at_call 42; exact Calls.quiet_of (HC _)))
  go_wp2
  go_ret
  exact ⟨ret_int hv.out, _, rfl⟩
end
end Go.Proofs.Ytnmookemeibioaa
