/- Same of numbers and of findings; a row of findings, read. -/
import Derived.Test.YticmaddcomemhaaChkS
import Derived.Deep.QuietTactic
set_option linter.unusedVariables false
namespace Go.Proofs.Yticmaddcomemhaa
open Go.RowKit
set_option maxHeartbeats 1000000 in
set_option maxRecDepth 100000 in
theorem same_ints {B B' : Nat} {a a' : Option Addr} {n c c' : Nat} (f : Nat → Nat) (w : World) (hl : (n : Int) ≤ 65536) (h : w.ownsRow B 3 1 (.slice a n c) n (natR n f)) (h' : w.ownsRow B' 3 1 (.slice a' n c') n (natR n f)) :
    Calls Try.prog 10 #[.slice a n c, .slice a' n c'] w (Calm w (.bool true)) := by
  have HH := Lib.hid h
  have HH' := Lib.hid h'
  clear h h'
  go_enter Try.func10, Try.ntmps10
  go_wp2
  go_loopw [5] (fun i wr => ∃ k : Nat, k ≤ n ∧ i = .int .i64 k ∧ ∃ q, wr = w.drewN q) (fun i _ => n - (intOf i).toNat)
  case atStart => exact ⟨0, Nat.zero_le _, rfl, 0, rfl⟩
  case round =>
    obtain ⟨k, hk, rfl, q, rfl⟩ := hrel
    by_cases hlt : k < n
    · obtain ⟨b, rfl, hbb, hc⟩ := row_cell HH.out hlt
      obtain ⟨b', rfl, hbb', hc'⟩ := row_cell HH'.out hlt
      rw [natR_at _ hlt] at hc hc'
      have hlt' : (k : Int) < (n : Int) := by omega
      have hk0 : (0 : Int) ≤ (k : Int) := by omega
      generalize ((f k : Nat) : Int) = x at hc hc'
      have hne : (x != x) = false := by simp
      go_wp2
      go_quiet (fail)
      go_wp2
      exact ⟨⟨k + 1, by omega, by go_num, _, rfl⟩, by simp [intOf]; omega⟩
    · obtain rfl : k = n := by omega
      go_wp2
      go_ret
      exact ⟨rfl, below_drewN (Below.refl _ _) q⟩
/-- a slice of findings reads as l -/
structure FdsAt (w : World) (a : Option Addr) (l : List Fd) : Prop where
  cell : ∀ i f, l[i]? = some f → ∃ b off, a = some ⟨b, off, none⟩ ∧ b < w.heap.size ∧ w.cell? ⟨b, off + i * 4, none⟩ = some (.int .i64 f.kind) ∧ w.cell? ⟨b, off + i * 4 + 1, none⟩ = some (.int .u32 (f.slot : Int)) ∧ w.cell? ⟨b, off + i * 4 + 2, none⟩ = some (.int .i64 f.want) ∧ w.cell? ⟨b, off + i * 4 + 3, none⟩ = some (.int .i64 f.have_)
theorem FdsAt.below {w w' : World} {a : Option Addr} {l : List Fd} (h : FdsAt w a l) (hb : Below w.heap.size w w') : FdsAt w' a l := ⟨fun i f hf => by
  obtain ⟨b, off, ha, hlt, h0, h1, h2, h3⟩ := h.cell i f hf
  have hc : ∀ o, w'.cell? ⟨b, o, none⟩ = w.cell? ⟨b, o, none⟩ := fun o => hb.cell (p := ⟨b, o, none⟩) hlt
  exact ⟨b, off, ha, Nat.lt_of_lt_of_le hlt hb.size, (hc _).trans h0, (hc _).trans h1, (hc _).trans h2, (hc _).trans h3⟩⟩
theorem fds_flat : ∀ (l : List Fd) (i j : Nat) (f : Fd), l[i]? = some f → j < 4 → (fdsV l)[i * 4 + j]? = (fdV f)[j]?
  | [], i, j, f, h, hj => by simp at h
  | a :: t, 0, j, f, h, hj => by
    simp at h
    subst h
    unfold fdsV
    rw [List.flatMap_cons, Nat.zero_mul, Nat.zero_add, List.getElem?_append_left (by simp [fdV]; omega)]
  | a :: t, i + 1, j, f, h, hj => by
    simp at h
    have ih := fds_flat t i j f h hj
    unfold fdsV at ih ⊢
    rw [List.flatMap_cons, List.getElem?_append_right (by simp [fdV]; omega), ← ih]
    congr 1
    simp [fdV]; omega
theorem fds_at {w : World} {B c : Nat} {a : Option Addr} {l : List Fd} (h : w.ownsRow B 36 4 (.slice a l.length c) l.length (fdsV l)) : FdsAt w a l := ⟨fun i f hf => by
  have hi : i < l.length := (List.getElem?_eq_some_iff.1 hf).1
  rcases h.2 with ⟨hv, hn⟩ | ⟨g, cap, cur, hv, hB, hc, hn, hcm, hs, ht⟩
  · omega
  · simp only [Value.slice.injEq] at hv
    obtain ⟨rfl, _, _⟩ := hv
    have key : ∀ j v, j < 4 → (fdV f)[j]? = some v → w.cell? ⟨g, 0 + i * 4 + j, none⟩ = some v := fun j v hj hv => by
      rw [Nat.zero_add, h.cellAt (i * 4 + j) (by omega), fds_flat l i j f hf hj]
      exact hv
    exact ⟨g, 0, rfl, (Array.getElem?_eq_some_iff.1 hc).1, key 0 _ (by decide) rfl, key 1 _ (by decide) rfl, key 2 _ (by decide) rfl, key 3 _ (by decide) rfl⟩⟩
set_option maxHeartbeats 2000000 in
set_option maxRecDepth 100000 in
theorem same_fds {w : World} {a a' : Option Addr} {n c c' : Nat} (l : List Fd) (hn : l.length = n) (h : FdsAt w a l) (h' : FdsAt w a' l) (hl : n ≤ 10000000) :
    Calls Try.prog 16 #[.slice a n c, .slice a' n c'] w (Calm w (.bool true)) := by
  have hni : (n : Int) ≤ 10000000 := by omega
  have HH := Lib.hid h
  have HH' := Lib.hid h'
  have HN := Lib.hid hn
  clear h h' hn hl
  go_enter Try.func16, Try.ntmps16
  go_wp2
  go_loopw [5] (fun i wr => ∃ k : Nat, k ≤ n ∧ i = .int .i64 (k : Int) ∧ ∃ d, wr = w.drewN d) (fun i _ => n - (intOf i).toNat)
  case atStart => exact ⟨0, Nat.zero_le _, rfl, 0, rfl⟩
  case round =>
    obtain ⟨k, hk, rfl, d, rfl⟩ := hrel
    by_cases hlt : k < n
    · have hki : (k : Int) < (n : Int) := by omega
      have hk0 : (0 : Int) ≤ (k : Int) := by omega
      have hkl : k < l.length := by rw [HN.out]; exact hlt
      obtain ⟨b, off, rfl, hb, d0, d1, d2, d3⟩ := HH.out.cell k _ (List.getElem?_eq_getElem hkl)
      obtain ⟨b', off', rfl, hb', e0, e1, e2, e3⟩ := HH'.out.cell k _ (List.getElem?_eq_getElem hkl)
      generalize (l[k]).kind = x0 at d0 e0
      generalize ((l[k]).slot : Int) = x1 at d1 e1
      generalize (l[k]).want = x2 at d2 e2
      generalize (l[k]).have_ = x3 at d3 e3
      clear hkl
      go_wp2
      go_quiet (fail)
      go_wp2
      exact ⟨⟨k + 1, by omega, by go_num, _, rfl⟩, by simp [intOf]; omega⟩
    · obtain rfl : k = n := by omega
      go_wp2
      go_ret
      exact ⟨rfl, below_drewN (Below.refl _ _) d⟩
end Go.Proofs.Yticmaddcomemhaa
