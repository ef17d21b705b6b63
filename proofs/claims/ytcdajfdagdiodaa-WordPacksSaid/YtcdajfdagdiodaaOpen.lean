/- A slice of bytes that came in, as the statements' frame knows it, reads as a list of bytes; the bounds of an integer argument. -/
import Derived.Test.YtcdajfdagdiodaaAwake
import Derived.OpenShut
set_option linter.unusedVariables false
namespace Go.Proofs.Ytcdajfdagdiodaa
open Go.RowKit

theorem byte5 : Try.prog.bytesOf 5 = 1 := by kernel_rfl
theorem bs_of_row {w : World} {a : Option Addr} {len cap : Nat} {zs : List Int}
    (h : (a = none ∧ len = 0 ∧ cap = 0 ∧ zs = []) ∨
      ∃ x, a = some x ∧ len ≤ cap ∧ cap ≤ maxLen ∧ zs.length = cap ∧ (∀ i, i < zs.length → w.cell? (x.add i) = some (.int .u8 (zs.getD i 0))) ∧ ∀ n ∈ zs, (Lit.int .u8 n).wf = true) :
    Bs w a len cap (zs.take len) := by
  rcases h with ⟨rfl, rfl, rfl, rfl⟩ | ⟨x, rfl, hl, _, hz, hc, hw⟩
  · exact Bs.nil_ w
  · refine ⟨by simp; omega, hl, (fun e => by cases e), fun z hz2 => bounds_u8 (hw z (List.mem_of_mem_take hz2)), fun hn => ?_⟩
    have h0 := hc 0 (by omega)
    obtain ⟨b, off, spot⟩ := x
    have hspot : spot = none := by simpa [Addr.add] using World.cell?_spot h0
    subst hspot
    have hlt := World.block_lt_of_cell? w _ h0
    rw [add_at] at hlt
    refine ⟨b, off, rfl, hlt, fun j hj => ?_⟩
    have h1 := hc j (by omega)
    rw [add_at] at h1
    rw [h1]
    simp only [List.getD_eq_getElem?_getD]
    rw [List.getElem?_take, if_pos hj]
theorem below_drewN {B : Nat} {a w : World} (h : Below B a w) (n : Nat) : Below B a (w.drewN n) := ⟨h.os, h.tape, h.output, h.size, h.block⟩
theorem ret_true {b : Bool} (h : b = true) : Ending.returned (.bool b) = .returned (.bool true) := by rw [h]
theorem wf_i64 {n : Int} (h : (Lit.int .i64 n).wf = true) : -9223372036854775808 ≤ n ∧ n ≤ 9223372036854775807 := bounds_i64 h
theorem wf_u64 {n : Int} (h : (Lit.int .u64 n).wf = true) : 0 ≤ n ∧ n < 18446744073709551616 := by have := bounds_u64 h; omega
theorem wf_u32 {n : Int} (h : (Lit.int .u32 n).wf = true) : 0 ≤ n ∧ n < 4294967296 := by have := bounds_u32 h; omega
end Go.Proofs.Ytcdajfdagdiodaa
