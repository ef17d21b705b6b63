/- A slice of entries that came in. -/
import Derived.Test.YtkhfofpbmnapjaaEns
import Derived.Test.YtkhfofpbmnapjaaOwn
set_option linter.unusedVariables false
namespace Go.Proofs.Ytkhfofpbmnapjaa
open Go.RowKit
theorem ens_in {H : Type} {enc : TypeId × Value → H} {W : World} {a : Option Addr} {n cap fuel : Nat} {z : DataW H × List MemPlace}
    (h : DataW.trod enc Try.prog W 0 (fun _ => true) true fuel 47 (Value.slice a n cap).cells.toList = some z) : n ≤ cap ∧ cap ≤ maxLen ∧ ∃ raw : List En, raw.length = n ∧ EnsAt W a raw := by
  have hf := fields_in Try.underlying47 Try.underlying60 (by kernel_rfl) (by kernel_rfl) h
  have hx : ∀ r, r < n → ∃ e : En, (∃ b off, a = some ⟨b, off, none⟩ ∧ b < W.heap.size ∧ W.cell? ⟨b, off + r * 2, none⟩ = some (.int .i64 e.key) ∧ W.cell? ⟨b, off + r * 2 + 1, none⟩ = some (.int .i64 e.val)) ∧ i64R e.key ∧ i64R e.val := by
    intro r hr
    obtain ⟨b, off, v, y, m, rfl, hlt, h1, h2⟩ := hf.2.2 r hr 0 _ rfl
    obtain ⟨b', off', v', y', m', he, _, h1', h2'⟩ := hf.2.2 r hr 1 _ rfl
    simp only [Option.some.injEq, Addr.mk.injEq, and_true] at he
    obtain ⟨rfl, rfl⟩ := he
    obtain ⟨key, hv, _, hw⟩ := DataW.trod_int Try.underlying2 h2
    obtain ⟨val, hv', _, hw'⟩ := DataW.trod_int Try.underlying2 h2'
    simp only [List.cons.injEq, and_true] at hv hv'
    subst hv hv'
    exact ⟨⟨key, val⟩, ⟨b, off, rfl, hlt, h1, h1'⟩, bounds_i64 hw, bounds_i64 hw'⟩
  clear hf
  obtain ⟨f, hff⟩ : ∃ f : Nat → En, ∀ r, r < n → (∃ b off, a = some ⟨b, off, none⟩ ∧ b < W.heap.size ∧ W.cell? ⟨b, off + r * 2, none⟩ = some (.int .i64 (f r).key) ∧ W.cell? ⟨b, off + r * 2 + 1, none⟩ = some (.int .i64 (f r).val)) ∧ i64R (f r).key ∧ i64R (f r).val := by
    classical
    refine ⟨fun r => if h : r < n then (hx r h).choose else ⟨0, 0⟩, fun r hr => ?_⟩
    simp only [dif_pos hr]
    exact (hx r hr).choose_spec
  have hg : n ≤ cap ∧ cap ≤ maxLen := ⟨(fields_in Try.underlying47 Try.underlying60 (by kernel_rfl) (by kernel_rfl) h).1, (fields_in Try.underlying47 Try.underlying60 (by kernel_rfl) (by kernel_rfl) h).2.1⟩
  refine ⟨hg.1, hg.2, (List.range n).map f, by simp, ⟨fun j e he => ?_, fun e he => ?_⟩⟩
  · rw [List.getElem?_map] at he
    obtain ⟨x, hx1, hx2⟩ := Option.map_eq_some_iff.1 he
    have hj : j < n := by have := (List.getElem?_eq_some_iff.1 hx1).1; simpa using this
    have hxj : x = j := by rw [List.getElem?_range hj] at hx1; exact (Option.some.inj hx1).symm
    subst hxj
    rw [← hx2]
    exact (hff x hj).1
  · obtain ⟨x, hx1, hx2⟩ := List.mem_map.1 he
    rw [← hx2]
    exact (hff x (List.mem_range.1 hx1)).2
end Go.Proofs.Ytkhfofpbmnapjaa
