/- Small words for the walks over an allocator of slots: rows of numbers, what a store leaves of another row. No program is spoken of but for its types. -/
import Derived.Test.YtkhfofpbmnapjaaSlotsCon
import Derived.BigGuardPart
import Derived.Deep.RegionLaw
import Derived.Laws.ResultCell
set_option linter.unusedVariables false
namespace Go.Proofs.Ytkhfofpbmnapjaa
open Go.RowKit
def RefOrder (w : World) (σ : St) (e : Ending) (w' : World) : Prop :=
  ∃ a c, e = .returned (.slice a σ.free.length c) ∧ w'.ownsRow w.heap.size 28 1 (.slice a σ.free.length c) σ.free.length (u32s σ.free) ∧ Below w.heap.size w w'
theorem u32s_snoc (l : List Nat) (i : Nat) : u32s (l ++ [i]) = u32s l ++ [.int .u32 (i : Int)] := by simp [u32s]
theorem u32sInfo : (Try.prog.info? 28).map (fun i => (i.zero, i.size, i.bytes)) = some (some (.int .u32 0), 1, 4) := by kernel_rfl
theorem u32s_get {l : List Nat} {j : Nat} (h : j < l.length) : (u32s l)[j]? = some (.int .u32 ((l.getD j 0 : Nat) : Int)) := by
  simp [u32s, List.getD_eq_getElem?_getD, h]
theorem drop_rev {l : List Nat} {j : Nat} (h : j < l.length) : (l.drop j).reverse = (l.drop (j + 1)).reverse ++ [l.getD j 0] := by
  rw [List.drop_eq_getElem_cons h, List.reverse_cons, List.getD_eq_getElem?_getD, List.getElem?_eq_getElem h]; rfl
theorem row_ne {w : World} {B B' n m s s' : Nat} {e e' : TypeId} {v x : Value} {xs ys : List Value} (hne : e ≠ e') (h : w.ownsRow B e s v n xs) (h' : w.ownsRow B' e' s' x m ys) : ∀ k, v.ownBlock = some k → x.ownBlock ≠ some k := by
  intro k h1 h2
  rcases h.2 with ⟨rfl, _⟩ | ⟨g, cap, cur, rfl, _, hc, _⟩
  · simp [Value.ownBlock] at h1
  · rcases h'.2 with ⟨rfl, _⟩ | ⟨g2, cap2, cur2, rfl, _, hc2, _⟩
    · simp [Value.ownBlock] at h2
    · simp only [Value.ownBlock, Option.some.injEq] at h1 h2
      subst h1 h2
      rw [hc] at hc2
      simp at hc2
      exact hne hc2.2
theorem row_cellset {w : World} {B n s : Nat} {e : TypeId} {v x : Value} {xs : List Value} {p : Addr} (h : w.ownsRow B e s v n xs) (hp : v.ownBlock ≠ some p.block) : (w.setCell p x).ownsRow B e s v n xs :=
  row_keep h fun k hk => heap_setCell_other _ _ _ _ fun e2 => hp (by rw [hk, e2])
theorem results_row_tmp {P : Program} {fn : Func} {p u : Tmp} {ty : TypeId} (h : fn.results = #[.cell p ty, .tmp u]) (tmps : Array Value) (w : World) (g : Nat) (t : TypeId) (cs : Array Value) (fr : Nat × Nat) (d : TypeDesc)
    (hp : tmps.getD p undef = .pointer (some ⟨g, 0, none⟩)) (hg : w.heap[g]? = some (.cells cs t fr))
    (hu : P.underlying ty = some d) (hd : (match d with | .struct _ | .array _ _ => true | _ => false) = true) (hi : (P.info? ty).map (·.size) = some cs.size) :
    (results fn tmps).run P w = .ok (.tuple #[.agg cs, tmps.getD u undef]) w := by
  rw [results_cell_tmp h]
  simp [hp, asAddr, Result.andThen, run_loadVar_row w g t ty cs fr d hg hu hd hi]
theorem size_set (w : World) (a : Addr) (v : Value) : (w.setCell a v).heap.size = w.heap.size := by simp [World.setCell]
theorem row_pre {w : World} {B n m c : Nat} {e : TypeId} {a : Option Addr} {xs : List Value} (h : w.ownsRow B e 1 (.slice a n c) n xs) (hm : m ≤ n) (h0 : 0 < n) : w.ownsRow B e 1 (.slice a m c) m (xs.take m) := by
  obtain ⟨g, rfl⟩ := row_head h h0
  have hl := h.1
  rcases h.2 with ⟨_, hn⟩ | ⟨g2, cap, cur, hv, hB, hc, hn, hcm, hs, ht⟩
  · omega
  · simp only [Value.slice.injEq, Option.some.injEq, Addr.mk.injEq] at hv
    obtain ⟨⟨rfl, _⟩, _, rfl⟩ := hv
    refine ⟨by simp; omega, .inr ⟨g, c, cur, rfl, hB, hc, by omega, hcm, hs, ?_⟩⟩
    rw [← ht, List.take_take]
    congr 1
    omega
theorem row_cap {w : World} {B n c : Nat} {e : TypeId} {a : Option Addr} {xs : List Value} (h : w.ownsRow B e 1 (.slice a n c) n xs) : n ≤ c := by
  rcases h.2 with ⟨hv, hn⟩ | ⟨g2, cap, cur, hv, hB, hc, hn, hcm, hs, ht⟩
  · omega
  · simp only [Value.slice.injEq] at hv
    obtain ⟨_, _, rfl⟩ := hv
    exact hn
end Go.Proofs.Ytkhfofpbmnapjaa
