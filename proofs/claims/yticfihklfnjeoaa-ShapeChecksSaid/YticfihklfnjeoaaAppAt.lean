/- append of a slice that reads as a list, in a region that draws its order. -/
import Derived.Test.YticfihklfnjeoaaDumpD
set_option linter.unusedVariables false
namespace Go.Proofs.Yticfihklfnjeoaa
open Go.RowKit
theorem wp_append_at {P : Program} {w : World} {o : Oper} {a : Act} {K : Act → World → Prop} {Q : Exit → Act → World → Prop} (s x : Operand) (t : TypeId)
    (ho : o.op = .call { callee := .builtin .append, args := #[s, x], argTypes := #[t, t] })
    (base : Nat) (e : TypeId) (i : TypeInfo) (z : Value) (bytes : Nat) (ht : P.underlying t = some (.slice e)) (hi : P.info? e = some i) (hz : i.zero = some z)
    (hsize : i.size = 1) (hby : i.bytes = bytes) (hzs : z.cells.size = 1)
    (v : Value) (n : Nat) (xs : List Value) (hs : a.eval s = v) (hown : w.ownsRow base e 1 v n xs)
    (ad : Option Addr) (c : Nat) (l : List Nat) (m : Nat) (hm : m = l.length) (hx : a.eval x = .slice ad m c) (hrow : U32At w ad l)
    (h63 : n + m ≤ maxLen) (hbytes : (n + m) * bytes ≤ 140737488355328) (hbase : base ≤ w.heap.size)
    (h : ∀ v' w', w'.ownsRow base e 1 v' (n + m) (xs ++ u32s l) → w.grownBy w' v.ownBlock → K (a.put o.dst v') w') : o.wp P a w K Q := by
  subst hm
  cases ad with
  | some x0 =>
    refine wp_append_own w s x t ho base e i z 1 bytes ht hi hz hsize hby hzs (by decide) v n xs hs hown x0 l.length c (u32s l) hx (by rw [u32s_len]; omega) ?_ (u32s_ones l) h63 hbytes hbase fun v' w' h2 h3 _ => h v' w' h2 h3
    intro j u hu
    have hj : j < l.length := by have := (List.getElem?_eq_some_iff.1 hu).1; rwa [u32s_len] at this
    obtain ⟨b, off, hb, _, hc⟩ := hrow.cell j hj
    simp only [Option.some.injEq] at hb
    subst hb
    rw [add_at, hc, ← hu]
    simp [u32s, List.getD_eq_getElem?_getD, hj]
  | none =>
    have hl : l = [] := by
      cases l with
      | nil => rfl
      | cons y t => obtain ⟨_, _, hb, _⟩ := hrow.cell 0 (by simp); cases hb
    subst hl
    unfold Oper.wp
    simp only [List.length_nil] at hx
    have hc0 : ∀ c', (Builtin.append_ #[t, t] o.type #[v, .slice none 0 c']).run P w = .ok v w := fun c' => by
      refine Eq.trans ?_ (run_append_owned_none (P := P) (w := w) base t o.type e i 1 ht hi v n xs hown)
      rfl
    simp [execOp, ho, resolve, invoke, builtin, hs, hx, hc0, Result.andThen]
    exact h _ _ (by simpa [u32s] using hown) (World.grownBy.refl _ _)
theorem step_append_at {P : Program} {w : World} {ops : Array Oper} {o : Oper} {a : Act} {K : Act → World → Prop} {Q : Exit → Act → World → Prop} {E : Prop} (hgd : o.guard = none) (s x : Operand) (t : TypeId)
    (ho : o.op = .call { callee := .builtin .append, args := #[s, x], argTypes := #[t, t] })
    (base : Nat) (e : TypeId) (i : TypeInfo) (z : Value) (bytes : Nat) (ht : P.underlying t = some (.slice e)) (hi : P.info? e = some i) (hz : i.zero = some z)
    (hsize : i.size = 1) (hby : i.bytes = bytes) (hzs : z.cells.size = 1)
    (v : Value) (n : Nat) (xs : List Value) (hs : a.eval s = v) (hown : w.ownsRow base e 1 v n xs)
    (ad : Option Addr) (c : Nat) (l : List Nat) (m : Nat) (hm : m = l.length) (hx : a.eval x = .slice ad m c) (hrow : U32At w ad l)
    (h63 : n + m ≤ maxLen) (hbytes : (n + m) * bytes ≤ 140737488355328) (hbase : base ≤ w.heap.size)
    (h : ∀ v' w', w'.ownsRow base e 1 v' (n + m) (xs ++ u32s l) → w.grownBy w' v.ownBlock → K (a.put o.dst v') w') : if Region.wanted o (yielded ops a.tmps) = true then Oper.wp P o a w K Q else E := by
  have hw : Region.wanted o (yielded ops a.tmps) = true := by simp [Region.wanted, hgd]
  rw [if_pos hw]
  exact wp_append_at s x t ho base e i z bytes ht hi hz hsize hby hzs v n xs hs hown ad c l m hm hx hrow h63 hbytes hbase h
/-- a part of a row of the call's own, read -/
theorem u32at_part {w : World} {B c g : Nat} {l : List Nat} (h : w.ownsRow B 30 1 (.slice (some ⟨g, 0, none⟩) l.length c) l.length (u32s l)) (hl : ∀ y ∈ l, y < 4294967296) (k : Nat) : U32At w (some ⟨g, k, none⟩) (l.drop k) := by
  refine ⟨fun j hj => ⟨g, k, rfl, (row_lt h g rfl).2, ?_⟩, fun y hy => hl y (List.mem_of_mem_drop hy)⟩
  rw [List.length_drop] at hj
  rw [h.cellAt (k + j) (by omega)]
  simp [u32s, List.getD_eq_getElem?_getD, show k + j < l.length by omega]
theorem u32at_take {w : World} {B c g : Nat} {l : List Nat} (h : w.ownsRow B 30 1 (.slice (some ⟨g, 0, none⟩) l.length c) l.length (u32s l)) (hl : ∀ y ∈ l, y < 4294967296) (k : Nat) (hk : k ≤ l.length) : U32At w (some ⟨g, 0, none⟩) (l.take k) := by
  refine ⟨fun j hj => ⟨g, 0, rfl, (row_lt h g rfl).2, ?_⟩, fun y hy => hl y (List.mem_of_mem_take hy)⟩
  rw [List.length_take] at hj
  rw [Nat.zero_add, h.cellAt j (by omega)]
  simp [u32s, List.getD_eq_getElem?_getD, show j < l.length by omega, show j < k by omega]
/-- the rest of a row behind k, as a slice of it is made -/
theorem u32at_rest {w : World} {B c g : Nat} {l : List Nat} (h : w.ownsRow B 30 1 (.slice (some ⟨g, 0, none⟩) l.length c) l.length (u32s l)) (hl : ∀ y ∈ l, y < 4294967296) (k : Nat) : U32At w (if c = k then some ⟨g, 0, none⟩ else some ⟨g, k, none⟩) (l.drop k) := by
  by_cases e : c = k
  · have hc : l.length ≤ c := by
      rcases h.2 with ⟨hv, hn⟩ | ⟨g2, cap, cur, hv, hB, hc, hn, hcm, hs, ht⟩
      · simp at hv
      · simp only [Value.slice.injEq] at hv; omega
    rw [if_pos e, List.drop_eq_nil_of_le (by omega)]
    exact ⟨fun j hj => by simp at hj, fun y hy => by simp at hy⟩
  · rw [if_neg e]
    exact u32at_part h hl k
end Go.Proofs.Yticfihklfnjeoaa
