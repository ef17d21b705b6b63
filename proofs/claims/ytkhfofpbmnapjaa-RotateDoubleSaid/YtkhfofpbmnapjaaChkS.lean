/- The row of findings that a call makes: what an append leaves. -/
import Derived.Test.YtkhfofpbmnapjaaSoundP
import Derived.Test.YtkhfofpbmnapjaaDumpE
set_option linter.unusedVariables false
namespace Go.Proofs.Ytkhfofpbmnapjaa
open Go.RowKit

theorem fInfo : (Try.prog.info? 113).map (fun i => (i.zero, i.size, i.bytes)) = some (some (.agg #[.int .i64 0, .int .u32 0, .int .i64 0, .int .i64 0]), 4, 32) := by kernel_rfl
theorem i64_is' (n : Int) : IntKind.i64.wrap n = wrap64 n := by rw [IntKind.wrap_i64]; unfold wrap64; rfl
structure CSt (Z : Nat) (w2 : World) (l : List Fd) (v : Value) (wr : World) : Prop where
  val : ∃ a c, v = .slice a l.length c
  row : wr.ownsRow Z 113 4 v l.length (fdsV l)
  below : Below Z w2 wr
section
variable {Z : Nat} {w2 wr w' : World} {l : List Fd} {v v' : Value}
theorem CSt.from (h : CSt Z w2 l v wr) (hb : Below wr.heap.size wr w') (hZ : w2.heap.size = Z) : CSt Z w2 l v w' :=
  ⟨h.val, row_below h.row hb, h.below.trans (hb.mono (by have := h.below.size; omega))⟩
theorem CSt.start (w2 : World) (hZ : w2.heap.size = Z) : CSt Z w2 [] (.slice none 0 0) w2 := ⟨⟨none, 0, rfl⟩, World.ownsRow_nil _ _ _ _, Below.refl _ _⟩
theorem cell_new4 (w : World) (x y z u : Value) (t : TypeId) : ∀ j v, [x, y, z, u][j]? = some v → (w.alloc (.cells #[x, y, z, u] t)).cell? ((⟨w.heap.size, 0, none⟩ : Addr).add j) = some v := by
  intro j v hu
  match j, hu with
  | 0, hu => simp at hu; subst hu; simp [Addr.add]
  | 1, hu => simp at hu; subst hu; simp [Addr.add]
  | 2, hu => simp at hu; subst hu; simp [Addr.add]
  | 3, hu => simp at hu; subst hu; simp [Addr.add]
theorem fd_one (f : Fd) : ∀ u ∈ fdV f, u.oneCell' = true := by
  intro u hu
  simp [fdV] at hu
  rcases hu with rfl | rfl | rfl | rfl <;> rfl
/-- blocks of other types stay -/
def Others (w w' : World) : Prop := ∀ (k : Nat) (cur : Array Value) (t : TypeId), w.heap[k]? = some (.cells cur t (0, 0)) → t ≠ 113 → w'.heap[k]? = some (.cells cur t (0, 0))
theorem others_grown {n : Nat} {xs : List Value} (h : wr.ownsRow Z 113 4 v n xs) (hg : wr.grownBy w' v.ownBlock) : Others wr w' := by
  intro k cur t hk ht
  rw [hg.block k (Array.getElem?_eq_some_iff.1 hk).1 fun e => ?_]
  · exact hk
  rcases h.2 with ⟨rfl, _⟩ | ⟨g2, cap2, cur2, rfl, _, hc2, _⟩
  · simp [Value.ownBlock] at e
  · simp only [Value.ownBlock, Option.some.injEq] at e
    subst e
    rw [hk] at hc2
    simp at hc2
    exact ht hc2.2
theorem wpList_append_fd {ops : Array Oper} {rest : List Oper} {o : Oper} {a : Act} {w : World} {Q : Exit → Act → World → Prop} (hgd : o.guard = none) (s x : Operand)
    (ho : o.op = .call { callee := .builtin .append, args := #[s, x], argTypes := #[100, 100] })
    (hc : CSt Z w2 l v w) (hZ : w2.heap.size = Z) (hs : a.eval s = v) (f : Fd) (g : Nat) (hx : a.eval x = .slice (some ⟨g, 0, none⟩) 1 1)
    (hn : ∀ j u, (fdV f)[j]? = some u → w.cell? ((⟨g, 0, none⟩ : Addr).add j) = some u) (hl : l.length ≤ 100000000)
    (h : ∀ v' w', CSt Z w2 (l ++ [f]) v' w' → Others w w' → wpList Try.prog ops Q rest (a.put o.dst v') w') : wpList Try.prog ops Q (o :: rest) a w := by
  obtain ⟨i, ji, jz0, jz1, jz2⟩ := info_parts fInfo
  refine wpList_append_own _ hgd s x 100 ho Z 113 i (.agg #[.int .i64 0, .int .u32 0, .int .i64 0, .int .i64 0]) 4 32 Try.underlying100 ji jz0 jz1 jz2 rfl (by decide) v l.length (fdsV l) hs hc.row ⟨g, 0, none⟩ 1 1 (fdV f) hx rfl hn (fd_one f) (by unfold maxLen; omega) (by omega) (by have := hc.below.size; omega) ?_
  intro v' w' ho' hg _
  have h1 : CSt Z w2 (l ++ [f]) v' w' := by
    obtain ⟨a', c', hv⟩ := row_val ho'
    refine ⟨⟨a', c', by rw [List.length_append]; exact hv⟩, ?_, hc.below.grown hg (by have := hc.below.size; omega) (row_from hc.row)⟩
    rw [List.length_append, fdsV_snoc]
    exact ho'
  exact h v' w' h1 (others_grown hc.row hg)
theorem Others.from (hb : Below wr.heap.size wr w') : Others wr w' := fun k cur t hk ht => (hb.block k (Array.getElem?_eq_some_iff.1 hk).1).trans hk
theorem Others.trans {w3 : World} (h : Others wr w') (h' : Others w' w3) : Others wr w3 := fun k cur t hk ht => h' k cur t (h k cur t hk ht) ht
/-- the cells of a block that holds a slot's description -/
theorem sl_cells {w : World} {g : Nat} {s : Sl} {t : TypeId} (h : w.heap[g]? = some (.cells (slV s).toArray t (0, 0))) :
    w.cell? ⟨g, 0, none⟩ = some (.bool s.on) ∧ w.cell? ⟨g, 1, none⟩ = some (.int .i64 s.cnt) ∧ w.cell? ⟨g, 2, none⟩ = some (.int .u32 s.gen) ∧
    w.cell? ⟨g, 3, none⟩ = some (.int .i64 s.nd.key) ∧ w.cell? ⟨g, 4, none⟩ = some (.int .i64 s.nd.val) ∧ w.cell? ⟨g, 5, none⟩ = some (.int .u32 (s.nd.left : Int)) ∧
    w.cell? ⟨g, 6, none⟩ = some (.int .u32 (s.nd.right : Int)) ∧ w.cell? ⟨g, 7, none⟩ = some (.int .i64 s.nd.size) ∧ w.cell? ⟨g, 8, none⟩ = some (.int .i64 s.nd.sum) ∧
    w.cell? ⟨g, 9, none⟩ = some (.int .i64 s.nd.mn) ∧ w.cell? ⟨g, 10, none⟩ = some (.int .i64 s.nd.mx) := by
  refine ⟨?_, ?_, ?_, ?_, ?_, ?_, ?_, ?_, ?_, ?_, ?_⟩ <;> (rw [cell_of_row _ _ _ _ _ _ h]; rfl)
/-- the row of findings beside the description of the slot at hand -/
structure RSt (Z : Nat) (w2 : World) (l : List Fd) (v : Value) (sb : Nat) (s : Sl) (wr : World) : Prop where
  st : CSt Z w2 l v wr
  box : wr.heap[sb]? = some (.cells (slV s).toArray 75 (0, 0))
variable {sb : Nat} {s : Sl}
theorem RSt.from (h : RSt Z w2 l v sb s wr) (hb : Below wr.heap.size wr w') (hZ : w2.heap.size = Z) : RSt Z w2 l v sb s w' :=
  ⟨h.st.from hb hZ, (hb.block _ (Array.getElem?_eq_some_iff.1 h.box).1).trans h.box⟩
theorem RSt.push {w3 : World} {l' : List Fd} (h : RSt Z w2 l v sb s wr) (hb : Below wr.heap.size wr w') (hc : CSt Z w2 l' v' w3) (ho : Others w' w3) : RSt Z w2 l' v' sb s w3 :=
  ⟨hc, ho _ _ _ ((hb.block _ (Array.getElem?_eq_some_iff.1 h.box).1).trans h.box) (by decide)⟩
theorem below_new (w : World) (o : Obj) : Below w.heap.size w (w.alloc o) := (Below.refl _ _).alloc (Nat.le_refl _) _
theorem below_chain {a b c : World} (h : Below a.heap.size a b) (h' : Below b.heap.size b c) : Below a.heap.size a c := h.trans (h'.mono h.size)
theorem opt_yes {b : Bool} {f : Fd} (h : b = true) : opt b f = [f] := by unfold opt; rw [if_pos h]
theorem opt_no {b : Bool} {f : Fd} (h : b = false) : opt b f = [] := by unfold opt; rw [h]; rfl
end
end Go.Proofs.Ytkhfofpbmnapjaa
