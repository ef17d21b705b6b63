/- Which slots of a dump are reachable: the reference's marks. Which slots of a dump are reachable: the walk of the reference's marks. -/
import Derived.Test.YtbjmblfifnjafaaDumpR
import Derived.Deep.LoopGhost
set_option linter.unusedVariables false
namespace Go.Proofs.Ytbjmblfifnjafaa
open Go.RowKit

theorem bInfo : (Try.prog.info? 4).map (fun i => (i.zero, i.size, i.bytes)) = some (some (.bool false), 1, 1) := by kernel_rfl
theorem uInfo : (Try.prog.info? 35).map (fun i => (i.zero, i.size, i.bytes)) = some (some (.int .u32 0), 1, 4) := by kernel_rfl
def boolR (n : Nat) (B : Nat → Bool) : List Value := (List.range n).map fun i => .bool (B i)
theorem boolR_at {n i : Nat} (B : Nat → Bool) (h : i < n) : (boolR n B)[i]? = some (.bool (B i)) := by simp [boolR, h]
theorem boolR_zero (n : Nat) : (madeCells (Value.bool false).cells (n * 1)).toList = boolR n fun _ => false := by
  rw [Nat.mul_one]
  refine (toList_madeCells_one (.bool false) n).trans ?_
  unfold boolR
  simp [List.map_const']
theorem boolR_set {n : Nat} (B : Nat → Bool) (i : Nat) : (boolR n B).set i (.bool true) = boolR n (setB B i) := by
  apply List.ext_getElem?
  intro j
  unfold boolR setB
  rw [List.getElem?_set]
  by_cases hj : j < n
  · by_cases e : i = j
    · subst e; simp [hj]
    · have e2 : ¬ j = i := fun h => e h.symm
      simp [hj, e, e2]
  · by_cases e : i = j
    · subst e; simp [hj]
    · simp [hj, e]
theorem u32s_len (l : List Nat) : (u32s l).length = l.length := by simp [u32s]
theorem u32s_ones (l : List Nat) : ∀ u ∈ u32s l, u.oneCell' = true := by
  intro u hu
  unfold u32s at hu
  obtain ⟨i, _, rfl⟩ := List.mem_map.1 hu
  rfl
theorem u32s_app (l m : List Nat) : u32s (l ++ m) = u32s l ++ u32s m := by simp [u32s]
theorem u32s_last (l : List Nat) (x : Nat) : (u32s (l ++ [x]))[l.length]? = some (.int .u32 (x : Int)) := by simp [u32s]
theorem row_cut {w : World} {B n m c : Nat} {e : TypeId} {g : Nat} {xs : List Value} (h : w.ownsRow B e 1 (.slice (some ⟨g, 0, none⟩) n c) n xs) (hm : m ≤ n) : w.ownsRow B e 1 (.slice (some ⟨g, 0, none⟩) m c) m (xs.take m) := by
  have hl := h.1
  rcases h.2 with ⟨hv, _⟩ | ⟨g2, cap, cur, hv, hB, hc, hn, hcm, hs, ht⟩
  · simp at hv
  · simp only [Value.slice.injEq, Option.some.injEq, Addr.mk.injEq] at hv
    obtain ⟨⟨rfl, _⟩, _, rfl⟩ := hv
    refine ⟨by simp; omega, .inr ⟨g, c, cur, rfl, hB, hc, by omega, hcm, hs, ?_⟩⟩
    rw [← ht, List.take_take]
    congr 1
    omega
theorem row_caps {w : World} {B n c s : Nat} {e : TypeId} {a : Option Addr} {xs : List Value} (h : w.ownsRow B e s (.slice a n c) n xs) : n ≤ c ∧ c ≤ maxLen := by
  rcases h.2 with ⟨hv, hn⟩ | ⟨g2, cap, cur, hv, hB, hc, hn, hcm, hs, ht⟩
  · simp only [Value.slice.injEq] at hv
    omega
  · simp only [Value.slice.injEq] at hv
    omega
theorem cell_new2 (w : World) (x y : Value) (t : TypeId) : ∀ j u, [x, y][j]? = some u → (w.alloc (.cells #[x, y] t)).cell? ((⟨w.heap.size, 0, none⟩ : Addr).add j) = some u := by
  intro j u hu
  match j, hu with
  | 0, hu => simp at hu; subst hu; simp [Addr.add]
  | 1, hu => simp at hu; subst hu; simp [Addr.add]
theorem one_cell2 (k : IntKind) (x y : Int) : ∀ u ∈ [Value.int k x, Value.int k y], u.oneCell' = true := by
  intro u hu; simp at hu; rcases hu with rfl | rfl <;> rfl
/-- append of a slice that reads as l to a row of the call's own -/
theorem wpList_append_at {P : Program} {w : World} {ops : Array Oper} {rest : List Oper} {o : Oper} {a : Act} {Q : Exit → Act → World → Prop} (hgd : o.guard = none) (s x : Operand) (t : TypeId)
    (ho : o.op = .call { callee := .builtin .append, args := #[s, x], argTypes := #[t, t] })
    (base : Nat) (e : TypeId) (i : TypeInfo) (z : Value) (bytes : Nat) (ht : P.underlying t = some (.slice e)) (hi : P.info? e = some i) (hz : i.zero = some z)
    (hsize : i.size = 1) (hby : i.bytes = bytes) (hzs : z.cells.size = 1)
    (v : Value) (n : Nat) (xs : List Value) (hs : a.eval s = v) (hown : w.ownsRow base e 1 v n xs)
    (ad : Option Addr) (c : Nat) (l : List Nat) (m : Nat) (hm : m = l.length) (hx : a.eval x = .slice ad m c) (hrow : U32At w ad l)
    (h63 : n + m ≤ maxLen) (hbytes : (n + m) * bytes ≤ 140737488355328) (hbase : base ≤ w.heap.size)
    (h : ∀ v' w', w'.ownsRow base e 1 v' (n + m) (xs ++ u32s l) → w.grownBy w' v.ownBlock → wpList P ops Q rest (a.put o.dst v') w') : wpList P ops Q (o :: rest) a w := by
  refine wpList_plain hgd fun _ hK => ?_
  have hK2 : ∀ v' w', w'.ownsRow base e 1 v' (n + m) (xs ++ u32s l) → w.grownBy w' v.ownBlock → _ := fun v' w' h2 h3 => hK _ _ (h v' w' h2 h3)
  subst hm
  cases ad with
  | some x0 =>
    refine wp_append_own w s x t ho base e i z 1 bytes ht hi hz hsize hby hzs (by decide) v n xs hs hown x0 l.length c (u32s l) hx (by rw [u32s_len]; omega) ?_ (u32s_ones l) h63 hbytes hbase fun v' w' h2 h3 _ => hK2 v' w' h2 h3
    intro j u hu
    have hj : j < l.length := by have := (List.getElem?_eq_some_iff.1 hu).1; rwa [u32s_len] at this
    obtain ⟨b, off, hb, _, hc⟩ := hrow.cell j hj
    simp only [Option.some.injEq] at hb
    subst hb
    rw [add_at, hc, ← hu]
    simp [u32s, List.getD_eq_getElem?_getD, hj]
  | none =>
    have hl : l = [] := by
      cases l with
      | nil => rfl
      | cons y t => obtain ⟨_, _, hb, _⟩ := hrow.cell 0 (by simp); cases hb
    subst hl
    have hrun := run_append_owned_none (P := P) (w := w) base t o.type e i 1 ht hi v n xs hown
    unfold Oper.wp
    simp only [List.length_nil] at hx
    have hc0 : ∀ c', (Builtin.append_ #[t, t] o.type #[v, .slice none 0 c']).run P w = .ok v w := fun c' => by
      refine Eq.trans ?_ (run_append_owned_none (P := P) (w := w) base t o.type e i 1 ht hi v n xs hown)
      rfl
    simp [execOp, ho, resolve, invoke, builtin, hs, hx, hc0, Result.andThen]
    exact hK2 _ _ (by simpa [u32s] using hown) (World.grownBy.refl _ _)
end Go.Proofs.Ytbjmblfifnjafaa
set_option linter.unusedVariables false
namespace Go.Proofs.Ytbjmblfifnjafaa
open Go.RowKit

def MadeMarks (w : World) (S : Nat → Sl) (n : Nat) (rs : List Nat) (e : Ending) (w' : World) : Prop :=
  ∃ g B, e = .returned (.slice (some ⟨g, 0, none⟩) n n) ∧ w'.ownsRow w.heap.size 4 1 (.slice (some ⟨g, 0, none⟩) n n) n (boolR n B) ∧ (∀ j, j < n → (B j = true ↔ Rch S n rs (j + 1))) ∧ Below w.heap.size w w'
/-- the marks and the stack in memory -/
structure MarkRel (S : Nat → Sl) (n : Nat) (rs : List Nat) (q : Nat) (w1 : World) (gk : Nat) (x : Value) (B : Nat → Bool) (st : List Nat) (wr : World) : Prop where
  inv : MInv S n rs B st
  row : wr.ownsRow (q + 1) 4 1 (.slice (some ⟨q + 1, 0, none⟩) n n) n (boolR n B)
  val : ∃ a c, x = .slice a st.length c
  work : wr.ownsRow (q + 2) 35 1 x st.length (u32s st)
  lt : ∀ y ∈ st, y < 4294967296
  num : 3 * um n B + st.length ≤ gk
  big : gk ≤ 2000000
  below : Below (q + 1) w1 wr
section
variable {S : Nat → Sl} {n q gk gk' : Nat} {rs : List Nat} {w1 wr w' : World} {x x' : Value} {B : Nat → Bool} {st t : List Nat}
theorem MarkRel.from (h : MarkRel S n rs q w1 gk x B st wr) (hb : Below wr.heap.size wr w') (hs : q + 1 ≤ w1.heap.size) : MarkRel S n rs q w1 gk x B st w' :=
  ⟨h.inv, row_below h.row hb, h.val, row_below h.work hb, h.lt, h.num, h.big, h.below.trans (hb.mono (Nat.le_trans hs h.below.size))⟩
theorem MarkRel.pop {a : Option Addr} {c y : Nat} (h : MarkRel S n rs q w1 gk (.slice a (t.length + 1) c) B (t ++ [y]) wr) (hy : Al S n y → B (y - 1) = true) (hg : gk' < gk) (hg2 : 3 * um n B + t.length ≤ gk') : MarkRel S n rs q w1 gk' (.slice a t.length c) B t wr := by
  have hw := h.work
  rw [List.length_append] at hw
  obtain ⟨g, rfl⟩ := row_head hw (by simp)
  have h1 := row_cut hw (m := t.length) (by simp)
  rw [show (u32s (t ++ [y])).take t.length = u32s t by rw [u32s_app]; simp [u32s]] at h1
  exact ⟨h.inv.skip hy, h.row, ⟨_, _, rfl⟩, h1, fun z hz => h.lt z (by simp [hz]), hg2, by have := h.big; omega, h.below⟩
/-- a slot was marked, its children are not yet on the stack -/
structure MarkMid (n q : Nat) (w1 : World) (B : Nat → Bool) (x : Value) (t : List Nat) (wr : World) : Prop where
  row : wr.ownsRow (q + 1) 4 1 (.slice (some ⟨q + 1, 0, none⟩) n n) n (boolR n B)
  work : wr.ownsRow (q + 2) 35 1 x t.length (u32s t)
  below : Below (q + 1) w1 wr
theorem MarkMid.from (h : MarkMid n q w1 B x t wr) (hb : Below wr.heap.size wr w') (hs : q + 1 ≤ w1.heap.size) : MarkMid n q w1 B x t w' :=
  ⟨row_below h.row hb, row_below h.work hb, h.below.trans (hb.mono (Nat.le_trans hs h.below.size))⟩
theorem MarkRel.mid {a : Option Addr} {c j y : Nat} (h : MarkRel S n rs q w1 gk (.slice a (t ++ [y]).length c) B (t ++ [y]) wr) : MarkMid n q w1 (setB B j) (.slice a t.length c) t (wr.setCell ⟨q + 1, j, none⟩ (.bool true)) := by
  have hw := h.work
  rw [List.length_append] at hw
  obtain ⟨g, rfl⟩ := row_head hw (by simp)
  have h1 := row_cut hw (m := t.length) (by simp)
  rw [show (u32s (t ++ [y])).take t.length = u32s t by rw [u32s_app]; simp [u32s]] at h1
  refine ⟨?_, row_keep h1 fun k hk => heap_setCell_other _ _ _ _ ?_, h.below.setCell (Nat.le_refl _) _⟩
  · rw [← boolR_set]; exact (h.row.stored j _).1
  · have := row_from h1 k hk
    show k ≠ q + 1
    omega
theorem MarkMid.push {v : Value} {j : Nat} {w2 : World} (h : MarkMid n q w1 (setB B j) x t wr) (hr : MarkRel S n rs q w1 gk x' B (t ++ [j + 1]) w2) (hj : Al S n (j + 1)) (hb : B j = false) (hk : (S j).nd.left < 4294967296 ∧ (S j).nd.right < 4294967296)
    (hg : wr.grownBy w' x.ownBlock) (hv : w'.ownsRow (q + 2) 35 1 v (t.length + 2) (u32s t ++ [.int .u32 ((S j).nd.left : Int), .int .u32 ((S j).nd.right : Int)])) (h0 : 0 < gk) (hq : q + 1 ≤ w1.heap.size) :
    MarkRel S n rs q w1 (gk - 1) v (setB B j) (t ++ [(S j).nd.left, (S j).nd.right]) w' := by
  have hl : (t ++ [(S j).nd.left, (S j).nd.right]).length = t.length + 2 := by simp
  obtain ⟨a, c, hvv⟩ := row_val hv
  have hnum := hr.num
  rw [List.length_append] at hnum
  have hu := um_set B hb n (by have := hj.2.1; omega)
  refine ⟨hr.inv.mark hj, row_keep h.row fun k hk => hg.block k (row_lt h.row k hk).2 fun e => ?_, ⟨a, c, by rw [hl]; exact hvv⟩, ?_, fun y hy => ?_, ?_, by have := hr.big; omega, h.below.grown hg (Nat.le_trans hq h.below.size) fun k hk => ?_⟩
  · simp [Value.ownBlock] at hk; have := row_from h.work k e.symm; omega
  · rw [hl, u32s_app]; exact hv
  · rcases List.mem_append.1 hy with h1 | h1
    · exact hr.lt y (by simp [h1])
    · simp at h1; rcases h1 with rfl | rfl
      · exact hk.1
      · exact hk.2
  · rw [hl]; simp at hnum; omega
  · have := row_from h.work k hk; omega
end
end Go.Proofs.Ytbjmblfifnjafaa
