/- Rows of the call's own and what becomes of them: kept while other blocks change; a part of memory that an object occupies, and what an operation on it leaves. No program is spoken of. -/
import Derived.Below
import Derived.Laws.OwnMore
import Derived.OwnWalk
import Derived.Deep.Draws
import Derived.Deep.Fields
import Derived.Deep.Slices
import Derived.ChangeSame
import Derived.Laws.AppendOwnNone
import Derived.Deep.RegionLaw
set_option linter.unusedVariables false
namespace Go.Proofs.Ytkhfofpbmnapjaa
open Go Go.RowKit

/-! ### rows -/
section
variable {w w' : World} {B n c s : Nat} {e : TypeId} {v : Value} {a : Option Addr} {xs : List Value}
theorem row_lt (h : w.ownsRow B e s v n xs) : ∀ k, v.ownBlock = some k → B ≤ k ∧ k < w.heap.size := fun k hk => h.lt k hk
theorem row_keep (h : w.ownsRow B e s v n xs) (hk : ∀ k, v.ownBlock = some k → w'.heap[k]? = w.heap[k]?) : w'.ownsRow B e s v n xs := by
  refine ⟨h.1, ?_⟩
  rcases h.2 with h | ⟨g, cap, cur, rfl, hB, hc, r⟩
  · exact .inl h
  · exact .inr ⟨g, cap, cur, rfl, hB, (hk g rfl).trans hc, r⟩
theorem row_below (h : w.ownsRow B e s v n xs) (hb : Below w.heap.size w w') : w'.ownsRow B e s v n xs := row_keep h fun k hk => hb.block k (row_lt h k hk).2
theorem row_mono {B' : Nat} (h : w.ownsRow B e s v n xs) (hB : B' ≤ B) : w.ownsRow B' e s v n xs := by
  refine ⟨h.1, ?_⟩
  rcases h.2 with h | ⟨g, cap, cur, hv, hg, r⟩
  · exact .inl h
  · exact .inr ⟨g, cap, cur, hv, Nat.le_trans hB hg, r⟩
theorem row_from (h : w.ownsRow B e s v n xs) : ∀ k, v.ownBlock = some k → B ≤ k := fun k hk => (row_lt h k hk).1
theorem row_val (h : w.ownsRow B e s v n xs) : ∃ a c, v = .slice a n c := by
  rcases h.2 with ⟨rfl, rfl⟩ | ⟨g, cap, cur, rfl, _⟩
  · exact ⟨_, _, rfl⟩
  · exact ⟨_, _, rfl⟩
theorem row_head (h : w.ownsRow B e s (.slice a n c) n xs) (h0 : 0 < n) : ∃ g, a = some ⟨g, 0, none⟩ := by
  rcases h.2 with ⟨_, hn⟩ | ⟨g, cap, cur, hv, _⟩
  · omega
  · simp only [Value.slice.injEq] at hv
    exact ⟨g, hv.1⟩
theorem row_cell (h : w.ownsRow B e 1 (.slice a n c) n xs) {j : Nat} (hj : j < n) : ∃ g, a = some ⟨g, 0, none⟩ ∧ g < w.heap.size ∧ w.cell? ⟨g, j, none⟩ = xs[j]? := by
  obtain ⟨g, rfl⟩ := row_head h (by omega)
  exact ⟨g, rfl, (row_lt h g rfl).2, h.cellAt j (by omega)⟩
/-- a row of one element type stays while one of another is written -/
theorem row_apart {B' m s' : Nat} {e' : TypeId} {x : Value} {ys : List Value} (hne : e' ≠ e) (h5 : w.ownsRow B' e' s' x m ys) (h : w.ownsRow B e s v n xs) (hg : w.grownBy w' v.ownBlock) : w'.ownsRow B' e' s' x m ys := by
  refine row_keep h5 fun k hk => ?_
  rcases h5.2 with ⟨rfl, _⟩ | ⟨g, cap, cur, rfl, hb, hc, r⟩
  · simp [Value.ownBlock] at hk
  · simp only [Value.ownBlock, Option.some.injEq] at hk
    subst hk
    refine hg.block g (row_lt h5 g rfl).2 fun e2 => ?_
    rcases h.2 with ⟨rfl, _⟩ | ⟨g2, cap2, cur2, rfl, _, hc2, _⟩
    · simp [Value.ownBlock] at e2
    · simp only [Value.ownBlock, Option.some.injEq] at e2
      subst e2
      rw [hc] at hc2
      simp at hc2
      exact hne hc2.2
end

/-! ### append of a row to a row of the call's own, nil included -/
section
variable {P : Program} {w : World}
theorem row_news {B m c : Nat} {e : TypeId} {x : Addr} {xs : List Value} (h : w.ownsRow B e 1 (.slice (some x) m c) m xs) : ∀ j u, xs[j]? = some u → w.cell? (x.add j) = some u := by
  intro j u hu
  have hj : j < m := by
    have h1 := (List.getElem?_eq_some_iff.1 hu).1
    have h2 := h.1
    omega
  obtain ⟨g, hx, _, hc⟩ := row_cell h hj
  injection hx with hx
  subst hx
  have e : (⟨g, 0, none⟩ : Addr).add j = ⟨g, j, none⟩ := by unfold Addr.add; split <;> simp_all
  rw [e, hc]
  exact hu
theorem wp_append_row {o : Oper} {a : Act} {K : Act → World → Prop} {Q : Exit → Act → World → Prop} (s x : Operand) (t : TypeId)
    (ho : o.op = .call { callee := .builtin .append, args := #[s, x], argTypes := #[t, t] })
    (base : Nat) (e : TypeId) (i : TypeInfo) (z : Value) (bytes : Nat) (ht : P.underlying t = some (.slice e)) (hi : P.info? e = some i) (hz : i.zero = some z)
    (hsize : i.size = 1) (hby : i.bytes = bytes) (hzs : z.cells.size = 1)
    (v : Value) (n : Nat) (xs : List Value) (hs : a.eval s = v) (hown : w.ownsRow base e 1 v n xs)
    (B : Nat) (ad : Option Addr) (m c : Nat) (news : List Value) (hx : a.eval x = .slice ad m c) (hrow : w.ownsRow B e 1 (.slice ad m c) m news) (h1 : ∀ u ∈ news, u.oneCell' = true)
    (h63 : n + m ≤ maxLen) (hbytes : (n + m) * bytes ≤ 140737488355328) (hbase : base ≤ w.heap.size)
    (h : ∀ v' w', w'.ownsRow base e 1 v' (n + m) (xs ++ news) → w.grownBy w' v.ownBlock → K (a.put o.dst v') w') : o.wp P a w K Q := by
  cases ad with
  | some x0 => exact wp_append_own w s x t ho base e i z 1 bytes ht hi hz hsize hby hzs (by decide) v n xs hs hown x0 m c news hx (by simpa using hrow.1) (row_news hrow) h1 h63 hbytes hbase fun v' w' h2 h3 _ => h v' w' h2 h3
  | none =>
    rcases hrow.2 with ⟨hv, rfl⟩ | ⟨g, cap, cur, hv, _⟩
    · simp only [Value.slice.injEq, true_and] at hv
      obtain rfl := hv
      obtain rfl : news = [] := List.eq_nil_of_length_eq_zero (by simpa using hrow.1)
      have hrun := run_append_owned_none (P := P) (w := w) base t o.type e i 1 ht hi v n xs hown
      unfold Oper.wp
      simp [execOp, ho, resolve, invoke, builtin, hs, hx, hrun, Result.andThen]
      exact h _ _ (by simpa using hown) (World.grownBy.refl _ _)
    · simp at hv
theorem wpList_append_row {ops : Array Oper} {rest : List Oper} {o : Oper} {a : Act} {Q : Exit → Act → World → Prop} (hgd : o.guard = none) (s x : Operand) (t : TypeId)
    (ho : o.op = .call { callee := .builtin .append, args := #[s, x], argTypes := #[t, t] })
    (base : Nat) (e : TypeId) (i : TypeInfo) (z : Value) (bytes : Nat) (ht : P.underlying t = some (.slice e)) (hi : P.info? e = some i) (hz : i.zero = some z)
    (hsize : i.size = 1) (hby : i.bytes = bytes) (hzs : z.cells.size = 1)
    (v : Value) (n : Nat) (xs : List Value) (hs : a.eval s = v) (hown : w.ownsRow base e 1 v n xs)
    (B : Nat) (ad : Option Addr) (m c : Nat) (news : List Value) (hx : a.eval x = .slice ad m c) (hrow : w.ownsRow B e 1 (.slice ad m c) m news) (h1 : ∀ u ∈ news, u.oneCell' = true)
    (h63 : n + m ≤ maxLen) (hbytes : (n + m) * bytes ≤ 140737488355328) (hbase : base ≤ w.heap.size)
    (h : ∀ v' w', w'.ownsRow base e 1 v' (n + m) (xs ++ news) → w.grownBy w' v.ownBlock → wpList P ops Q rest (a.put o.dst v') w') : wpList P ops Q (o :: rest) a w :=
  wpList_plain hgd fun _ hK => wp_append_row s x t ho base e i z bytes ht hi hz hsize hby hzs v n xs hs hown B ad m c news hx hrow h1 h63 hbytes hbase fun v' w' h2 h3 => hK _ _ (h v' w' h2 h3)
theorem step_append_row {ops : Array Oper} {o : Oper} {a : Act} {K : Act → World → Prop} {Q : Exit → Act → World → Prop} {E : Prop} (hgd : o.guard = none) (s x : Operand) (t : TypeId)
    (ho : o.op = .call { callee := .builtin .append, args := #[s, x], argTypes := #[t, t] })
    (base : Nat) (e : TypeId) (i : TypeInfo) (z : Value) (bytes : Nat) (ht : P.underlying t = some (.slice e)) (hi : P.info? e = some i) (hz : i.zero = some z)
    (hsize : i.size = 1) (hby : i.bytes = bytes) (hzs : z.cells.size = 1)
    (v : Value) (n : Nat) (xs : List Value) (hs : a.eval s = v) (hown : w.ownsRow base e 1 v n xs)
    (B : Nat) (ad : Option Addr) (m c : Nat) (news : List Value) (hx : a.eval x = .slice ad m c) (hrow : w.ownsRow B e 1 (.slice ad m c) m news) (h1 : ∀ u ∈ news, u.oneCell' = true)
    (h63 : n + m ≤ maxLen) (hbytes : (n + m) * bytes ≤ 140737488355328) (hbase : base ≤ w.heap.size)
    (h : ∀ v' w', w'.ownsRow base e 1 v' (n + m) (xs ++ news) → w.grownBy w' v.ownBlock → K (a.put o.dst v') w') : if Region.wanted o (yielded ops a.tmps) = true then Oper.wp P o a w K Q else E := by
  have hw : Region.wanted o (yielded ops a.tmps) = true := by simp [Region.wanted, hgd]
  rw [if_pos hw]
  exact wp_append_row s x t ho base e i z bytes ht hi hz hsize hby hzs v n xs hs hown B ad m c news hx hrow h1 h63 hbytes hbase h
end

/-! ### what an object occupies -/
/-- the operation changed blocks of F alone, and left the object in F' -/
structure Alters (F F' : Nat → Prop) (w w' : World) : Prop where
  os : w'.os = w.os
  tape : w'.tape = w.tape
  output : w'.output = w.output
  size : w.heap.size ≤ w'.heap.size
  block : ∀ k, k < w.heap.size → ¬ F k → w'.heap[k]? = w.heap[k]?
  foot : ∀ k, F' k → F k ∨ w.heap.size ≤ k
section
variable {F F' G : Nat → Prop} {w w' w0 : World} {B : Nat}
theorem Alters.below (h : Alters F F' w w') (hb : Below B w0 w) (hB : B ≤ w.heap.size) (hF : ∀ k, F k → B ≤ k) : Below B w0 w' :=
  hb.trans ⟨h.os, h.tape, h.output, h.size, fun k hk => h.block k (by omega) fun hf => by have := hF k hf; omega⟩
theorem Alters.from (h : Alters F F' w w') (hB : B ≤ w.heap.size) (hF : ∀ k, F k → B ≤ k) : ∀ k, F' k → B ≤ k := fun k hk => by
  rcases h.foot k hk with h1 | h1
  · exact hF k h1
  · omega
theorem Alters.apart (h : Alters F F' w w') (hG : ∀ k, G k → k < w.heap.size ∧ ¬ F k) : ∀ k, G k → k < w'.heap.size ∧ ¬ F' k := fun k hk => by
  obtain ⟨h1, h2⟩ := hG k hk
  refine ⟨Nat.lt_of_lt_of_le h1 h.size, fun h3 => ?_⟩
  rcases h.foot k h3 with h4 | h4
  · exact h2 h4
  · omega
theorem Alters.row {e : TypeId} {v : Value} {n s : Nat} {xs : List Value} (h : Alters F F' w w') (hr : w.ownsRow B e s v n xs) (hF : ∀ k, v.ownBlock = some k → ¬ F k) : w'.ownsRow B e s v n xs :=
  row_keep hr fun k hk => h.block k (row_lt hr k hk).2 (hF k hk)
theorem Alters.refl (w : World) (F : Nat → Prop) : Alters F F w w := ⟨rfl, rfl, rfl, Nat.le_refl _, fun _ _ _ => rfl, fun _ h => .inl h⟩
theorem Alters.of_below (hb : Below w.heap.size w w') : Alters F F w w' := ⟨hb.os, hb.tape, hb.output, hb.size, fun k hk _ => hb.block k hk, fun _ h => .inl h⟩
theorem below_foot (hb : Below w.heap.size w w') (hF : ∀ k, F k → k < w.heap.size) : ∀ k, F k → w'.heap[k]? = w.heap[k]? := fun k hk => hb.block k (hF k hk)
end

theorem Alters.trans {F F' F'' : Nat → Prop} {w w' w'' : World} (h : Alters F F' w w') (h' : Alters F' F'' w' w'') : Alters F F'' w w'' := by
  refine ⟨h'.os.trans h.os, h'.tape.trans h.tape, h'.output.trans h.output, Nat.le_trans h.size h'.size, fun k hk hF => ?_, fun k hk => ?_⟩
  · refine (h'.block k (Nat.lt_of_lt_of_le hk h.size) fun h1 => ?_).trans (h.block k hk hF)
    rcases h.foot k h1 with h2 | h2
    · exact hF h2
    · omega
  · rcases h'.foot k hk with h1 | h1
    · exact h.foot k h1
    · exact .inr (Nat.le_trans h.size h1)
/-! ### a slice of structs that came in -/
open Go.Deep in
/-- every field of every element lies in its cell and reads -/
theorem fields_in {H : Type} {enc : TypeId × Value → H} {P : Program} {W : World} {t e : TypeId} {fs : Array Field} {a : Option Addr} {n cap fuel : Nat} {x : DataW H × List MemPlace}
    (ht : P.underlying t = some (.slice e)) (he : P.underlying e = some (.struct fs)) (hone : oneCellFields P fs = true) (hC : P.cellsOf e = fs.size)
    (h : DataW.trod enc P W 0 (fun _ => true) true fuel t (Value.slice a n cap).cells.toList = some x) :
    n ≤ cap ∧ cap ≤ maxLen ∧ ∀ i, i < n → ∀ (j : Nat) (f : Field), fs[j]? = some f → ∃ b off v y m, a = some ⟨b, off, none⟩ ∧ b < W.heap.size ∧ W.cell? ⟨b, off + (i * fs.size + j), none⟩ = some v ∧ DataW.trod enc P W 0 (fun _ => true) true m f.type [v] = some y := by
  rcases open_slice ht h with ⟨hcs, _⟩ | ⟨a', n', cap', m, k, D, Pl, hcs, _, hl, hm, hmm, _, hx⟩
  · simp [Value.cells] at hcs
    obtain ⟨rfl, rfl, rfl⟩ := hcs
    exact ⟨Nat.le_refl _, Nat.zero_le _, fun i hi => by omega⟩
  · simp [Value.cells] at hcs
    obtain ⟨rfl, rfl, rfl⟩ := hcs
    simp only [if_true] at hmm
    refine ⟨hl, hm, fun i hi j f hf => ?_⟩
    have cell : ∀ i, i < n → ∀ (j : Nat) (f : Field), fs[j]? = some f → ∃ v y k', W.cell? (a'.add (i * fs.size + j)) = some v ∧ DataW.trod enc P W 0 (fun _ => true) true k' f.type [v] = some y := fun i hi j f hf => by
      obtain ⟨cs, h1, h2⟩ := hx i (by omega)
      rw [hC] at h1
      obtain ⟨ys, k', _, _, hlen, hyl, hg⟩ := DataW.trod_struct he h2
      obtain ⟨_, hl2, hat⟩ := World.cells?_some h1
      obtain ⟨ho, hk⟩ := hone_of hone j f hf
      have hj : j < fs.size := (Array.getElem?_eq_some_iff.1 hf).1
      have h3 := hg j f hf
      rw [ho, hk, List.drop_eq_getElem_cons (by omega), List.take_succ_cons, List.take_zero, List.getElem?_eq_getElem (by omega)] at h3
      have h4 := hat j hj
      rw [List.getElem?_eq_getElem (by omega), add_add] at h4
      exact ⟨_, _, k', h4, h3⟩
    obtain ⟨v, y, k', h1, h2⟩ := cell i hi j f hf
    obtain ⟨b, off, spot⟩ := a'
    have hspot : spot = none := by
      have hj0 : 0 < fs.size := by have := (Array.getElem?_eq_some_iff.1 hf).1; omega
      obtain ⟨v0, y0, k0, h3, _⟩ := cell 0 (by omega) 0 (fs[0]'hj0) (Array.getElem?_eq_getElem hj0)
      simpa [Addr.add] using World.cell?_spot h3
    subst hspot
    have e : (⟨b, off, none⟩ : Addr).add (i * fs.size + j) = ⟨b, off + (i * fs.size + j), none⟩ := by unfold Addr.add; split <;> simp_all
    rw [e] at h1
    exact ⟨b, off, v, y, k', rfl, World.block_lt_of_cell? W _ h1, h1, h2⟩
end Go.Proofs.Ytkhfofpbmnapjaa
