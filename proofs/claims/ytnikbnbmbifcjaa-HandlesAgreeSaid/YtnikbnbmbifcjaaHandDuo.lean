/- A table of handles, the reference's table in a box, and the row of the handles that were issued: what becomes of the three. -/
import Derived.Test.YtnikbnbmbifcjaaHandPlay
import Derived.Test.YtnikbnbmbifcjaaRefHand6
set_option linter.unusedVariables false
namespace Go.Proofs.Ytnikbnbmbifcjaa
open Go.RowKit

structure Duo (I : HImpl) (B q : Nat) (w0 w : World) (p : Value) (σ : St) (v : Nat → Int) (τ : St) (u : Nat → Int) (r : RL) (bx : Array Value) (x : Value) (l : List Int) (G : Nat → Prop) : Prop where
  has : ∃ F, I.Is w p σ v F ∧ ∀ k, F k → B ≤ k ∧ ¬ G k
  gl : ∀ k, G k → k < w.heap.size
  ref : RefTab B (fun k => G k ∧ k ≠ q ∧ x.ownBlock ≠ some k) w τ u r
  row : w.ownsRow B 29 1 x l.length (u64s l)
  rowG : ∀ k, x.ownBlock = some k → G k ∧ k ≠ q
  box : w.heap[q]? = some (.cells bx 40 (0, 0))
  qG : G q
  below : Below B w0 w
  hB : B ≤ q
section
variable {I : HImpl} {B q : Nat} {w w' w0 : World} {p x x' : Value} {σ σ' τ τ' : St} {v v' u u' : Nat → Int} {r r' : RL} {bx bx' : Array Value} {l l' : List Int} {G : Nat → Prop}
theorem Duo.ok (h : Duo I B q w0 w p σ v τ u r bx x l G) : σ.Ok := by obtain ⟨F, h1, _⟩ := h.has; exact I.ok h1
theorem Duo.size (h : Duo I B q w0 w p σ v τ u r bx x l G) : B ≤ w.heap.size := by have := h.gl q h.qG; have := h.hB; omega
theorem Duo.calm (h : Duo I B q w0 w p σ v τ u r bx x l G) (hb : Below w.heap.size w w') : Duo I B q w0 w' p σ v τ u r bx x l G := by
  obtain ⟨F, h1, hF⟩ := h.has
  exact ⟨⟨F, I.below h1 hb, hF⟩, fun k hk => Nat.lt_of_lt_of_le (h.gl k hk) hb.size, h.ref.below hb, row_below h.row hb, h.rowG, (hb.block q (h.gl q h.qG)).trans h.box, h.qG, h.below.trans (hb.mono h.size), h.hB⟩
/-- the table took a step -/
theorem Duo.step {F F' : Nat → Prop} (h : Duo I B q w0 w p σ v τ u r bx x l G) (hF : ∀ k, F k → B ≤ k ∧ ¬ G k) (ha : Alters F F' w w') (hs : I.Is w' p σ' v' F') : Duo I B q w0 w' p σ' v' τ u r bx x l G := by
  have hk : ∀ k, G k → w'.heap[k]? = w.heap[k]? := fun k hk => ha.block k (h.gl k hk) fun hf => (hF k hf).2 hk
  refine ⟨⟨F', hs, fun k hk => ?_⟩, fun k hk => Nat.lt_of_lt_of_le (h.gl k hk) ha.size, h.ref.keep (fun k h1 => hk k h1.1) fun k h1 => h1, row_keep h.row fun k h1 => hk k (h.rowG k h1).1, h.rowG, (hk q h.qG).trans h.box, h.qG, ha.below h.below h.size fun k hk => (hF k hk).1, h.hB⟩
  rcases ha.foot k hk with h4 | h4
  · exact hF k h4
  · exact ⟨Nat.le_trans h.size h4, fun hg => by have := h.gl k hg; omega⟩
/-- the reference took a step -/
theorem Duo.refd (h : Duo I B q w0 w p σ v τ u r bx x l G) (hr : RefTab B (fun k => (G k ∧ k ≠ q ∧ x.ownBlock ≠ some k) ∨ w.heap.size ≤ k) w' τ' u' r') (hb : Below w.heap.size w w') :
    Duo I B q w0 w' p σ v τ' u' r' bx x l (fun k => (G k ∨ w.heap.size ≤ k) ∧ k < w'.heap.size) := by
  obtain ⟨F, h1, hF⟩ := h.has
  have hq := h.gl q h.qG
  have hs := hb.size
  have hin : ∀ k, ((G k ∧ k ≠ q ∧ x.ownBlock ≠ some k) ∨ w.heap.size ≤ k) ∧ k < w'.heap.size → ((G k ∨ w.heap.size ≤ k) ∧ k < w'.heap.size) ∧ k ≠ q ∧ x.ownBlock ≠ some k := by
    rintro k ⟨hk | hk, hl⟩
    · exact ⟨⟨.inl hk.1, hl⟩, hk.2⟩
    · refine ⟨⟨.inr hk, hl⟩, by omega, fun e => ?_⟩
      have := h.gl k (h.rowG k e).1
      omega
  refine ⟨⟨F, I.below h1 hb, fun k hk => ⟨(hF k hk).1, fun hg => ?_⟩⟩, fun k hk => hk.2, ⟨hr.slots.lt.keep (fun _ _ => rfl) hin, hr.ok, hr.vals, fun k hk => hin k ⟨hr.inV k hk, (row_lt hr.vals k hk).2⟩⟩, row_below h.row hb, fun k hk => ⟨⟨.inl (h.rowG k hk).1, by have := h.gl k (h.rowG k hk).1; omega⟩, (h.rowG k hk).2⟩, (hb.block q hq).trans h.box, ⟨.inl h.qG, by omega⟩, h.below.trans (hb.mono h.size), h.hB⟩
  rcases hg.1 with h2 | h2
  · exact (hF k hk).2 h2
  · have := I.dom h1 k hk; omega
/-- the box is written -/
theorem Duo.stored (h : Duo I B q w0 w p σ v τ u r bx x l G) (bx' : Array Value) : Duo I B q w0 (w.setRow q bx') p σ v τ u r bx' x l G := by
  have hrow : ∀ k, k ≠ q → (w.setRow q bx').heap[k]? = w.heap[k]? := fun k hk => setRow_other w _ k bx' hk
  obtain ⟨F, h1, hF⟩ := h.has
  have hs : (w.setRow q bx').heap.size = w.heap.size := by simp [World.setRow]
  exact ⟨⟨F, I.keep h1 fun k hk => hrow k fun e => (hF k hk).2 (e ▸ h.qG), hF⟩, fun k hk => by rw [hs]; exact h.gl k hk, h.ref.keep (fun k h1 => hrow k h1.2.1) fun k h1 => h1, row_keep h.row fun k hk => hrow k (h.rowG k hk).2, h.rowG, setRow_heap _ _ _ _ _ _ h.box, h.qG, below_setRow h.below h.hB _, h.hB⟩
/-- the row was appended to -/
theorem Duo.push (h : Duo I B q w0 w p σ v τ u r bx x l G) (hg : w.grownBy w' x.ownBlock) (hr : w'.ownsRow B 29 1 x' l'.length (u64s l')) (hb : x'.ownBlock = x.ownBlock ∨ x'.ownBlock = some w.heap.size) :
    Duo I B q w0 w' p σ v τ u r bx x' l' (fun k => G k ∨ x'.ownBlock = some k) := by
  obtain ⟨F, h1, hF⟩ := h.has
  have hq := h.gl q h.qG
  have hx : ∀ k, x'.ownBlock = some k → x.ownBlock = some k ∨ k = w.heap.size := fun k hk => by
    rcases hb with e | e
    · exact .inl (e ▸ hk)
    · rw [e] at hk; simp at hk; exact .inr hk.symm
  have hd : ∀ k, k < w.heap.size → (x.ownBlock ≠ some k) → w'.heap[k]? = w.heap[k]? := fun k hk hn => hg.block k hk fun e => hn e.symm
  have hin : ∀ k, (G k ∧ k ≠ q ∧ x.ownBlock ≠ some k) ∧ k < w.heap.size → (G k ∨ x'.ownBlock = some k) ∧ k ≠ q ∧ x'.ownBlock ≠ some k := by
    rintro k ⟨hk, hl⟩
    refine ⟨.inl hk.1, hk.2.1, fun e => ?_⟩
    rcases hx k e with h3 | h3
    · exact hk.2.2 h3
    · omega
  have href : RefTab B (fun k => (G k ∨ x'.ownBlock = some k) ∧ k ≠ q ∧ x'.ownBlock ≠ some k) w' τ u r :=
    ⟨h.ref.slots.lt.keep (fun k hk => hd k hk.2 hk.1.2.2) hin, h.ref.ok, row_keep h.ref.vals fun k hk => hd k (row_lt h.ref.vals k hk).2 (h.ref.inV k hk).2.2, fun k hk => hin k ⟨h.ref.inV k hk, (row_lt h.ref.vals k hk).2⟩⟩
  refine ⟨⟨F, I.keep h1 fun k hk => hd k (I.dom h1 k hk) fun e => (hF k hk).2 (h.rowG k e).1, fun k hk => ⟨(hF k hk).1, fun hgk => ?_⟩⟩, fun k hk => ?_, href, hr, fun k hk => ⟨.inr hk, fun e => ?_⟩, (hd q hq fun e => (h.rowG q e).2 rfl).trans h.box, .inl h.qG, h.below.grown hg h.size (row_from h.row), h.hB⟩
  · rcases hgk with h2 | h2
    · exact (hF k hk).2 h2
    · rcases hx k h2 with h3 | h3
      · exact (hF k hk).2 (h.rowG k h3).1
      · have := I.dom h1 k hk; omega
  · rcases hk with h2 | h2
    · exact Nat.lt_of_lt_of_le (h.gl k h2) hg.size
    · exact (row_lt hr k h2).2
  · rcases hx k hk with h3 | h3
    · exact (h.rowG k h3).2 e
    · omega
end
end Go.Proofs.Ytnikbnbmbifcjaa
