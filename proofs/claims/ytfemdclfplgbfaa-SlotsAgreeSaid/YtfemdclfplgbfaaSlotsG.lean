/- An allocator beside rows of the statement's own: the rows stay while the allocator is used. -/
import Derived.Test.YtfemdclfplgbfaaSlotsPlay
set_option linter.unusedVariables false
namespace Go.Proofs.Ytfemdclfplgbfaa
open Go.RowKit

/-- an allocator in blocks from B on, none of them in G -/
def HasG (I : Impl) (B : Nat) (w : World) (p : Value) (σ : St) (G : Nat → Prop) : Prop := ∃ F, I.Is w p σ F ∧ (∀ k, F k → B ≤ k ∧ ¬ G k) ∧ ∀ k, G k → k < w.heap.size
section
variable {I : Impl} {B : Nat} {w w' w0 : World} {p : Value} {σ : St} {G G' : Nat → Prop}
theorem HasG.ok (h : HasG I B w p σ G) : σ.Ok := by obtain ⟨F, h, _⟩ := h; exact I.ok h
theorem HasG.has (h : HasG I B w p σ G) : Has I B w p σ := by
  obtain ⟨F, h, hF, _⟩ := h
  exact ⟨F, h, fun k hk => (hF k hk).1⟩
theorem HasG.below (h : HasG I B w p σ G) (hb : Below w.heap.size w w') : HasG I B w' p σ G := by
  obtain ⟨F, h, hF, hG⟩ := h
  exact ⟨F, I.below h hb, hF, fun k hk => Nat.lt_of_lt_of_le (hG k hk) hb.size⟩
/-- rows that were made behind it -/
theorem Has.beside (h : Has I B w p σ) (hb : Below w.heap.size w w') (hG : ∀ k, G k → w.heap.size ≤ k ∧ k < w'.heap.size) : HasG I B w' p σ G := by
  obtain ⟨F, h, hF⟩ := h
  exact ⟨F, I.below h hb, fun k hk => ⟨hF k hk, fun hg => by have := I.dom h k hk; have := (hG k hg).1; omega⟩, fun k hk => (hG k hk).2⟩
def TookG (I : Impl) (B : Nat) (w0 w : World) (p : Value) (σ : St) (i : Nat) (t : List Nat) (G : Nat → Prop) (e : Ending) (w' : World) : Prop :=
  e = .returned (.tuple #[.int .u32 (i : Int), .int .i64 0]) ∧ HasG I B w' p (σ.take i t) G ∧ Below B w0 w' ∧ ∀ k, G k → w'.heap[k]? = w.heap[k]?
theorem take_g (h : HasG I B w p σ G) {i : Nat} {t : List Nat} (hf : σ.free = i :: t) (hb : Below B w0 w) (hB : B ≤ w.heap.size) :
    Calls Try.prog 20 #[p] w (TookG I B w0 w p σ i t G) := by
  obtain ⟨F, h, hF, hG⟩ := h
  refine (I.alloc p σ F w h).mono ?_
  rintro e w1 ⟨F', ha, _, h2⟩
  obtain ⟨rfl, h3⟩ := h2 i t hf
  refine ⟨rfl, ⟨F', h3, fun k hk => ?_, fun k hk => Nat.lt_of_lt_of_le (hG k hk) ha.size⟩, ha.below hb hB fun k hk => (hF k hk).1, fun k hk => ha.block k (hG k hk) fun hf => (hF k hf).2 hk⟩
  rcases ha.foot k hk with h4 | h4
  · exact hF k h4
  · exact ⟨by omega, fun hg => by have := hG k hg; omega⟩
def FullG (I : Impl) (B : Nat) (w0 w : World) (p : Value) (σ : St) (G : Nat → Prop) (e : Ending) (w' : World) : Prop :=
  e = .returned (.tuple #[.int .u32 0, .int .i64 2]) ∧ HasG I B w' p σ G ∧ Below B w0 w' ∧ ∀ k, G k → w'.heap[k]? = w.heap[k]?
theorem full_g (h : HasG I B w p σ G) (hf : σ.free = []) (hb : Below B w0 w) (hB : B ≤ w.heap.size) :
    Calls Try.prog 20 #[p] w (FullG I B w0 w p σ G) := by
  obtain ⟨F, h, hF, hG⟩ := h
  refine (I.alloc p σ F w h).mono ?_
  rintro e w1 ⟨F', ha, h2, _⟩
  obtain ⟨rfl, h3⟩ := h2 hf
  refine ⟨rfl, ⟨F', h3, fun k hk => ?_, fun k hk => Nat.lt_of_lt_of_le (hG k hk) ha.size⟩, ha.below hb hB fun k hk => (hF k hk).1, fun k hk => ha.block k (hG k hk) fun hf => (hF k hf).2 hk⟩
  rcases ha.foot k hk with h4 | h4
  · exact hF k h4
  · exact ⟨by omega, fun hg => by have := hG k hg; omega⟩
end
theorem u32s_at {l : List Nat} {j : Nat} (h : j < l.length) : (u32s l)[j]? = some (.int .u32 ((l.getD j 0 : Nat) : Int)) := by
  simp [u32s, List.getD_eq_getElem?_getD, h]
theorem drop_cons {l : List Nat} {k : Nat} (h : k < l.length) : l.drop k = l.getD k 0 :: l.drop (k + 1) := by
  rw [List.drop_eq_getElem_cons h, List.getD_eq_getElem?_getD, List.getElem?_eq_getElem h]; rfl
end Go.Proofs.Ytfemdclfplgbfaa
