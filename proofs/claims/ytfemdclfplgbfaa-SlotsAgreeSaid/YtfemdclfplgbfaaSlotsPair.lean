/- An allocator beside the reference's state, which lies in a box: what becomes of the two. -/
import Derived.Test.YtfemdclfplgbfaaSlotsG
import Derived.Test.YtfemdclfplgbfaaRefSlots6
set_option linter.unusedVariables false
namespace Go.Proofs.Ytfemdclfplgbfaa
open Go.RowKit

section
variable {I : Impl} {B : Nat} {w w' w0 : World} {p : Value} {σ : St} {G G' : Nat → Prop}
theorem HasG.wide (h : HasG I B w p σ G) (hb : Below w.heap.size w w') (hG : ∀ k, G' k → (G k ∨ w.heap.size ≤ k) ∧ k < w'.heap.size) : HasG I B w' p σ G' := by
  obtain ⟨F, h, hF, hG0⟩ := h
  refine ⟨F, I.below h hb, fun k hk => ⟨(hF k hk).1, fun hg => ?_⟩, fun k hk => (hG k hk).2⟩
  rcases (hG k hg).1 with h1 | h1
  · exact (hF k hk).2 h1
  · have := I.dom h k hk; omega
def PutG (I : Impl) (B : Nat) (w0 w : World) (p : Value) (σ : St) (x : Int) (G : Nat → Prop) (e : Ending) (w' : World) : Prop :=
  e = .returned (.int .i64 x) ∧ HasG I B w' p σ G ∧ Below B w0 w' ∧ ∀ k, G k → w'.heap[k]? = w.heap[k]?
theorem alters_g {F F' : Nat → Prop} {σ' : St} (ha : Alters F F' w w') (h : I.Is w' p σ' F') (hF : ∀ k, F k → B ≤ k ∧ ¬ G k) (hG : ∀ k, G k → k < w.heap.size) (hb : Below B w0 w) (hB : B ≤ w.heap.size) :
    HasG I B w' p σ' G ∧ Below B w0 w' ∧ ∀ k, G k → w'.heap[k]? = w.heap[k]? := by
  refine ⟨⟨F', h, fun k hk => ?_, fun k hk => Nat.lt_of_lt_of_le (hG k hk) ha.size⟩, ha.below hb hB fun k hk => (hF k hk).1, fun k hk => ha.block k (hG k hk) fun hf => (hF k hf).2 hk⟩
  rcases ha.foot k hk with h4 | h4
  · exact hF k h4
  · exact ⟨by omega, fun hg => by have := hG k hg; omega⟩
theorem put_g {i : Nat} {N : Int} (h : HasG I B w p σ G) (hi : i < 4294967296) (hN : N = (i : Int)) (ho : σ.on i = true) (hb : Below B w0 w) (hB : B ≤ w.heap.size) :
    Calls Try.prog 19 #[p, .int .u32 N] w (PutG I B w0 w p (σ.put i) 0 G) := by
  subst hN
  obtain ⟨F, h, hF, hG⟩ := h
  refine (I.release p σ F i w h hi).mono ?_
  rintro e w1 ⟨F', ha, _, h2⟩
  obtain ⟨rfl, h3⟩ := h2 ho
  exact ⟨rfl, alters_g ha h3 hF hG hb hB⟩
theorem bad_g {i : Nat} {N : Int} (h : HasG I B w p σ G) (hi : i < 4294967296) (hN : N = (i : Int)) (ho : σ.on i = false) (hb : Below B w0 w) (hB : B ≤ w.heap.size) :
    Calls Try.prog 19 #[p, .int .u32 N] w (PutG I B w0 w p σ 3 G) := by
  subst hN
  obtain ⟨F, h, hF, hG⟩ := h
  refine (I.release p σ F i w h hi).mono ?_
  rintro e w1 ⟨F', ha, h1, _⟩
  obtain ⟨rfl, h3⟩ := h1 ho
  exact ⟨rfl, alters_g ha h3 hF hG hb hB⟩
end

structure Pair (I : Impl) (B q : Nat) (w0 w : World) (p : Value) (σ τ : St) (bx : Array Value) (G : Nat → Prop) (st : List Nat) (fr : Nat) (sa ga oa : Option Addr) (sc gc oc : Nat) : Prop where
  has : HasG I B w p σ G
  ref : RefAt B (fun k => G k ∧ k ≠ q) w τ st fr sa ga oa sc gc oc
  qG : G q
  box : w.heap[q]? = some (.cells bx 38 (0, 0))
  below : Below B w0 w
  hB : B ≤ q
section
variable {I : Impl} {B q : Nat} {w w' w0 : World} {p : Value} {σ σ' τ τ' : St} {bx bx' : Array Value} {G G' : Nat → Prop} {st st' : List Nat} {fr fr' : Nat} {sa ga oa sa' ga' oa' : Option Addr} {sc gc oc sc' gc' oc' : Nat}
theorem Pair.lt (h : Pair I B q w0 w p σ τ bx G st fr sa ga oa sc gc oc) : q < w.heap.size := by
  obtain ⟨F, _, _, hG⟩ := h.has
  exact hG q h.qG
theorem Pair.size (h : Pair I B q w0 w p σ τ bx G st fr sa ga oa sc gc oc) : B ≤ w.heap.size := by have := h.lt; have := h.hB; omega
theorem Pair.calm (h : Pair I B q w0 w p σ τ bx G st fr sa ga oa sc gc oc) (hb : Below w.heap.size w w') : Pair I B q w0 w' p σ τ bx G st fr sa ga oa sc gc oc :=
  ⟨h.has.below hb, h.ref.below hb, h.qG, (hb.block q h.lt).trans h.box, h.below.trans (hb.mono h.size), h.hB⟩
/-- the reference took a step -/
theorem Pair.refd (h : Pair I B q w0 w p σ τ bx G st fr sa ga oa sc gc oc) (hr : RefAt B (fun k => (G k ∧ k ≠ q) ∨ w.heap.size ≤ k) w' τ' st' fr' sa' ga' oa' sc' gc' oc') (hb : Below w.heap.size w w') :
    Pair I B q w0 w' p σ τ' bx (fun k => (G k ∨ w.heap.size ≤ k) ∧ k < w'.heap.size) st' fr' sa' ga' oa' sc' gc' oc' := by
  have hq := h.lt
  have hs := hb.size
  have hin : ∀ k, ((G k ∧ k ≠ q) ∨ w.heap.size ≤ k) → k < w'.heap.size → ((G k ∨ w.heap.size ≤ k) ∧ k < w'.heap.size) ∧ k ≠ q := by
    intro k hk hl
    rcases hk with ⟨h1, h2⟩ | h1
    · exact ⟨⟨.inl h1, hl⟩, h2⟩
    · exact ⟨⟨.inr h1, hl⟩, by omega⟩
  exact ⟨h.has.wide hb fun k hk => hk, ⟨hr.free, hr.fr1, hr.fr2, hr.stack, hr.gen, hr.on, fun k hk => hin k (hr.inS k hk) (row_lt hr.stack k hk).2, fun k hk => hin k (hr.inG k hk) (row_lt hr.gen k hk).2, fun k hk => hin k (hr.inO k hk) (row_lt hr.on k hk).2⟩,
    ⟨.inl h.qG, by omega⟩, (hb.block q hq).trans h.box, h.below.trans (hb.mono h.size), h.hB⟩
/-- a box beside the two -/
theorem Pair.alloc (h : Pair I B q w0 w p σ τ bx G st fr sa ga oa sc gc oc) (ob : Obj) : Pair I B q w0 (w.alloc ob) p σ τ bx (fun k => G k ∨ k = w.heap.size) st fr sa ga oa sc gc oc := by
  have hb : Below w.heap.size w (w.alloc ob) := (Below.refl _ _).alloc (Nat.le_refl _) ob
  have h1 := h.calm hb
  obtain ⟨F, _, _, hG⟩ := h.has
  refine ⟨h.has.wide hb fun k hk => ?_, h1.ref.keep (fun k _ => rfl) fun k hk => ⟨.inl hk.1, hk.2⟩, .inl h.qG, h1.box, h1.below, h1.hB⟩
  rcases hk with hk | rfl
  · have := hG k hk
    exact ⟨.inl hk, by simp; omega⟩
  · exact ⟨.inr (Nat.le_refl _), by simp⟩
/-- the allocator took a step -/
theorem Pair.proged (h : Pair I B q w0 w p σ τ bx G st fr sa ga oa sc gc oc) (hg : HasG I B w' p σ' G) (hb : Below B w0 w') (hk : ∀ k, G k → w'.heap[k]? = w.heap[k]?) : Pair I B q w0 w' p σ' τ bx G st fr sa ga oa sc gc oc :=
  ⟨hg, h.ref.keep (fun k h1 => hk k h1.1) fun k h1 => h1, h.qG, (hk q h.qG).trans h.box, hb, h.hB⟩
/-- the box is written -/
theorem Pair.stored (h : Pair I B q w0 w p σ τ bx G st fr sa ga oa sc gc oc) (bx' : Array Value) : Pair I B q w0 (w.setRow q bx') p σ τ bx' G st fr sa ga oa sc gc oc := by
  have hrow : ∀ k, k ≠ q → (w.setRow q bx').heap[k]? = w.heap[k]? := fun k hk => setRow_other w _ k bx' hk
  obtain ⟨F, h1, hF, hG⟩ := h.has
  have hs : (w.setRow q bx').heap.size = w.heap.size := by simp [World.setRow]
  exact ⟨⟨F, I.keep h1 fun k hk => hrow k fun e => (hF k hk).2 (e ▸ h.qG), hF, fun k hk => by rw [hs]; exact hG k hk⟩, h.ref.keep (fun k h1 => hrow k h1.2) fun k h1 => h1, h.qG, setRow_heap _ _ _ _ _ _ h.box, below_setRow h.below h.hB _, h.hB⟩
end
end Go.Proofs.Ytfemdclfplgbfaa
