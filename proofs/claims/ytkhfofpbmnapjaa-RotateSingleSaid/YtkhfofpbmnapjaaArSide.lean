/- An arena that is read, beside boxes: what reading, making memory and a dump leave of it. -/
import Derived.Test.YtkhfofpbmnapjaaKitTree
import Derived.Test.YtkhfofpbmnapjaaRefNode
import Derived.Test.YtkhfofpbmnapjaaDumpE
set_option linter.unusedVariables false
set_option linter.unusedSimpArgs false
namespace Go.Proofs.Ytkhfofpbmnapjaa
open Go.RowKit
/-- keys ascending, plain -/
theorem up_asc : ∀ (l : List En) (s : Option Int), Up l → (∀ k, s = some k → ∀ y ∈ l, k < y.key) → Asc s (l.map (·.key))
  | [], s, h, hs => by cases s <;> trivial
  | x :: t, s, h, hs => by
    unfold Up at h
    rw [List.pairwise_cons] at h
    have ih := up_asc t (some x.key) h.2 (fun k hk y hy => by cases hk; exact h.1 y hy)
    cases s with
    | none => exact ih
    | some k => exact ⟨hs k rfl x (by simp), ih⟩
theorem asc_some : ∀ {l : List Int} {k : Int}, Asc (some k) l → Asc none l
  | [], _, _ => trivial
  | x :: t, k, h => h.2
/-- the arena while it is read, beside the boxes of G -/
structure MS (I : AImpl) (B : Nat) (w0 w : World) (p : Value) (A : Ar) (top : Int) (G : Nat → Prop) : Prop where
  has : ∃ rd F, I.Is w p A rd F ∧ 0 ≤ rd ∧ rd ≤ top ∧ (∀ k, F k → B ≤ k) ∧ ∀ k, G k → k < w.heap.size ∧ ¬ F k
  below : Below B w0 w
  hB : B ≤ w.heap.size
def Keeps (G : Nat → Prop) (w w' : World) : Prop := ∀ k, G k → w'.heap[k]? = w.heap[k]?
section
variable {I : AImpl} {B : Nat} {w0 w w' : World} {p : Value} {A : Ar} {top : Int} {G : Nat → Prop}
theorem MS.calm (h : MS I B w0 w p A top G) (hb : Below w.heap.size w w') : MS I B w0 w' p A top G := by
  obtain ⟨rd, F, h1, h2, h3, h4, h5⟩ := h.has
  exact ⟨⟨rd, F, I.below h1 hb, h2, h3, h4, fun k hk => ⟨Nat.lt_of_lt_of_le (h5 k hk).1 hb.size, (h5 k hk).2⟩⟩, h.below.trans (hb.mono h.hB), Nat.le_trans h.hB hb.size⟩
theorem MS.keeps (h : MS I B w0 w p A top G) (hb : Below w.heap.size w w') : Keeps G w w' := fun k hk => by
  obtain ⟨rd, F, h1, h2, h3, h4, h5⟩ := h.has
  exact hb.block k (h5 k hk).1
theorem MS.lt (h : MS I B w0 w p A top G) {k : Nat} (hk : G k) : k < w.heap.size := by
  obtain ⟨rd, F, h1, h2, h3, h4, h5⟩ := h.has
  exact (h5 k hk).1
theorem MS.alloc (h : MS I B w0 w p A top G) (o : Obj) : MS I B w0 (w.alloc o) p A top (fun k => G k ∨ k = w.heap.size) := by
  have hb := below_new7 w o
  have h' := h.calm hb
  obtain ⟨rd, F, h1, h2, h3, h4, h5⟩ := h.has
  refine ⟨⟨rd, F, I.below h1 hb, h2, h3, h4, fun k hk => ?_⟩, h'.below, h'.hB⟩
  rcases hk with hk | rfl
  · exact ⟨Nat.lt_of_lt_of_le (h5 k hk).1 hb.size, (h5 k hk).2⟩
  · exact ⟨by simp, fun hF => Nat.lt_irrefl _ (I.dom h1 _ hF)⟩
theorem MS.less {G' : Nat → Prop} (h : MS I B w0 w p A top G) (hG : ∀ k, G' k → G k) : MS I B w0 w p A top G' := by
  obtain ⟨rd, F, h1, h2, h3, h4, h5⟩ := h.has
  exact ⟨⟨rd, F, h1, h2, h3, h4, fun k hk => h5 k (hG k hk)⟩, h.below, h.hB⟩
theorem MS.step {rd' : Int} {F F' : Nat → Prop} (h : MS I B w0 w p A top G) (hF : ∀ k, F k → B ≤ k) (hG : ∀ k, G k → k < w.heap.size ∧ ¬ F k) (hal : Alters F F' w w') (hI : I.Is w' p A rd' F') {top' : Int} (h0 : 0 ≤ rd') (h1 : rd' ≤ top') : MS I B w0 w' p A top' G ∧ Keeps G w w' :=
  ⟨⟨⟨rd', F', hI, h0, h1, hal.from h.hB hF, hal.apart hG⟩, hal.below h.below h.hB hF, Nat.le_trans h.hB hal.size⟩, fun k hk => hal.block k (hG k hk).1 (hG k hk).2⟩
theorem ms_dump (h : MS I B w0 w p A top G) {held : Nat → Nat} (hv : A.Inv [] held) : Calls Try.prog 10 #[p] w
    fun e w' => ∃ a c b d, e = .returned (.agg #[.slice a A.σ.cap c, .slice b A.σ.free.length d]) ∧ MS I B w0 w' p A top G ∧ Keeps G w w' ∧ SlotsAt w' a A.σ.cap A.sl ∧ Below w.heap.size w w' ∧
      w'.ownsRow w.heap.size 75 11 (.slice a A.σ.cap c) A.σ.cap (slotsV A) ∧ w'.ownsRow w.heap.size 28 1 (.slice b A.σ.free.length d) A.σ.free.length (u32s A.σ.free) := by
  obtain ⟨rd, F, h1, h2, h3, h4, h5⟩ := h.has
  refine (I.dump p A rd F w h1).mono ?_
  rintro e w1 ⟨a, c, b, d, rfl, hr1, hr2, hb⟩
  exact ⟨a, c, b, d, rfl, h.calm hb, h.keeps hb, slots_at hv hr1, hb, hr1, hr2⟩
end
theorem ms_node {I : AImpl} {B : Nat} {w0 w : World} {p : Value} {A : Ar} {top : Int} {G : Nat → Prop} (h : MS I B w0 w p A top G) (ht : top ≤ 4398046511104) {i : Nat} (hi : i < 4294967296) (hon : A.σ.on i = true) :
    Calls Try.prog 28 #[p, .int .u32 (i : Int)] w fun e w' => e = .returned (.tuple #[.agg (ndRow (A.nd i)), .bool true]) ∧ MS I B w0 w' p A (top + 1) G ∧ Keeps G w w' := by
  obtain ⟨rd, F, h1, h2, h3, h4, h5⟩ := h.has
  refine (I.node p A rd F i w h1 h2 (by omega) hi).mono ?_
  rintro e w1 ⟨F', hal, _, h6⟩
  obtain ⟨rfl, h7⟩ := h6 hon
  have := h.step h4 h5 hal h7 (top' := top + 1) (by omega) (by omega)
  exact ⟨rfl, this.1, this.2⟩
theorem Grown.ms {I : AImpl} {m : Nat} {l : List En} {w w' : World} {p : Value} {A : Ar} {i : Nat} {t : Tr} {F : Nat → Prop} (h : Grown I m l w p A i t F w') : MS I w.heap.size w w' p A 0 (fun _ => False) :=
  ⟨⟨0, F, h.is, by omega, by omega, h.foot, fun k hk => hk.elim⟩, h.below, h.below.size⟩
end Go.Proofs.Ytkhfofpbmnapjaa
