/- What is asked of the program's lookups, stated, not proved here; an arena with a count of its reads, beside boxes. -/
import Derived.Test.YtkhfofpbmnapjaaArSide
import Derived.Test.YtkhfofpbmnapjaaRefNear
import Derived.Test.YtkhfofpbmnapjaaKitMod
import Derived.Test.YtkhfofpbmnapjaaKitList
set_option linter.unusedVariables false
set_option linter.unusedSimpArgs false
namespace Go.Proofs.Ytkhfofpbmnapjaa
open Go.RowKit
/-- index i of the arena is the tree t with the entries l -/
structure TreeAt (A : Ar) (i : Nat) (t : Tr) (l : List En) : Prop where
  inv : ∃ held, A.Inv [] held
  agg : A.Agg
  sub : Sub A i t
  bal : t.bal = true
  ents : t.ents A.nd = l
  up : Up l
theorem Planted.tree {A A' : Ar} {held : Nat → Nat} {l : List En} {i : Nat} {t : Tr} (h : Planted A held l A' i t) (hu : Up l) : TreeAt A' i t l := ⟨⟨_, h.inv⟩, h.agg, h.sub, h.bal, h.ents, hu⟩
theorem TreeAt.size {A : Ar} {i : Nat} {t : Tr} {l : List En} (h : TreeAt A i t l) : t.size = l.length := by rw [← h.ents, Tr.ents_len]
theorem TreeAt.ht {A : Ar} {i : Nat} {t : Tr} {l : List En} (h : TreeAt A i t l) (hl : l.length ≤ 2147483647) : t.ht ≤ xh l.length := by
  have h1 := balT_ht h.agg h.sub (by rw [balT_bal h.agg h.sub]; exact h.bal)
  rw [h.size] at h1
  exact xh_le hl (by omega)
theorem TreeAt.idx {A : Ar} {i : Nat} {t : Tr} {l : List En} (h : TreeAt A i t l) : i < 4294967296 := by
  obtain ⟨held, hv⟩ := h.inv
  rcases h.sub.idx with h1 | h1
  · omega
  · have := hv.ok.on i h1; have := hv.ok.cap2; omega
/-- how often may be read -/
def mostI (n : Nat) : Int := 4 * ((xh n : Int) + 2)
/-- a call that reads: what it returns, what it leaves -/
def ReadsTo (I : AImpl) (p : Value) (A : Ar) (rd : Int) (F : Nat → Prop) (bd : Int) (v : Value) (w : World) (e : Ending) (w' : World) : Prop :=
  ∃ F' rd', e = .returned v ∧ Alters F F' w w' ∧ I.Is w' p A rd' F' ∧ rd ≤ rd' ∧ rd' ≤ rd + bd
/-- an entry, or none, as a result -/
def enR (o : Option En) : Value := .tuple #[.agg (enA o), .bool o.isSome]
/-- the indexes of the search -/
def pathT (nd : Nat → Nd) (k : Int) : Tr → List Nat
  | .nil => []
  | .node i l r => i :: (if k = (nd i).key then [] else if k < (nd i).key then pathT nd k l else pathT nd k r)
/-- a call that reads and returns a new row of numbers -/
def PathRes (I : AImpl) (p : Value) (A : Ar) (rd : Int) (F : Nat → Prop) (bd : Int) (P : List Nat) (w : World) (e : Ending) (w' : World) : Prop :=
  ∃ F' rd' a c, e = .returned (.slice a P.length c) ∧ Alters F F' w w' ∧ I.Is w' p A rd' F' ∧ rd ≤ rd' ∧ rd' ≤ rd + bd ∧ w'.ownsRow w.heap.size 28 1 (.slice a P.length c) P.length (u32s P) ∧ ∀ g, Value.ownBlock (.slice a P.length c) = some g → ¬ F' g
theorem pathT_ht (nd : Nat → Nd) (k : Int) : ∀ t : Tr, (pathT nd k t).length ≤ t.ht
  | .nil => Nat.le_refl _
  | .node i l r => by
    have h1 := pathT_ht nd k l
    have h2 := pathT_ht nd k r
    unfold pathT
    show _ ≤ 1 + max l.ht r.ht
    rw [List.length_cons]
    split
    · simp
    · split <;> omega
structure LkImpl (I : AImpl) : Prop where
/-- the arena with its count of reads, beside the boxes of G -/
structure MR (I : AImpl) (B : Nat) (w0 w : World) (p : Value) (A : Ar) (rd : Int) (G : Nat → Prop) : Prop where
  has : ∃ F, I.Is w p A rd F ∧ (∀ k, F k → B ≤ k) ∧ ∀ k, G k → k < w.heap.size ∧ ¬ F k
  below : Below B w0 w
  hB : B ≤ w.heap.size
section
variable {I : AImpl} {B : Nat} {w0 w w' : World} {p : Value} {A : Ar} {rd : Int} {G : Nat → Prop}
theorem MR.calm (h : MR I B w0 w p A rd G) (hb : Below w.heap.size w w') : MR I B w0 w' p A rd G := by
  obtain ⟨F, h1, h4, h5⟩ := h.has
  exact ⟨⟨F, I.below h1 hb, h4, fun k hk => ⟨Nat.lt_of_lt_of_le (h5 k hk).1 hb.size, (h5 k hk).2⟩⟩, h.below.trans (hb.mono h.hB), Nat.le_trans h.hB hb.size⟩
theorem MR.lt (h : MR I B w0 w p A rd G) {k : Nat} (hk : G k) : k < w.heap.size := by
  obtain ⟨F, h1, h4, h5⟩ := h.has
  exact (h5 k hk).1
theorem MR.keeps (h : MR I B w0 w p A rd G) (hb : Below w.heap.size w w') : Keeps G w w' := fun k hk => hb.block k (h.lt hk)
theorem MR.alloc (h : MR I B w0 w p A rd G) (o : Obj) : MR I B w0 (w.alloc o) p A rd (fun k => G k ∨ k = w.heap.size) := by
  have hb := below_new7 w o
  have h' := h.calm hb
  obtain ⟨F, h1, h4, h5⟩ := h.has
  refine ⟨⟨F, I.below h1 hb, h4, fun k hk => ?_⟩, h'.below, h'.hB⟩
  rcases hk with hk | rfl
  · exact ⟨Nat.lt_of_lt_of_le (h5 k hk).1 hb.size, (h5 k hk).2⟩
  · exact ⟨by simp, fun hF => Nat.lt_irrefl _ (I.dom h1 _ hF)⟩
theorem MR.less {G' : Nat → Prop} (h : MR I B w0 w p A rd G) (hG : ∀ k, G' k → G k) : MR I B w0 w p A rd G' := by
  obtain ⟨F, h1, h4, h5⟩ := h.has
  exact ⟨⟨F, h1, h4, fun k hk => h5 k (hG k hk)⟩, h.below, h.hB⟩
/-- a fresh block joins the boxes -/
theorem MR.fresh {G' : Nat → Prop} (h : MR I B w0 w p A rd G) (hb : Below w.heap.size w w') (hG : ∀ k, G' k → G k ∨ (w.heap.size ≤ k ∧ k < w'.heap.size)) : MR I B w0 w' p A rd G' := by
  have h' := h.calm hb
  obtain ⟨F, h1, h4, h5⟩ := h.has
  refine ⟨⟨F, I.below h1 hb, h4, fun k hk => ?_⟩, h'.below, h'.hB⟩
  rcases hG k hk with hk | ⟨h6, h7⟩
  · exact ⟨Nat.lt_of_lt_of_le (h5 k hk).1 hb.size, (h5 k hk).2⟩
  · exact ⟨h7, fun hF => by have := I.dom h1 _ hF; omega⟩
theorem MR.step {rd' : Int} {F F' : Nat → Prop} (h : MR I B w0 w p A rd G) (hF : ∀ k, F k → B ≤ k) (hG : ∀ k, G k → k < w.heap.size ∧ ¬ F k) (hal : Alters F F' w w') (hI : I.Is w' p A rd' F') : MR I B w0 w' p A rd' G ∧ Keeps G w w' :=
  ⟨⟨⟨F', hI, hal.from h.hB hF, hal.apart hG⟩, hal.below h.below h.hB hF, Nat.le_trans h.hB hal.size⟩, fun k hk => hal.block k (hG k hk).1 (hG k hk).2⟩
/-- what a call that reads leaves beside boxes -/
def MRes (I : AImpl) (B : Nat) (w0 : World) (p : Value) (A : Ar) (rd bd : Int) (G : Nat → Prop) (v : Value) (w : World) (e : Ending) (w' : World) : Prop :=
  e = .returned v ∧ ∃ rd', MR I B w0 w' p A rd' G ∧ Keeps G w w' ∧ rd ≤ rd' ∧ rd' ≤ rd + bd
theorem mr_call {bd : Int} {v : Value} {f : FuncId} {args : Array Value} (h : MR I B w0 w p A rd G) (hc : ∀ F, I.Is w p A rd F → Calls Try.prog f args w (ReadsTo I p A rd F bd v w)) : Calls Try.prog f args w (MRes I B w0 p A rd bd G v w) := by
  obtain ⟨F, h1, h4, h5⟩ := h.has
  refine (hc F h1).mono ?_
  rintro e w1 ⟨F', rd', he, hal, hI, h6, h7⟩
  have := h.step h4 h5 hal hI
  exact ⟨he, rd', this.1, this.2, h6, h7⟩
theorem mr_dump (h : MR I B w0 w p A rd G) {held : Nat → Nat} (hv : A.Inv [] held) : Calls Try.prog 10 #[p] w
    fun e w' => ∃ a c b d, e = .returned (.agg #[.slice a A.σ.cap c, .slice b A.σ.free.length d]) ∧ MR I B w0 w' p A rd G ∧ Keeps G w w' ∧ SlotsAt w' a A.σ.cap A.sl ∧ Below w.heap.size w w' ∧
      w'.ownsRow w.heap.size 75 11 (.slice a A.σ.cap c) A.σ.cap (slotsV A) ∧ w'.ownsRow w.heap.size 28 1 (.slice b A.σ.free.length d) A.σ.free.length (u32s A.σ.free) := by
  obtain ⟨F, h1, _⟩ := h.has
  refine (I.dump p A rd F w h1).mono ?_
  rintro e w1 ⟨a, c, b, d, rfl, hr1, hr2, hb⟩
  exact ⟨a, c, b, d, rfl, h.calm hb, h.keeps hb, slots_at hv hr1, hb, hr1, hr2⟩
end
theorem Grown.mr {I : AImpl} {m : Nat} {l : List En} {w w' : World} {p : Value} {A : Ar} {i : Nat} {t : Tr} {F : Nat → Prop} (h : Grown I m l w p A i t F w') : MR I w.heap.size w w' p A 0 (fun _ => False) :=
  ⟨⟨F, h.is, h.foot, fun k hk => hk.elim⟩, h.below, h.below.size⟩
/-! ### the kit's bounds of reads -/
theorem xhI_nat {n : Nat} (h : n ≤ 2147483647) : xhI (n : Int) = (xh n : Int) := by
  unfold xhI
  rw [if_pos ⟨by omega, by omega⟩, Int.toNat_natCast]
end Go.Proofs.Ytkhfofpbmnapjaa
