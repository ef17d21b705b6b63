/- Of the proofs of SetopsAlgebra, SetopsDistribute: LkCon, Scene, ScnMut, RefRsv, Got, JnAw, BkCon, Near, NearP, BkCol, Box8, Ins, HeldG. -/
import Derived.Test.YtfihklpofmcfgaaGreatB164
import Derived.Deep.DeepCutAuto
import Derived.Deep.RegionHeld3
set_option linter.unusedVariables false
set_option linter.unusedSimpArgs false
namespace Go.Proofs.YtfihklpofmcfgaaGreat
open Go.RowKit
/-- index i of the arena is the tree t with the entries l -/
structure TreeAt (A : Ar) (i : Nat) (t : Tr) (l : List En) : Prop where
  inv : ∃ held, A.Inv [] held
  agg : A.Agg
  sub : Sub A i t
  bal : t.bal = true
  ents : t.ents A.nd = l
  up : Up l
theorem Planted.tree {A A' : Ar} {held : Nat → Nat} {l : List En} {i : Nat} {t : Tr} (h : Planted A held l A' i t) (hu : Up l) : TreeAt A' i t l := ⟨⟨_, h.inv⟩, h.agg, h.sub, h.bal, h.ents, hu⟩
theorem TreeAt.size {A : Ar} {i : Nat} {t : Tr} {l : List En} (h : TreeAt A i t l) : t.size = l.length := by rw [← h.ents, Tr.ents_len]
theorem TreeAt.ht {A : Ar} {i : Nat} {t : Tr} {l : List En} (h : TreeAt A i t l) (hl : l.length ≤ 2147483647) : t.ht ≤ xh l.length := by
  have h1 := balT_ht h.agg h.sub (by rw [balT_bal h.agg h.sub]; exact h.bal)
  rw [h.size] at h1
  exact xh_le hl (by omega)
theorem TreeAt.idx {A : Ar} {i : Nat} {t : Tr} {l : List En} (h : TreeAt A i t l) : i < 4294967296 := by
  obtain ⟨held, hv⟩ := h.inv
  rcases h.sub.idx with h1 | h1
  · omega
  · have := hv.ok.on i h1; have := hv.ok.cap2; omega
/-- how often may be read -/
def mostI (n : Nat) : Int := 4 * ((xh n : Int) + 2)
/-- a call that reads: what it returns, what it leaves -/
def ReadsTo (I : AImpl) (p : Value) (A : Ar) (rd : Int) (F : Nat → Prop) (bd : Int) (v : Value) (w : World) (e : Ending) (w' : World) : Prop :=
  ∃ F' rd', e = .returned v ∧ Alters F F' w w' ∧ I.Is w' p A rd' F' ∧ rd ≤ rd' ∧ rd' ≤ rd + bd
/-- an entry, or none, as a result -/
def enR (o : Option En) : Value := .tuple #[.agg (enA o), .bool o.isSome]
/-- the indexes of the search -/
def pathT (nd : Nat → Nd) (k : Int) : Tr → List Nat
  | .nil => []
  | .node i l r => i :: (if k = (nd i).key then [] else if k < (nd i).key then pathT nd k l else pathT nd k r)
/-- a call that reads and returns a new row of numbers -/
def PathRes (I : AImpl) (p : Value) (A : Ar) (rd : Int) (F : Nat → Prop) (bd : Int) (P : List Nat) (w : World) (e : Ending) (w' : World) : Prop :=
  ∃ F' rd' a c, e = .returned (.slice a P.length c) ∧ Alters F F' w w' ∧ I.Is w' p A rd' F' ∧ rd ≤ rd' ∧ rd' ≤ rd + bd ∧ w'.ownsRow w.heap.size 26 1 (.slice a P.length c) P.length (u32s P) ∧ ∀ g, Value.ownBlock (.slice a P.length c) = some g → ¬ F' g
theorem pathT_ht (nd : Nat → Nd) (k : Int) : ∀ t : Tr, (pathT nd k t).length ≤ t.ht
  | .nil => Nat.le_refl _
  | .node i l r => by
    have h1 := pathT_ht nd k l
    have h2 := pathT_ht nd k r
    unfold pathT
    show _ ≤ 1 + max l.ht r.ht
    rw [List.length_cons]
    split
    · simp
    · split <;> omega
structure LkImpl (I : AImpl) : Prop where
  get : ∀ {p : Value} {A : Ar} {rd : Int} {F : Nat → Prop} {i : Nat} {t : Tr} {l : List En} (k : Int) (w : World), I.Is w p A rd F → TreeAt A i t l → 0 ≤ rd → rd ≤ 1099511627776 → i64R k →
    Calls Tryz.prog 67 #[p, .int .u32 (i : Int), .int .i64 k] w (ReadsTo I p A rd F (mostI l.length) (.tuple #[.int .i64 ((getE l k).elim 0 (·.val)), .bool (getE l k).isSome]) w)
  first : ∀ {p : Value} {A : Ar} {rd : Int} {F : Nat → Prop} {i : Nat} {t : Tr} {l : List En} (w : World), I.Is w p A rd F → TreeAt A i t l → 0 ≤ rd → rd ≤ 1099511627776 → (∀ e ∈ l, i64R e.key) →
    Calls Tryz.prog 120 #[p, .int .u32 (i : Int)] w (ReadsTo I p A rd F (mostI l.length) (enR l.head?) w)
  last : ∀ {p : Value} {A : Ar} {rd : Int} {F : Nat → Prop} {i : Nat} {t : Tr} {l : List En} (w : World), I.Is w p A rd F → TreeAt A i t l → 0 ≤ rd → rd ≤ 1099511627776 → (∀ e ∈ l, i64R e.key) →
    Calls Tryz.prog 119 #[p, .int .u32 (i : Int)] w (ReadsTo I p A rd F (mostI l.length) (enR l.getLast?) w)
  floor : ∀ {p : Value} {A : Ar} {rd : Int} {F : Nat → Prop} {i : Nat} {t : Tr} {l : List En} (k : Int) (w : World), I.Is w p A rd F → TreeAt A i t l → 0 ≤ rd → rd ≤ 1099511627776 → i64R k →
    Calls Tryz.prog 131 #[p, .int .u32 (i : Int), .int .i64 k] w (ReadsTo I p A rd F (mostI l.length) (enR (floorE l k)) w)
  ceiling : ∀ {p : Value} {A : Ar} {rd : Int} {F : Nat → Prop} {i : Nat} {t : Tr} {l : List En} (k : Int) (w : World), I.Is w p A rd F → TreeAt A i t l → 0 ≤ rd → rd ≤ 1099511627776 → i64R k →
    Calls Tryz.prog 132 #[p, .int .u32 (i : Int), .int .i64 k] w (ReadsTo I p A rd F (mostI l.length) (enR (ceilE l k)) w)
  path : ∀ {p : Value} {A : Ar} {rd : Int} {F : Nat → Prop} {i : Nat} {t : Tr} {l : List En} (k : Int) (w : World), I.Is w p A rd F → TreeAt A i t l → 0 ≤ rd → rd ≤ 1099511627776 → i64R k →
    Calls Tryz.prog 70 #[p, .int .u32 (i : Int), .int .i64 k] w (PathRes I p A rd F (mostI l.length) (pathT A.nd k t) w)
/-- the arena with its count of reads, beside the boxes of G -/
structure MR (I : AImpl) (B : Nat) (w0 w : World) (p : Value) (A : Ar) (rd : Int) (G : Nat → Prop) : Prop where
  has : ∃ F, I.Is w p A rd F ∧ (∀ k, F k → B ≤ k) ∧ ∀ k, G k → k < w.heap.size ∧ ¬ F k
  below : Below B w0 w
  hB : B ≤ w.heap.size
section
variable {I : AImpl} {B : Nat} {w0 w w' : World} {p : Value} {A : Ar} {rd : Int} {G : Nat → Prop}
theorem MR.calm (h : MR I B w0 w p A rd G) (hb : Below w.heap.size w w') : MR I B w0 w' p A rd G := by
  obtain ⟨F, h1, h4, h5⟩ := h.has
  exact ⟨⟨F, I.below h1 hb, h4, fun k hk => ⟨Nat.lt_of_lt_of_le (h5 k hk).1 hb.size, (h5 k hk).2⟩⟩, h.below.trans (hb.mono h.hB), Nat.le_trans h.hB hb.size⟩
theorem MR.lt (h : MR I B w0 w p A rd G) {k : Nat} (hk : G k) : k < w.heap.size := by
  obtain ⟨F, h1, h4, h5⟩ := h.has
  exact (h5 k hk).1
theorem MR.keeps (h : MR I B w0 w p A rd G) (hb : Below w.heap.size w w') : Keeps G w w' := fun k hk => hb.block k (h.lt hk)
theorem MR.alloc (h : MR I B w0 w p A rd G) (o : Obj) : MR I B w0 (w.alloc o) p A rd (fun k => G k ∨ k = w.heap.size) := by
  have hb := below_new7 w o
  have h' := h.calm hb
  obtain ⟨F, h1, h4, h5⟩ := h.has
  refine ⟨⟨F, I.below h1 hb, h4, fun k hk => ?_⟩, h'.below, h'.hB⟩
  rcases hk with hk | rfl
  · exact ⟨Nat.lt_of_lt_of_le (h5 k hk).1 hb.size, (h5 k hk).2⟩
  · exact ⟨by simp, fun hF => Nat.lt_irrefl _ (I.dom h1 _ hF)⟩
theorem MR.less {G' : Nat → Prop} (h : MR I B w0 w p A rd G) (hG : ∀ k, G' k → G k) : MR I B w0 w p A rd G' := by
  obtain ⟨F, h1, h4, h5⟩ := h.has
  exact ⟨⟨F, h1, h4, fun k hk => h5 k (hG k hk)⟩, h.below, h.hB⟩
/-- a fresh block joins the boxes -/
theorem MR.fresh {G' : Nat → Prop} (h : MR I B w0 w p A rd G) (hb : Below w.heap.size w w') (hG : ∀ k, G' k → G k ∨ (w.heap.size ≤ k ∧ k < w'.heap.size)) : MR I B w0 w' p A rd G' := by
  have h' := h.calm hb
  obtain ⟨F, h1, h4, h5⟩ := h.has
  refine ⟨⟨F, I.below h1 hb, h4, fun k hk => ?_⟩, h'.below, h'.hB⟩
  rcases hG k hk with hk | ⟨h6, h7⟩
  · exact ⟨Nat.lt_of_lt_of_le (h5 k hk).1 hb.size, (h5 k hk).2⟩
  · exact ⟨h7, fun hF => by have := I.dom h1 _ hF; omega⟩
theorem MR.step {rd' : Int} {F F' : Nat → Prop} (h : MR I B w0 w p A rd G) (hF : ∀ k, F k → B ≤ k) (hG : ∀ k, G k → k < w.heap.size ∧ ¬ F k) (hal : Alters F F' w w') (hI : I.Is w' p A rd' F') : MR I B w0 w' p A rd' G ∧ Keeps G w w' :=
  ⟨⟨⟨F', hI, hal.from h.hB hF, hal.apart hG⟩, hal.below h.below h.hB hF, Nat.le_trans h.hB hal.size⟩, fun k hk => hal.block k (hG k hk).1 (hG k hk).2⟩
/-- what a call that reads leaves beside boxes -/
def MRes (I : AImpl) (B : Nat) (w0 : World) (p : Value) (A : Ar) (rd bd : Int) (G : Nat → Prop) (v : Value) (w : World) (e : Ending) (w' : World) : Prop :=
  e = .returned v ∧ ∃ rd', MR I B w0 w' p A rd' G ∧ Keeps G w w' ∧ rd ≤ rd' ∧ rd' ≤ rd + bd
theorem mr_call {bd : Int} {v : Value} {f : FuncId} {args : Array Value} (h : MR I B w0 w p A rd G) (hc : ∀ F, I.Is w p A rd F → Calls Tryz.prog f args w (ReadsTo I p A rd F bd v w)) : Calls Tryz.prog f args w (MRes I B w0 p A rd bd G v w) := by
  obtain ⟨F, h1, h4, h5⟩ := h.has
  refine (hc F h1).mono ?_
  rintro e w1 ⟨F', rd', he, hal, hI, h6, h7⟩
  have := h.step h4 h5 hal hI
  exact ⟨he, rd', this.1, this.2, h6, h7⟩
end
theorem xhI_nat {n : Nat} (h : n ≤ 2147483647) : xhI (n : Int) = (xh n : Int) := by
  unfold xhI
  rw [if_pos ⟨by omega, by omega⟩, Int.toNat_natCast]
structure Row where
  e : TypeId
  s : Nat
  v : Value
  n : Nat
  xs : List Value
/-- the blocks of rows and boxes -/
def SG (rs : List Row) (bs : List (Nat × Obj)) (k : Nat) : Prop := (∃ r ∈ rs, r.v.ownBlock = some k) ∨ ∃ b ∈ bs, b.1 = k
structure Scn (I : AImpl) (B : Nat) (w0 w : World) (p : Value) (A : Ar) (rd : Int) (rs : List Row) (bs : List (Nat × Obj)) : Prop where
  mr : MR I B w0 w p A rd (SG rs bs)
  rows : ∀ r ∈ rs, w.ownsRow B r.e r.s r.v r.n r.xs
  boxes : ∀ b ∈ bs, B ≤ b.1 ∧ w.heap[b.1]? = some b.2
  rr : rs.Pairwise fun x y => ∀ k, x.v.ownBlock = some k → y.v.ownBlock ≠ some k
  bb : bs.Pairwise fun x y => x.1 ≠ y.1
  rb : ∀ r ∈ rs, ∀ b ∈ bs, r.v.ownBlock ≠ some b.1
section
variable {I : AImpl} {B : Nat} {w0 w w' : World} {p : Value} {A : Ar} {rd rd' : Int} {rs : List Row} {bs : List (Nat × Obj)}
theorem Scn.start (h : MR I B w0 w p A rd (fun _ => False)) : Scn I B w0 w p A rd [] [] :=
  ⟨h.less fun k hk => (by (rcases hk with ⟨r, hr, _⟩ | ⟨b, hb, _⟩); (cases hr); (cases hb)), fun r hr => (by cases hr), fun b hb => (by cases hb), List.Pairwise.nil, List.Pairwise.nil, fun r hr => (by cases hr)⟩
theorem Scn.step (h : Scn I B w0 w p A rd rs bs) (hm : MR I B w0 w' p A rd' (SG rs bs)) (hk : Keeps (SG rs bs) w w') : Scn I B w0 w' p A rd' rs bs :=
  ⟨hm, fun r hr => row_keep (h.rows r hr) fun k hk' => hk k (.inl ⟨r, hr, hk'⟩), fun b hb => ⟨(h.boxes b hb).1, (hk b.1 (.inr ⟨b, hb, rfl⟩)).trans (h.boxes b hb).2⟩, h.rr, h.bb, h.rb⟩
theorem Scn.calm (h : Scn I B w0 w p A rd rs bs) (hb : Below w.heap.size w w') : Scn I B w0 w' p A rd rs bs := h.step (h.mr.calm hb) (h.mr.keeps hb)
theorem Scn.lt (h : Scn I B w0 w p A rd rs bs) {k : Nat} (hk : SG rs bs k) : k < w.heap.size := h.mr.lt hk
/-- a new box -/
theorem Scn.box (h : Scn I B w0 w p A rd rs bs) (cs : Array Value) (t : TypeId) : Scn I B w0 (w.alloc (.cells cs t)) p A rd rs ((w.heap.size, .cells cs t (0, 0)) :: bs) := by
  have hb := below_new7 w (.cells cs t)
  have h' := h.calm hb
  refine ⟨h.mr.fresh hb fun k hk => ?_, h'.rows, fun b hb' => ?_, h.rr, List.pairwise_cons.2 ⟨fun b hb' e => ?_, h.bb⟩, fun r hr b hb' => ?_⟩
  · rcases hk with hk | ⟨b, hb', rfl⟩
    · exact .inl (.inl hk)
    · rcases List.mem_cons.1 hb' with rfl | hb'
      · exact .inr ⟨Nat.le_refl _, by simp⟩
      · exact .inl (.inr ⟨b, hb', rfl⟩)
  · rcases List.mem_cons.1 hb' with rfl | hb'
    · exact ⟨h.mr.hB, heap_alloc_new w _⟩
    · exact h'.boxes b hb'
  · have := h.lt (.inr ⟨b, hb', rfl⟩)
    have e' : w.heap.size = b.1 := e
    omega
  · rcases List.mem_cons.1 hb' with rfl | hb'
    · intro e
      have := h.lt (.inl ⟨r, hr, e⟩)
      exact Nat.lt_irrefl _ this
    · exact h.rb r hr b hb'
/-- a row that was made -/
theorem Scn.row (h : Scn I B w0 w p A rd rs bs) (hb : Below w.heap.size w w') {e : TypeId} {s n : Nat} {v : Value} {xs : List Value} (hr : w'.ownsRow w.heap.size e s v n xs) : Scn I B w0 w' p A rd (⟨e, s, v, n, xs⟩ :: rs) bs := by
  have h' := h.calm hb
  refine ⟨h.mr.fresh hb fun k hk => ?_, fun r hr' => ?_, h'.boxes, List.pairwise_cons.2 ⟨fun r hr' k hk e' => ?_, h.rr⟩, h.bb, fun r hr' b hb' => ?_⟩
  · rcases hk with ⟨r, hr', hk⟩ | hk
    · rcases List.mem_cons.1 hr' with rfl | hr'
      · exact .inr (row_lt hr k hk)
      · exact .inl (.inl ⟨r, hr', hk⟩)
    · exact .inl (.inr hk)
  · rcases List.mem_cons.1 hr' with rfl | hr'
    · exact row_mono hr h.mr.hB
    · exact h'.rows r hr'
  · have h1 := (row_lt hr k hk).1
    have h2 := h.lt (.inl ⟨r, hr', e'⟩)
    omega
  · rcases List.mem_cons.1 hr' with rfl | hr'
    · intro e'
      have h1 := (row_lt hr _ e').1
      have h2 := h.lt (.inr ⟨b, hb', rfl⟩)
      omega
    · exact h.rb r hr' b hb'
theorem Scn.below (h : Scn I B w0 w p A rd rs bs) : Below B w0 w := h.mr.below
end
theorem MR.stepA {I : AImpl} {B : Nat} {w0 w w' : World} {p : Value} {A A' : Ar} {rd rd' : Int} {G F F' : Nat → Prop} (h : MR I B w0 w p A rd G) (hF : ∀ k, F k → B ≤ k) (hG : ∀ k, G k → k < w.heap.size ∧ ¬ F k) (hal : Alters F F' w w') (hI : I.Is w' p A' rd' F') : MR I B w0 w' p A' rd' G ∧ Keeps G w w' :=
  ⟨⟨⟨F', hI, hal.from h.hB hF, hal.apart hG⟩, hal.below h.below h.hB hF, Nat.le_trans h.hB hal.size⟩, fun k hk => hal.block k (hG k hk).1 (hG k hk).2⟩
/-- a call that alters the arena: what it returns and leaves -/
def Mut (I : AImpl) (p : Value) (F : Nat → Prop) (Q : Ending → Ar → Int → Prop) (w : World) (e : Ending) (w' : World) : Prop :=
  ∃ F' A' rd', Alters F F' w w' ∧ I.Is w' p A' rd' F' ∧ Q e A' rd'
section
variable {I : AImpl} {B : Nat} {w0 w w' : World} {p : Value} {A : Ar} {rd rd' : Int} {rs : List Row} {bs : List (Nat × Obj)}
theorem Scn.stepA {A' : Ar} (h : Scn I B w0 w p A rd rs bs) (hm : MR I B w0 w' p A' rd' (SG rs bs)) (hk : Keeps (SG rs bs) w w') : Scn I B w0 w' p A' rd' rs bs :=
  ⟨hm, fun r hr => row_keep (h.rows r hr) fun k hk' => hk k (.inl ⟨r, hr, hk'⟩), fun b hb => ⟨(h.boxes b hb).1, (hk b.1 (.inr ⟨b, hb, rfl⟩)).trans (h.boxes b hb).2⟩, h.rr, h.bb, h.rb⟩
theorem Scn.mut {f : FuncId} {args : Array Value} {Q : Ending → Ar → Int → Prop} (h : Scn I B w0 w p A rd rs bs) (hc : ∀ F, I.Is w p A rd F → Calls Tryz.prog f args w (Mut I p F Q w)) :
    Calls Tryz.prog f args w fun e w' => ∃ A' rd', Q e A' rd' ∧ Scn I B w0 w' p A' rd' rs bs := by
  obtain ⟨F, f1, f2, f3⟩ := h.mr.has
  refine (hc F f1).mono ?_
  rintro e w1 ⟨F', A', rd', hal, hI, hq⟩
  have hst := h.mr.stepA f2 f3 hal hI
  exact ⟨A', rd', hq, h.stepA hst.1 hst.2⟩
end
theorem hof_nil : hof [] = fun _ => 0 := by
  funext i
  unfold hof
  split <;> simp
theorem hof_le (l : List Nat) (j : Nat) : hof l j ≤ l.length := by
  unfold hof
  split
  · exact Nat.zero_le _
  · exact List.count_le_length
def in64 (x : Int) : Prop := -9223372036854775808 ≤ x ∧ x ≤ 9223372036854775807
def vld (x : Int) : Prop := 0 ≤ x ∧ x ≤ 65536
instance (x : Int) : Decidable (vld x) := by unfold vld; exact inferInstance
def needI (a b c more extra factor : Int) : Int := if vld a ∧ vld b ∧ vld c then extra + factor * (xhI (a + b + c + more) + 2) else -1
theorem xhI_in {n : Int} (h0 : 0 ≤ n) (h1 : n ≤ 1000000) : 0 ≤ xhI n ∧ xhI n < 80 := by
  unfold xhI
  rw [if_pos ⟨h0, by omega⟩]
  have := (xh_spec (n := n.toNat) (by omega)).2.1
  omega
def delI (n : Int) : Int := needI n 0 0 0 0 4
def joinI (l r : Int) : Int := needI l r 0 1 0 4
def splitI (n : Int) : Int := needI n 0 0 0 0 12
def setI (l r : Int) : Int := needI l r 0 0 (l + r) 12
/-- j is the tree t with the entries l in B; what A had stays; one reference more, to j -/
structure Got (A : Ar) (held : Nat → Nat) (B : Ar) (j : Nat) (t : Tr) (l : List En) : Prop where
  kept : A.Kept B
  gen : ∀ i, A.σ.on i = true → B.σ.gen i = A.σ.gen i
  inv : B.Inv [] (pls held j)
  agg : B.Agg
  sub : Sub B j t
  ents : t.ents B.nd = l
  bal : t.bal = true
theorem Got.tree {A B : Ar} {held : Nat → Nat} {j : Nat} {t : Tr} {l : List En} (h : Got A held B j t l) (hu : Up l) : TreeAt B j t l := ⟨⟨_, h.inv⟩, h.agg, h.sub, h.bal, h.ents, hu⟩
theorem TreeAt.kept {A B : Ar} {held : Nat → Nat} {i : Nat} {t : Tr} {l : List En} (h : TreeAt A i t l) (hk : A.Kept B) (hB : B.Inv [] held) (hg : B.Agg) : TreeAt B i t l :=
  ⟨⟨_, hB⟩, hg, h.sub.kept hk, h.bal, (Tr.ents_kept hk h.sub).trans h.ents, h.up⟩
theorem hof_pls (l : List Nat) (i : Nat) : pls (hof l) i = hof (l ++ [i]) := by
  by_cases h : i = 0
  · subst h; rw [pls_zero, hof_zero]
  · unfold pls; rw [if_neg h, hof_more l h]
/-- two trees -/
structure Got2 (A : Ar) (held : Nat → Nat) (B : Ar) (j : Nat) (t : Tr) (l : List En) (k : Nat) (u : Tr) (m : List En) : Prop where
  kept : A.Kept B
  gen : ∀ i, A.σ.on i = true → B.σ.gen i = A.σ.gen i
  inv : B.Inv [] (pls (pls held j) k)
  agg : B.Agg
  sub : Sub B j t
  ents : t.ents B.nd = l
  bal : t.bal = true
  sub2 : Sub B k u
  ents2 : u.ents B.nd = m
  bal2 : u.bal = true
/-- numbers of 64 bits -/
def WfL (l : List En) : Prop := ∀ y ∈ l, i64R y.key ∧ i64R y.val
def AllLt (l : List En) (k : Int) : Prop := ∀ y ∈ l, y.key < k
def AllGt (l : List En) (k : Int) : Prop := ∀ y ∈ l, k < y.key
/-- how often Join and Concat may read -/
def joinBd (n m : Nat) : Int := 60 * ((xh (n + m + 1) : Int) + 2)
def splitBd (n : Nat) : Int := 120 * ((xh n : Int) + 2)
def JoinQ (A : Ar) (rd : Int) (held : Nat → Nat) (L R : Nat) (ll lr : List En) (e : En) (en : Ending) (B : Ar) (rd' : Int) : Prop :=
  rd ≤ rd' ∧ rd' ≤ rd + joinBd ll.length lr.length ∧ (
  (¬ (AllLt ll e.key ∧ AllGt lr e.key) ∧ en = .returned (.tuple #[.int .u32 0, .int .i64 7]) ∧ B = A) ∨
  ((AllLt ll e.key ∧ AllGt lr e.key) ∧ (A.σ.free.length : Int) < joinI (ll.length : Int) (lr.length : Int) ∧ en = .returned (.tuple #[.int .u32 0, .int .i64 2]) ∧ B = A) ∨
  ((AllLt ll e.key ∧ AllGt lr e.key) ∧ joinI (ll.length : Int) (lr.length : Int) ≤ (A.σ.free.length : Int) ∧ ∃ (j : Nat) (t : Tr), en = .returned (.tuple #[.int .u32 (j : Int), .int .i64 0]) ∧ Got A held B j t (ll ++ e :: lr) ∧
    (Proofs.YtfihklpofmcfgaaGreat.bal (ll.length : Int) (lr.length : Int) = true → (B.nd j).left = L ∧ (B.nd j).right = R ∧ B.σ.free.length + 1 = A.σ.free.length)))
def CatQ (A : Ar) (rd : Int) (held : Nat → Nat) (L R : Nat) (ll lr : List En) (en : Ending) (B : Ar) (rd' : Int) : Prop :=
  rd ≤ rd' ∧ rd' ≤ rd + joinBd ll.length lr.length ∧ (
  ((ll = [] ∨ lr = []) ∧ ∃ t : Tr, en = .returned (.tuple #[.int .u32 ((L + R : Nat) : Int), .int .i64 0]) ∧ Got A held B (L + R) t (ll ++ lr) ∧ B.σ.free.length = A.σ.free.length) ∨
  ((ll ≠ [] ∧ lr ≠ []) ∧ ¬ Up (ll ++ lr) ∧ en = .returned (.tuple #[.int .u32 0, .int .i64 7]) ∧ B = A) ∨
  ((ll ≠ [] ∧ lr ≠ []) ∧ Up (ll ++ lr) ∧ (A.σ.free.length : Int) < joinI (ll.length : Int) (lr.length : Int) ∧ en = .returned (.tuple #[.int .u32 0, .int .i64 2]) ∧ B = A) ∨
  ((ll ≠ [] ∧ lr ≠ []) ∧ Up (ll ++ lr) ∧ joinI (ll.length : Int) (lr.length : Int) ≤ (A.σ.free.length : Int) ∧ ∃ (j : Nat) (t : Tr), en = .returned (.tuple #[.int .u32 (j : Int), .int .i64 0]) ∧ Got A held B j t (ll ++ lr)))
def lowE (l : List En) (k : Int) : List En := l.filter fun y => decide (y.key < k)
def highE (l : List En) (k : Int) : List En := l.filter fun y => decide (k < y.key)
/-- the tree needs no change -/
def wholeE (l : List En) (k : Int) : Prop := getE l k = none ∧ (lowE l k = [] ∨ highE l k = [])
def SplitQ (A : Ar) (rd : Int) (held : Nat → Nat) (i : Nat) (l : List En) (k : Int) (en : Ending) (B : Ar) (rd' : Int) : Prop :=
  rd ≤ rd' ∧ rd' ≤ rd + splitBd l.length ∧ (
  (wholeE l k ∧ ∃ (x y : Nat) (tx ty : Tr), en = .returned (.tuple #[.int .u32 (x : Int), .int .i64 0, .bool false, .int .u32 (y : Int), .int .i64 0]) ∧ Got2 A held B x tx (lowE l k) y ty (highE l k) ∧ (lowE l k ≠ [] → x = i) ∧ (highE l k ≠ [] → y = i) ∧ B.σ.free.length = A.σ.free.length) ∨
  (¬ wholeE l k ∧ (A.σ.free.length : Int) < splitI (l.length : Int) ∧ en = .returned (.tuple #[.int .u32 0, .int .i64 0, .bool false, .int .u32 0, .int .i64 2]) ∧ B = A) ∨
  (¬ wholeE l k ∧ splitI (l.length : Int) ≤ (A.σ.free.length : Int) ∧ ∃ (x y : Nat) (tx ty : Tr), en = .returned (.tuple #[.int .u32 (x : Int), .int .i64 ((getE l k).elim 0 (·.val)), .bool (getE l k).isSome, .int .u32 (y : Int), .int .i64 0]) ∧ Got2 A held B x tx (lowE l k) y ty (highE l k)))
end Go.Proofs.YtfihklpofmcfgaaGreat
namespace Go.Proofs.YtfihklpofmcfgaaGreat
def Tr.idxs : Tr → List Nat
  | .nil => []
  | .node i l r => l.idxs ++ i :: r.idxs
theorem Tr.idxs_len : ∀ t : Tr, t.idxs.length = t.size
  | .nil => rfl
  | .node i l r => by
    show (l.idxs ++ i :: r.idxs).length = l.size + r.size + 1
    rw [List.length_append, List.length_cons, Tr.idxs_len l, Tr.idxs_len r]
    omega
theorem Sub.top_mem {A : Ar} {i : Nat} {t : Tr} (h : Sub A i t) : i = 0 ∨ i ∈ t.idxs := by
  cases h with
  | nil => exact .inl rfl
  | node i l r _ _ _ _ => exact .inr (by show i ∈ l.idxs ++ i :: r.idxs; simp)
theorem Sub.closed {A : Ar} {i : Nat} {t : Tr} (h : Sub A i t) : ∀ k ∈ t.idxs, ((A.nd k).left = 0 ∨ (A.nd k).left ∈ t.idxs) ∧ ((A.nd k).right = 0 ∨ (A.nd k).right ∈ t.idxs) := by
  induction h with
  | nil => intro k hk; cases hk
  | node i l r h0 h1 hl hr ihl ihr =>
    intro k hk
    show ((A.nd k).left = 0 ∨ (A.nd k).left ∈ l.idxs ++ i :: r.idxs) ∧ ((A.nd k).right = 0 ∨ (A.nd k).right ∈ l.idxs ++ i :: r.idxs)
    have hk' : k ∈ l.idxs ++ i :: r.idxs := hk
    rw [List.mem_append, List.mem_cons] at hk'
    simp only [List.mem_append, List.mem_cons]
    rcases hk' with hk' | rfl | hk'
    · have := ihl k hk'
      exact ⟨this.1.imp_right .inl, this.2.imp_right .inl⟩
    · have h2 := hl.top_mem
      have h3 := hr.top_mem
      exact ⟨h2.imp_right .inl, h3.imp_right fun h => .inr (.inr h)⟩
    · have := ihr k hk'
      exact ⟨this.1.imp_right fun h => .inr (.inr h), this.2.imp_right fun h => .inr (.inr h)⟩
/-- all that is reached lies in the trees -/
theorem reach_idxs {A : Ar} (hok : A.σ.Ok) {l : List Nat} {ts : List Tr} (hT : ∀ x ∈ l, ∃ t ∈ ts, Sub A x t) {k : Nat} (h : A.Reach (hof l) k) : k = 0 ∨ ∃ t ∈ ts, (∃ i, Sub A i t) ∧ k ∈ t.idxs := by
  induction h with
  | root i hi =>
    unfold hof at hi
    split at hi
    · cases hi
    · have hm : i ∈ l := by
        rcases Nat.eq_zero_or_pos (l.count i) with h | h
        · omega
        · exact List.count_pos_iff.1 h
      obtain ⟨t, ht, hs⟩ := hT i hm
      exact hs.top_mem.imp_right fun h => ⟨t, ht, ⟨i, hs⟩, h⟩
  | left k hon hk ih =>
    rcases ih with rfl | ⟨t, ht, ⟨i, hs⟩, hm⟩
    · exact absurd (hok.on 0 hon).1 (by decide)
    · exact (hs.closed k hm).1.imp_right fun h => ⟨t, ht, ⟨i, hs⟩, h⟩
  | right k hon hk ih =>
    rcases ih with rfl | ⟨t, ht, ⟨i, hs⟩, hm⟩
    · exact absurd (hok.on 0 hon).1 (by decide)
    · exact (hs.closed k hm).2.imp_right fun h => ⟨t, ht, ⟨i, hs⟩, h⟩
theorem sub_len : ∀ (l m : List Nat), l.Nodup → (∀ x ∈ l, x ∈ m) → l.length ≤ m.length
  | [], m, _, _ => Nat.zero_le _
  | x :: t, m, hn, hs => by
    rw [List.nodup_cons] at hn
    have h1 := sub_len t (m.erase x) hn.2 fun y hy => (List.mem_erase_of_ne (fun (e : y = x) => hn.1 (e ▸ hy))).2 (hs y (by simp [hy]))
    have hx : x ∈ m := hs x (by simp)
    rw [List.length_erase_of_mem hx] at h1
    have := List.length_pos_of_mem hx
    rw [List.length_cons]
    omega
theorem Ar.Inv.used {A : Ar} {l : List Nat} {ts : List Tr} (h : A.Inv [] (hof l)) (ha : A.Agg) (hT : ∀ x ∈ l, ∃ t ∈ ts, Sub A x t) : A.σ.cap ≤ A.σ.free.length + (ts.map Tr.size).sum := by
  have h1 : (List.range' 1 A.σ.cap).length ≤ (A.σ.free ++ ts.flatMap Tr.idxs).length := sub_len _ _ List.nodup_range' fun x hx => by
    have hx' := List.mem_range'_1.1 hx
    rw [List.mem_append]
    cases ho : A.σ.on x with
    | false => exact .inl ((h.ok.free x).2 ⟨by omega, by omega, ho⟩)
    | true =>
      have hr := Ar.reach_all h ha 2147483648 x ho (by have := (ha.size x ho).1; omega)
      rcases reach_idxs h.ok hT hr with rfl | ⟨t, ht, -, hm⟩
      · omega
      · exact .inr (List.mem_flatMap.2 ⟨t, ht, hm⟩)
  rw [List.length_range', List.length_append, List.length_flatMap] at h1
  have h2 : (ts.map fun t => t.idxs.length).sum = (ts.map Tr.size).sum := by congr 1; exact List.map_congr_left fun t _ => t.idxs_len
  have h3 : (List.map (List.length ∘ Tr.idxs) ts).sum = (ts.map Tr.size).sum := h2
  omega
open Go.RowKit
theorem low_up {l : List En} (h : Up l) (k : Int) : Up (lowE l k) := List.Pairwise.filter _ h
theorem high_up {l : List En} (h : Up l) (k : Int) : Up (highE l k) := List.Pairwise.filter _ h
theorem getE_found {l : List En} (hu : Up l) {e : En} (hm : e ∈ l) : getE l e.key = some e := by
  cases hg : getE l e.key with
  | none =>
    exfalso
    unfold getE at hg
    have := List.find?_eq_none.1 hg e hm
    simp at this
  | some e' =>
    unfold getE at hg
    have h1 := List.mem_of_find?_eq_some hg
    have h2 : e'.key = e.key := by simpa using List.find?_some hg
    obtain ⟨i, hi, rfl⟩ := List.mem_iff_getElem.1 hm
    obtain ⟨j, hj, rfl⟩ := List.mem_iff_getElem.1 h1
    rcases Nat.lt_trichotomy i j with h | h | h
    · have := List.pairwise_iff_getElem.1 hu i j hi hj h; omega
    · subst h; rfl
    · have := List.pairwise_iff_getElem.1 hu j i hj hi h; omega
section
variable {I : AImpl} {B : Nat} {w0 w : World} {p : Value} {A : Ar} {rd : Int} {rs : List Row} {bs : List (Nat × Obj)}
theorem Scn.size (h : Scn I B w0 w p A rd rs bs) (h0 : 0 ≤ rd) (h1 : rd ≤ 4398046511104) {i : Nat} {t : Tr} {l : List En} (hT : TreeAt A i t l) :
    Calls Tryz.prog 27 #[p, .int .u32 (i : Int)] w fun e w' => e = .returned (.int .i64 (l.length : Int)) ∧ ∃ rd', Scn I B w0 w' p A rd' rs bs ∧ rd ≤ rd' ∧ rd' ≤ rd + 1 := by
  obtain ⟨F, f1, f2, f3⟩ := h.mr.has
  refine (I.size p A rd F i w f1 h0 (by omega) hT.idx).mono ?_
  rintro e w1 ⟨F', hal, h5, h6⟩
  have hsz := hT.sub.size hT.agg
  rw [hT.size] at hsz
  rcases hT.sub.idx with h7 | h7
  · have hoff : A.σ.on i = false := by
      subst h7
      cases hc : A.σ.on 0 with
      | false => rfl
      | true => have := (I.ok f1).on 0 hc; omega
    obtain ⟨rfl, h8⟩ := h5 hoff
    have hst := h.mr.step f2 f3 hal h8
    have hz : A.sz i = 0 := by unfold Ar.sz; rw [if_pos h7]
    exact ⟨by rw [hz] at hsz; rw [← hsz], rd, h.step hst.1 hst.2, by omega, by omega⟩
  · obtain ⟨rfl, h8⟩ := h6 h7
    have hst := h.mr.step f2 f3 hal h8
    have h9 : i ≠ 0 := by have := (I.ok f1).on i h7; omega
    have hz : A.sz i = (A.nd i).size := by unfold Ar.sz; rw [if_neg h9]
    exact ⟨by rw [← hsz, hz], rd + 1, h.step hst.1 hst.2, by omega, by omega⟩
end
def l1 : List En := [⟨1, 10⟩]
theorem l1_up : Up l1 := by unfold Up l1; simp
theorem l1_wf : WfL l1 := by
  intro y hy
  simp [l1] at hy
  subst hy
  exact ⟨⟨by decide, by decide⟩, ⟨by decide, by decide⟩⟩
theorem l1_at (w : World) (t : TypeId) : EnsAt (w.alloc (.cells #[.int .i64 1, .int .i64 10] t)) (some ⟨w.heap.size, 0, none⟩) l1 := by
  have hr := heap_alloc_new w (.cells #[.int .i64 1, .int .i64 10] t)
  refine ⟨fun j e he => ⟨w.heap.size, 0, rfl, by simp, ?_⟩, l1_wf⟩
  match j, he with
  | 0, he => cases he; constructor <;> (rw [cell_of_row _ _ _ _ _ _ hr]; rfl)
  | j + 1, he => simp [l1] at he
/-- the shape of a tree that is built from a list -/
def Tr.mid : Tr → Prop
  | .nil => True
  | .node _ l r => l.size = (l.size + r.size + 1) / 2 ∧ l.mid ∧ r.mid
def bulkBd (n m : Nat) : Int := 12 * ((xh n : Int) + 2) + 4 * (m : Int)
/-- the first entries -/
def firstE (l : List En) (k : Int) : List En := l.take k.toNat
/-- a call that reads and returns a new row of entries -/
def EnsRes (I : AImpl) (p : Value) (A : Ar) (rd : Int) (F : Nat → Prop) (bd : Int) (P : List En) (w : World) (e : Ending) (w' : World) : Prop :=
  ∃ F' rd' a c, e = .returned (.slice a P.length c) ∧ Alters F F' w w' ∧ I.Is w' p A rd' F' ∧ rd ≤ rd' ∧ rd' ≤ rd + bd ∧ w'.ownsRow w.heap.size 69 2 (.slice a P.length c) P.length (ensV P) ∧ ∀ g, Value.ownBlock (.slice a P.length c) = some g → ¬ F' g
def BuildQ (A : Ar) (rd : Int) (held : Nat → Nat) (l : List En) (en : Ending) (B : Ar) (rd' : Int) : Prop :=
  rd ≤ rd' ∧ rd' ≤ rd + 16 * (l.length : Int) + 64 ∧ (
  (¬ Up l ∧ en = .returned (.tuple #[.int .u32 0, .int .i64 7]) ∧ B = A) ∨
  (Up l ∧ A.σ.free.length < l.length ∧ en = .returned (.tuple #[.int .u32 0, .int .i64 2]) ∧ B = A) ∨
  (Up l ∧ l.length ≤ A.σ.free.length ∧ ∃ (j : Nat) (t : Tr), en = .returned (.tuple #[.int .u32 (j : Int), .int .i64 0]) ∧ Got A held B j t l ∧ t.mid ∧ B.σ.free.length + l.length = A.σ.free.length))
structure BkImpl (I : AImpl) : Prop where
  build : ∀ {p : Value} {A : Ar} {rd : Int} {F : Nat → Prop} {held : Nat → Nat} {a : Option Addr} {n c : Nat} {l : List En} (w : World), I.Is w p A rd F → A.Inv [] held → A.Agg → (∀ j, held j ≤ 1048000) → EnsAt w a l → l.length = n → n ≤ 65536 → (n ≠ 0 → ∀ b off, a = some ⟨b, off, none⟩ → ¬ F b) → n ≤ c → c ≤ maxLen → 0 ≤ rd → rd ≤ 1099509000000 →
    Calls Tryz.prog 31 #[p, .slice a n c] w (Mut I p F (BuildQ A rd held l) w)
  list : ∀ {p : Value} {A : Ar} {rd : Int} {F : Nat → Prop} {i : Nat} {t : Tr} {l : List En} (w : World), I.Is w p A rd F → TreeAt A i t l → WfL l → 0 ≤ rd → rd ≤ 1099509000000 →
    Calls Tryz.prog 29 #[p, .int .u32 (i : Int)] w (EnsRes I p A rd F (bulkBd l.length l.length) l w)
  range : ∀ {p : Value} {A : Ar} {rd : Int} {F : Nat → Prop} {i : Nat} {t : Tr} {l : List En} (lo hi lim : Int) (w : World), I.Is w p A rd F → TreeAt A i t l → 0 ≤ rd → rd ≤ 1099509000000 → i64R lo → i64R hi → i64R lim →
    Calls Tryz.prog 59 #[p, .int .u32 (i : Int), .int .i64 lo, .int .i64 hi, .int .i64 lim] w (EnsRes I p A rd F (bulkBd l.length (firstE (betE l lo hi) lim).length) (firstE (betE l lo hi) lim) w)
section
variable {I : AImpl} {B : Nat} {w0 w w' : World} {p : Value} {A : Ar} {rd rd' : Int} {rs : List Row} {bs : List (Nat × Obj)}
/-- a call that reads and makes a row of entries, beside rows and boxes -/
theorem Scn.ens {bd : Int} {P : List En} {f : FuncId} {args : Array Value} (h : Scn I B w0 w p A rd rs bs) (hc : ∀ F, I.Is w p A rd F → Calls Tryz.prog f args w (EnsRes I p A rd F bd P w)) {N : Nat} (hN : P.length = N) :
    Calls Tryz.prog f args w fun e w' => ∃ a c rd', e = .returned (.slice a N c) ∧ Scn I B w0 w' p A rd' (⟨69, 2, .slice a N c, N, ensV P⟩ :: rs) bs ∧ rd ≤ rd' ∧ rd' ≤ rd + bd := by
  subst hN
  obtain ⟨F, f1, f2, f3⟩ := h.mr.has
  refine (hc F f1).mono ?_
  rintro e w1 ⟨F', rd', a, c, rfl, hal, hI, h6, h7, hr, hnF⟩
  have hst := h.mr.step f2 f3 hal hI
  have h1 := h.step hst.1 hst.2
  have hap := hal.apart f3
  refine ⟨a, c, rd', rfl, ⟨⟨⟨F', hI, hal.from h.mr.hB f2, fun k hk => ?_⟩, h1.mr.below, h1.mr.hB⟩, fun r hr' => ?_, h1.boxes, List.pairwise_cons.2 ⟨fun r hr' k hk e' => ?_, h1.rr⟩, h1.bb, fun r hr' b hb' => ?_⟩, h6, h7⟩
  · rcases hk with ⟨r, hr', hk⟩ | hk
    · rcases List.mem_cons.1 hr' with rfl | hr'
      · exact ⟨(row_lt hr k hk).2, hnF k hk⟩
      · exact hap k (.inl ⟨r, hr', hk⟩)
    · exact hap k (.inr hk)
  · rcases List.mem_cons.1 hr' with rfl | hr'
    · exact row_mono hr h.mr.hB
    · exact h1.rows r hr'
  · have h2 := (row_lt hr k hk).1
    have h3 := h.lt (.inl ⟨r, hr', e'⟩)
    omega
  · rcases List.mem_cons.1 hr' with rfl | hr'
    · intro e'
      have h2 := (row_lt hr _ e').1
      have h3 := h.lt (.inr ⟨b, hb', rfl⟩)
      omega
    · exact h1.rb r hr' b hb'
end
end Go.Proofs.YtfihklpofmcfgaaGreat
namespace Go.Proofs.YtfihklpofmcfgaaGreat
theorem rankE_cons (x : En) (t : List En) (k : Int) : rankE (x :: t) k = rankE t k + (if x.key < k then 1 else 0) := by
  unfold rankE
  rw [List.countP_cons]
  by_cases h : x.key < k <;> simp [h]
theorem rankE_zero : ∀ {t : List En} {k : Int}, (∀ y ∈ t, k ≤ y.key) → rankE t k = 0
  | [], k, h => rfl
  | x :: t, k, h => by
    rw [rankE_cons, rankE_zero (fun y hy => h y (by simp [hy])), if_neg (by have := h x (by simp); omega)]
/-- the entries before the rank have lesser keys, those behind it none -/
theorem rank_iff : ∀ {l : List En} (k : Int), Up l → ∀ {j : Nat} {e : En}, l[j]? = some e → (e.key < k ↔ j < rankE l k)
  | [], k, h, j, e, he => by simp at he
  | x :: t, k, h, j, e, he => by
    unfold Up at h
    rw [List.pairwise_cons] at h
    rw [rankE_cons]
    match j, he with
    | 0, he =>
      simp at he
      subst he
      by_cases hx : x.key < k
      · rw [if_pos hx]; exact ⟨fun _ => by omega, fun _ => hx⟩
      · rw [if_neg hx, rankE_zero (fun y hy => by have := h.1 y hy; omega)]
        exact ⟨fun h => absurd h hx, fun h => absurd h (by omega)⟩
    | j + 1, he =>
      simp at he
      have hm := List.mem_of_getElem? he
      have hlt := h.1 e hm
      have ih := rank_iff k h.2 he
      by_cases hx : x.key < k
      · rw [if_pos hx]
        exact ⟨fun h => by have := ih.1 h; omega, fun h => ih.2 (by omega)⟩
      · rw [if_neg hx, rankE_zero (fun y hy => by have := h.1 y hy; omega)]
        exact ⟨fun h => by omega, fun h => by omega⟩
theorem rank_of {l : List En} (h : Up l) {j : Nat} {e : En} (he : l[j]? = some e) : rankE l e.key = j := by
  have h1 := rank_iff e.key h he
  have hj := (List.getElem?_eq_some_iff.1 he).1
  rcases Nat.lt_trichotomy (rankE l e.key) j with h2 | h2 | h2
  · have h3 : l[rankE l e.key]? = some l[rankE l e.key] := List.getElem?_eq_getElem (by omega)
    have h4 := rank_iff e.key h h3
    have h5 : l[rankE l e.key].key < e.key := by
      have := List.pairwise_iff_getElem.1 h (rankE l e.key) j (by omega) hj h2
      rw [List.getElem?_eq_getElem hj] at he
      have e2 : l[j].key = e.key := by rw [Option.some.inj he]
      omega
    have := h4.1 h5
    omega
  · exact h2
  · have := h1.2 h2; omega
theorem get_some {l : List En} {k : Int} {e : En} (h : getE l k = some e) : e ∈ l ∧ e.key = k := by
  unfold getE at h
  have h2 := List.find?_some h
  exact ⟨List.mem_of_find?_eq_some h, of_decide_eq_true h2⟩
theorem get_none {l : List En} {k : Int} (h : getE l k = none) : ∀ e ∈ l, e.key ≠ k := fun e he => by
  unfold getE at h
  have := List.find?_eq_none.1 h e he
  simpa using this
theorem selE_nat (l : List En) (j : Nat) : selE l (j : Int) = l[j]? := by unfold selE; rw [if_pos (by omega), Int.toNat_natCast]
theorem selE_pred (l : List En) (j : Nat) : selE l ((j : Int) - 1) = if j = 0 then none else l[j - 1]? := by
  unfold selE
  by_cases h : j = 0
  · rw [if_pos h, if_neg (by omega)]
  · rw [if_neg h, if_pos (by omega), show ((j : Int) - 1).toNat = j - 1 by omega]
theorem up_app {A B : List En} {e : En} (h : Up (A ++ e :: B)) : Up A ∧ Up B ∧ (∀ x ∈ A, x.key < e.key) ∧ ∀ x ∈ B, e.key < x.key := by
  unfold Up at *
  rw [List.pairwise_append, List.pairwise_cons] at h
  exact ⟨h.1, h.2.1.2, fun x hx => h.2.2 x hx e (by simp), h.2.1.1⟩
theorem rankE_app (A B : List En) (k : Int) : rankE (A ++ B) k = rankE A k + rankE B k := by unfold rankE; exact List.countP_append
theorem rankE_all : ∀ {A : List En} {k : Int}, (∀ x ∈ A, x.key < k) → rankE A k = A.length
  | [], k, h => rfl
  | x :: t, k, h => by rw [rankE_cons, rankE_all (fun y hy => h y (by simp [hy])), if_pos (h x (by simp))]; rfl
/-- the rank of the next number -/
theorem rank_next {l : List En} (h : Up l) (k : Int) : rankE l (k + 1) = rankE l k + (if (getE l k).isSome then 1 else 0) := by
  cases hg : getE l k with
  | none =>
    have h1 := get_none hg
    show rankE l (k + 1) = rankE l k
    unfold rankE
    exact List.countP_congr fun e he => by
      have := h1 e he
      simp only [decide_eq_true_eq]
      omega
  | some e =>
    obtain ⟨hm, rfl⟩ := get_some hg
    obtain ⟨j, hj, hje⟩ := List.mem_iff_getElem.1 hm
    have hje' : l[j]? = some e := by rw [List.getElem?_eq_getElem hj, hje]
    rw [rank_of h hje']
    show rankE l (e.key + 1) = j + 1
    have h1 := (rank_iff (e.key + 1) h hje').1 (by omega)
    rcases Nat.lt_or_ge (j + 1) (rankE l (e.key + 1)) with h2 | h2
    · have h3 := rankE_le l (e.key + 1)
      have hb : l[j + 1]? = some l[j + 1] := List.getElem?_eq_getElem (by omega)
      have h4 := (rank_iff (e.key + 1) h hb).2 h2
      have h5 := List.pairwise_iff_getElem.1 h j (j + 1) hj (by omega) (by omega)
      rw [hje] at h5
      omega
    · omega
theorem floor_below {l : List En} (h : Up l) (k : Int) : floorE l k = belowE l (k + 1) := by
  unfold floorE belowE
  rw [rank_next h k]
  cases hg : (getE l k).isSome with
  | true => rw [if_pos rfl, if_pos rfl]; congr 1; omega
  | false => rfl
theorem below_node {A B : List En} {e : En} (h : Up (A ++ e :: B)) (k : Int) : belowE (A ++ e :: B) k = if e.key < k then (belowE B k).or (some e) else belowE A k := by
  obtain ⟨h1, h2, h3, h4⟩ := up_app h
  unfold belowE
  rw [rankE_app, rankE_cons, selE_pred]
  by_cases hk : e.key < k
  · rw [if_pos hk, rankE_all (A := A) (fun x hx => by have := h3 x hx; omega), if_neg (by omega), if_pos hk, selE_pred]
    by_cases h0 : rankE B k = 0
    · rw [if_pos h0, h0, show A.length + (0 + 1) - 1 = A.length by omega]
      rw [List.getElem?_append_right (Nat.le_refl _), Nat.sub_self]
      rfl
    · rw [if_neg h0, show A.length + (rankE B k + 1) - 1 = A.length + rankE B k by omega, List.getElem?_append_right (by omega), show A.length + rankE B k - A.length = (rankE B k - 1) + 1 by omega, List.getElem?_cons_succ]
      have := rankE_le B k
      rw [List.getElem?_eq_getElem (by omega)]
      rfl
  · rw [if_neg hk, if_neg hk, rankE_zero (t := B) (fun y hy => by have := h4 y hy; omega), selE_pred]
    simp only [Nat.add_zero]
    by_cases h0 : rankE A k = 0
    · rw [if_pos h0, if_pos h0]
    · have := rankE_le A k
      rw [if_neg h0, if_neg h0, List.getElem?_append_left (by omega)]
theorem ceil_node {A B : List En} {e : En} (h : Up (A ++ e :: B)) (k : Int) : ceilE (A ++ e :: B) k = if e.key < k then ceilE B k else (ceilE A k).or (some e) := by
  obtain ⟨h1, h2, h3, h4⟩ := up_app h
  unfold ceilE
  rw [rankE_app, rankE_cons, selE_nat, selE_nat, selE_nat]
  by_cases hk : e.key < k
  · rw [if_pos hk, if_pos hk, rankE_all (A := A) (fun x hx => by have := h3 x hx; omega), List.getElem?_append_right (by omega), show A.length + (rankE B k + 1) - A.length = rankE B k + 1 by omega, List.getElem?_cons_succ]
  · rw [if_neg hk, if_neg hk, rankE_zero (t := B) (fun y hy => by have := h4 y hy; omega)]
    simp only [Nat.add_zero]
    have := rankE_le A k
    rcases Nat.lt_or_ge (rankE A k) A.length with h0 | h0
    · rw [List.getElem?_append_left h0, List.getElem?_eq_getElem h0]; rfl
    · rw [List.getElem?_append_right h0, show rankE A k - A.length = 0 by omega, List.getElem?_eq_none h0]; rfl
theorem getE_app (A B : List En) (k : Int) : getE (A ++ B) k = (getE A k).or (getE B k) := by unfold getE; exact List.find?_append
theorem getE_none {l : List En} {k : Int} (h : ∀ e ∈ l, e.key ≠ k) : getE l k = none := by
  unfold getE
  exact List.find?_eq_none.2 fun e he => by simpa using h e he
theorem get_node {A B : List En} {e : En} (h : Up (A ++ e :: B)) (k : Int) : getE (A ++ e :: B) k = if k = e.key then some e else if k < e.key then getE A k else getE B k := by
  obtain ⟨h1, h2, h3, h4⟩ := up_app h
  rw [getE_app]
  have hc : getE (e :: B) k = if e.key = k then some e else getE B k := getE_step (l := e :: B) (j := 0) rfl k
  rw [hc]
  by_cases hk : k = e.key
  · rw [if_pos hk, if_pos hk.symm, getE_none (fun x hx => by have := h3 x hx; omega)]; rfl
  · rw [if_neg hk, if_neg (fun e => hk e.symm)]
    by_cases hl : k < e.key
    · rw [if_pos hl, getE_none (l := B) (fun x hx => by have := h4 x hx; omega)]
      cases getE A k <;> rfl
    · rw [if_neg hl, getE_none (l := A) (fun x hx => by have := h3 x hx; omega)]; rfl
theorem fil0C {l : List En} {q : En → Bool} (h : ∀ e ∈ l, q e = false) : l.filter q = [] := by rw [List.filter_eq_nil_iff]; intro e he; rw [h e he]; simp
theorem fil1C {l : List En} {q : En → Bool} (h : ∀ e ∈ l, q e = true) : l.filter q = l := List.filter_eq_self.2 h
/-- what it takes on the left of node i; the node itself, where m are still wanted -/
def lefC (nd : Nat → Nd) (lo : Int) (i : Nat) (g : List En) : List En := if lo < (nd i).key then g else []
def midC (nd : Nat → Nd) (lo hi : Int) (i m : Nat) (g : List En) : List En := if (lo ≤ (nd i).key ∧ (nd i).key ≤ hi) ∧ g.length < m then [⟨(nd i).key, (nd i).val⟩] else []
/-- the entries that collect takes -/
def gotC (nd : Nat → Nd) (lo hi : Int) : Tr → Nat → List En
  | .nil, _ => []
  | .node i l r, m => if m = 0 then [] else
      lefC nd lo i (gotC nd lo hi l m) ++ (midC nd lo hi i m (lefC nd lo i (gotC nd lo hi l m)) ++
      (if (nd i).key < hi then gotC nd lo hi r (m - (lefC nd lo i (gotC nd lo hi l m) ++ midC nd lo hi i m (lefC nd lo i (gotC nd lo hi l m))).length) else []))
/-- how many nodes it reads -/
def visC (nd : Nat → Nd) (lo hi : Int) : Tr → Nat → Nat
  | .nil, _ => 0
  | .node i l r, m => if m = 0 then 0 else 1 + (if lo < (nd i).key then visC nd lo hi l m else 0) +
      (if (nd i).key < hi then visC nd lo hi r (m - (lefC nd lo i (gotC nd lo hi l m) ++ midC nd lo hi i m (lefC nd lo i (gotC nd lo hi l m))).length) else 0)
theorem bet_app (a b : List En) (lo hi : Int) : betE (a ++ b) lo hi = betE a lo hi ++ betE b lo hi := List.filter_append ..
theorem bet_cons (e : En) (b : List En) (lo hi : Int) : betE (e :: b) lo hi = (if lo ≤ e.key ∧ e.key ≤ hi then [e] else []) ++ betE b lo hi := by
  unfold betE
  rw [List.filter_cons]
  by_cases h : lo ≤ e.key ∧ e.key ≤ hi
  · rw [if_pos (by simpa using h), if_pos h]; rfl
  · rw [if_neg (by simpa using h), if_neg h]; rfl
theorem bet_nil_of {l : List En} {lo hi : Int} (h : ∀ x ∈ l, x.key < lo ∨ hi < x.key) : betE l lo hi = [] := fil0C fun x hx => by have := h x hx; simp; omega
theorem bet_all_of {l : List En} {lo hi : Int} (h : ∀ x ∈ l, lo ≤ x.key ∧ x.key ≤ hi) : betE l lo hi = l := fil1C fun x hx => by have := h x hx; simp; omega
theorem gotC_zero (nd : Nat → Nd) (lo hi : Int) : ∀ t, gotC nd lo hi t 0 = []
  | .nil => rfl
  | .node i l r => by unfold gotC; rw [if_pos rfl]
theorem visC_zero (nd : Nat → Nd) (lo hi : Int) : ∀ t, visC nd lo hi t 0 = 0
  | .nil => rfl
  | .node i l r => by unfold visC; rw [if_pos rfl]
theorem gotC_spec (nd : Nat → Nd) (lo hi : Int) : ∀ (t : Tr) (m : Nat), Up (t.ents nd) → gotC nd lo hi t m = (betE (t.ents nd) lo hi).take m
  | .nil, m, _ => by simp [gotC, Tr.ents, Tr.idx, betE]
  | .node i l r, m, hu => by
    rw [Tr.ents_node] at hu ⊢
    obtain ⟨hl, hr, h3, h4⟩ := up_app hu
    by_cases hm : m = 0
    · subst hm; rw [gotC_zero, List.take_zero]
    have ihl : lefC nd lo i (gotC nd lo hi l m) = (betE (l.ents nd) lo hi).take m := by
      unfold lefC
      by_cases hk : lo < (nd i).key
      · rw [if_pos hk, gotC_spec nd lo hi l m hl]
      · rw [if_neg hk, bet_nil_of (l := l.ents nd) (fun x hx => .inl (by have h : x.key < (nd i).key := h3 x hx; omega)), List.take_nil]
    unfold gotC
    rw [if_neg hm, ihl, bet_app, bet_cons, List.take_append]
    congr 1
    have hlt : ((betE (l.ents nd) lo hi).take m).length < m ↔ (betE (l.ents nd) lo hi).length < m := by rw [List.length_take]; omega
    have hmid : midC nd lo hi i m ((betE (l.ents nd) lo hi).take m) = (if lo ≤ (⟨(nd i).key, (nd i).val⟩ : En).key ∧ (⟨(nd i).key, (nd i).val⟩ : En).key ≤ hi then [(⟨(nd i).key, (nd i).val⟩ : En)] else []).take (m - (betE (l.ents nd) lo hi).length) := by
      unfold midC
      show _ = (if lo ≤ (nd i).key ∧ (nd i).key ≤ hi then [(⟨(nd i).key, (nd i).val⟩ : En)] else []).take _
      by_cases h1 : lo ≤ (nd i).key ∧ (nd i).key ≤ hi
      · rw [if_pos h1]
        by_cases h2 : (betE (l.ents nd) lo hi).length < m
        · rw [if_pos ⟨h1, hlt.2 h2⟩, List.take_of_length_le (by simp; omega)]
        · rw [if_neg (fun q => h2 (hlt.1 q.2)), show m - (betE (l.ents nd) lo hi).length = 0 by omega, List.take_zero]
      · rw [if_neg h1, if_neg (fun q => h1 q.1), List.take_nil]
    rw [List.take_append, hmid]
    congr 1
    by_cases hk : (nd i).key < hi
    · rw [if_pos hk, gotC_spec nd lo hi r _ hr]
      congr 1
      rw [List.length_append, List.length_take, List.length_take]
      omega
    · rw [if_neg hk, bet_nil_of (l := r.ents nd) (fun x hx => .inr (by have h : (nd i).key < x.key := h4 x hx; omega)), List.take_nil]
theorem gotC_len {nd : Nat → Nd} {lo hi : Int} {t : Tr} {m : Nat} (hu : Up (t.ents nd)) : (gotC nd lo hi t m).length = min m (betE (t.ents nd) lo hi).length := by rw [gotC_spec nd lo hi t m hu, List.length_take]
theorem visC_size (nd : Nat → Nd) (lo hi : Int) : ∀ (t : Tr) (m : Nat), visC nd lo hi t m ≤ t.size
  | .nil, _ => Nat.le_refl _
  | .node i l r, m => by
    have h1 := visC_size nd lo hi l m
    unfold visC
    show _ ≤ l.size + r.size + 1
    split
    · omega
    · have h2 := visC_size nd lo hi r (m - (lefC nd lo i (gotC nd lo hi l m) ++ midC nd lo hi i m (lefC nd lo i (gotC nd lo hi l m))).length)
      split <;> split <;> omega
/-- a node's count, by its parts: L, M, R what is taken on the left, at the node, on the right -/
theorem visC_node (nd : Nat → Nd) (lo hi : Int) (i : Nat) (l r : Tr) (m : Nat) (hm : m ≠ 0) :
    ∃ (L M R : Nat) (vl vr : Nat), (gotC nd lo hi (.node i l r) m).length = L + (M + R) ∧ visC nd lo hi (.node i l r) m = 1 + vl + vr ∧
      ((lo < (nd i).key ∧ L = (gotC nd lo hi l m).length ∧ vl = visC nd lo hi l m) ∨ (¬ lo < (nd i).key ∧ L = 0 ∧ vl = 0)) ∧
      ((((lo ≤ (nd i).key ∧ (nd i).key ≤ hi) ∧ L < m) ∧ M = 1) ∨ (¬ ((lo ≤ (nd i).key ∧ (nd i).key ≤ hi) ∧ L < m) ∧ M = 0)) ∧
      (((nd i).key < hi ∧ R = (gotC nd lo hi r (m - (L + M))).length ∧ vr = visC nd lo hi r (m - (L + M))) ∨ (¬ (nd i).key < hi ∧ R = 0 ∧ vr = 0)) := by
  refine ⟨(lefC nd lo i (gotC nd lo hi l m)).length, (midC nd lo hi i m (lefC nd lo i (gotC nd lo hi l m))).length, (if (nd i).key < hi then gotC nd lo hi r (m - (lefC nd lo i (gotC nd lo hi l m) ++ midC nd lo hi i m (lefC nd lo i (gotC nd lo hi l m))).length) else []).length, (if lo < (nd i).key then visC nd lo hi l m else 0), (if (nd i).key < hi then visC nd lo hi r (m - (lefC nd lo i (gotC nd lo hi l m) ++ midC nd lo hi i m (lefC nd lo i (gotC nd lo hi l m))).length) else 0), ?_, ?_, ?_, ?_, ?_⟩
  · rw [gotC, if_neg hm, List.length_append, List.length_append]
  · rw [visC, if_neg hm]
  · unfold lefC
    by_cases h : lo < (nd i).key
    · rw [if_pos h, if_pos h]; exact .inl ⟨h, rfl, rfl⟩
    · rw [if_neg h, if_neg h]; exact .inr ⟨h, rfl, rfl⟩
  · generalize lefC nd lo i (gotC nd lo hi l m) = g
    unfold midC
    by_cases h : (lo ≤ (nd i).key ∧ (nd i).key ≤ hi) ∧ g.length < m
    · rw [if_pos h]; exact .inl ⟨h, rfl⟩
    · rw [if_neg h]; exact .inr ⟨h, rfl⟩
  · rw [List.length_append]
    by_cases h : (nd i).key < hi
    · rw [if_pos h, if_pos h]; exact .inl ⟨h, rfl, rfl⟩
    · rw [if_neg h, if_neg h]; exact .inr ⟨h, rfl, rfl⟩
theorem Tr.ents_left {nd : Nat → Nd} {i : Nat} {l r : Tr} {q : En → Prop} (h : ∀ x ∈ (Tr.node i l r).ents nd, q x) : (∀ x ∈ l.ents nd, q x) ∧ q ⟨(nd i).key, (nd i).val⟩ ∧ ∀ x ∈ r.ents nd, q x := by
  rw [Tr.ents_node] at h
  exact ⟨fun x hx => h x (by simp [hx]), h _ (by simp), fun x hx => h x (by simp [hx])⟩
/-- all keys are at least lo -/
theorem vis_lo (nd : Nat → Nd) (lo hi : Int) : ∀ (t : Tr) (m : Nat), Up (t.ents nd) → (∀ x ∈ t.ents nd, lo ≤ x.key) → visC nd lo hi t m ≤ (gotC nd lo hi t m).length + t.ht
  | .nil, m, _, _ => Nat.zero_le _
  | .node i l r, m, hu, ha => by
    by_cases hm : m = 0
    · subst hm; rw [visC_zero]; exact Nat.zero_le _
    obtain ⟨hal, hai, har⟩ := Tr.ents_left ha
    rw [Tr.ents_node] at hu
    obtain ⟨hl, hr, h3, h4⟩ := up_app hu
    obtain ⟨L, M, R, vl, vr, e1, e2, eL, eM, eR⟩ := visC_node nd lo hi i l r m hm
    have il := vis_lo nd lo hi l m hl hal
    have ir := vis_lo nd lo hi r (m - (L + M)) hr har
    have sl := visC_size nd lo hi l m
    have hai' : lo ≤ (nd i).key := hai
    have hht : (Tr.node i l r).ht = 1 + max l.ht r.ht := rfl
    have hgl := gotC_len (m := m) (lo := lo) (hi := hi) hl
    have hfull : (nd i).key ≤ hi → betE (l.ents nd) lo hi = l.ents nd := fun q => bet_all_of fun x hx => ⟨hal x hx, by have h : x.key < (nd i).key := h3 x hx; omega⟩
    have hsz := Tr.ents_len nd l
    rw [e1, e2, hht]
    rcases eM with ⟨⟨hb, hLm⟩, hM⟩ | ⟨hb, hM⟩
    · rw [hfull hb.2] at hgl
      rcases eL with ⟨h1, h2, h5⟩ | ⟨h1, h2, h5⟩ <;> rcases eR with ⟨h6, h7, h8⟩ | ⟨h6, h7, h8⟩ <;> omega
    · by_cases hk : (nd i).key ≤ hi
      · have h0 : m - (L + M) = 0 := by
          have : ¬ L < m := fun q => hb ⟨⟨hai', hk⟩, q⟩
          omega
        rw [h0, visC_zero] at ir
        rw [h0] at eR
        rw [visC_zero] at eR
        rcases eL with ⟨h1, h2, h5⟩ | ⟨h1, h2, h5⟩ <;> rcases eR with ⟨h6, h7, h8⟩ | ⟨h6, h7, h8⟩ <;> omega
      · rcases eL with ⟨h1, h2, h5⟩ | ⟨h1, h2, h5⟩ <;> rcases eR with ⟨h6, h7, h8⟩ | ⟨h6, h7, h8⟩ <;> omega
/-- all keys are at most hi, and all that are wanted are taken -/
theorem vis_hi (nd : Nat → Nd) (lo hi : Int) : ∀ (t : Tr) (m : Nat), Up (t.ents nd) → (∀ x ∈ t.ents nd, x.key ≤ hi) → (betE (t.ents nd) lo hi).length ≤ m → visC nd lo hi t m ≤ (gotC nd lo hi t m).length + t.ht
  | .nil, m, _, _, _ => Nat.zero_le _
  | .node i l r, m, hu, ha, hb => by
    by_cases hm : m = 0
    · subst hm; rw [visC_zero]; exact Nat.zero_le _
    obtain ⟨hal, hai, har⟩ := Tr.ents_left ha
    rw [Tr.ents_node] at hu hb
    obtain ⟨hl, hr, h3, h4⟩ := up_app hu
    obtain ⟨L, M, R, vl, vr, e1, e2, eL, eM, eR⟩ := visC_node nd lo hi i l r m hm
    have hai' : (nd i).key ≤ hi := hai
    rw [bet_app, bet_cons, List.length_append, List.length_append] at hb
    have hb1 : (if lo ≤ (nd i).key ∧ (nd i).key ≤ hi then [(⟨(nd i).key, (nd i).val⟩ : En)] else []).length = if lo ≤ (nd i).key then 1 else 0 := by
      by_cases h : lo ≤ (nd i).key
      · rw [if_pos ⟨h, hai'⟩, if_pos h]; rfl
      · rw [if_neg (fun q => h q.1), if_neg h]; rfl
    replace hb : (betE (l.ents nd) lo hi).length + ((if lo ≤ (nd i).key then 1 else 0) + (betE (r.ents nd) lo hi).length) ≤ m := by rw [← hb1]; exact hb
    have il := vis_hi nd lo hi l m hl hal (by omega)
    have ir := vis_hi nd lo hi r (m - (L + M)) hr har
    have sr := visC_size nd lo hi r (m - (L + M))
    have hht : (Tr.node i l r).ht = 1 + max l.ht r.ht := rfl
    have hgl := gotC_len (m := m) (lo := lo) (hi := hi) hl
    have hgr := gotC_len (m := m - (L + M)) (lo := lo) (hi := hi) hr
    have hfull : lo ≤ (nd i).key → betE (r.ents nd) lo hi = r.ents nd := fun q => bet_all_of fun x hx => ⟨by have h : (nd i).key < x.key := h4 x hx; omega, har x hx⟩
    have hnone : ¬ lo < (nd i).key → betE (l.ents nd) lo hi = [] := fun q => bet_nil_of fun x hx => .inl (by have h : x.key < (nd i).key := h3 x hx; omega)
    have hsz := Tr.ents_len nd r
    rw [e1, e2, hht]
    rcases eL with ⟨h1, h2, h5⟩ | ⟨h1, h2, h5⟩
    · rw [if_pos (by omega)] at hb
      rw [hfull (by omega)] at hb hgr
      rcases eM with ⟨⟨hc, hLm⟩, hM⟩ | ⟨hc, hM⟩
      · rcases eR with ⟨h6, h7, h8⟩ | ⟨h6, h7, h8⟩ <;> omega
      · exact absurd ⟨⟨by omega, hai'⟩, by omega⟩ hc
    · rw [hnone h1] at hb
      have h0 : ([] : List En).length = 0 := rfl
      rw [h0] at hb
      have ir' := ir (by
        rcases eM with ⟨⟨hc, hLm⟩, hM⟩ | ⟨hc, hM⟩
        · rw [if_pos hc.1] at hb; omega
        · have : (0 : Nat) ≤ (if lo ≤ (nd i).key then 1 else 0) := Nat.zero_le _
          omega)
      rcases eM with ⟨⟨hc, hLm⟩, hM⟩ | ⟨hc, hM⟩ <;> rcases eR with ⟨h6, h7, h8⟩ | ⟨h6, h7, h8⟩ <;> omega
theorem vis_all (nd : Nat → Nd) (lo hi : Int) : ∀ (t : Tr) (m : Nat), Up (t.ents nd) → visC nd lo hi t m ≤ (gotC nd lo hi t m).length + 2 * t.ht
  | .nil, m, _ => Nat.zero_le _
  | .node i l r, m, hu => by
    by_cases hm : m = 0
    · subst hm; rw [visC_zero]; exact Nat.zero_le _
    rw [Tr.ents_node] at hu
    obtain ⟨hl, hr, h3, h4⟩ := up_app hu
    obtain ⟨L, M, R, vl, vr, e1, e2, eL, eM, eR⟩ := visC_node nd lo hi i l r m hm
    have il := vis_all nd lo hi l m hl
    have ir := vis_all nd lo hi r (m - (L + M)) hr
    have hht : (Tr.node i l r).ht = 1 + max l.ht r.ht := rfl
    have hgl := gotC_len (m := m) (lo := lo) (hi := hi) hl
    have hlt : (nd i).key ≤ hi → (betE (l.ents nd) lo hi).length ≤ m → visC nd lo hi l m ≤ (gotC nd lo hi l m).length + l.ht := fun q => vis_hi nd lo hi l m hl (fun x hx => by have h : x.key < (nd i).key := h3 x hx; omega)
    have hgt : lo ≤ (nd i).key → visC nd lo hi r (m - (L + M)) ≤ (gotC nd lo hi r (m - (L + M))).length + r.ht := fun q => vis_lo nd lo hi r _ hr (fun x hx => by have h : (nd i).key < x.key := h4 x hx; omega)
    rw [e1, e2, hht]
    by_cases hk1 : (nd i).key < lo
    · rcases eL with ⟨h1, h2, h5⟩ | ⟨h1, h2, h5⟩ <;> rcases eR with ⟨h6, h7, h8⟩ | ⟨h6, h7, h8⟩ <;> omega
    by_cases hk2 : hi < (nd i).key
    · rcases eL with ⟨h1, h2, h5⟩ | ⟨h1, h2, h5⟩ <;> rcases eR with ⟨h6, h7, h8⟩ | ⟨h6, h7, h8⟩ <;> omega
    have hgt' := hgt (by omega)
    by_cases hc : (betE (l.ents nd) lo hi).length ≤ m
    · have hlt' := hlt (by omega) hc
      rcases eL with ⟨h1, h2, h5⟩ | ⟨h1, h2, h5⟩ <;> rcases eR with ⟨h6, h7, h8⟩ | ⟨h6, h7, h8⟩ <;> omega
    · rcases eL with ⟨h1, h2, h5⟩ | ⟨h1, h2, h5⟩
      · have h0 : m - (L + M) = 0 := by omega
        rw [h0, visC_zero] at eR
        rcases eR with ⟨h6, h7, h8⟩ | ⟨h6, h7, h8⟩ <;> omega
      · rcases eR with ⟨h6, h7, h8⟩ | ⟨h6, h7, h8⟩ <;> omega
open Go.RowKit
section
variable {w0 w w' : World} {D : List (Nat × Nd)} {a b c : Nat} {X Y Z Y1 Y2 Y3 : Nd}
/-- a world with eight cells written -/
def put8 (w : World) (a : Nat) (Y : Nd) : World := ((((((((w.setCell ⟨a, 0, none⟩ (.int .i64 Y.key)).setCell ⟨a, 1, none⟩ (.int .i64 Y.val)).setCell ⟨a, 2, none⟩ (.int .u32 (Y.left : Int))).setCell ⟨a, 3, none⟩ (.int .u32 (Y.right : Int))).setCell ⟨a, 4, none⟩ (.int .i64 Y.size)).setCell ⟨a, 5, none⟩ (.int .i64 Y.sum)).setCell ⟨a, 6, none⟩ (.int .i64 Y.mn)).setCell ⟨a, 7, none⟩ (.int .i64 Y.mx))
theorem put8_size (w : World) (g : Nat) (Y : Nd) : (put8 w g Y).heap.size = w.heap.size := by simp [put8, World.setCell]
theorem put8_other (w : World) (g : Nat) (Y : Nd) {k : Nat} (hk : k ≠ g) : (put8 w g Y).heap[k]? = w.heap[k]? := by
  unfold put8
  rw [heap_setCell_other _ _ _ _ hk, heap_setCell_other _ _ _ _ hk, heap_setCell_other _ _ _ _ hk, heap_setCell_other _ _ _ _ hk, heap_setCell_other _ _ _ _ hk, heap_setCell_other _ _ _ _ hk, heap_setCell_other _ _ _ _ hk, heap_setCell_other _ _ _ _ hk]
theorem put8_same {t : TypeId} (h : w.heap[a]? = some (.cells (ndRow X) t (0, 0))) : (put8 w a Y).heap[a]? = some (.cells (ndRow Y) t (0, 0)) := by
  have h0 : (w.setCell ⟨a, 0, none⟩ (.int .i64 Y.key)).heap[a]? = some (.cells #[Value.int .i64 Y.key, .int .i64 X.val, .int .u32 (X.left : Int), .int .u32 (X.right : Int), .int .i64 X.size, .int .i64 X.sum, .int .i64 X.mn, .int .i64 X.mx] t (0, 0)) := by rw [heap_setCell_same _ _ _ _ _ _ h]; rfl
  have h1 : ((w.setCell ⟨a, 0, none⟩ (.int .i64 Y.key)).setCell ⟨a, 1, none⟩ (.int .i64 Y.val)).heap[a]? = some (.cells #[Value.int .i64 Y.key, .int .i64 Y.val, .int .u32 (X.left : Int), .int .u32 (X.right : Int), .int .i64 X.size, .int .i64 X.sum, .int .i64 X.mn, .int .i64 X.mx] t (0, 0)) := by rw [heap_setCell_same _ _ _ _ _ _ h0]; rfl
  have h2 : (((w.setCell ⟨a, 0, none⟩ (.int .i64 Y.key)).setCell ⟨a, 1, none⟩ (.int .i64 Y.val)).setCell ⟨a, 2, none⟩ (.int .u32 (Y.left : Int))).heap[a]? = some (.cells #[Value.int .i64 Y.key, .int .i64 Y.val, .int .u32 (Y.left : Int), .int .u32 (X.right : Int), .int .i64 X.size, .int .i64 X.sum, .int .i64 X.mn, .int .i64 X.mx] t (0, 0)) := by rw [heap_setCell_same _ _ _ _ _ _ h1]; rfl
  have h3 : ((((w.setCell ⟨a, 0, none⟩ (.int .i64 Y.key)).setCell ⟨a, 1, none⟩ (.int .i64 Y.val)).setCell ⟨a, 2, none⟩ (.int .u32 (Y.left : Int))).setCell ⟨a, 3, none⟩ (.int .u32 (Y.right : Int))).heap[a]? = some (.cells #[Value.int .i64 Y.key, .int .i64 Y.val, .int .u32 (Y.left : Int), .int .u32 (Y.right : Int), .int .i64 X.size, .int .i64 X.sum, .int .i64 X.mn, .int .i64 X.mx] t (0, 0)) := by rw [heap_setCell_same _ _ _ _ _ _ h2]; rfl
  have h4 : (((((w.setCell ⟨a, 0, none⟩ (.int .i64 Y.key)).setCell ⟨a, 1, none⟩ (.int .i64 Y.val)).setCell ⟨a, 2, none⟩ (.int .u32 (Y.left : Int))).setCell ⟨a, 3, none⟩ (.int .u32 (Y.right : Int))).setCell ⟨a, 4, none⟩ (.int .i64 Y.size)).heap[a]? = some (.cells #[Value.int .i64 Y.key, .int .i64 Y.val, .int .u32 (Y.left : Int), .int .u32 (Y.right : Int), .int .i64 Y.size, .int .i64 X.sum, .int .i64 X.mn, .int .i64 X.mx] t (0, 0)) := by rw [heap_setCell_same _ _ _ _ _ _ h3]; rfl
  have h5 : ((((((w.setCell ⟨a, 0, none⟩ (.int .i64 Y.key)).setCell ⟨a, 1, none⟩ (.int .i64 Y.val)).setCell ⟨a, 2, none⟩ (.int .u32 (Y.left : Int))).setCell ⟨a, 3, none⟩ (.int .u32 (Y.right : Int))).setCell ⟨a, 4, none⟩ (.int .i64 Y.size)).setCell ⟨a, 5, none⟩ (.int .i64 Y.sum)).heap[a]? = some (.cells #[Value.int .i64 Y.key, .int .i64 Y.val, .int .u32 (Y.left : Int), .int .u32 (Y.right : Int), .int .i64 Y.size, .int .i64 Y.sum, .int .i64 X.mn, .int .i64 X.mx] t (0, 0)) := by rw [heap_setCell_same _ _ _ _ _ _ h4]; rfl
  have h6 : (((((((w.setCell ⟨a, 0, none⟩ (.int .i64 Y.key)).setCell ⟨a, 1, none⟩ (.int .i64 Y.val)).setCell ⟨a, 2, none⟩ (.int .u32 (Y.left : Int))).setCell ⟨a, 3, none⟩ (.int .u32 (Y.right : Int))).setCell ⟨a, 4, none⟩ (.int .i64 Y.size)).setCell ⟨a, 5, none⟩ (.int .i64 Y.sum)).setCell ⟨a, 6, none⟩ (.int .i64 Y.mn)).heap[a]? = some (.cells #[Value.int .i64 Y.key, .int .i64 Y.val, .int .u32 (Y.left : Int), .int .u32 (Y.right : Int), .int .i64 Y.size, .int .i64 Y.sum, .int .i64 Y.mn, .int .i64 X.mx] t (0, 0)) := by rw [heap_setCell_same _ _ _ _ _ _ h5]; rfl
  have h7 : ((((((((w.setCell ⟨a, 0, none⟩ (.int .i64 Y.key)).setCell ⟨a, 1, none⟩ (.int .i64 Y.val)).setCell ⟨a, 2, none⟩ (.int .u32 (Y.left : Int))).setCell ⟨a, 3, none⟩ (.int .u32 (Y.right : Int))).setCell ⟨a, 4, none⟩ (.int .i64 Y.size)).setCell ⟨a, 5, none⟩ (.int .i64 Y.sum)).setCell ⟨a, 6, none⟩ (.int .i64 Y.mn)).setCell ⟨a, 7, none⟩ (.int .i64 Y.mx)).heap[a]? = some (.cells #[Value.int .i64 Y.key, .int .i64 Y.val, .int .u32 (Y.left : Int), .int .u32 (Y.right : Int), .int .i64 Y.size, .int .i64 Y.sum, .int .i64 Y.mn, .int .i64 Y.mx] t (0, 0)) := by rw [heap_setCell_same _ _ _ _ _ _ h6]; rfl
  exact h7
theorem put8_below {n0 : Nat} (hw : n0 ≤ a) : Below n0 w (put8 w a Y) := (((((((((Below.refl _ _).setCell hw _).setCell hw _).setCell hw _).setCell hw _).setCell hw _).setCell hw _).setCell hw _).setCell hw _)
/-- eight cells and their marks -/
def Row8 (w : World) (a : Nat) (X : Nd) : Prop :=
  (w.cell? ⟨a, 0, none⟩ = some (.int .i64 X.key) ∧ w.cell? ⟨a, 1, none⟩ = some (.int .i64 X.val) ∧ w.cell? ⟨a, 2, none⟩ = some (.int .u32 (X.left : Int)) ∧ w.cell? ⟨a, 3, none⟩ = some (.int .u32 (X.right : Int)) ∧ w.cell? ⟨a, 4, none⟩ = some (.int .i64 X.size) ∧ w.cell? ⟨a, 5, none⟩ = some (.int .i64 X.sum) ∧ w.cell? ⟨a, 6, none⟩ = some (.int .i64 X.mn) ∧ w.cell? ⟨a, 7, none⟩ = some (.int .i64 X.mx)) ∧
  (w.frozen? ⟨a, 0, none⟩ = false ∧ w.frozen? ⟨a, 1, none⟩ = false ∧ w.frozen? ⟨a, 2, none⟩ = false ∧ w.frozen? ⟨a, 3, none⟩ = false ∧ w.frozen? ⟨a, 4, none⟩ = false ∧ w.frozen? ⟨a, 5, none⟩ = false ∧ w.frozen? ⟨a, 6, none⟩ = false ∧ w.frozen? ⟨a, 7, none⟩ = false)
theorem row8_of {t : TypeId} (h : w.heap[a]? = some (.cells (ndRow X) t (0, 0))) : Row8 w a X :=
  ⟨⟨(by rw [cell_of_row _ _ _ _ _ _ h]; rfl), (by rw [cell_of_row _ _ _ _ _ _ h]; rfl), (by rw [cell_of_row _ _ _ _ _ _ h]; rfl), (by rw [cell_of_row _ _ _ _ _ _ h]; rfl), (by rw [cell_of_row _ _ _ _ _ _ h]; rfl), (by rw [cell_of_row _ _ _ _ _ _ h]; rfl), (by rw [cell_of_row _ _ _ _ _ _ h]; rfl), (by rw [cell_of_row _ _ _ _ _ _ h]; rfl)⟩,
   ⟨frozen_of_row w a 0 _ _ h, frozen_of_row w a 1 _ _ h, frozen_of_row w a 2 _ _ h, frozen_of_row w a 3 _ _ h, frozen_of_row w a 4 _ _ h, frozen_of_row w a 5 _ _ h, frozen_of_row w a 6 _ _ h, frozen_of_row w a 7 _ _ h⟩⟩
theorem sz_al (w : World) (o : Obj) : (w.alloc o).heap.size = w.heap.size + 1 := by simp
end
/-- what lay there and is none of the arena's -/
def OldI (w : World) (F : Nat → Prop) (k : Nat) : Prop := k < w.heap.size ∧ ¬ F k
structure Ins (I : AImpl) (w : World) (F : Nat → Prop) (p : Value) (A : Ar) (rd : Int) (rs : List Row) (bs : List (Nat × Obj)) (wr : World) : Prop where
  mr : MR I 0 w wr p A rd (fun k => OldI w F k ∨ SG rs bs k)
  kp : Keeps (OldI w F) w wr
  rows : ∀ r ∈ rs, wr.ownsRow w.heap.size r.e r.s r.v r.n r.xs
  boxes : ∀ b ∈ bs, w.heap.size ≤ b.1 ∧ wr.heap[b.1]? = some b.2
  rr : rs.Pairwise fun x y => ∀ k, x.v.ownBlock = some k → y.v.ownBlock ≠ some k
  bb : bs.Pairwise fun x y => x.1 ≠ y.1
  rb : ∀ r ∈ rs, ∀ b ∈ bs, r.v.ownBlock ≠ some b.1
section
variable {I : AImpl} {w wr wx : World} {F : Nat → Prop} {p : Value} {A A' : Ar} {rd rd' : Int} {rs : List Row} {bs : List (Nat × Obj)}
theorem Ins.start (h : I.Is w p A rd F) : Ins I w F p A rd [] [] w :=
  ⟨⟨⟨F, h, fun _ _ => Nat.zero_le _, fun k hk => by (rcases hk with hk | ⟨r, hr, _⟩ | ⟨b, hb, _⟩; exact hk; cases hr; cases hb)⟩, Below.refl _ _, Nat.zero_le _⟩, fun _ _ => rfl, fun r hr => (by cases hr), fun b hb => (by cases hb), List.Pairwise.nil, List.Pairwise.nil, fun r hr => (by cases hr)⟩
theorem Ins.size (h : Ins I w F p A rd rs bs wr) : w.heap.size ≤ wr.heap.size := h.mr.below.size
theorem Ins.calm (h : Ins I w F p A rd rs bs wr) (hb : Below wr.heap.size wr wx) : Ins I w F p A rd rs bs wx :=
  ⟨h.mr.calm hb, fun k hk => (h.mr.keeps hb k (.inl hk)).trans (h.kp k hk), fun r hr => row_below (h.rows r hr) hb, fun b hb' => ⟨(h.boxes b hb').1, (h.mr.keeps hb b.1 (.inr (.inr ⟨b, hb', rfl⟩))).trans (h.boxes b hb').2⟩, h.rr, h.bb, h.rb⟩
theorem Ins.lt (h : Ins I w F p A rd rs bs wr) {k : Nat} (hk : SG rs bs k) : k < wr.heap.size := h.mr.lt (.inr hk)
/-- a new box -/
theorem Ins.box (h : Ins I w F p A rd rs bs wr) (cs : Array Value) (t : TypeId) : Ins I w F p A rd rs ((wr.heap.size, .cells cs t (0, 0)) :: bs) (wr.alloc (.cells cs t)) := by
  have hb := below_new7 wr (.cells cs t)
  have h' := h.calm hb
  refine ⟨h.mr.fresh hb fun k hk => ?_, h'.kp, h'.rows, fun b hb' => ?_, h.rr, List.pairwise_cons.2 ⟨fun b hb' e => ?_, h.bb⟩, fun r hr b hb' => ?_⟩
  · rcases hk with hk | hk | ⟨b, hb', rfl⟩
    · exact .inl (.inl hk)
    · exact .inl (.inr (.inl hk))
    · rcases List.mem_cons.1 hb' with rfl | hb'
      · exact .inr ⟨Nat.le_refl _, by simp⟩
      · exact .inl (.inr (.inr ⟨b, hb', rfl⟩))
  · rcases List.mem_cons.1 hb' with rfl | hb'
    · exact ⟨h.size, heap_alloc_new wr _⟩
    · exact h'.boxes b hb'
  · have := h.lt (.inr ⟨b, hb', rfl⟩)
    have e' : wr.heap.size = b.1 := e
    omega
  · rcases List.mem_cons.1 hb' with rfl | hb'
    · intro e
      have := h.lt (.inl ⟨r, hr, e⟩)
      exact Nat.lt_irrefl _ this
    · exact h.rb r hr b hb'
theorem Ins.less {rs' : List Row} {bs' : List (Nat × Obj)} (h : Ins I w F p A rd rs bs wr) (h1 : rs'.Sublist rs) (h2 : bs'.Sublist bs) : Ins I w F p A rd rs' bs' wr :=
  ⟨h.mr.less fun k hk => hk.imp_right fun hk => by (rcases hk with ⟨r, hr, hk⟩ | ⟨b, hb, hk⟩; exact .inl ⟨r, h1.subset hr, hk⟩; exact .inr ⟨b, h2.subset hb, hk⟩), h.kp, fun r hr => h.rows r (h1.subset hr), fun b hb => h.boxes b (h2.subset hb), h.rr.sublist h1, h.bb.sublist h2, fun r hr b hb => h.rb r (h1.subset hr) b (h2.subset hb)⟩
theorem Ins.perm {bs' : List (Nat × Obj)} (h : Ins I w F p A rd rs bs wr) (hp : bs.Perm bs') : Ins I w F p A rd rs bs' wr :=
  ⟨h.mr.less fun k hk => hk.imp_right fun hk => by (rcases hk with ⟨r, hr, hk⟩ | ⟨b, hb, hk⟩; exact .inl ⟨r, hr, hk⟩; exact .inr ⟨b, hp.mem_iff.2 hb, hk⟩), h.kp, h.rows, fun b hb => h.boxes b (hp.mem_iff.2 hb), h.rr, hp.pairwise h.bb (fun e e' => e e'.symm), fun r hr b hb => h.rb r hr b (hp.mem_iff.2 hb)⟩
/-- the first box is written anew -/
theorem Ins.set {g : Nat} {o o' : Obj} (h : Ins I w F p A rd rs ((g, o) :: bs) wr) (hw : wx.heap[g]? = some o') (ho : wx.os = wr.os ∧ wx.tape = wr.tape ∧ wx.output = wr.output ∧ wx.heap.size = wr.heap.size ∧ ∀ k, k ≠ g → wx.heap[k]? = wr.heap[k]?) :
    Ins I w F p A rd rs ((g, o') :: bs) wx := by
  obtain ⟨o1, o2, o3, o4, o5⟩ := ho
  obtain ⟨F1, f1, f2, f3⟩ := h.mr.has
  obtain ⟨h1, h2⟩ := List.pairwise_cons.1 h.bb
  have hg := (h.boxes (g, o) (by simp)).1
  have hgF := (f3 g (.inr (.inr ⟨(g, o), by simp, rfl⟩))).2
  refine ⟨⟨⟨F1, I.keep f1 fun k hk => o5 k fun e => hgF (e ▸ hk), f2, fun k hk => ?_⟩, h.mr.below.trans ⟨o1, o2, o3, Nat.le_of_eq o4.symm, fun k hk => absurd hk (Nat.not_lt_zero k)⟩, Nat.zero_le _⟩, fun k hk => (o5 k fun e => by subst e; have := hk.1; have hg' : w.heap.size ≤ k := hg; omega).trans (h.kp k hk), fun r hr => row_keep (h.rows r hr) fun k hk => o5 k fun e => h.rb r hr (g, o) (by simp) (e ▸ hk), fun b hb => ?_, h.rr, List.pairwise_cons.2 ⟨h1, h2⟩, fun r hr b hb => ?_⟩
  · have : OldI w F k ∨ SG rs ((g, o) :: bs) k := hk.imp_right fun hk => by
      rcases hk with hk | ⟨b, hb, rfl⟩
      · exact .inl hk
      · rcases List.mem_cons.1 hb with rfl | hb
        · exact .inr ⟨(g, o), by simp, rfl⟩
        · exact .inr ⟨b, by simp [hb], rfl⟩
    exact ⟨by rw [o4]; exact (f3 k this).1, (f3 k this).2⟩
  · rcases List.mem_cons.1 hb with rfl | hb
    · exact ⟨hg, hw⟩
    · exact ⟨(h.boxes b (by simp [hb])).1, (o5 b.1 (fun e => h1 b hb e.symm)).trans (h.boxes b (by simp [hb])).2⟩
  · rcases List.mem_cons.1 hb with rfl | hb
    · exact h.rb r hr (g, o) (by simp)
    · exact h.rb r hr b (by simp [hb])
theorem Ins.put {g : Nat} {X Y : Nd} (h : Ins I w F p A rd rs ((g, Obj.cells (ndRow X) 81 (0, 0)) :: bs) wr) : Ins I w F p A rd rs ((g, Obj.cells (ndRow Y) 81 (0, 0)) :: bs) (put8 wr g Y) :=
  h.set (put8_same (h.boxes _ (List.Mem.head _)).2) ⟨(put8_below (n0 := 0) (Nat.zero_le _)).os, (put8_below (n0 := 0) (Nat.zero_le _)).tape, (put8_below (n0 := 0) (Nat.zero_le _)).output, put8_size wr g Y, fun k hk => put8_other wr g Y hk⟩
/-- a call that alters the arena -/
theorem Ins.mut {f : FuncId} {args : Array Value} {Q : Ending → Ar → Int → Prop} (h : Ins I w F p A rd rs bs wr) (hc : ∀ F1, I.Is wr p A rd F1 → Calls Tryz.prog f args wr (Mut I p F1 Q wr)) :
    Calls Tryz.prog f args wr fun e w' => ∃ A' rd', Q e A' rd' ∧ Ins I w F p A' rd' rs bs w' := by
  obtain ⟨F1, f1, f2, f3⟩ := h.mr.has
  refine (hc F1 f1).mono ?_
  rintro e w1 ⟨F', A', rd', hal, hI, hq⟩
  have hst := h.mr.stepA f2 f3 hal hI
  exact ⟨A', rd', hq, hst.1, fun k hk => (hst.2 k (.inl hk)).trans (h.kp k hk), fun r hr => row_keep (h.rows r hr) fun k hk' => hst.2 k (.inr (.inl ⟨r, hr, hk'⟩)), fun b hb => ⟨(h.boxes b hb).1, (hst.2 b.1 (.inr (.inr ⟨b, hb, rfl⟩))).trans (h.boxes b hb).2⟩, h.rr, h.bb, h.rb⟩
/-- a call that reads -/
theorem Ins.call {bd : Int} {v : Value} {f : FuncId} {args : Array Value} (h : Ins I w F p A rd rs bs wr) (hc : ∀ F1, I.Is wr p A rd F1 → Calls Tryz.prog f args wr (ReadsTo I p A rd F1 bd v wr)) :
    Calls Tryz.prog f args wr fun e w' => e = .returned v ∧ ∃ rd', Ins I w F p A rd' rs bs w' ∧ rd ≤ rd' ∧ rd' ≤ rd + bd := by
  refine (h.mut (Q := fun e A' rd' => e = .returned v ∧ A' = A ∧ rd ≤ rd' ∧ rd' ≤ rd + bd) fun F1 hI => (hc F1 hI).mono fun e w' ⟨F', rd', h1, h2, h3, h4, h5⟩ => ⟨F', A, rd', h2, h3, h1, rfl, h4, h5⟩).mono ?_
  rintro e w1 ⟨A', rd', ⟨h1, rfl, h4, h5⟩, h6⟩
  exact ⟨h1, rd', h6, h4, h5⟩
theorem Ins.ends (h : Ins I w F p A rd rs bs wr) : ∃ F', Alters F F' w wr ∧ I.Is wr p A rd F' := by
  obtain ⟨F', f1, f2, f3⟩ := h.mr.has
  refine ⟨F', ⟨h.mr.below.os, h.mr.below.tape, h.mr.below.output, h.mr.below.size, fun k hlt hF => h.kp k ⟨hlt, hF⟩, fun k hF' => ?_⟩, f1⟩
  by_cases hlt : k < w.heap.size
  · by_cases hF : F k
    · exact .inl hF
    · exact absurd hF' (f3 k (.inl ⟨hlt, hF⟩)).2
  · exact .inr (by omega)
theorem Ins.node (h : Ins I w F p A rd rs bs wr) (h0 : 0 ≤ rd) (h1 : rd ≤ 4398046511104) {i : Nat} (hi : i < 4294967296) (hon : A.σ.on i = true) :
    Calls Tryz.prog 95 #[p, .int .u32 (i : Int)] wr fun e w' => e = .returned (.tuple #[.agg (ndRow (A.nd i)), .bool true]) ∧ Ins I w F p A (rd + 1) rs bs w' := by
  refine (h.mut (Q := fun e A' rd' => e = .returned (.tuple #[.agg (ndRow (A.nd i)), .bool true]) ∧ A' = A ∧ rd' = rd + 1) fun F1 hI => (I.node p A rd F1 i wr hI h0 (by omega) hi).mono fun e w' ⟨F', hal, _, h6⟩ => ⟨F', A, rd + 1, hal, (h6 hon).2, (h6 hon).1, rfl, rfl⟩).mono ?_
  rintro e w1 ⟨A', rd', ⟨hq1, rfl, rfl⟩, h6⟩
  exact ⟨hq1, h6⟩
theorem Ins.node_no (h : Ins I w F p A rd rs bs wr) (h0 : 0 ≤ rd) (h1 : rd ≤ 4398046511104) {i : Nat} (hi : i < 4294967296) (hon : A.σ.on i = false) :
    Calls Tryz.prog 95 #[p, .int .u32 (i : Int)] wr fun e w' => e = .returned (.tuple #[.agg (ndRow Nd.zero), .bool false]) ∧ Ins I w F p A rd rs bs w' := by
  refine (h.mut (Q := fun e A' rd' => e = .returned (.tuple #[.agg (ndRow Nd.zero), .bool false]) ∧ A' = A ∧ rd' = rd) fun F1 hI => (I.node p A rd F1 i wr hI h0 (by omega) hi).mono fun e w' ⟨F', hal, h6, _⟩ => ⟨F', A, rd, hal, (h6 hon).2, (h6 hon).1, rfl, rfl⟩).mono ?_
  rintro e w1 ⟨A', rd', ⟨h5, rfl, rfl⟩, h6⟩
  exact ⟨h5, h6⟩
/-- Size of an index: 0 for the empty tree, and then no read -/
theorem Ins.sz (h : Ins I w F p A rd rs bs wr) (h0 : 0 ≤ rd) (h1 : rd ≤ 4398046511104) {i : Nat} (hi : i < 4294967296) (hx : A.Idx i) (hok : A.σ.Ok) :
    Calls Tryz.prog 27 #[p, .int .u32 (i : Int)] wr fun e w' => e = .returned (.int .i64 (A.sz i)) ∧ Ins I w F p A (rd + if i = 0 then 0 else 1) rs bs w' := by
  refine (h.mut (Q := fun e A' rd' => e = .returned (.int .i64 (A.sz i)) ∧ A' = A ∧ rd' = rd + if i = 0 then 0 else 1) fun F1 hI => (I.size p A rd F1 i wr hI h0 (by omega) hi).mono fun e w' ⟨F', hal, h6, h7⟩ => ?_).mono ?_
  · by_cases e0 : i = 0
    · subst e0
      have hoff : A.σ.on 0 = false := by
        cases ho : A.σ.on 0
        · rfl
        · have := hok.on 0 ho; omega
      exact ⟨F', A, rd, hal, (h6 hoff).2, (h6 hoff).1, rfl, by rw [if_pos rfl]; omega⟩
    · have hon := hx.resolve_left e0
      exact ⟨F', A, rd + 1, hal, (h7 hon).2, by rw [(h7 hon).1]; unfold Ar.sz; rw [if_neg e0], rfl, by rw [if_neg e0]⟩
  · rintro e w1 ⟨A', rd', ⟨hq1, rfl, rfl⟩, h6⟩
    exact ⟨hq1, h6⟩
theorem Ins.free (h : Ins I w F p A rd rs bs wr) : Calls Tryz.prog 51 #[p] wr fun e w' => e = .returned (.int .i64 (A.σ.free.length : Int)) ∧ Ins I w F p A rd rs bs w' := by
  obtain ⟨F1, f1, _⟩ := h.mr.has
  exact (I.freeN p A rd F1 wr f1).mono fun e w1 ⟨h3, q, h4⟩ => ⟨h3, by subst h4; exact h.calm (below_drewN (Below.refl _ _) _)⟩
theorem Ins.make (h : Ins I w F p A rd rs bs wr) {held : Nat → Nat} (hv : A.Inv [] held) (ha : A.Agg) (hm : ∀ j, held j ≤ 1048576) {key val : Int} {l r i : Nat} {t : List Nat} (hk : i64R key) (hw : i64R val) (hl : A.Idx l) (hr : A.Idx r) (hs : (A.node key val l r).size ≤ 2147483647) (hf : A.σ.free = i :: t) :
    Calls Tryz.prog 65 #[p, .int .i64 key, .int .i64 val, .int .u32 (l : Int), .int .u32 (r : Int)] wr fun e w' => e = .returned (.tuple #[.int .u32 (i : Int), .int .i64 0]) ∧ Ins I w F p (A.made i t (A.node key val l r)) rd rs bs w' := by
  have hlt : ∀ {x}, A.Idx x → x < 4294967296 := fun {x} hx => by
    rcases hx with rfl | hx
    · omega
    · have := hv.ok.on x hx; have := hv.ok.cap2; omega
  refine (h.mut (Q := fun e A' rd' => e = .returned (.tuple #[.int .u32 (i : Int), .int .i64 0]) ∧ A' = A.made i t (A.node key val l r) ∧ rd' = rd) fun F1 hI => (I.make p A rd F1 key val l r held wr hI hv ha hm hk.1 hk.2 hw.1 hw.2 (hlt hl) (hlt hr)).mono fun e w' ⟨F', hal, _, _, h6⟩ => ?_).mono ?_
  · obtain ⟨h7, h8⟩ := h6 ⟨hl, hr, hs⟩ i t hf
    exact ⟨F', _, rd, hal, h8, h7, rfl, rfl⟩
  · rintro e w1 ⟨A', rd', ⟨hq1, rfl, rfl⟩, h6⟩
    exact ⟨hq1, h6⟩
theorem Ins.release (h : Ins I w F p A rd rs bs wr) {held : Nat → Nat} {i : Nat} (hi : i < 4294967296) (hx : A.Idx i) (hv : A.Inv [i] held) :
    Calls Tryz.prog 14 #[p, .int .u32 (i : Int)] wr fun e w' => e = .returned (.tuple #[.int .i64 (A.freed i : Int), .int .i64 0]) ∧ Ins I w F p (A.gone i) rd rs bs w' := by
  refine (h.mut (Q := fun e A' rd' => e = .returned (.tuple #[.int .i64 (A.freed i : Int), .int .i64 0]) ∧ A' = A.gone i ∧ rd' = rd) fun F1 hI => (I.release p A rd F1 i held wr hI hi (fun _ => hv)).mono fun e w' ⟨F', hal, _, h6⟩ => ⟨F', _, rd, hal, (h6 hx).2, (h6 hx).1, rfl, rfl⟩).mono ?_
  rintro e w1 ⟨A', rd', ⟨hq1, rfl, rfl⟩, h6⟩
  exact ⟨hq1, h6⟩
theorem Ins.retain (h : Ins I w F p A rd rs bs wr) {i : Nat} (hi : i < 4294967296) (hx : A.Idx i) (hc : A.cnt i < 4611686018427387904) :
    Calls Tryz.prog 37 #[p, .int .u32 (i : Int)] wr fun e w' => e = .returned (.int .i64 0) ∧ Ins I w F p (A.ret i) rd rs bs w' := by
  refine (h.mut (Q := fun e A' rd' => e = .returned (.int .i64 0) ∧ A' = A.ret i ∧ rd' = rd) fun F1 hI => (I.retain p A rd F1 i wr hI hi (fun _ => hc)).mono fun e w' ⟨F', hal, _, h6⟩ => ⟨F', _, rd, hal, (h6 hx).2, (h6 hx).1, rfl, rfl⟩).mono ?_
  rintro e w1 ⟨A', rd', ⟨hq1, rfl, rfl⟩, h6⟩
  exact ⟨hq1, h6⟩
end
end Go.Proofs.YtfihklpofmcfgaaGreat
namespace Go.Proofs.YtfihklpofmcfgaaGreat
section
variable {P : Program} {ops : Array Oper} {Q : Exit → Act → World → Prop} {md : Region.Mode} {S : World → Prop} {z : Nat}
/-- whatever order is picked from here on; S holds behind each operation other than number z -/
def anyG (P : Program) (md : Region.Mode) (ops : Array Oper) (Q : Exit → Act → World → Prop) (S : World → Prop) (z : Nat) : Nat → Array Bool → Act → World → Prop
  | 0, ls, a, w => Region.ready md ops ls = [] ∧ Q .normal a w
  | n + 1, ls, a, w => (Region.ready md ops ls = [] → Q .normal a w) ∧
      ∀ k, k ∈ Region.ready md ops ls → wpOp P ops Q k (fun a' w' => (k ≠ z → S w') ∧ anyG P md ops Q S z n (ls.setIfInBounds k true) a' w') a w
theorem anyG_any (n : Nat) : ∀ (ls : Array Bool) (a : Act) (w : World), anyG P md ops Q S z n ls a w → wpAny P md ops Q n ls a w := by
  induction n with
  | zero => exact fun _ _ _ h => h
  | succ n ih => exact fun ls a w h => ⟨h.1, fun k hk => wpOp_mono (fun a' w' h' => ih _ a' w' h'.2) (h.2 k hk)⟩
theorem anyG_begin {id : Nat} {a : Act} {w : World} (hm : P.follows .mixedOrders = true) (hS : S w.drew)
    (h : S w.drew → anyG P .any ops Q S z ops.size (Array.replicate ops.size false) a w.drew) : (Code.region id ops true).wp P Q a w :=
  wp_region_any hm (anyG_any _ _ _ _ (h hS))
/-- number z waits for number k (or there is no number z) -/
def waits (md : Region.Mode) (ops : Array Oper) (z k : Nat) : Bool := (ops[z]?.map fun x => x.after.toList.any fun e => Region.binds md e && e.on == k).getD true
theorem waits_not {k : Nat} (hz : waits md ops z k = true) {ls : Array Bool} (hk : ls.getD k true = false) : ¬ z ∈ Region.ready md ops ls := by
  intro h
  obtain ⟨_, x, hx, hall⟩ := mem_ready.1 h
  unfold waits at hz
  rw [hx] at hz
  simp only [Option.map_some, Option.getD_some, List.any_eq_true, Bool.and_eq_true, beq_iff_eq] at hz
  obtain ⟨e, he, hb, hek⟩ := hz
  have h1 := hall e (by simpa using he) hb
  rw [hek] at h1
  by_cases hlt : k < ls.size
  · simp [hlt] at hk h1
    rw [hk] at h1
    cases h1
  · simp [Array.getElem?_eq_none (Nat.le_of_not_lt hlt)] at h1
/-- an operation that is ready, yields wherever S holds and is apart from what is open: first -/
theorem anyG_front {k : Nat} {o : Oper} {v : Value} (hk : ops[k]? = some o) (hsel : ∀ (j : Nat) (x : Oper) cs b, ops[j]? = some x → x.op ≠ .select cs b) (hz : waits md ops z k = true)
    (hQ : ∀ c a w, Q (.panic c) (a.put o.dst v) w → Q (.panic c) a w) (n : Nat) : ∀ (ls : Array Bool) (a : Act) (w : World),
      (∀ j x, ops[j]? = some x → j ≠ k → ls.getD j true = false → (∀ e ∈ x.after, Region.binds md e = true → e.on ≠ k) → o.apart ops x = true) →
      k ∈ Region.ready md ops ls → YieldsIf P ops S o v a → S w → anyG P md ops Q S z n (ls.setIfInBounds k true) (a.put o.dst v) w → anyG P md ops Q S z (n + 1) ls a w := by
  have base : ∀ (n : Nat) (ls : Array Bool) (a : Act) (w : World), YieldsIf P ops S o v a → S w → anyG P md ops Q S z n (ls.setIfInBounds k true) (a.put o.dst v) w →
      wpOp P ops Q k (fun a' w' => (k ≠ z → S w') ∧ anyG P md ops Q S z n (ls.setIfInBounds k true) a' w') a w :=
    fun n ls a w hy hS H => hy.wpOp hk hS ⟨fun _ => hS, H⟩
  have notNil : ∀ ls, k ∈ Region.ready md ops ls → Region.ready md ops ls ≠ [] := fun ls h e => by rw [e] at h; cases h
  induction n with
  | zero =>
    intro ls a w _ hr hy hS H
    refine ⟨fun e => absurd e (notNil ls hr), fun j hj => ?_⟩
    rcases Nat.decEq j k with hjk | rfl
    · exact absurd (H.1 ▸ ready_mono hj hjk) (by simp)
    · exact base 0 ls a w hy hS H
  | succ n ih =>
    intro ls a w hf hr hy hS H
    refine ⟨fun e => absurd e (notNil ls hr), fun j hj => ?_⟩
    rcases Nat.decEq j k with hjk | rfl
    · obtain ⟨hju, x, hx, hall⟩ := mem_ready.1 hj
      have hku := (mem_ready.1 hr).1
      have hjz : j ≠ z := fun e => waits_not hz hku (e ▸ hj)
      have hno : ∀ e ∈ x.after, Region.binds md e = true → e.on ≠ k := by
        rintro e he hb rfl
        have h1 := hall e he hb
        by_cases hlt : e.on < ls.size
        · simp [hlt] at hku h1
          rw [hku] at h1
          cases h1
        · simp [Array.getElem?_eq_none (Nat.le_of_not_lt hlt)] at h1
      have hs := wpOp_putIf hx (hf j x hx hjk hju hno) (fun cs b => hsel k o cs b hk) (fun cs b => hsel j x cs b hx) hQ hy (H.2 j (ready_mono hj hjk))
      refine wpOp_mono (fun a' w' h3 => ?_) hs
      have hS' : S w' := h3.2.1 hjz
      refine ⟨fun _ => hS', ih _ a' w' (fun i y hy' hik hun hno' => hf i y hy' hik ?_ hno') (ready_mono hr (Ne.symm hjk)) h3.1 hS' (by rw [Array.setIfInBounds_comm _ _ hjk]; exact h3.2.2)⟩
      rcases Nat.decEq j i with hji | rfl
      · rwa [getD_set_ne true hji] at hun
      · exact hju
    · exact base (n + 1) ls a w hy hS H
theorem anyG_take {k : Nat} {o : Oper} {v : Value} {n : Nat} {ls : Array Bool} {a : Act} {w : World} (d : Option Tmp) (hk : ops[k]? = some o) (hs : Region.noSelect ops = true) (hf : Region.free md ops ls k = true) (hr : (Region.ready md ops ls).contains k = true) (hz : waits md ops z k = true)
    (hQ : ∀ c a w, Q (.panic c) (a.put o.dst v) w → Q (.panic c) a w) (hy : YieldsIf P ops S o v a) (hS : S w) (hd : o.dst = d) (h : anyG P md ops Q S z n (ls.setIfInBounds k true) (a.put d v) w) : anyG P md ops Q S z (n + 1) ls a w :=
  anyG_front hk (Region.noSelect_spec hs) hz hQ n ls a w (Region.free_spec hk hf) (by simpa using hr) hy hS (by rw [hd]; exact h)
theorem anyG_tk {o : Oper} {v : Value} {n : Nat} {ls : Array Bool} {a : Act} {w : World} (k : Nat) (d : Tmp) (hk : ops[k]? = some o) (hc : (Region.noSelect ops && Region.free md ops ls k && (Region.ready md ops ls).contains k && waits md ops z k && (o.dst == some d)) = true)
    (hy : YieldsIf P ops S o v a) (hS : S w) (h : anyG P md ops Q S z n (ls.setIfInBounds k true) (a.put (some d) v) w) (hQ : ∀ c a w, Q (.panic c) (a.put o.dst v) w → Q (.panic c) a w := by exact fun _ _ _ h => h) : anyG P md ops Q S z (n + 1) ls a w := by
  simp only [Bool.and_eq_true] at hc
  obtain ⟨⟨⟨⟨h1, h2⟩, h3⟩, h4⟩, h5⟩ := hc
  exact anyG_take (some d) hk h1 h2 h3 h4 hQ hy hS (by simpa using h5) h
/-- one operation alone is ready, and it is not number z -/
theorem anyG_one {k : Nat} {o : Oper} {n : Nat} {ls : Array Bool} {a : Act} {w : World} (hr : Region.ready md ops ls = [k]) (hk : ops[k]? = some o)
    (h : ∀ K : Act → World → Prop, Shut (∀ a w, S w → (S w → anyG P md ops Q S z n (ls.setIfInBounds k true) a w) → K a w) → if Region.wanted o (yielded ops a.tmps) = true then Oper.wp P o a w K Q else K (a.put o.dst undef) w) : anyG P md ops Q S z (n + 1) ls a w := by
  refine ⟨fun e => (by rw [hr] at e; cases e), fun j hj => ?_⟩
  rw [hr] at hj
  obtain rfl : j = k := by simpa using hj
  exact wpOp_step hk fun K hK => h K fun a w hS hW => hK a w ⟨fun _ => hS, hW hS⟩
/-- all have come up -/
theorem anyG_done {ls : Array Bool} {a : Act} {w : World} (hr : Region.ready md ops ls = []) (h : Q .normal a w) : ∀ n, anyG P md ops Q S z n ls a w
  | 0 => ⟨hr, h⟩
  | _ + 1 => ⟨fun _ => h, by rw [hr]; simp⟩
/-- the last one -/
theorem anyG_last {o : Oper} {n : Nat} {ls : Array Bool} {a : Act} {w : World} (hr : Region.ready md ops ls = [z]) (hr2 : Region.ready md ops (ls.setIfInBounds z true) = []) (hk : ops[z]? = some o)
    (h : ∀ K : Act → World → Prop, Shut (∀ a w, Q .normal a w → K a w) → if Region.wanted o (yielded ops a.tmps) = true then Oper.wp P o a w K Q else K (a.put o.dst undef) w) : anyG P md ops Q S z (n + 1) ls a w := by
  refine ⟨fun e => (by rw [hr] at e; cases e), fun j hj => ?_⟩
  rw [hr] at hj
  obtain rfl : j = z := by simpa using hj
  refine wpOp_step hk fun K hK => h K fun a w hQ' => hK a w ⟨fun e => absurd rfl e, ?_⟩
  cases n with
  | zero => exact ⟨hr2, hQ'⟩
  | succ n => exact ⟨fun _ => hQ', by rw [hr2]; simp⟩
end
end Go.Proofs.YtfihklpofmcfgaaGreat
