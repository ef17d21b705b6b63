/- A scene: an arena with its count of reads, rows that the call made, and boxes, each apart from the others. -/
import Derived.Test.YtkhfofpbmnapjaaLkCon
set_option linter.unusedVariables false
set_option linter.unusedSimpArgs false
namespace Go.Proofs.Ytkhfofpbmnapjaa
open Go.RowKit
structure Row where
  e : TypeId
  s : Nat
  v : Value
  n : Nat
  xs : List Value
/-- the blocks of rows and boxes -/
def SG (rs : List Row) (bs : List (Nat × Obj)) (k : Nat) : Prop := (∃ r ∈ rs, r.v.ownBlock = some k) ∨ ∃ b ∈ bs, b.1 = k
structure Scn (I : AImpl) (B : Nat) (w0 w : World) (p : Value) (A : Ar) (rd : Int) (rs : List Row) (bs : List (Nat × Obj)) : Prop where
  mr : MR I B w0 w p A rd (SG rs bs)
  rows : ∀ r ∈ rs, w.ownsRow B r.e r.s r.v r.n r.xs
  boxes : ∀ b ∈ bs, B ≤ b.1 ∧ w.heap[b.1]? = some b.2
  rr : rs.Pairwise fun x y => ∀ k, x.v.ownBlock = some k → y.v.ownBlock ≠ some k
  bb : bs.Pairwise fun x y => x.1 ≠ y.1
  rb : ∀ r ∈ rs, ∀ b ∈ bs, r.v.ownBlock ≠ some b.1
section
variable {I : AImpl} {B : Nat} {w0 w w' : World} {p : Value} {A : Ar} {rd rd' : Int} {rs : List Row} {bs : List (Nat × Obj)}
theorem Scn.start (h : MR I B w0 w p A rd (fun _ => False)) : Scn I B w0 w p A rd [] [] :=
  ⟨h.less fun k hk => (by (rcases hk with ⟨r, hr, _⟩ | ⟨b, hb, _⟩); (cases hr); (cases hb)), fun r hr => (by cases hr), fun b hb => (by cases hb), List.Pairwise.nil, List.Pairwise.nil, fun r hr => (by cases hr)⟩
theorem Scn.step (h : Scn I B w0 w p A rd rs bs) (hm : MR I B w0 w' p A rd' (SG rs bs)) (hk : Keeps (SG rs bs) w w') : Scn I B w0 w' p A rd' rs bs :=
  ⟨hm, fun r hr => row_keep (h.rows r hr) fun k hk' => hk k (.inl ⟨r, hr, hk'⟩), fun b hb => ⟨(h.boxes b hb).1, (hk b.1 (.inr ⟨b, hb, rfl⟩)).trans (h.boxes b hb).2⟩, h.rr, h.bb, h.rb⟩
theorem Scn.calm (h : Scn I B w0 w p A rd rs bs) (hb : Below w.heap.size w w') : Scn I B w0 w' p A rd rs bs := h.step (h.mr.calm hb) (h.mr.keeps hb)
theorem Scn.lt (h : Scn I B w0 w p A rd rs bs) {k : Nat} (hk : SG rs bs k) : k < w.heap.size := h.mr.lt hk
/-- a new box -/
theorem Scn.box (h : Scn I B w0 w p A rd rs bs) (cs : Array Value) (t : TypeId) : Scn I B w0 (w.alloc (.cells cs t)) p A rd rs ((w.heap.size, .cells cs t (0, 0)) :: bs) := by
  have hb := below_new7 w (.cells cs t)
  have h' := h.calm hb
  refine ⟨h.mr.fresh hb fun k hk => ?_, h'.rows, fun b hb' => ?_, h.rr, List.pairwise_cons.2 ⟨fun b hb' e => ?_, h.bb⟩, fun r hr b hb' => ?_⟩
  · rcases hk with hk | ⟨b, hb', rfl⟩
    · exact .inl (.inl hk)
    · rcases List.mem_cons.1 hb' with rfl | hb'
      · exact .inr ⟨Nat.le_refl _, by simp⟩
      · exact .inl (.inr ⟨b, hb', rfl⟩)
  · rcases List.mem_cons.1 hb' with rfl | hb'
    · exact ⟨h.mr.hB, heap_alloc_new w _⟩
    · exact h'.boxes b hb'
  · have := h.lt (.inr ⟨b, hb', rfl⟩)
    have e' : w.heap.size = b.1 := e
    omega
  · rcases List.mem_cons.1 hb' with rfl | hb'
    · intro e
      have := h.lt (.inl ⟨r, hr, e⟩)
      exact Nat.lt_irrefl _ this
    · exact h.rb r hr b hb'
/-- a row that was made -/
theorem Scn.row (h : Scn I B w0 w p A rd rs bs) (hb : Below w.heap.size w w') {e : TypeId} {s n : Nat} {v : Value} {xs : List Value} (hr : w'.ownsRow w.heap.size e s v n xs) : Scn I B w0 w' p A rd (⟨e, s, v, n, xs⟩ :: rs) bs := by
  have h' := h.calm hb
  refine ⟨h.mr.fresh hb fun k hk => ?_, fun r hr' => ?_, h'.boxes, List.pairwise_cons.2 ⟨fun r hr' k hk e' => ?_, h.rr⟩, h.bb, fun r hr' b hb' => ?_⟩
  · rcases hk with ⟨r, hr', hk⟩ | hk
    · rcases List.mem_cons.1 hr' with rfl | hr'
      · exact .inr (row_lt hr k hk)
      · exact .inl (.inl ⟨r, hr', hk⟩)
    · exact .inl (.inr hk)
  · rcases List.mem_cons.1 hr' with rfl | hr'
    · exact row_mono hr h.mr.hB
    · exact h'.rows r hr'
  · have h1 := (row_lt hr k hk).1
    have h2 := h.lt (.inl ⟨r, hr', e'⟩)
    omega
  · rcases List.mem_cons.1 hr' with rfl | hr'
    · intro e'
      have h1 := (row_lt hr _ e').1
      have h2 := h.lt (.inr ⟨b, hb', rfl⟩)
      omega
    · exact h.rb r hr' b hb'
/-- the first row grew by an append -/
theorem Scn.grew {e : TypeId} {s n n' : Nat} {v v' : Value} {xs xs' : List Value} (h : Scn I B w0 w p A rd (⟨e, s, v, n, xs⟩ :: rs) bs) (hr : w'.ownsRow B e s v' n' xs') (hg : w.grownBy w' v.ownBlock) (hv : v'.ownBlock = v.ownBlock ∨ v'.ownBlock = some w.heap.size) :
    Scn I B w0 w' p A rd (⟨e, s, v', n', xs'⟩ :: rs) bs := by
  obtain ⟨h1, h2⟩ := List.pairwise_cons.1 h.rr
  obtain ⟨F, f1, f2, f3⟩ := h.mr.has
  have hne : ∀ k, SG rs bs k → v.ownBlock ≠ some k := fun k hk e' => by
    rcases hk with ⟨r, hr', hk⟩ | ⟨b, hb', rfl⟩
    · exact h1 r hr' k e' hk
    · exact h.rb ⟨e, s, v, n, xs⟩ (by simp) b hb' e'
  have hkeep : ∀ k, SG rs bs k → w'.heap[k]? = w.heap[k]? := fun k hk => hg.block k (h.lt (by
    rcases hk with ⟨r, hr', hk⟩ | hk
    · exact .inl ⟨r, by simp [hr'], hk⟩
    · exact .inr hk)) fun e' => hne k hk e'.symm
  have hnew : ∀ k, v'.ownBlock = some k → v.ownBlock = some k ∨ k = w.heap.size := fun k hk => by
    rcases hv with e' | e'
    · exact .inl (e' ▸ hk)
    · rw [e'] at hk; exact .inr (Option.some.inj hk).symm
  refine ⟨⟨⟨F, I.keep f1 fun k hk => hg.block k (I.dom f1 k hk) fun e' => (f3 k (.inl ⟨⟨e, s, v, n, xs⟩, by simp, e'.symm⟩)).2 hk, f2, fun k hk => ?_⟩, h.mr.below.grown hg h.mr.hB (row_from (h.rows ⟨e, s, v, n, xs⟩ (by simp))), Nat.le_trans h.mr.hB hg.size⟩, fun r hr' => ?_, fun b hb' => ?_, List.pairwise_cons.2 ⟨fun r hr' k hk e' => ?_, h2⟩, h.bb, fun r hr' b hb' => ?_⟩
  · rcases hk with ⟨r, hr', hk⟩ | hk
    · rcases List.mem_cons.1 hr' with rfl | hr'
      · refine ⟨(row_lt hr k hk).2, fun hF => ?_⟩
        rcases hnew k hk with h3 | rfl
        · exact (f3 k (.inl ⟨⟨e, s, v, n, xs⟩, by simp, h3⟩)).2 hF
        · exact Nat.lt_irrefl _ (I.dom f1 _ hF)
      · have := f3 k (.inl ⟨r, by simp [hr'], hk⟩)
        exact ⟨Nat.lt_of_lt_of_le this.1 hg.size, this.2⟩
    · have := f3 k (.inr hk)
      exact ⟨Nat.lt_of_lt_of_le this.1 hg.size, this.2⟩
  · rcases List.mem_cons.1 hr' with rfl | hr'
    · exact hr
    · exact row_keep (h.rows r (by simp [hr'])) fun k hk => hkeep k (.inl ⟨r, hr', hk⟩)
  · exact ⟨(h.boxes b hb').1, (hkeep b.1 (.inr ⟨b, hb', rfl⟩)).trans (h.boxes b hb').2⟩
  · rcases hnew k hk with h3 | rfl
    · exact h1 r hr' k h3 e'
    · have := h.lt (.inl ⟨r, by simp [hr'], e'⟩)
      exact Nat.lt_irrefl _ this
  · rcases List.mem_cons.1 hr' with rfl | hr'
    · intro e'
      rcases hnew _ e' with h3 | h3
      · exact h.rb ⟨e, s, v, n, xs⟩ (by simp) b hb' h3
      · have := h.lt (.inr ⟨b, hb', rfl⟩)
        omega
    · exact h.rb r (by simp [hr']) b hb'
theorem Scn.less {rs' : List Row} {bs' : List (Nat × Obj)} (h : Scn I B w0 w p A rd rs bs) (h1 : rs'.Sublist rs) (h2 : bs'.Sublist bs) : Scn I B w0 w p A rd rs' bs' :=
  ⟨h.mr.less fun k hk => by (rcases hk with ⟨r, hr, hk⟩ | ⟨b, hb, hk⟩; exact .inl ⟨r, h1.subset hr, hk⟩; exact .inr ⟨b, h2.subset hb, hk⟩), fun r hr => h.rows r (h1.subset hr), fun b hb => h.boxes b (h2.subset hb), h.rr.sublist h1, h.bb.sublist h2, fun r hr b hb => h.rb r (h1.subset hr) b (h2.subset hb)⟩
/-- the first box is written anew -/
theorem Scn.set {g : Nat} {o o' : Obj} (h : Scn I B w0 w p A rd rs ((g, o) :: bs)) (hw : w'.heap[g]? = some o') (ho : w'.os = w.os ∧ w'.tape = w.tape ∧ w'.output = w.output ∧ w'.heap.size = w.heap.size ∧ ∀ k, k ≠ g → w'.heap[k]? = w.heap[k]?) :
    Scn I B w0 w' p A rd rs ((g, o') :: bs) := by
  obtain ⟨o1, o2, o3, o4, o5⟩ := ho
  obtain ⟨F, f1, f2, f3⟩ := h.mr.has
  obtain ⟨h1, h2⟩ := List.pairwise_cons.1 h.bb
  have hgB : B ≤ g := (h.boxes (g, o) (by simp)).1
  refine ⟨⟨⟨F, I.keep f1 fun k hk => o5 k fun e => (f3 g (.inr ⟨(g, o), by simp, rfl⟩)).2 (e ▸ hk), f2, fun k hk => ?_⟩, h.mr.below.trans ⟨o1, o2, o3, Nat.le_of_eq o4.symm, fun k hk => o5 k (by omega)⟩, by rw [o4]; exact h.mr.hB⟩, fun r hr => row_keep (h.rows r hr) fun k hk => o5 k fun e => h.rb r hr (g, o) (by simp) (e ▸ hk), fun b hb => ?_, h.rr, List.pairwise_cons.2 ⟨h1, h2⟩, fun r hr b hb => ?_⟩
  · have : SG rs ((g, o) :: bs) k := by
      rcases hk with hk | ⟨b, hb, rfl⟩
      · exact .inl hk
      · rcases List.mem_cons.1 hb with rfl | hb
        · exact .inr ⟨(g, o), by simp, rfl⟩
        · exact .inr ⟨b, by simp [hb], rfl⟩
    exact ⟨by rw [o4]; exact (f3 k this).1, (f3 k this).2⟩
  · rcases List.mem_cons.1 hb with rfl | hb
    · exact ⟨hgB, hw⟩
    · exact ⟨(h.boxes b (by simp [hb])).1, (o5 b.1 (fun e => h1 b hb e.symm)).trans (h.boxes b (by simp [hb])).2⟩
  · rcases List.mem_cons.1 hb with rfl | hb
    · exact h.rb r hr (g, o) (by simp)
    · exact h.rb r hr b (by simp [hb])
theorem Scn.call {bd : Int} {v : Value} {f : FuncId} {args : Array Value} (h : Scn I B w0 w p A rd rs bs) (hc : ∀ F, I.Is w p A rd F → Calls Try.prog f args w (ReadsTo I p A rd F bd v w)) :
    Calls Try.prog f args w fun e w' => e = .returned v ∧ ∃ rd', Scn I B w0 w' p A rd' rs bs ∧ rd ≤ rd' ∧ rd' ≤ rd + bd := by
  refine (mr_call h.mr hc).mono ?_
  rintro e w1 ⟨he, rd', h1, h2, h3, h4⟩
  exact ⟨he, rd', h.step h1 h2, h3, h4⟩
theorem Scn.perm {bs' : List (Nat × Obj)} (h : Scn I B w0 w p A rd rs bs) (hp : bs.Perm bs') : Scn I B w0 w p A rd rs bs' :=
  ⟨h.mr.less fun k hk => by (rcases hk with hk | ⟨b, hb, hk⟩; exact .inl hk; exact .inr ⟨b, hp.mem_iff.2 hb, hk⟩), h.rows, fun b hb => h.boxes b (hp.mem_iff.2 hb), h.rr, hp.pairwise h.bb (fun e e' => e e'.symm), fun r hr b hb => h.rb r hr b (hp.mem_iff.2 hb)⟩
/-- a box of two numbers is written -/
theorem Scn.set2 {g : Nat} {x0 y0 : Value} {t : TypeId} (h : Scn I B w0 w p A rd rs ((g, .cells #[x0, y0] t (0, 0)) :: bs)) (x y : Value) :
    Scn I B w0 ((w.setCell ⟨g, 0, none⟩ x).setCell ⟨g, 1, none⟩ y) p A rd rs ((g, .cells #[x, y] t (0, 0)) :: bs) := by
  refine h.set ?_ ⟨rfl, rfl, rfl, by simp [World.setCell], fun k hk => by rw [heap_setCell_other _ _ _ _ hk, heap_setCell_other _ _ _ _ hk]⟩
  rw [heap_setCell_same _ g 1 _ _ _ (heap_setCell_same w g 0 _ _ _ (h.boxes (g, .cells #[x0, y0] t (0, 0)) (by simp)).2)]; rfl
theorem Scn.below (h : Scn I B w0 w p A rd rs bs) : Below B w0 w := h.mr.below
/-- a box of two numbers -/
theorem Scn.two {g : Nat} {x y : Int} {t : TypeId} (h : Scn I B w0 w p A rd rs bs) (hm : (g, Obj.cells #[.int .i64 x, .int .i64 y] t (0, 0)) ∈ bs) : w.cell? ⟨g, 0, none⟩ = some (.int .i64 x) ∧ w.cell? ⟨g, 1, none⟩ = some (.int .i64 y) ∧ w.frozen? ⟨g, 0, none⟩ = false ∧ w.frozen? ⟨g, 1, none⟩ = false :=
  ⟨(two_ofE (h.boxes _ hm).2).1, (two_ofE (h.boxes _ hm).2).2, frozen_of_row _ _ _ _ _ (h.boxes _ hm).2, frozen_of_row _ _ _ _ _ (h.boxes _ hm).2⟩
theorem Scn.path {bd : Int} {P : List Nat} {f : FuncId} {args : Array Value} (h : Scn I B w0 w p A rd rs bs) (hc : ∀ F, I.Is w p A rd F → Calls Try.prog f args w (PathRes I p A rd F bd P w)) :
    Calls Try.prog f args w fun e w' => ∃ a c rd', e = .returned (.slice a P.length c) ∧ Scn I B w0 w' p A rd' (⟨28, 1, .slice a P.length c, P.length, u32s P⟩ :: rs) bs ∧ rd ≤ rd' ∧ rd' ≤ rd + bd := by
  obtain ⟨F, f1, f2, f3⟩ := h.mr.has
  refine (hc F f1).mono ?_
  rintro e w1 ⟨F', rd', a, c, rfl, hal, hI, h6, h7, hr, hnF⟩
  have hst := h.mr.step f2 f3 hal hI
  have h1 := h.step hst.1 hst.2
  have hap := hal.apart f3
  refine ⟨a, c, rd', rfl, ⟨⟨⟨F', hI, hal.from h.mr.hB f2, fun k hk => ?_⟩, h1.mr.below, h1.mr.hB⟩, fun r hr' => ?_, h1.boxes, List.pairwise_cons.2 ⟨fun r hr' k hk e' => ?_, h1.rr⟩, h1.bb, fun r hr' b hb' => ?_⟩, h6, h7⟩
  · rcases hk with ⟨r, hr', hk⟩ | hk
    · rcases List.mem_cons.1 hr' with rfl | hr'
      · exact ⟨(row_lt hr k hk).2, hnF k hk⟩
      · exact hap k (.inl ⟨r, hr', hk⟩)
    · exact hap k (.inr hk)
  · rcases List.mem_cons.1 hr' with rfl | hr'
    · exact row_mono hr h.mr.hB
    · exact h1.rows r hr'
  · have h2 := (row_lt hr k hk).1
    have h3 := h.lt (.inl ⟨r, hr', e'⟩)
    omega
  · rcases List.mem_cons.1 hr' with rfl | hr'
    · intro e'
      have h2 := (row_lt hr _ e').1
      have h3 := h.lt (.inr ⟨b, hb', rfl⟩)
      omega
    · exact h1.rb r hr' b hb'
/-- a node that is read -/
theorem Scn.node (h : Scn I B w0 w p A rd rs bs) (h0 : 0 ≤ rd) (h1 : rd ≤ 4398046511104) {i : Nat} (hi : i < 4294967296) (hon : A.σ.on i = true) :
    Calls Try.prog 28 #[p, .int .u32 (i : Int)] w fun e w' => e = .returned (.tuple #[.agg (ndRow (A.nd i)), .bool true]) ∧ Scn I B w0 w' p A (rd + 1) rs bs := by
  obtain ⟨F, f1, f2, f3⟩ := h.mr.has
  refine (I.node p A rd F i w f1 h0 (by omega) hi).mono ?_
  rintro e w1 ⟨F', hal, _, h6⟩
  obtain ⟨rfl, h7⟩ := h6 hon
  have hst := h.mr.step f2 f3 hal h7
  exact ⟨rfl, h.step hst.1 hst.2⟩
/-- two rows that were made by one call -/
theorem Scn.row2 (h : Scn I B w0 w p A rd rs bs) (hb : Below w.heap.size w w') {e e' : TypeId} {s s' n n' : Nat} {v v' : Value} {xs xs' : List Value} (hr : w'.ownsRow w.heap.size e s v n xs) (hr2 : w'.ownsRow w.heap.size e' s' v' n' xs') (hne : ∀ k, v'.ownBlock = some k → v.ownBlock ≠ some k) :
    Scn I B w0 w' p A rd (⟨e', s', v', n', xs'⟩ :: ⟨e, s, v, n, xs⟩ :: rs) bs := by
  have h1 := h.row hb hr
  refine ⟨h.mr.fresh hb fun k hk => ?_, fun r hr' => ?_, h1.boxes, List.pairwise_cons.2 ⟨fun r hr' k hk e' => ?_, h1.rr⟩, h.bb, fun r hr' b hb' => ?_⟩
  · rcases hk with ⟨r, hr', hk⟩ | hk
    · rcases List.mem_cons.1 hr' with rfl | hr'
      · exact .inr (row_lt hr2 k hk)
      · rcases List.mem_cons.1 hr' with rfl | hr'
        · exact .inr (row_lt hr k hk)
        · exact .inl (.inl ⟨r, hr', hk⟩)
    · exact .inl (.inr hk)
  · rcases List.mem_cons.1 hr' with rfl | hr'
    · exact row_mono hr2 h.mr.hB
    · exact h1.rows r hr'
  · rcases List.mem_cons.1 hr' with rfl | hr'
    · exact hne k hk e'
    · have h2 := (row_lt hr2 k hk).1
      have h3 := h.lt (.inl ⟨r, hr', e'⟩)
      omega
  · rcases List.mem_cons.1 hr' with rfl | hr'
    · intro e'
      have h2 := (row_lt hr2 _ e').1
      have h3 := h.lt (.inr ⟨b, hb', rfl⟩)
      omega
    · exact h1.rb r hr' b hb'
theorem Scn.dump (h : Scn I B w0 w p A rd rs bs) : Calls Try.prog 10 #[p] w
    fun e w' => ∃ a c b d, e = .returned (.agg #[.slice a A.σ.cap c, .slice b A.σ.free.length d]) ∧ Scn I B w0 w' p A rd (⟨28, 1, .slice b A.σ.free.length d, A.σ.free.length, u32s A.σ.free⟩ :: ⟨75, 11, .slice a A.σ.cap c, A.σ.cap, slotsV A⟩ :: rs) bs ∧ Below w.heap.size w w' := by
  obtain ⟨F, h1, _⟩ := h.mr.has
  refine (I.dump p A rd F w h1).mono ?_
  rintro e w1 ⟨a, c, b, d, rfl, hr1, hr2, hb⟩
  exact ⟨a, c, b, d, rfl, h.row2 hb hr1 hr2 (row_ne (by decide) hr2 hr1), hb⟩
end
theorem ens_row {w : World} {B n c : Nat} {a : Option Addr} {l : List En} (hn : l.length = n) (h : w.ownsRow B 60 2 (.slice a n c) n (ensV l)) (hw : ∀ e ∈ l, i64R e.key ∧ i64R e.val) : EnsAt w a l := by
  subst hn
  exact ens_at h hw
theorem Scn.init {I : AImpl} {m n c i : Nat} {l : List En} {w w1 w2 : World} {p : Value} {A : Ar} {t : Tr} {F : Nat → Prop} {a : Option Addr} {xs : List Value} {ty : TypeId} {s : Nat} (hg : Grown I m l w1 p A i t F w2) (hb1 : Below w.heap.size w w1) (hr : w1.ownsRow w.heap.size ty s (.slice a n c) n xs) :
    Scn I w.heap.size w w2 p A 0 [⟨ty, s, .slice a n c, n, xs⟩] [] := by
  refine ⟨⟨⟨F, hg.is, fun k hk => Nat.le_trans hb1.size (hg.foot k hk), fun k hk => ?_⟩, hb1.trans (hg.below.mono hb1.size), Nat.le_trans hb1.size hg.below.size⟩, fun r hr' => ?_, fun b hb => (by cases hb), ?_, List.Pairwise.nil, fun r hr' b hb => (by cases hb)⟩
  · rcases hk with ⟨r, hr', hk⟩ | ⟨b, hb, _⟩
    · simp at hr'
      subst hr'
      have h1 := row_lt hr k hk
      exact ⟨Nat.lt_of_lt_of_le h1.2 hg.below.size, fun hF => by have := hg.foot k hF; omega⟩
    · cases hb
  · simp at hr'
    subst hr'
    exact row_below hr hg.below
  · exact List.pairwise_singleton _ _
/-- a slice of three entries that is built -/
theorem at3 (w : World) (t : TypeId) (x y z : En) (hx : i64R x.key ∧ i64R x.val) (hy : i64R y.key ∧ i64R y.val) (hz : i64R z.key ∧ i64R z.val) :
    EnsAt (w.alloc (.cells #[.int .i64 x.key, .int .i64 x.val, .int .i64 y.key, .int .i64 y.val, .int .i64 z.key, .int .i64 z.val] t)) (some ⟨w.heap.size, 0, none⟩) [x, y, z] := by
  have hr := heap_alloc_new w (.cells #[.int .i64 x.key, .int .i64 x.val, .int .i64 y.key, .int .i64 y.val, .int .i64 z.key, .int .i64 z.val] t)
  refine ⟨fun j e he => ⟨w.heap.size, 0, rfl, by simp, ?_⟩, fun e he => ?_⟩
  · match j, he with
    | 0, he => cases he; constructor <;> (rw [cell_of_row _ _ _ _ _ _ hr]; rfl)
    | 1, he => cases he; constructor <;> (rw [cell_of_row _ _ _ _ _ _ hr]; rfl)
    | 2, he => cases he; constructor <;> (rw [cell_of_row _ _ _ _ _ _ hr]; rfl)
    | j + 3, he => simp at he
  · simp at he
    rcases he with rfl | rfl | rfl
    · exact hx
    · exact hy
    · exact hz
end Go.Proofs.Ytkhfofpbmnapjaa
