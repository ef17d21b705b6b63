/- Inside a call that alters an arena: the arena, what lay there, rows and boxes that the call made. -/
import Derived.Test.YtkhfofpbmnapjaaScnMut
import Derived.Test.YtkhfofpbmnapjaaBox8
import Derived.Test.YtkhfofpbmnapjaaWf
set_option linter.unusedVariables false
set_option linter.unusedSimpArgs false
namespace Go.Proofs.Ytkhfofpbmnapjaa
open Go.RowKit
/-- what lay there and is none of the arena's -/
def OldI (w : World) (F : Nat → Prop) (k : Nat) : Prop := k < w.heap.size ∧ ¬ F k
structure Ins (I : AImpl) (w : World) (F : Nat → Prop) (p : Value) (A : Ar) (rd : Int) (rs : List Row) (bs : List (Nat × Obj)) (wr : World) : Prop where
  mr : MR I 0 w wr p A rd (fun k => OldI w F k ∨ SG rs bs k)
  kp : Keeps (OldI w F) w wr
  rows : ∀ r ∈ rs, wr.ownsRow w.heap.size r.e r.s r.v r.n r.xs
  boxes : ∀ b ∈ bs, w.heap.size ≤ b.1 ∧ wr.heap[b.1]? = some b.2
  rr : rs.Pairwise fun x y => ∀ k, x.v.ownBlock = some k → y.v.ownBlock ≠ some k
  bb : bs.Pairwise fun x y => x.1 ≠ y.1
  rb : ∀ r ∈ rs, ∀ b ∈ bs, r.v.ownBlock ≠ some b.1
section
variable {I : AImpl} {w wr wx : World} {F : Nat → Prop} {p : Value} {A A' : Ar} {rd rd' : Int} {rs : List Row} {bs : List (Nat × Obj)}
theorem Ins.start (h : I.Is w p A rd F) : Ins I w F p A rd [] [] w :=
  ⟨⟨⟨F, h, fun _ _ => Nat.zero_le _, fun k hk => by (rcases hk with hk | ⟨r, hr, _⟩ | ⟨b, hb, _⟩; exact hk; cases hr; cases hb)⟩, Below.refl _ _, Nat.zero_le _⟩, fun _ _ => rfl, fun r hr => (by cases hr), fun b hb => (by cases hb), List.Pairwise.nil, List.Pairwise.nil, fun r hr => (by cases hr)⟩
theorem Ins.size (h : Ins I w F p A rd rs bs wr) : w.heap.size ≤ wr.heap.size := h.mr.below.size
theorem Ins.calm (h : Ins I w F p A rd rs bs wr) (hb : Below wr.heap.size wr wx) : Ins I w F p A rd rs bs wx :=
  ⟨h.mr.calm hb, fun k hk => (h.mr.keeps hb k (.inl hk)).trans (h.kp k hk), fun r hr => row_below (h.rows r hr) hb, fun b hb' => ⟨(h.boxes b hb').1, (h.mr.keeps hb b.1 (.inr (.inr ⟨b, hb', rfl⟩))).trans (h.boxes b hb').2⟩, h.rr, h.bb, h.rb⟩
theorem Ins.lt (h : Ins I w F p A rd rs bs wr) {k : Nat} (hk : SG rs bs k) : k < wr.heap.size := h.mr.lt (.inr hk)
/-- a new box -/
theorem Ins.box (h : Ins I w F p A rd rs bs wr) (cs : Array Value) (t : TypeId) : Ins I w F p A rd rs ((wr.heap.size, .cells cs t (0, 0)) :: bs) (wr.alloc (.cells cs t)) := by
  have hb := below_new7 wr (.cells cs t)
  have h' := h.calm hb
  refine ⟨h.mr.fresh hb fun k hk => ?_, h'.kp, h'.rows, fun b hb' => ?_, h.rr, List.pairwise_cons.2 ⟨fun b hb' e => ?_, h.bb⟩, fun r hr b hb' => ?_⟩
  · rcases hk with hk | hk | ⟨b, hb', rfl⟩
    · exact .inl (.inl hk)
    · exact .inl (.inr (.inl hk))
    · rcases List.mem_cons.1 hb' with rfl | hb'
      · exact .inr ⟨Nat.le_refl _, by simp⟩
      · exact .inl (.inr (.inr ⟨b, hb', rfl⟩))
  · rcases List.mem_cons.1 hb' with rfl | hb'
    · exact ⟨h.size, heap_alloc_new wr _⟩
    · exact h'.boxes b hb'
  · have := h.lt (.inr ⟨b, hb', rfl⟩)
    have e' : wr.heap.size = b.1 := e
    omega
  · rcases List.mem_cons.1 hb' with rfl | hb'
    · intro e
      have := h.lt (.inl ⟨r, hr, e⟩)
      exact Nat.lt_irrefl _ this
    · exact h.rb r hr b hb'
theorem Ins.less {rs' : List Row} {bs' : List (Nat × Obj)} (h : Ins I w F p A rd rs bs wr) (h1 : rs'.Sublist rs) (h2 : bs'.Sublist bs) : Ins I w F p A rd rs' bs' wr :=
  ⟨h.mr.less fun k hk => hk.imp_right fun hk => by (rcases hk with ⟨r, hr, hk⟩ | ⟨b, hb, hk⟩; exact .inl ⟨r, h1.subset hr, hk⟩; exact .inr ⟨b, h2.subset hb, hk⟩), h.kp, fun r hr => h.rows r (h1.subset hr), fun b hb => h.boxes b (h2.subset hb), h.rr.sublist h1, h.bb.sublist h2, fun r hr b hb => h.rb r (h1.subset hr) b (h2.subset hb)⟩
theorem Ins.perm {bs' : List (Nat × Obj)} (h : Ins I w F p A rd rs bs wr) (hp : bs.Perm bs') : Ins I w F p A rd rs bs' wr :=
  ⟨h.mr.less fun k hk => hk.imp_right fun hk => by (rcases hk with ⟨r, hr, hk⟩ | ⟨b, hb, hk⟩; exact .inl ⟨r, hr, hk⟩; exact .inr ⟨b, hp.mem_iff.2 hb, hk⟩), h.kp, h.rows, fun b hb => h.boxes b (hp.mem_iff.2 hb), h.rr, hp.pairwise h.bb (fun e e' => e e'.symm), fun r hr b hb => h.rb r hr b (hp.mem_iff.2 hb)⟩
/-- the first box is written anew -/
theorem Ins.set {g : Nat} {o o' : Obj} (h : Ins I w F p A rd rs ((g, o) :: bs) wr) (hw : wx.heap[g]? = some o') (ho : wx.os = wr.os ∧ wx.tape = wr.tape ∧ wx.output = wr.output ∧ wx.heap.size = wr.heap.size ∧ ∀ k, k ≠ g → wx.heap[k]? = wr.heap[k]?) :
    Ins I w F p A rd rs ((g, o') :: bs) wx := by
  obtain ⟨o1, o2, o3, o4, o5⟩ := ho
  obtain ⟨F1, f1, f2, f3⟩ := h.mr.has
  obtain ⟨h1, h2⟩ := List.pairwise_cons.1 h.bb
  have hg := (h.boxes (g, o) (by simp)).1
  have hgF := (f3 g (.inr (.inr ⟨(g, o), by simp, rfl⟩))).2
  refine ⟨⟨⟨F1, I.keep f1 fun k hk => o5 k fun e => hgF (e ▸ hk), f2, fun k hk => ?_⟩, h.mr.below.trans ⟨o1, o2, o3, Nat.le_of_eq o4.symm, fun k hk => absurd hk (Nat.not_lt_zero k)⟩, Nat.zero_le _⟩, fun k hk => (o5 k fun e => by subst e; have := hk.1; have hg' : w.heap.size ≤ k := hg; omega).trans (h.kp k hk), fun r hr => row_keep (h.rows r hr) fun k hk => o5 k fun e => h.rb r hr (g, o) (by simp) (e ▸ hk), fun b hb => ?_, h.rr, List.pairwise_cons.2 ⟨h1, h2⟩, fun r hr b hb => ?_⟩
  · have : OldI w F k ∨ SG rs ((g, o) :: bs) k := hk.imp_right fun hk => by
      rcases hk with hk | ⟨b, hb, rfl⟩
      · exact .inl hk
      · rcases List.mem_cons.1 hb with rfl | hb
        · exact .inr ⟨(g, o), by simp, rfl⟩
        · exact .inr ⟨b, by simp [hb], rfl⟩
    exact ⟨by rw [o4]; exact (f3 k this).1, (f3 k this).2⟩
  · rcases List.mem_cons.1 hb with rfl | hb
    · exact ⟨hg, hw⟩
    · exact ⟨(h.boxes b (by simp [hb])).1, (o5 b.1 (fun e => h1 b hb e.symm)).trans (h.boxes b (by simp [hb])).2⟩
  · rcases List.mem_cons.1 hb with rfl | hb
    · exact h.rb r hr (g, o) (by simp)
    · exact h.rb r hr b (by simp [hb])
theorem Ins.put {g : Nat} {X Y : Nd} (h : Ins I w F p A rd rs ((g, Obj.cells (ndRow X) 40 (0, 0)) :: bs) wr) : Ins I w F p A rd rs ((g, Obj.cells (ndRow Y) 40 (0, 0)) :: bs) (put8 wr g Y) :=
  h.set (put8_same (h.boxes _ (List.Mem.head _)).2) ⟨(put8_below (n0 := 0) (Nat.zero_le _)).os, (put8_below (n0 := 0) (Nat.zero_le _)).tape, (put8_below (n0 := 0) (Nat.zero_le _)).output, put8_size wr g Y, fun k hk => put8_other wr g Y hk⟩
/-- a call that alters the arena -/
theorem Ins.mut {f : FuncId} {args : Array Value} {Q : Ending → Ar → Int → Prop} (h : Ins I w F p A rd rs bs wr) (hc : ∀ F1, I.Is wr p A rd F1 → Calls Try.prog f args wr (Mut I p F1 Q wr)) :
    Calls Try.prog f args wr fun e w' => ∃ A' rd', Q e A' rd' ∧ Ins I w F p A' rd' rs bs w' := by
  obtain ⟨F1, f1, f2, f3⟩ := h.mr.has
  refine (hc F1 f1).mono ?_
  rintro e w1 ⟨F', A', rd', hal, hI, hq⟩
  have hst := h.mr.stepA f2 f3 hal hI
  exact ⟨A', rd', hq, hst.1, fun k hk => (hst.2 k (.inl hk)).trans (h.kp k hk), fun r hr => row_keep (h.rows r hr) fun k hk' => hst.2 k (.inr (.inl ⟨r, hr, hk'⟩)), fun b hb => ⟨(h.boxes b hb).1, (hst.2 b.1 (.inr (.inr ⟨b, hb, rfl⟩))).trans (h.boxes b hb).2⟩, h.rr, h.bb, h.rb⟩
/-- a call that reads -/
theorem Ins.call {bd : Int} {v : Value} {f : FuncId} {args : Array Value} (h : Ins I w F p A rd rs bs wr) (hc : ∀ F1, I.Is wr p A rd F1 → Calls Try.prog f args wr (ReadsTo I p A rd F1 bd v wr)) :
    Calls Try.prog f args wr fun e w' => e = .returned v ∧ ∃ rd', Ins I w F p A rd' rs bs w' ∧ rd ≤ rd' ∧ rd' ≤ rd + bd := by
  refine (h.mut (Q := fun e A' rd' => e = .returned v ∧ A' = A ∧ rd ≤ rd' ∧ rd' ≤ rd + bd) fun F1 hI => (hc F1 hI).mono fun e w' ⟨F', rd', h1, h2, h3, h4, h5⟩ => ⟨F', A, rd', h2, h3, h1, rfl, h4, h5⟩).mono ?_
  rintro e w1 ⟨A', rd', ⟨h1, rfl, h4, h5⟩, h6⟩
  exact ⟨h1, rd', h6, h4, h5⟩
theorem Ins.ends (h : Ins I w F p A rd rs bs wr) : ∃ F', Alters F F' w wr ∧ I.Is wr p A rd F' := by
  obtain ⟨F', f1, f2, f3⟩ := h.mr.has
  refine ⟨F', ⟨h.mr.below.os, h.mr.below.tape, h.mr.below.output, h.mr.below.size, fun k hlt hF => h.kp k ⟨hlt, hF⟩, fun k hF' => ?_⟩, f1⟩
  by_cases hlt : k < w.heap.size
  · by_cases hF : F k
    · exact .inl hF
    · exact absurd hF' (f3 k (.inl ⟨hlt, hF⟩)).2
  · exact .inr (by omega)
/-! ### the arena's functions -/
theorem Ins.node (h : Ins I w F p A rd rs bs wr) (h0 : 0 ≤ rd) (h1 : rd ≤ 4398046511104) {i : Nat} (hi : i < 4294967296) (hon : A.σ.on i = true) :
    Calls Try.prog 28 #[p, .int .u32 (i : Int)] wr fun e w' => e = .returned (.tuple #[.agg (ndRow (A.nd i)), .bool true]) ∧ Ins I w F p A (rd + 1) rs bs w' := by
  refine (h.mut (Q := fun e A' rd' => e = .returned (.tuple #[.agg (ndRow (A.nd i)), .bool true]) ∧ A' = A ∧ rd' = rd + 1) fun F1 hI => (I.node p A rd F1 i wr hI h0 (by omega) hi).mono fun e w' ⟨F', hal, _, h6⟩ => ⟨F', A, rd + 1, hal, (h6 hon).2, (h6 hon).1, rfl, rfl⟩).mono ?_
  rintro e w1 ⟨A', rd', ⟨hq1, rfl, rfl⟩, h6⟩
  exact ⟨hq1, h6⟩
theorem Ins.node_no (h : Ins I w F p A rd rs bs wr) (h0 : 0 ≤ rd) (h1 : rd ≤ 4398046511104) {i : Nat} (hi : i < 4294967296) (hon : A.σ.on i = false) :
    Calls Try.prog 28 #[p, .int .u32 (i : Int)] wr fun e w' => e = .returned (.tuple #[.agg (ndRow Nd.zero), .bool false]) ∧ Ins I w F p A rd rs bs w' := by
  refine (h.mut (Q := fun e A' rd' => e = .returned (.tuple #[.agg (ndRow Nd.zero), .bool false]) ∧ A' = A ∧ rd' = rd) fun F1 hI => (I.node p A rd F1 i wr hI h0 (by omega) hi).mono fun e w' ⟨F', hal, h6, _⟩ => ⟨F', A, rd, hal, (h6 hon).2, (h6 hon).1, rfl, rfl⟩).mono ?_
  rintro e w1 ⟨A', rd', ⟨h5, rfl, rfl⟩, h6⟩
  exact ⟨h5, h6⟩
theorem Ins.free (h : Ins I w F p A rd rs bs wr) : Calls Try.prog 17 #[p] wr fun e w' => e = .returned (.int .i64 (A.σ.free.length : Int)) ∧ Ins I w F p A rd rs bs w' := by
  obtain ⟨F1, f1, _⟩ := h.mr.has
  exact (I.freeN p A rd F1 wr f1).mono fun e w1 ⟨h3, q, h4⟩ => ⟨h3, by subst h4; exact h.calm (below_drewN (Below.refl _ _) _)⟩
theorem Ins.make (h : Ins I w F p A rd rs bs wr) {held : Nat → Nat} (hv : A.Inv [] held) (ha : A.Agg) (hm : ∀ j, held j ≤ 1048576) {key val : Int} {l r i : Nat} {t : List Nat} (hk : i64R key) (hw : i64R val) (hl : A.Idx l) (hr : A.Idx r) (hs : (A.node key val l r).size ≤ 2147483647) (hf : A.σ.free = i :: t) :
    Calls Try.prog 25 #[p, .int .i64 key, .int .i64 val, .int .u32 (l : Int), .int .u32 (r : Int)] wr fun e w' => e = .returned (.tuple #[.int .u32 (i : Int), .int .i64 0]) ∧ Ins I w F p (A.made i t (A.node key val l r)) rd rs bs w' := by
  have hlt : ∀ {x}, A.Idx x → x < 4294967296 := fun {x} hx => by
    rcases hx with rfl | hx
    · omega
    · have := hv.ok.on x hx; have := hv.ok.cap2; omega
  refine (h.mut (Q := fun e A' rd' => e = .returned (.tuple #[.int .u32 (i : Int), .int .i64 0]) ∧ A' = A.made i t (A.node key val l r) ∧ rd' = rd) fun F1 hI => (I.make p A rd F1 key val l r held wr hI hv ha hm hk.1 hk.2 hw.1 hw.2 (hlt hl) (hlt hr)).mono fun e w' ⟨F', hal, _, _, h6⟩ => ?_).mono ?_
  · obtain ⟨h7, h8⟩ := h6 ⟨hl, hr, hs⟩ i t hf
    exact ⟨F', _, rd, hal, h8, h7, rfl, rfl⟩
  · rintro e w1 ⟨A', rd', ⟨hq1, rfl, rfl⟩, h6⟩
    exact ⟨hq1, h6⟩
theorem Ins.release (h : Ins I w F p A rd rs bs wr) {held : Nat → Nat} {i : Nat} (hi : i < 4294967296) (hx : A.Idx i) (hv : A.Inv [i] held) :
    Calls Try.prog 47 #[p, .int .u32 (i : Int)] wr fun e w' => e = .returned (.tuple #[.int .i64 (A.freed i : Int), .int .i64 0]) ∧ Ins I w F p (A.gone i) rd rs bs w' := by
  refine (h.mut (Q := fun e A' rd' => e = .returned (.tuple #[.int .i64 (A.freed i : Int), .int .i64 0]) ∧ A' = A.gone i ∧ rd' = rd) fun F1 hI => (I.release p A rd F1 i held wr hI hi (fun _ => hv)).mono fun e w' ⟨F', hal, _, h6⟩ => ⟨F', _, rd, hal, (h6 hx).2, (h6 hx).1, rfl, rfl⟩).mono ?_
  rintro e w1 ⟨A', rd', ⟨hq1, rfl, rfl⟩, h6⟩
  exact ⟨hq1, h6⟩
end
end Go.Proofs.Ytkhfofpbmnapjaa
