/- Of the proofs of SetopsUnion, SetopsIntersect, SetopsSubtract: Ins, MidB, RotOk, ShCon, HeldG. -/
import Derived.Test.YtfihklpofmcfgaaGreatA168
import Derived.Deep.DeepCutAuto
import Derived.Deep.RegionHeld3
set_option linter.unusedVariables false
set_option linter.unusedSimpArgs false
namespace Go.Proofs.YtfihklpofmcfgaaGreat
open Go.RowKit
/-- what lay there and is none of the arena's -/
def OldI (w : World) (F : Nat → Prop) (k : Nat) : Prop := k < w.heap.size ∧ ¬ F k
structure Ins (I : AImpl) (w : World) (F : Nat → Prop) (p : Value) (A : Ar) (rd : Int) (rs : List Row) (bs : List (Nat × Obj)) (wr : World) : Prop where
  mr : MR I 0 w wr p A rd (fun k => OldI w F k ∨ SG rs bs k)
  kp : Keeps (OldI w F) w wr
  rows : ∀ r ∈ rs, wr.ownsRow w.heap.size r.e r.s r.v r.n r.xs
  boxes : ∀ b ∈ bs, w.heap.size ≤ b.1 ∧ wr.heap[b.1]? = some b.2
  rr : rs.Pairwise fun x y => ∀ k, x.v.ownBlock = some k → y.v.ownBlock ≠ some k
  bb : bs.Pairwise fun x y => x.1 ≠ y.1
  rb : ∀ r ∈ rs, ∀ b ∈ bs, r.v.ownBlock ≠ some b.1
section
variable {I : AImpl} {w wr wx : World} {F : Nat → Prop} {p : Value} {A A' : Ar} {rd rd' : Int} {rs : List Row} {bs : List (Nat × Obj)}
theorem Ins.start (h : I.Is w p A rd F) : Ins I w F p A rd [] [] w :=
  ⟨⟨⟨F, h, fun _ _ => Nat.zero_le _, fun k hk => by (rcases hk with hk | ⟨r, hr, _⟩ | ⟨b, hb, _⟩; exact hk; cases hr; cases hb)⟩, Below.refl _ _, Nat.zero_le _⟩, fun _ _ => rfl, fun r hr => (by cases hr), fun b hb => (by cases hb), List.Pairwise.nil, List.Pairwise.nil, fun r hr => (by cases hr)⟩
theorem Ins.size (h : Ins I w F p A rd rs bs wr) : w.heap.size ≤ wr.heap.size := h.mr.below.size
theorem Ins.calm (h : Ins I w F p A rd rs bs wr) (hb : Below wr.heap.size wr wx) : Ins I w F p A rd rs bs wx :=
  ⟨h.mr.calm hb, fun k hk => (h.mr.keeps hb k (.inl hk)).trans (h.kp k hk), fun r hr => row_below (h.rows r hr) hb, fun b hb' => ⟨(h.boxes b hb').1, (h.mr.keeps hb b.1 (.inr (.inr ⟨b, hb', rfl⟩))).trans (h.boxes b hb').2⟩, h.rr, h.bb, h.rb⟩
theorem Ins.lt (h : Ins I w F p A rd rs bs wr) {k : Nat} (hk : SG rs bs k) : k < wr.heap.size := h.mr.lt (.inr hk)
/-- a new box -/
theorem Ins.box (h : Ins I w F p A rd rs bs wr) (cs : Array Value) (t : TypeId) : Ins I w F p A rd rs ((wr.heap.size, .cells cs t (0, 0)) :: bs) (wr.alloc (.cells cs t)) := by
  have hb := below_new7 wr (.cells cs t)
  have h' := h.calm hb
  refine ⟨h.mr.fresh hb fun k hk => ?_, h'.kp, h'.rows, fun b hb' => ?_, h.rr, List.pairwise_cons.2 ⟨fun b hb' e => ?_, h.bb⟩, fun r hr b hb' => ?_⟩
  · rcases hk with hk | hk | ⟨b, hb', rfl⟩
    · exact .inl (.inl hk)
    · exact .inl (.inr (.inl hk))
    · rcases List.mem_cons.1 hb' with rfl | hb'
      · exact .inr ⟨Nat.le_refl _, by simp⟩
      · exact .inl (.inr (.inr ⟨b, hb', rfl⟩))
  · rcases List.mem_cons.1 hb' with rfl | hb'
    · exact ⟨h.size, heap_alloc_new wr _⟩
    · exact h'.boxes b hb'
  · have := h.lt (.inr ⟨b, hb', rfl⟩)
    have e' : wr.heap.size = b.1 := e
    omega
  · rcases List.mem_cons.1 hb' with rfl | hb'
    · intro e
      have := h.lt (.inl ⟨r, hr, e⟩)
      exact Nat.lt_irrefl _ this
    · exact h.rb r hr b hb'
theorem Ins.less {rs' : List Row} {bs' : List (Nat × Obj)} (h : Ins I w F p A rd rs bs wr) (h1 : rs'.Sublist rs) (h2 : bs'.Sublist bs) : Ins I w F p A rd rs' bs' wr :=
  ⟨h.mr.less fun k hk => hk.imp_right fun hk => by (rcases hk with ⟨r, hr, hk⟩ | ⟨b, hb, hk⟩; exact .inl ⟨r, h1.subset hr, hk⟩; exact .inr ⟨b, h2.subset hb, hk⟩), h.kp, fun r hr => h.rows r (h1.subset hr), fun b hb => h.boxes b (h2.subset hb), h.rr.sublist h1, h.bb.sublist h2, fun r hr b hb => h.rb r (h1.subset hr) b (h2.subset hb)⟩
theorem Ins.perm {bs' : List (Nat × Obj)} (h : Ins I w F p A rd rs bs wr) (hp : bs.Perm bs') : Ins I w F p A rd rs bs' wr :=
  ⟨h.mr.less fun k hk => hk.imp_right fun hk => by (rcases hk with ⟨r, hr, hk⟩ | ⟨b, hb, hk⟩; exact .inl ⟨r, hr, hk⟩; exact .inr ⟨b, hp.mem_iff.2 hb, hk⟩), h.kp, h.rows, fun b hb => h.boxes b (hp.mem_iff.2 hb), h.rr, hp.pairwise h.bb (fun e e' => e e'.symm), fun r hr b hb => h.rb r hr b (hp.mem_iff.2 hb)⟩
/-- the first box is written anew -/
theorem Ins.set {g : Nat} {o o' : Obj} (h : Ins I w F p A rd rs ((g, o) :: bs) wr) (hw : wx.heap[g]? = some o') (ho : wx.os = wr.os ∧ wx.tape = wr.tape ∧ wx.output = wr.output ∧ wx.heap.size = wr.heap.size ∧ ∀ k, k ≠ g → wx.heap[k]? = wr.heap[k]?) :
    Ins I w F p A rd rs ((g, o') :: bs) wx := by
  obtain ⟨o1, o2, o3, o4, o5⟩ := ho
  obtain ⟨F1, f1, f2, f3⟩ := h.mr.has
  obtain ⟨h1, h2⟩ := List.pairwise_cons.1 h.bb
  have hg := (h.boxes (g, o) (by simp)).1
  have hgF := (f3 g (.inr (.inr ⟨(g, o), by simp, rfl⟩))).2
  refine ⟨⟨⟨F1, I.keep f1 fun k hk => o5 k fun e => hgF (e ▸ hk), f2, fun k hk => ?_⟩, h.mr.below.trans ⟨o1, o2, o3, Nat.le_of_eq o4.symm, fun k hk => absurd hk (Nat.not_lt_zero k)⟩, Nat.zero_le _⟩, fun k hk => (o5 k fun e => by subst e; have := hk.1; have hg' : w.heap.size ≤ k := hg; omega).trans (h.kp k hk), fun r hr => row_keep (h.rows r hr) fun k hk => o5 k fun e => h.rb r hr (g, o) (by simp) (e ▸ hk), fun b hb => ?_, h.rr, List.pairwise_cons.2 ⟨h1, h2⟩, fun r hr b hb => ?_⟩
  · have : OldI w F k ∨ SG rs ((g, o) :: bs) k := hk.imp_right fun hk => by
      rcases hk with hk | ⟨b, hb, rfl⟩
      · exact .inl hk
      · rcases List.mem_cons.1 hb with rfl | hb
        · exact .inr ⟨(g, o), by simp, rfl⟩
        · exact .inr ⟨b, by simp [hb], rfl⟩
    exact ⟨by rw [o4]; exact (f3 k this).1, (f3 k this).2⟩
  · rcases List.mem_cons.1 hb with rfl | hb
    · exact ⟨hg, hw⟩
    · exact ⟨(h.boxes b (by simp [hb])).1, (o5 b.1 (fun e => h1 b hb e.symm)).trans (h.boxes b (by simp [hb])).2⟩
  · rcases List.mem_cons.1 hb with rfl | hb
    · exact h.rb r hr (g, o) (by simp)
    · exact h.rb r hr b (by simp [hb])
theorem Ins.put {g : Nat} {X Y : Nd} (h : Ins I w F p A rd rs ((g, Obj.cells (ndRow X) 81 (0, 0)) :: bs) wr) : Ins I w F p A rd rs ((g, Obj.cells (ndRow Y) 81 (0, 0)) :: bs) (put8 wr g Y) :=
  h.set (put8_same (h.boxes _ (List.Mem.head _)).2) ⟨(put8_below (n0 := 0) (Nat.zero_le _)).os, (put8_below (n0 := 0) (Nat.zero_le _)).tape, (put8_below (n0 := 0) (Nat.zero_le _)).output, put8_size wr g Y, fun k hk => put8_other wr g Y hk⟩
/-- a call that alters the arena -/
theorem Ins.mut {f : FuncId} {args : Array Value} {Q : Ending → Ar → Int → Prop} (h : Ins I w F p A rd rs bs wr) (hc : ∀ F1, I.Is wr p A rd F1 → Calls Tryz.prog f args wr (Mut I p F1 Q wr)) :
    Calls Tryz.prog f args wr fun e w' => ∃ A' rd', Q e A' rd' ∧ Ins I w F p A' rd' rs bs w' := by
  obtain ⟨F1, f1, f2, f3⟩ := h.mr.has
  refine (hc F1 f1).mono ?_
  rintro e w1 ⟨F', A', rd', hal, hI, hq⟩
  have hst := h.mr.stepA f2 f3 hal hI
  exact ⟨A', rd', hq, hst.1, fun k hk => (hst.2 k (.inl hk)).trans (h.kp k hk), fun r hr => row_keep (h.rows r hr) fun k hk' => hst.2 k (.inr (.inl ⟨r, hr, hk'⟩)), fun b hb => ⟨(h.boxes b hb).1, (hst.2 b.1 (.inr (.inr ⟨b, hb, rfl⟩))).trans (h.boxes b hb).2⟩, h.rr, h.bb, h.rb⟩
/-- a call that reads -/
theorem Ins.call {bd : Int} {v : Value} {f : FuncId} {args : Array Value} (h : Ins I w F p A rd rs bs wr) (hc : ∀ F1, I.Is wr p A rd F1 → Calls Tryz.prog f args wr (ReadsTo I p A rd F1 bd v wr)) :
    Calls Tryz.prog f args wr fun e w' => e = .returned v ∧ ∃ rd', Ins I w F p A rd' rs bs w' ∧ rd ≤ rd' ∧ rd' ≤ rd + bd := by
  refine (h.mut (Q := fun e A' rd' => e = .returned v ∧ A' = A ∧ rd ≤ rd' ∧ rd' ≤ rd + bd) fun F1 hI => (hc F1 hI).mono fun e w' ⟨F', rd', h1, h2, h3, h4, h5⟩ => ⟨F', A, rd', h2, h3, h1, rfl, h4, h5⟩).mono ?_
  rintro e w1 ⟨A', rd', ⟨h1, rfl, h4, h5⟩, h6⟩
  exact ⟨h1, rd', h6, h4, h5⟩
theorem Ins.ends (h : Ins I w F p A rd rs bs wr) : ∃ F', Alters F F' w wr ∧ I.Is wr p A rd F' := by
  obtain ⟨F', f1, f2, f3⟩ := h.mr.has
  refine ⟨F', ⟨h.mr.below.os, h.mr.below.tape, h.mr.below.output, h.mr.below.size, fun k hlt hF => h.kp k ⟨hlt, hF⟩, fun k hF' => ?_⟩, f1⟩
  by_cases hlt : k < w.heap.size
  · by_cases hF : F k
    · exact .inl hF
    · exact absurd hF' (f3 k (.inl ⟨hlt, hF⟩)).2
  · exact .inr (by omega)
theorem Ins.node (h : Ins I w F p A rd rs bs wr) (h0 : 0 ≤ rd) (h1 : rd ≤ 4398046511104) {i : Nat} (hi : i < 4294967296) (hon : A.σ.on i = true) :
    Calls Tryz.prog 95 #[p, .int .u32 (i : Int)] wr fun e w' => e = .returned (.tuple #[.agg (ndRow (A.nd i)), .bool true]) ∧ Ins I w F p A (rd + 1) rs bs w' := by
  refine (h.mut (Q := fun e A' rd' => e = .returned (.tuple #[.agg (ndRow (A.nd i)), .bool true]) ∧ A' = A ∧ rd' = rd + 1) fun F1 hI => (I.node p A rd F1 i wr hI h0 (by omega) hi).mono fun e w' ⟨F', hal, _, h6⟩ => ⟨F', A, rd + 1, hal, (h6 hon).2, (h6 hon).1, rfl, rfl⟩).mono ?_
  rintro e w1 ⟨A', rd', ⟨hq1, rfl, rfl⟩, h6⟩
  exact ⟨hq1, h6⟩
theorem Ins.node_no (h : Ins I w F p A rd rs bs wr) (h0 : 0 ≤ rd) (h1 : rd ≤ 4398046511104) {i : Nat} (hi : i < 4294967296) (hon : A.σ.on i = false) :
    Calls Tryz.prog 95 #[p, .int .u32 (i : Int)] wr fun e w' => e = .returned (.tuple #[.agg (ndRow Nd.zero), .bool false]) ∧ Ins I w F p A rd rs bs w' := by
  refine (h.mut (Q := fun e A' rd' => e = .returned (.tuple #[.agg (ndRow Nd.zero), .bool false]) ∧ A' = A ∧ rd' = rd) fun F1 hI => (I.node p A rd F1 i wr hI h0 (by omega) hi).mono fun e w' ⟨F', hal, h6, _⟩ => ⟨F', A, rd, hal, (h6 hon).2, (h6 hon).1, rfl, rfl⟩).mono ?_
  rintro e w1 ⟨A', rd', ⟨h5, rfl, rfl⟩, h6⟩
  exact ⟨h5, h6⟩
/-- Size of an index: 0 for the empty tree, and then no read -/
theorem Ins.sz (h : Ins I w F p A rd rs bs wr) (h0 : 0 ≤ rd) (h1 : rd ≤ 4398046511104) {i : Nat} (hi : i < 4294967296) (hx : A.Idx i) (hok : A.σ.Ok) :
    Calls Tryz.prog 27 #[p, .int .u32 (i : Int)] wr fun e w' => e = .returned (.int .i64 (A.sz i)) ∧ Ins I w F p A (rd + if i = 0 then 0 else 1) rs bs w' := by
  refine (h.mut (Q := fun e A' rd' => e = .returned (.int .i64 (A.sz i)) ∧ A' = A ∧ rd' = rd + if i = 0 then 0 else 1) fun F1 hI => (I.size p A rd F1 i wr hI h0 (by omega) hi).mono fun e w' ⟨F', hal, h6, h7⟩ => ?_).mono ?_
  · by_cases e0 : i = 0
    · subst e0
      have hoff : A.σ.on 0 = false := by
        cases ho : A.σ.on 0
        · rfl
        · have := hok.on 0 ho; omega
      exact ⟨F', A, rd, hal, (h6 hoff).2, (h6 hoff).1, rfl, by rw [if_pos rfl]; omega⟩
    · have hon := hx.resolve_left e0
      exact ⟨F', A, rd + 1, hal, (h7 hon).2, by rw [(h7 hon).1]; unfold Ar.sz; rw [if_neg e0], rfl, by rw [if_neg e0]⟩
  · rintro e w1 ⟨A', rd', ⟨hq1, rfl, rfl⟩, h6⟩
    exact ⟨hq1, h6⟩
theorem Ins.free (h : Ins I w F p A rd rs bs wr) : Calls Tryz.prog 51 #[p] wr fun e w' => e = .returned (.int .i64 (A.σ.free.length : Int)) ∧ Ins I w F p A rd rs bs w' := by
  obtain ⟨F1, f1, _⟩ := h.mr.has
  exact (I.freeN p A rd F1 wr f1).mono fun e w1 ⟨h3, q, h4⟩ => ⟨h3, by subst h4; exact h.calm (below_drewN (Below.refl _ _) _)⟩
theorem Ins.make (h : Ins I w F p A rd rs bs wr) {held : Nat → Nat} (hv : A.Inv [] held) (ha : A.Agg) (hm : ∀ j, held j ≤ 1048576) {key val : Int} {l r i : Nat} {t : List Nat} (hk : i64R key) (hw : i64R val) (hl : A.Idx l) (hr : A.Idx r) (hs : (A.node key val l r).size ≤ 2147483647) (hf : A.σ.free = i :: t) :
    Calls Tryz.prog 65 #[p, .int .i64 key, .int .i64 val, .int .u32 (l : Int), .int .u32 (r : Int)] wr fun e w' => e = .returned (.tuple #[.int .u32 (i : Int), .int .i64 0]) ∧ Ins I w F p (A.made i t (A.node key val l r)) rd rs bs w' := by
  have hlt : ∀ {x}, A.Idx x → x < 4294967296 := fun {x} hx => by
    rcases hx with rfl | hx
    · omega
    · have := hv.ok.on x hx; have := hv.ok.cap2; omega
  refine (h.mut (Q := fun e A' rd' => e = .returned (.tuple #[.int .u32 (i : Int), .int .i64 0]) ∧ A' = A.made i t (A.node key val l r) ∧ rd' = rd) fun F1 hI => (I.make p A rd F1 key val l r held wr hI hv ha hm hk.1 hk.2 hw.1 hw.2 (hlt hl) (hlt hr)).mono fun e w' ⟨F', hal, _, _, h6⟩ => ?_).mono ?_
  · obtain ⟨h7, h8⟩ := h6 ⟨hl, hr, hs⟩ i t hf
    exact ⟨F', _, rd, hal, h8, h7, rfl, rfl⟩
  · rintro e w1 ⟨A', rd', ⟨hq1, rfl, rfl⟩, h6⟩
    exact ⟨hq1, h6⟩
theorem Ins.release (h : Ins I w F p A rd rs bs wr) {held : Nat → Nat} {i : Nat} (hi : i < 4294967296) (hx : A.Idx i) (hv : A.Inv [i] held) :
    Calls Tryz.prog 14 #[p, .int .u32 (i : Int)] wr fun e w' => e = .returned (.tuple #[.int .i64 (A.freed i : Int), .int .i64 0]) ∧ Ins I w F p (A.gone i) rd rs bs w' := by
  refine (h.mut (Q := fun e A' rd' => e = .returned (.tuple #[.int .i64 (A.freed i : Int), .int .i64 0]) ∧ A' = A.gone i ∧ rd' = rd) fun F1 hI => (I.release p A rd F1 i held wr hI hi (fun _ => hv)).mono fun e w' ⟨F', hal, _, h6⟩ => ⟨F', _, rd, hal, (h6 hx).2, (h6 hx).1, rfl, rfl⟩).mono ?_
  rintro e w1 ⟨A', rd', ⟨hq1, rfl, rfl⟩, h6⟩
  exact ⟨hq1, h6⟩
theorem Ins.retain (h : Ins I w F p A rd rs bs wr) {i : Nat} (hi : i < 4294967296) (hx : A.Idx i) (hc : A.cnt i < 4611686018427387904) :
    Calls Tryz.prog 37 #[p, .int .u32 (i : Int)] wr fun e w' => e = .returned (.int .i64 0) ∧ Ins I w F p (A.ret i) rd rs bs w' := by
  refine (h.mut (Q := fun e A' rd' => e = .returned (.int .i64 0) ∧ A' = A.ret i ∧ rd' = rd) fun F1 hI => (I.retain p A rd F1 i wr hI hi (fun _ => hc)).mono fun e w' ⟨F', hal, _, h6⟩ => ⟨F', _, rd, hal, (h6 hx).2, (h6 hx).1, rfl, rfl⟩).mono ?_
  rintro e w1 ⟨A', rd', ⟨hq1, rfl, rfl⟩, h6⟩
  exact ⟨hq1, h6⟩
end
theorem idx_lt32B {A : Ar} {held : Nat → Nat} (hv : A.Inv [] held) {x : Nat} (hx : A.Idx x) : x < 4294967296 := by
  rcases hx with hx | hx
  · omega
  · have := hv.ok.on x hx; have := hv.ok.cap2; omega
theorem off_zeroB {A : Ar} {held : Nat → Nat} (hv : A.Inv [] held) : A.σ.on 0 = false := by
  cases ho : A.σ.on 0
  · rfl
  · have := hv.ok.on 0 ho; omega
theorem sz_rng {A : Ar} (ha : A.Agg) {x : Nat} (hx : A.Idx x) : 0 ≤ A.sz x ∧ A.sz x ≤ 2147483647 := by
  refine ⟨sz_nonneg ha hx, ?_⟩
  unfold Ar.sz
  by_cases h0 : x = 0
  · rw [if_pos h0]; decide
  · rw [if_neg h0]; exact (ha.size x (hx.resolve_left h0)).2
theorem sz_pos {A : Ar} (ha : A.Agg) {held : Nat → Nat} (hv : A.Inv [] held) {x : Nat} (hx : A.Idx x) (h0 : x ≠ 0) : 0 < A.sz x := by
  have hon := hx.resolve_left h0
  have h1 := sz_child ha hon
  have c := hv.child x hon
  have z1 := sz_nonneg ha c.1
  have z2 := sz_nonneg ha c.2
  unfold Ar.sz
  rw [if_neg h0]
  omega
/-- a rotation that has its form and its slots -/
def TurnQ (A : Ar) (rd bd : Int) (held : Nat → Nat) (k i : Nat) (en : Ending) (B : Ar) (rd' : Int) : Prop :=
  rd ≤ rd' ∧ rd' ≤ rd + bd ∧ ∃ j : Nat, en = .returned (.tuple #[.int .u32 (j : Int), .int .i64 0]) ∧ Turned A held B j (rneed k) ∧ RNodes A B k i j
theorem RotSpec.ok {I : AImpl} {f : FuncId} {k : Nat} (hf : RotSpec I f k) {p : Value} {A : Ar} {rd : Int} {F : Nat → Prop} {held : Nat → Nat} {i : Nat} {w : World} (hI : I.Is w p A rd F) (hv : A.Inv [] held) (ha : A.Agg) (hwf : WfNear A i) (hm : ∀ j, held j ≤ 1048500) (h0 : 0 ≤ rd) (h1 : rd ≤ 2199023255552) (hi : i < 4294967296) (hform : rform A k i = true) (hn : rneed k ≤ A.σ.free.length) :
    Calls Tryz.prog f #[p, .int .u32 (i : Int)] w (Mut I p F (TurnQ A rd 4 held k i) w) := by
  refine (hf w hI hv ha hwf hm h0 h1 hi).mono ?_
  rintro e w1 ⟨F', rd', hal, hr0, hr1, hq⟩
  rcases hq with ⟨q1, -⟩ | ⟨-, q2, -⟩ | ⟨-, -, B, j, q4, q5, q6, q7⟩
  · rw [hform] at q1; cases q1
  · omega
  · exact ⟨F', B, rd', hal, q7, hr0, hr1, j, q6, q4, q5⟩
theorem alone_off {A : Ar} {held : Nat → Nat} (hv : A.Inv [] held) {i : Nat} (h : A.σ.on i = false) : held i = 0 := by
  rcases Nat.eq_zero_or_pos (held i) with h0 | h0
  · exact h0
  · have := hv.held i h0; rw [h] at this; cases this
/-- behind a rotation the root that was rotated is given back, and its slot becomes free -/
theorem turn_end {A A1 C : Ar} {held : Nat → Nat} {i j k : Nat} (hM : Mid A held A1 [i]) (hal : Alone A1 i) (hoff : A.σ.on i = false) (hi : A1.σ.on i = true) (hf : rform A1 k i = true) (hk : k < 4) (ht : Turned A1 (plL held [i]) C j (rneed k)) (hr : RNodes A1 C k i j) :
    C.Inv [i] (plL held [j]) ∧ C.Idx i ∧ Mid A held (C.gone i) [j] ∧ A1.σ.free.length ≤ (C.gone i).σ.free.length + 2 ∧ ∀ t l, At C j t l → At (C.gone i) j t l := by
  obtain ⟨m1, m2, m3, m4⟩ := hM.rot ht
  obtain ⟨g1, g2, g3, g4, g5, g6⟩ := (m1.perm (List.Perm.swap i j [])).give
  have h0 : i ≠ 0 := by have := hM.inv.ok.on i hi; omega
  have hC : Alone C i := rot_alone hal hM.inv hi hf hk ht hr
  have hji : j ≠ i := fun e => by
    subst e
    obtain ⟨N, n1, n2, n3⟩ := hr.news hi hf hk ht.agg hM.inv ht.inv
    have hnew : NewIn A1 C j := by
      unfold RNodes at hr
      split at hr
      · obtain ⟨z, h1, _⟩ := hr; exact h1
      · obtain ⟨z, h1, _⟩ := hr; exact h1
      · obtain ⟨y, z, _, h1, _⟩ := hr; exact h1
      · obtain ⟨y, z, _, h1, _⟩ := hr; exact h1
    have h2 := hnew.2
    rw [hi] at h2
    cases h2
  have hh : plL held [j] i = 0 := by
    rw [plL_cons, plL_nil, pls_at, alone_off hM.base hoff, if_neg (fun q => hji q.2.symm)]
  have hon : C.σ.on i = true := ht.kept.on i hi
  have hfr := hC.frees g1 m1.agg h0 hon hh
  have hn : rneed k ≤ 3 := by unfold rneed; split <;> omega
  have hjdx : (C.gone i).Idx j := g5 j (by simp) (.inr (ht.inv.held j (by unfold more; rw [if_pos rfl]; omega)))
  exact ⟨g1, g2, g3, by omega, fun t l h => h.gone g3.inv hjdx⟩
/-- a call made a tree j over A, where x is held; then x is given back -/
theorem nest_give {A0 A B : Ar} {held : Nat → Nat} {x j : Nat} {t : Tr} {l : List En} (hM : Mid A0 held A [x]) (hB : Mid A (plL held [x]) B [j]) (hj : At B j t l) :
    B.Inv [x] (plL held [j]) ∧ B.Idx x ∧ Mid A0 held (B.gone x) [j] ∧ B.σ.free.length ≤ (B.gone x).σ.free.length ∧ At (B.gone x) j t l := by
  have hn : Mid A0 held B [j, x] := hM.nest hB
  obtain ⟨g1, g2, g3, g4, g5, g6⟩ := (hn.perm (List.Perm.swap x j [])).give
  exact ⟨g1, g2, g3, g4, hj.gone g3.inv (g5 j (by simp) hj.idx)⟩
theorem WfL.left {a b : List En} (h : WfL (a ++ b)) : WfL a := fun y hy => h y (by simp [hy])
theorem WfL.right {a b : List En} (h : WfL (a ++ b)) : WfL b := fun y hy => h y (by simp [hy])
theorem WfL.tail {e : En} {b : List En} (h : WfL (e :: b)) : WfL b := fun y hy => h y (by simp [hy])
theorem WfL.mid {a b : List En} {e : En} (ha : WfL a) (he : i64R e.key ∧ i64R e.val) (hb : WfL b) : WfL (a ++ e :: b) := fun y hy => by
  rcases List.mem_append.1 hy with h | h
  · exact ha y h
  · rcases List.mem_cons.1 h with rfl | h
    · exact he
    · exact hb y h
theorem wf_near2 {B : Ar} {hd : Nat → Nat} (hv : B.Inv [] hd) {i L R : Nat} {e : En} {tl tr : Tr} {ll lr : List En} (hon : B.σ.on i = true) (hn : (B.nd i).key = e.key ∧ (B.nd i).val = e.val ∧ (B.nd i).left = L ∧ (B.nd i).right = R) (hL : At B L tl ll) (hR : At B R tr lr) (hw : WfL (ll ++ e :: lr)) (he : i64R e.key ∧ i64R e.val) : WfNear B i := by
  have hz := off_zeroB hv
  have hz2 := (hv.off 0 hz).2
  have w1 := hw.left
  have w2 := hw.right.tail
  have key : ∀ {x : Nat} {t' : Tr} {l' : List En}, At B x t' l' → WfL l' → B.σ.on x = true → (i64R (B.nd x).key ∧ i64R (B.nd x).val) := fun {x t' l'} h1 h2 h3 => by
    have hx0 : x ≠ 0 := fun e => by subst e; rw [hz] at h3; cases h3
    obtain ⟨tl, tr, ll, lr, -, rfl, -, -, -⟩ := h1.split hx0
    exact h2 ⟨(B.nd x).key, (B.nd x).val⟩ (by simp)
  intro x hx hox
  have hx0 : x ≠ 0 := fun e => by subst e; rw [hz] at hox; cases hox
  rw [hn.2.2.1, hn.2.2.2] at hx
  rcases hx with rfl | rfl | rfl | rfl | rfl
  · rw [hn.1, hn.2.1]; exact he
  · exact key hL w1 hox
  · exact key hR w2 hox
  · by_cases hl0 : L = 0
    · rw [hl0, hz2] at hx0
      exact absurd rfl hx0
    · obtain ⟨tc, td, lc, ld, -, rfl, -, hD, -⟩ := hL.split hl0
      exact key hD w1.right.tail hox
  · by_cases hl0 : R = 0
    · rw [hl0, hz2] at hx0
      exact absurd rfl hx0
    · obtain ⟨tc, td, lc, ld, -, rfl, hC, -, -⟩ := hR.split hl0
      exact key hC w2.left hox
/-- what balance answers: a tree over two trees; how many slots it takes -/
def BalQ (A0 A : Ar) (rd : Int) (held : Nat → Nat) (ll lr : List En) (e : En) (en : Ending) (B : Ar) (rd' : Int) : Prop :=
  rd ≤ rd' ∧ rd' ≤ rd + 9 ∧ ∃ (j : Nat) (t : Tr), en = .returned (.tuple #[.int .u32 (j : Int), .int .i64 0]) ∧ Mid A0 held B [j] ∧ At B j t (ll ++ e :: lr) ∧ (wbL ll lr → A.σ.free.length ≤ B.σ.free.length + 1) ∧ A.σ.free.length ≤ B.σ.free.length + 3
/-- the two sides are balanced, or the one is too heavy by so little that one rotation is enough -/
def HbL (ll lr : List En) : Prop := wbL ll lr ∨ (3 * (ll.length + 1) < lr.length + 1 ∧ hv (ll.length + 1) (lr.length + 1)) ∨ (3 * (lr.length + 1) < ll.length + 1 ∧ hv (lr.length + 1) (ll.length + 1))
section
variable {I : AImpl} {w wr : World} {F : Nat → Prop} {p : Value} {A B : Ar} {rd rd' : Int} {rs : List Row} {bs : List (Nat × Obj)} {held : Nat → Nat} {k i j : Nat}
theorem rot_bad (h : Ins I w F p A rd' rs bs wr) (hf : rform A k i = false) (h0 : rd ≤ rd') (h1 : rd' ≤ rd + 4) : RotRes I p A rd F held k i w (.returned (.tuple #[.int .u32 0, .int .i64 1])) wr := by
  obtain ⟨F', hal, hI⟩ := h.ends
  exact ⟨F', rd', hal, h0, h1, .inl ⟨hf, rfl, hI⟩⟩
theorem rot_full (h : Ins I w F p A rd' rs bs wr) (hf : rform A k i = true) (hn : A.σ.free.length < rneed k) (h0 : rd ≤ rd') (h1 : rd' ≤ rd + 4) : RotRes I p A rd F held k i w (.returned (.tuple #[.int .u32 0, .int .i64 2])) wr := by
  obtain ⟨F', hal, hI⟩ := h.ends
  exact ⟨F', rd', hal, h0, h1, .inr (.inl ⟨hf, hn, rfl, hI⟩)⟩
theorem rot_ok (h : Ins I w F p B rd' rs bs wr) (hf : rform A k i = true) (hn : rneed k ≤ A.σ.free.length) (ht : Turned A held B j (rneed k)) (hr : RNodes A B k i j) (h0 : rd ≤ rd') (h1 : rd' ≤ rd + 4) : RotRes I p A rd F held k i w (.returned (.tuple #[.int .u32 (j : Int), .int .i64 0])) wr := by
  obtain ⟨F', hal, hI⟩ := h.ends
  exact ⟨F', rd', hal, h0, h1, .inr (.inr ⟨hf, hn, B, j, ht, hr, rfl, hI⟩)⟩
theorem Ins.row8 {g : Nat} {X : Nd} (h : Ins I w F p A rd rs bs wr) (hm : (g, Obj.cells (ndRow X) 81 (0, 0)) ∈ bs) : Row8 wr g X := row8_of (h.boxes _ hm).2
theorem idx_lt32 (hv : A.Inv [] held) {x : Nat} (hx : A.Idx x) : x < 4294967296 := by
  rcases hx with hx | hx
  · omega
  · have := hv.ok.on x hx; have := hv.ok.cap2; omega
/-- the node of an index, and zero values where there is none -/
def ndz (A : Ar) (i : Nat) : Nd := if A.σ.on i = true then A.nd i else Nd.zero
theorem ndz_on (h : A.σ.on i = true) : ndz A i = A.nd i := if_pos h
theorem ndz_off (h : A.σ.on i = false) : ndz A i = Nd.zero := if_neg (by rw [h]; decide)
theorem Ins.look (h : Ins I w F p A rd rs bs wr) (h0 : 0 ≤ rd) (h1 : rd ≤ 4398046511104) {i : Nat} (hi : i < 4294967296) :
    Calls Tryz.prog 95 #[p, .int .u32 (i : Int)] wr fun e w' => e = .returned (.tuple #[.agg (ndRow (ndz A i)), .bool (A.σ.on i)]) ∧ ∃ rd', Ins I w F p A rd' rs bs w' ∧ rd ≤ rd' ∧ rd' ≤ rd + 1 := by
  cases hon : A.σ.on i
  · refine (h.node_no h0 h1 hi hon).mono ?_
    rintro e w' ⟨rfl, h2⟩
    exact ⟨by rw [ndz_off hon], rd, h2, by omega, by omega⟩
  · refine (h.node h0 h1 hi hon).mono ?_
    rintro e w' ⟨rfl, h2⟩
    exact ⟨by rw [ndz_on hon], rd + 1, h2, by omega, by omega⟩
theorem ndz_idx (hv : A.Inv [] held) (i : Nat) : A.Idx (ndz A i).left ∧ A.Idx (ndz A i).right := by
  cases hon : A.σ.on i
  · rw [ndz_off hon]; exact ⟨.inl rfl, .inl rfl⟩
  · rw [ndz_on hon]; exact hv.child i hon
theorem off_zero (hv : A.Inv [] held) : A.σ.on 0 = false := by
  cases ho : A.σ.on 0
  · rfl
  · have := hv.ok.on 0 ho; omega
theorem idx_on (hv : A.Inv [] held) {x : Nat} (hx : A.Idx x) : A.σ.on x = (x != 0) := by
  rcases hx with rfl | hx
  · rw [off_zero hv]; rfl
  · rw [hx]
    have h0 : x ≠ 0 := fun e => by rw [e, off_zero hv] at hx; cases hx
    simp [h0]
theorem form0 (hv : A.Inv [] held) (i : Nat) : A.σ.on (ndz A i).right = rform A 0 i := by
  rw [idx_on hv (ndz_idx hv i).2]
  unfold rform
  cases hon : A.σ.on i
  · rw [ndz_off hon]; rfl
  · rw [ndz_on hon]; rfl
theorem form1 (hv : A.Inv [] held) (i : Nat) : A.σ.on (ndz A i).left = rform A 1 i := by
  rw [idx_on hv (ndz_idx hv i).1]
  unfold rform
  cases hon : A.σ.on i
  · rw [ndz_off hon]; rfl
  · rw [ndz_on hon]; rfl
theorem form2 (hv : A.Inv [] held) (i : Nat) : A.σ.on (ndz A (ndz A i).right).left = rform A 2 i := by
  rw [idx_on hv (ndz_idx hv _).1]
  unfold rform
  have h0 := off_zero hv
  cases hon : A.σ.on i
  · rw [ndz_off hon, show Nd.zero.right = 0 from rfl, ndz_off h0]; rfl
  · rw [ndz_on hon]
    rcases (hv.child i hon).2 with hr | hr
    · rw [hr, ndz_off h0]; rfl
    · have h1 : (A.nd i).right ≠ 0 := fun e => by rw [e, h0] at hr; cases hr
      rw [ndz_on hr]
      simp [h1]
theorem form3 (hv : A.Inv [] held) (i : Nat) : A.σ.on (ndz A (ndz A i).left).right = rform A 3 i := by
  rw [idx_on hv (ndz_idx hv _).2]
  unfold rform
  have h0 := off_zero hv
  cases hon : A.σ.on i
  · rw [ndz_off hon, show Nd.zero.left = 0 from rfl, ndz_off h0]; rfl
  · rw [ndz_on hon]
    rcases (hv.child i hon).1 with hr | hr
    · rw [hr, ndz_off h0]; rfl
    · have h1 : (A.nd i).left ≠ 0 := fun e => by rw [e, h0] at hr; cases hr
      rw [ndz_on hr]
      simp [h1]
theorem form_on (hf : rform A k i = true) : A.σ.on i = true := by
  unfold rform at hf
  cases hon : A.σ.on i
  · rw [hon] at hf; cases hf
  · rfl
theorem on_of_left (hv : A.Inv [] held) (h : A.σ.on (ndz A i).left = true) : A.σ.on i = true := by
  cases hon : A.σ.on i
  · rw [ndz_off hon, show Nd.zero.left = 0 from rfl, off_zero hv] at h; cases h
  · rfl
theorem on_of_right (hv : A.Inv [] held) (h : A.σ.on (ndz A i).right = true) : A.σ.on i = true := by
  cases hon : A.σ.on i
  · rw [ndz_off hon, show Nd.zero.right = 0 from rfl, off_zero hv] at h; cases h
  · rfl
def chkN (b : Bool) (f N : Int) : Int := if b = false then 1 else if f < N then 2 else 0
theorem chk_any (h : Ins I w F p A rd rs bs wr) (b : Bool) (N : Int) :
    Calls Tryz.prog 155 #[p, .bool b, .int .i64 N] wr fun e w' => e = .returned (.int .i64 (chkN b A.σ.free.length N)) ∧ Ins I w F p A rd rs bs w' := by
  obtain ⟨F1, f1, _⟩ := h.mr.has
  obtain ⟨pa, rfl⟩ := I.ptr f1
  clear f1
  have HS := Lib.hid h
  clear h
  cases b
  · go_enter Tryz.func155, Tryz.ntmps155
    go_wp2_with fail
    go_ret
    exact ⟨rfl, HS.out⟩
  · by_cases hl : ((A.σ.free.length : Nat) : Int) < N
    · have E : chkN true ((A.σ.free.length : Nat) : Int) N = 2 := by unfold chkN; rw [if_neg (by decide), if_pos hl]
      have hd := decide_eq_true hl
      have HE := Lib.hid E
      clear E hl
      go_enter Tryz.func155, Tryz.ntmps155
      go_wp2_with fail
      refine (HS.out.free).mono ?_
      rintro e w1 ⟨rfl, hs1⟩
      have HS1 := Lib.hid hs1
      clear hs1
      go_wp2_with fail
      go_ret
      exact ⟨by rw [HE.out]; rfl, HS1.out⟩
    · have E : chkN true ((A.σ.free.length : Nat) : Int) N = 0 := by unfold chkN; rw [if_neg (by decide), if_neg hl]
      have hd := decide_eq_false hl
      have HE := Lib.hid E
      clear E hl
      go_enter Tryz.func155, Tryz.ntmps155
      go_wp2_with fail
      refine (HS.out.free).mono ?_
      rintro e w1 ⟨rfl, hs1⟩
      have HS1 := Lib.hid hs1
      clear hs1
      go_wp2_with fail
      go_ret
      exact ⟨by rw [HE.out]; rfl, HS1.out⟩
theorem mns_more3b {held : Nat → Nat} {a b c : Nat} (ha : a ≠ 0) (hb : b ≠ 0) (h1 : a ≠ b) (h2 : a ≠ c) (h3 : b ≠ c) : mns (mns (more (more (more held a) b) c) b) a = more held c := by
  funext j
  rw [mns_at, mns_at]
  unfold more
  by_cases e2 : j = b
  · subst e2
    repeat' split
    all_goals omega
  by_cases e3 : j = a
  · subst e3
    repeat' split
    all_goals omega
  by_cases e1 : j = c
  · subst e1
    repeat' split
    all_goals omega
  repeat' split
  all_goals omega
/-- three nodes, the third over the first two; then the second one's reference is given back, and the first one's -/
theorem three_nodes_b {A A1 A2 A3 : Ar} {held : Nat → Nat} {i1 i2 i3 : Nat} {x1 x2 x3 : Nd} (h1 : Mk A held i1 x1 A1) (h2 : Mk A1 (more held i1) i2 x2 A2) (h3 : Mk A2 (more (more held i1) i2) i3 x3 A3) (hc1 : 2 ≤ A3.cnt i1) (hc2 : 2 ≤ A3.cnt i2) :
    (A3.Idx i2 → A3.Inv [i2] (mns (more (more (more held i1) i2) i3) i2)) ∧ A3.Idx i2 ∧
    ((A3.gone i2).Idx i1 → (A3.gone i2).Inv [i1] (mns (mns (more (more (more held i1) i2) i3) i2) i1)) ∧ (A3.gone i2).Idx i1 ∧
    Turned A held ((A3.gone i2).gone i1) i3 3 ∧ i1 ≠ i2 ∧ NewIn A ((A3.gone i2).gone i1) i1 ∧ NewIn A ((A3.gone i2).gone i1) i2 ∧ NewIn A ((A3.gone i2).gone i1) i3 ∧
    ((A3.gone i2).gone i1).nd i1 = x1 ∧ ((A3.gone i2).gone i1).nd i2 = x2 ∧ ((A3.gone i2).gone i1).nd i3 = x3 := by
  have hi1 : i1 ≠ 0 := by have := h1.inv.ok.on i1 h1.new.1; omega
  have hi2 : i2 ≠ 0 := by have := h2.inv.ok.on i2 h2.new.1; omega
  have n12 : i1 ≠ i2 := fun e => by have h := h2.new.2; rw [← e, h1.new.1] at h; cases h
  have on1 : A2.σ.on i1 = true := h2.kept.on i1 h1.new.1
  have n13 : i1 ≠ i3 := fun e => by have h := h3.new.2; rw [← e, on1] at h; cases h
  have n23 : i2 ≠ i3 := fun e => by have h := h3.new.2; rw [← e, h2.new.1] at h; cases h
  have hh1 : 0 < more (more (more held i1) i2) i3 i2 := by unfold more; rw [if_neg n23, if_pos rfl]; omega
  obtain ⟨g1, g2, g3, g4, g5, g6, g7, g8⟩ := give h3.inv h3.agg (i := i2) (fun _ => ⟨hh1, hc2⟩)
  have hh2 : 0 < mns (more (more (more held i1) i2) i3) i2 i1 := by
    rw [mns_at, if_neg (fun q => n12 q.2)]
    unfold more
    rw [if_neg n13, if_neg n12, if_pos rfl]
    omega
  have hc2' : 2 ≤ (A3.gone i2).cnt i1 := by rw [g8, if_neg (fun q => n12 q.2)]; omega
  obtain ⟨k1, k2, k3, k4, k5, k6, k7, k8⟩ := give g3 g4 (i := i1) (fun _ => ⟨hh2, hc2'⟩)
  rw [mns_more3b hi1 hi2 n12 n13 n23] at k3
  have hk3 := g6.trans k6
  have hk := ((h1.kept.trans h2.kept).trans h3.kept).trans hk3
  have hσ : ((A3.gone i2).gone i1).σ = A3.σ := k7.trans g7
  have o1 : A3.σ.on i1 = true := h3.kept.on i1 on1
  have o2 : A3.σ.on i2 = true := h3.kept.on i2 h2.new.1
  refine ⟨g1, g2, k1, k2, ⟨hk, fun j hj => ?_, k3, k4, fun q => k5 (g5 (h3.wf (h2.wf (h1.wf q)))), ?_⟩, n12, ⟨by rw [hσ]; exact o1, h1.new.2⟩, ⟨by rw [hσ]; exact o2, h2.off h1.kept⟩, ⟨by rw [hσ]; exact h3.new.1, h3.off (h1.kept.trans h2.kept)⟩, ?_, ?_, ?_⟩
  · rw [hσ, h3.gen j (h2.kept.on j (h1.kept.on j hj)), h2.gen j (h1.kept.on j hj), h1.gen j hj]
  · rw [hσ]
    have f1 := h1.free
    have f2 := h2.free
    have f3 := h3.free
    omega
  · rw [hk3.nd i1 o1, h3.kept.nd i1 on1, h2.kept.nd i1 h1.new.1, h1.nd]
  · rw [hk3.nd i2 o2, h3.kept.nd i2 h2.new.1, h2.nd]
  · rw [hk3.nd i3 h3.new.1, h3.nd]
end
set_option maxHeartbeats 8000000 in
set_option maxRecDepth 100000 in
theorem rotLeft_any (I : AImpl) : RotSpec I 148 0 := by
  intro p A rd F held i w hI hv ha hwf hm h0 h1 hi
  obtain ⟨pa, rfl⟩ := I.ptr hI
  have HRD : Hid (0 ≤ rd ∧ rd ≤ 2199023255552) := ⟨h0, h1⟩
  have HI := Lib.hid hi
  have HV := Lib.hid hv
  have HA := Lib.hid ha
  have HWF := Lib.hid hwf
  have HM := Lib.hid hm
  have HS0 := Lib.hid (Ins.start hI)
  clear hI hv ha hwf hm h0 h1 hi
  go_enter Tryz.func148, Tryz.ntmps148
  go_wp2_with fail
  refine (HS0.out.look (by have := HRD.out; omega) (by have := HRD.out; omega) HI.out).mono ?_
  rintro e w2a ⟨rfl, rd1, hs, r1, r2⟩
  have HR0 : Hid (rd ≤ rd1 ∧ rd1 ≤ rd + 1) := ⟨r1, r2⟩
  obtain ⟨P, hP⟩ : ∃ x, ndz A i = x := ⟨_, rfl⟩
  rw [hP]
  have HP := Lib.hid hP
  have HCP : Hid (A.Idx P.left ∧ A.Idx P.right) := by have h := ndz_idx HV.out i; rw [hP] at h; exact h
  unfold ndRow
  have HS1 := Lib.hid (hs.box #[Value.int .i64 P.key, .int .i64 P.val, .int .u32 (P.left : Int), .int .u32 (P.right : Int), .int .i64 P.size, .int .i64 P.sum, .int .i64 P.mn, .int .i64 P.mx] 81)
  clear hs HS0 hP r1 r2
  go_upto_region 2 with fail
  generalize w2a.alloc (Obj.cells #[Value.int .i64 P.key, .int .i64 P.val, .int .u32 (P.left : Int), .int .u32 (P.right : Int), .int .i64 P.size, .int .i64 P.sum, .int .i64 P.mn, .int .i64 P.mx] 81) = w2 at HS1 ⊢
  generalize w2a.heap.size = gp at HS1 ⊢
  obtain ⟨⟨p0, p1, p2, p3, p4, p5, p6, p7⟩, -⟩ := HS1.out.row8 (g := gp) (X := P) (by simp [ndRow])
  go_wp2_with fail
  refine (HS1.out.look (by have := HRD.out; have := HR0.out; omega) (by have := HRD.out; have := HR0.out; omega) (idx_lt32 HV.out HCP.out.2)).mono ?_
  rintro e w4a ⟨rfl, rd2, hs, r1, r2⟩
  have HR1 : Hid (rd1 ≤ rd2 ∧ rd2 ≤ rd1 + 1) := ⟨r1, r2⟩
  obtain ⟨QN, hQN⟩ : ∃ x, ndz A P.right = x := ⟨_, rfl⟩
  rw [hQN]
  have HQN := Lib.hid hQN
  have HCQN : Hid (A.Idx QN.left ∧ A.Idx QN.right) := by have h := ndz_idx HV.out P.right; rw [hQN] at h; exact h
  have hform : A.σ.on P.right = rform A 0 i := by have h := form0 HV.out i; rw [HP.out] at h; exact h
  rw [hform]
  have HFORM := Lib.hid hform
  clear hform p0 p1 p2 p3 p4 p5 p6 p7
  unfold ndRow
  have HS2 := Lib.hid (hs.box #[Value.int .i64 QN.key, .int .i64 QN.val, .int .u32 (QN.left : Int), .int .u32 (QN.right : Int), .int .i64 QN.size, .int .i64 QN.sum, .int .i64 QN.mn, .int .i64 QN.mx] 81)
  clear hs HS1 hQN r1 r2
  go_upto_region 3 with fail
  generalize w4a.alloc (Obj.cells #[Value.int .i64 QN.key, .int .i64 QN.val, .int .u32 (QN.left : Int), .int .u32 (QN.right : Int), .int .i64 QN.size, .int .i64 QN.sum, .int .i64 QN.mn, .int .i64 QN.mx] 81) = w4 at HS2 ⊢
  generalize w4a.heap.size = gq at HS2 ⊢
  generalize hff : rform A 0 i = b
  have HFF := Lib.hid hff
  have HE : Hid ((chkN b A.σ.free.length 2 = 1 ∧ b = false) ∨ (chkN b A.σ.free.length 2 = 2 ∧ b = true ∧ A.σ.free.length < 2) ∨ (chkN b A.σ.free.length 2 = 0 ∧ b = true ∧ 2 ≤ A.σ.free.length)) := by
    unfold chkN
    show _ ∨ _
    cases b
    · exact .inl ⟨rfl, rfl⟩
    · by_cases hl : ((A.σ.free.length : Nat) : Int) < 2
      · exact .inr (.inl ⟨by rw [if_neg (by decide), if_pos hl], rfl, by omega⟩)
      · exact .inr (.inr ⟨by rw [if_neg (by decide), if_neg hl], rfl, by omega⟩)
  clear hff
  go_wp2_with fail
  refine (chk_any HS2.out b 2).mono ?_
  rintro e wc ⟨rfl, hs⟩
  have HS := Lib.hid hs
  clear hs HS2
  obtain ⟨c, hc⟩ : ∃ c, chkN b A.σ.free.length 2 = c := ⟨_, rfl⟩
  have hE := HE.out
  rw [hc] at hE ⊢
  clear hc HE
  rcases hE with ⟨rfl, rfl⟩ | ⟨rfl, rfl, hfr⟩ | ⟨rfl, rfl, hfr⟩
  · go_wp2_with fail
    go_ret2
    exact rot_bad HS.out HFF.out (by have := HR0.out; have := HR1.out; omega) (by have := HR0.out; have := HR1.out; omega)
  · have HFR := Lib.hid hfr
    clear hfr
    go_wp2_with fail
    go_ret2
    exact rot_full HS.out HFF.out HFR.out (by have := HR0.out; have := HR1.out; omega) (by have := HR0.out; have := HR1.out; omega)
  have HFR : Hid (2 ≤ A.σ.free.length) := hfr
  clear hfr
  have HON : Hid (A.σ.on i = true) := form_on HFF.out
  have HQI : Hid (A.σ.on P.right = true ∧ P.right < 4294967296) := ⟨HFORM.out.trans HFF.out, idx_lt32 HV.out HCP.out.2⟩
  have HP' : Hid (A.nd i = P) := by have h := HP.out; rw [ndz_on HON.out] at h; exact h
  have HQ' : Hid (A.nd P.right = QN) := by have h := HQN.out; rw [ndz_on HQI.out.1] at h; exact h
  obtain ⟨i1, i2, tl, hfl⟩ : ∃ i1 i2 tl, A.σ.free = i1 :: i2 :: tl := by
    have h := HFR.out
    match hq : A.σ.free, h with
    | a :: b :: t, _ => exact ⟨a, b, t, rfl⟩
    | [a], h => simp at h
    | [], h => simp at h
  have hsz : (A.node P.key P.val P.left QN.left).size + 1 + A.sz QN.right ≤ 2147483647 := by
    have e1 := sz_child HA.out HON.out
    have e2 := sz_child HA.out HQI.out.1
    rw [HP'.out] at e1
    rw [HQ'.out] at e2
    have e3 : A.sz P.right = (A.nd P.right).size := by unfold Ar.sz; rw [if_neg]; have := HV.out.ok.on _ HQI.out.1; omega
    rw [HQ'.out] at e3
    have e4 := (HA.out.size i HON.out).2
    rw [HP'.out] at e4
    show 1 + A.sz _ + A.sz _ + 1 + A.sz _ ≤ _
    omega
  have hn0 := sz_nonneg HA.out HCQN.out.2
  have HWP : Hid ((i64R P.key ∧ i64R P.val) ∧ i64R QN.key ∧ i64R QN.val) := by
    have h1 := HWF.out i (.inl rfl) HON.out
    have h2 := HWF.out P.right (by rw [← HP'.out]; simp) HQI.out.1
    rw [HP'.out] at h1
    rw [HQ'.out] at h2
    exact ⟨h1, h2⟩
  have HFL := Lib.hid hfl
  have HM1 := Lib.hid (mk (t := i2 :: tl) HV.out HA.out hfl HWP.out.1.1 HWP.out.1.2 (l := P.left) (r := QN.left) HCP.out.1 HCQN.out.1 (by omega))
  have HSZ := Lib.hid hsz
  have HN0 := Lib.hid hn0
  have HMH : Hid (∀ j, more held i1 j ≤ 1048576) := fun j => Nat.le_trans (more_small HM.out i1 j) (by decide)
  clear hfl hsz hn0
  obtain ⟨⟨p0, p1, p2, p3, p4, p5, p6, p7⟩, -⟩ := HS.out.row8 (g := gp) (X := P) (by simp [ndRow])
  obtain ⟨⟨q0, q1, q2, q3, q4, q5, q6, q7⟩, -⟩ := HS.out.row8 (g := gq) (X := QN) (by simp [ndRow])
  go_wp2_with fail
  refine (HS.out.make HV.out HA.out (fun j => Nat.le_trans (HM.out j) (by decide)) HWP.out.1.1 HWP.out.1.2 (l := P.left) (r := QN.left) HCP.out.1 HCQN.out.1 (by have := HSZ.out; have := HN0.out; omega) HFL.out).mono ?_
  rintro e w6 ⟨rfl, hs6⟩
  have HS6 := Lib.hid hs6
  clear hs6 HS p0 p1 p2 p3 p4 p5 p6 p7 q0 q1 q2 q3 q4 q5 q6 q7
  obtain ⟨A1, hA1⟩ : ∃ B, A.made i1 (i2 :: tl) (A.node P.key P.val P.left QN.left) = B := ⟨_, rfl⟩
  have hf1 : A1.σ.free = i2 :: tl := by rw [← hA1]; rfl
  rw [hA1] at HS6 HM1
  have hz1 : A1.sz i1 = (A.node P.key P.val P.left QN.left).size := by
    unfold Ar.sz
    rw [if_neg (by have := HM1.out.inv.ok.on i1 HM1.out.new.1; omega), HM1.out.nd]
  have hx1 : A1.Idx i1 := .inr HM1.out.new.1
  have hx2 : A1.Idx QN.right := HM1.out.kept.idx HCQN.out.2
  have hz2 := kept_sz HM1.out.kept HCQN.out.2
  have hs2 : (A1.node QN.key QN.val i1 QN.right).size ≤ 2147483647 := by
    have h := HSZ.out
    show 1 + A1.sz _ + A1.sz _ ≤ _
    omega
  have HM2 := Lib.hid (mk (t := tl) HM1.out.inv HM1.out.agg hf1 HWP.out.2.1 HWP.out.2.2 hx1 hx2 hs2)
  have HX : Hid (A1.Idx i1 ∧ A1.Idx QN.right ∧ (A1.node QN.key QN.val i1 QN.right).size ≤ 2147483647 ∧ A1.σ.free = i2 :: tl) := ⟨hx1, hx2, hs2, hf1⟩
  have hcn : 2 ≤ (A1.made i2 tl (A1.node QN.key QN.val i1 QN.right)).cnt i1 := by
    rw [made_cnt HM1.out.inv hf1 HM1.out.new.1]
    have h1 := HM1.out.inv.pos i1 HM1.out.new.1
    have e : hit i1 i1 = 1 := if_pos rfl
    show 2 ≤ A1.cnt i1 + ((hit i1 i1 : Nat) : Int) + ((hit QN.right i1 : Nat) : Int)
    rw [e]
    omega
  have HT := Lib.hid (two_nodes HM1.out HM2.out hcn)
  clear hA1 hf1 hz1 hx1 hx2 hz2 hs2 hcn
  obtain ⟨⟨q0, q1, q2, q3, q4, q5, q6, q7⟩, -⟩ := HS6.out.row8 (g := gq) (X := QN) (by simp [ndRow])
  go_wp2_with fail
  refine (HS6.out.make HM1.out.inv HM1.out.agg HMH.out HWP.out.2.1 HWP.out.2.2 (l := i1) (r := QN.right) HX.out.1 HX.out.2.1 HX.out.2.2.1 HX.out.2.2.2).mono ?_
  rintro e w7 ⟨rfl, hs7⟩
  have HS7 := Lib.hid hs7
  clear hs7 HS6 q0 q1 q2 q3 q4 q5 q6 q7
  go_wp2_with fail
  refine (HS7.out.release (idx_lt32 HM2.out.inv HT.out.2.1) HT.out.2.1 (HT.out.1 HT.out.2.1)).mono ?_
  rintro e w8 ⟨rfl, hs8⟩
  have HS8 := Lib.hid hs8
  clear hs8 HS7
  go_wp2_with fail
  go_ret2
  obtain ⟨_, _, t1, t2, t3, t4, t5⟩ := HT.out
  refine rot_ok HS8.out HFF.out HFR.out t1 ?_ (by have := HR0.out; have := HR1.out; omega) (by have := HR0.out; have := HR1.out; omega)
  refine ⟨i1, t3, t2, ?_, ?_⟩
  · rw [t5, HP'.out, HQ'.out]
    exact ⟨rfl, rfl, rfl, rfl⟩
  · rw [t4, HP'.out, HQ'.out]
    exact ⟨rfl, rfl, rfl, rfl⟩
set_option maxHeartbeats 8000000 in
set_option maxRecDepth 100000 in
theorem rotRight_any (I : AImpl) : RotSpec I 150 1 := by
  intro p A rd F held i w hI hv ha hwf hm h0 h1 hi
  obtain ⟨pa, rfl⟩ := I.ptr hI
  have HRD : Hid (0 ≤ rd ∧ rd ≤ 2199023255552) := ⟨h0, h1⟩
  have HI := Lib.hid hi
  have HV := Lib.hid hv
  have HA := Lib.hid ha
  have HWF := Lib.hid hwf
  have HM := Lib.hid hm
  have HS0 := Lib.hid (Ins.start hI)
  clear hI hv ha hwf hm h0 h1 hi
  go_enter Tryz.func150, Tryz.ntmps150
  go_wp2_with fail
  refine (HS0.out.look (by have := HRD.out; omega) (by have := HRD.out; omega) HI.out).mono ?_
  rintro e w2a ⟨rfl, rd1, hs, r1, r2⟩
  have HR0 : Hid (rd ≤ rd1 ∧ rd1 ≤ rd + 1) := ⟨r1, r2⟩
  obtain ⟨P, hP⟩ : ∃ x, ndz A i = x := ⟨_, rfl⟩
  rw [hP]
  have HP := Lib.hid hP
  have HCP : Hid (A.Idx P.left ∧ A.Idx P.right) := by have h := ndz_idx HV.out i; rw [hP] at h; exact h
  unfold ndRow
  have HS1 := Lib.hid (hs.box #[Value.int .i64 P.key, .int .i64 P.val, .int .u32 (P.left : Int), .int .u32 (P.right : Int), .int .i64 P.size, .int .i64 P.sum, .int .i64 P.mn, .int .i64 P.mx] 81)
  clear hs HS0 hP r1 r2
  go_upto_region 2 with fail
  generalize w2a.alloc (Obj.cells #[Value.int .i64 P.key, .int .i64 P.val, .int .u32 (P.left : Int), .int .u32 (P.right : Int), .int .i64 P.size, .int .i64 P.sum, .int .i64 P.mn, .int .i64 P.mx] 81) = w2 at HS1 ⊢
  generalize w2a.heap.size = gp at HS1 ⊢
  obtain ⟨⟨p0, p1, p2, p3, p4, p5, p6, p7⟩, -⟩ := HS1.out.row8 (g := gp) (X := P) (by simp [ndRow])
  go_wp2_with fail
  refine (HS1.out.look (by have := HRD.out; have := HR0.out; omega) (by have := HRD.out; have := HR0.out; omega) (idx_lt32 HV.out HCP.out.1)).mono ?_
  rintro e w4a ⟨rfl, rd2, hs, r1, r2⟩
  have HR1 : Hid (rd1 ≤ rd2 ∧ rd2 ≤ rd1 + 1) := ⟨r1, r2⟩
  obtain ⟨QN, hQN⟩ : ∃ x, ndz A P.left = x := ⟨_, rfl⟩
  rw [hQN]
  have HQN := Lib.hid hQN
  have HCQN : Hid (A.Idx QN.left ∧ A.Idx QN.right) := by have h := ndz_idx HV.out P.left; rw [hQN] at h; exact h
  have hform : A.σ.on P.left = rform A 1 i := by have h := form1 HV.out i; rw [HP.out] at h; exact h
  rw [hform]
  have HFORM := Lib.hid hform
  clear hform p0 p1 p2 p3 p4 p5 p6 p7
  unfold ndRow
  have HS2 := Lib.hid (hs.box #[Value.int .i64 QN.key, .int .i64 QN.val, .int .u32 (QN.left : Int), .int .u32 (QN.right : Int), .int .i64 QN.size, .int .i64 QN.sum, .int .i64 QN.mn, .int .i64 QN.mx] 81)
  clear hs HS1 hQN r1 r2
  go_upto_region 3 with fail
  generalize w4a.alloc (Obj.cells #[Value.int .i64 QN.key, .int .i64 QN.val, .int .u32 (QN.left : Int), .int .u32 (QN.right : Int), .int .i64 QN.size, .int .i64 QN.sum, .int .i64 QN.mn, .int .i64 QN.mx] 81) = w4 at HS2 ⊢
  generalize w4a.heap.size = gq at HS2 ⊢
  generalize hff : rform A 1 i = b
  have HFF := Lib.hid hff
  have HE : Hid ((chkN b A.σ.free.length 2 = 1 ∧ b = false) ∨ (chkN b A.σ.free.length 2 = 2 ∧ b = true ∧ A.σ.free.length < 2) ∨ (chkN b A.σ.free.length 2 = 0 ∧ b = true ∧ 2 ≤ A.σ.free.length)) := by
    unfold chkN
    show _ ∨ _
    cases b
    · exact .inl ⟨rfl, rfl⟩
    · by_cases hl : ((A.σ.free.length : Nat) : Int) < 2
      · exact .inr (.inl ⟨by rw [if_neg (by decide), if_pos hl], rfl, by omega⟩)
      · exact .inr (.inr ⟨by rw [if_neg (by decide), if_neg hl], rfl, by omega⟩)
  clear hff
  go_wp2_with fail
  refine (chk_any HS2.out b 2).mono ?_
  rintro e wc ⟨rfl, hs⟩
  have HS := Lib.hid hs
  clear hs HS2
  obtain ⟨c, hc⟩ : ∃ c, chkN b A.σ.free.length 2 = c := ⟨_, rfl⟩
  have hE := HE.out
  rw [hc] at hE ⊢
  clear hc HE
  rcases hE with ⟨rfl, rfl⟩ | ⟨rfl, rfl, hfr⟩ | ⟨rfl, rfl, hfr⟩
  · go_wp2_with fail
    go_ret2
    exact rot_bad HS.out HFF.out (by have := HR0.out; have := HR1.out; omega) (by have := HR0.out; have := HR1.out; omega)
  · have HFR := Lib.hid hfr
    clear hfr
    go_wp2_with fail
    go_ret2
    exact rot_full HS.out HFF.out HFR.out (by have := HR0.out; have := HR1.out; omega) (by have := HR0.out; have := HR1.out; omega)
  have HFR : Hid (2 ≤ A.σ.free.length) := hfr
  clear hfr
  have HON : Hid (A.σ.on i = true) := form_on HFF.out
  have HQI : Hid (A.σ.on P.left = true ∧ P.left < 4294967296) := ⟨HFORM.out.trans HFF.out, idx_lt32 HV.out HCP.out.1⟩
  have HP' : Hid (A.nd i = P) := by have h := HP.out; rw [ndz_on HON.out] at h; exact h
  have HQ' : Hid (A.nd P.left = QN) := by have h := HQN.out; rw [ndz_on HQI.out.1] at h; exact h
  obtain ⟨i1, i2, tl, hfl⟩ : ∃ i1 i2 tl, A.σ.free = i1 :: i2 :: tl := by
    have h := HFR.out
    match hq : A.σ.free, h with
    | a :: b :: t, _ => exact ⟨a, b, t, rfl⟩
    | [a], h => simp at h
    | [], h => simp at h
  have hsz : (A.node P.key P.val QN.right P.right).size + 1 + A.sz QN.left ≤ 2147483647 := by
    have e1 := sz_child HA.out HON.out
    have e2 := sz_child HA.out HQI.out.1
    rw [HP'.out] at e1
    rw [HQ'.out] at e2
    have e3 : A.sz P.left = (A.nd P.left).size := by unfold Ar.sz; rw [if_neg]; have := HV.out.ok.on _ HQI.out.1; omega
    rw [HQ'.out] at e3
    have e4 := (HA.out.size i HON.out).2
    rw [HP'.out] at e4
    show 1 + A.sz _ + A.sz _ + 1 + A.sz _ ≤ _
    omega
  have hn0 := sz_nonneg HA.out HCQN.out.1
  have HWP : Hid ((i64R P.key ∧ i64R P.val) ∧ i64R QN.key ∧ i64R QN.val) := by
    have h1 := HWF.out i (.inl rfl) HON.out
    have h2 := HWF.out P.left (by rw [← HP'.out]; simp) HQI.out.1
    rw [HP'.out] at h1
    rw [HQ'.out] at h2
    exact ⟨h1, h2⟩
  have HFL := Lib.hid hfl
  have HM1 := Lib.hid (mk (t := i2 :: tl) HV.out HA.out hfl HWP.out.1.1 HWP.out.1.2 (l := QN.right) (r := P.right) HCQN.out.2 HCP.out.2 (by omega))
  have HSZ := Lib.hid hsz
  have HN0 := Lib.hid hn0
  have HMH : Hid (∀ j, more held i1 j ≤ 1048576) := fun j => Nat.le_trans (more_small HM.out i1 j) (by decide)
  clear hfl hsz hn0
  obtain ⟨⟨p0, p1, p2, p3, p4, p5, p6, p7⟩, -⟩ := HS.out.row8 (g := gp) (X := P) (by simp [ndRow])
  obtain ⟨⟨q0, q1, q2, q3, q4, q5, q6, q7⟩, -⟩ := HS.out.row8 (g := gq) (X := QN) (by simp [ndRow])
  go_wp2_with fail
  refine (HS.out.make HV.out HA.out (fun j => Nat.le_trans (HM.out j) (by decide)) HWP.out.1.1 HWP.out.1.2 (l := QN.right) (r := P.right) HCQN.out.2 HCP.out.2 (by have := HSZ.out; have := HN0.out; omega) HFL.out).mono ?_
  rintro e w6 ⟨rfl, hs6⟩
  have HS6 := Lib.hid hs6
  clear hs6 HS p0 p1 p2 p3 p4 p5 p6 p7 q0 q1 q2 q3 q4 q5 q6 q7
  obtain ⟨A1, hA1⟩ : ∃ B, A.made i1 (i2 :: tl) (A.node P.key P.val QN.right P.right) = B := ⟨_, rfl⟩
  have hf1 : A1.σ.free = i2 :: tl := by rw [← hA1]; rfl
  rw [hA1] at HS6 HM1
  have hz1 : A1.sz i1 = (A.node P.key P.val QN.right P.right).size := by
    unfold Ar.sz
    rw [if_neg (by have := HM1.out.inv.ok.on i1 HM1.out.new.1; omega), HM1.out.nd]
  have hx1 : A1.Idx i1 := .inr HM1.out.new.1
  have hx2 : A1.Idx QN.left := HM1.out.kept.idx HCQN.out.1
  have hz2 := kept_sz HM1.out.kept HCQN.out.1
  have hs2 : (A1.node QN.key QN.val QN.left i1).size ≤ 2147483647 := by
    have h := HSZ.out
    show 1 + A1.sz _ + A1.sz _ ≤ _
    omega
  have HM2 := Lib.hid (mk (t := tl) HM1.out.inv HM1.out.agg hf1 HWP.out.2.1 HWP.out.2.2 hx2 hx1 hs2)
  have HX : Hid (A1.Idx i1 ∧ A1.Idx QN.left ∧ (A1.node QN.key QN.val QN.left i1).size ≤ 2147483647 ∧ A1.σ.free = i2 :: tl) := ⟨hx1, hx2, hs2, hf1⟩
  have hcn : 2 ≤ (A1.made i2 tl (A1.node QN.key QN.val QN.left i1)).cnt i1 := by
    rw [made_cnt HM1.out.inv hf1 HM1.out.new.1]
    have h1 := HM1.out.inv.pos i1 HM1.out.new.1
    have e : hit i1 i1 = 1 := if_pos rfl
    show 2 ≤ A1.cnt i1 + ((hit QN.left i1 : Nat) : Int) + ((hit i1 i1 : Nat) : Int)
    rw [e]
    omega
  have HT := Lib.hid (two_nodes HM1.out HM2.out hcn)
  clear hA1 hf1 hz1 hx1 hx2 hz2 hs2 hcn
  obtain ⟨⟨q0, q1, q2, q3, q4, q5, q6, q7⟩, -⟩ := HS6.out.row8 (g := gq) (X := QN) (by simp [ndRow])
  go_wp2_with fail
  refine (HS6.out.make HM1.out.inv HM1.out.agg HMH.out HWP.out.2.1 HWP.out.2.2 (l := QN.left) (r := i1) HX.out.2.1 HX.out.1 HX.out.2.2.1 HX.out.2.2.2).mono ?_
  rintro e w7 ⟨rfl, hs7⟩
  have HS7 := Lib.hid hs7
  clear hs7 HS6 q0 q1 q2 q3 q4 q5 q6 q7
  go_wp2_with fail
  refine (HS7.out.release (idx_lt32 HM2.out.inv HT.out.2.1) HT.out.2.1 (HT.out.1 HT.out.2.1)).mono ?_
  rintro e w8 ⟨rfl, hs8⟩
  have HS8 := Lib.hid hs8
  clear hs8 HS7
  go_wp2_with fail
  go_ret2
  obtain ⟨_, _, t1, t2, t3, t4, t5⟩ := HT.out
  refine rot_ok HS8.out HFF.out HFR.out t1 ?_ (by have := HR0.out; have := HR1.out; omega) (by have := HR0.out; have := HR1.out; omega)
  refine ⟨i1, t3, t2, ?_, ?_⟩
  · rw [t5, HP'.out, HQ'.out]
    exact ⟨rfl, rfl, rfl, rfl⟩
  · rw [t4, HP'.out, HQ'.out]
    exact ⟨rfl, rfl, rfl, rfl⟩
def SprQ (A : Ar) (rd : Int) (held : Nat → Nat) (P Q R : Nd) (e : Ending) (B : Ar) (rd' : Int) : Prop :=
  rd' = rd ∧ ∃ j : Nat, e = .returned (.tuple #[.int .u32 (j : Int), .int .i64 0]) ∧ Turned A held B j 3 ∧ ∃ y z, y ≠ z ∧ NewIn A B j ∧ NewIn A B y ∧ NewIn A B z ∧ isNd (B.nd j) Q y z ∧ isNd (B.nd y) P P.left Q.left ∧ isNd (B.nd z) R Q.right R.right
set_option maxHeartbeats 8000000 in
set_option maxRecDepth 100000 in
theorem spread_any (I : AImpl) {p : Value} {A : Ar} {rd : Int} {F : Nat → Prop} {held : Nat → Nat} {P QN R : Nd} (w : World) (hI : I.Is w p A rd F) (hv : A.Inv [] held) (ha : A.Agg) (hm : ∀ j, held j ≤ 1048500) (hfr : 3 ≤ A.σ.free.length)
    (hx : A.Idx P.left ∧ A.Idx QN.left ∧ A.Idx QN.right ∧ A.Idx R.right) (hw : (i64R P.key ∧ i64R P.val) ∧ (i64R QN.key ∧ i64R QN.val) ∧ i64R R.key ∧ i64R R.val) (hs : 3 + A.sz P.left + A.sz QN.left + A.sz QN.right + A.sz R.right ≤ 2147483647) :
    Calls Tryz.prog 156 #[p, .agg #[Value.int .i64 P.key, .int .i64 P.val, .int .u32 (P.left : Int), .int .u32 (P.right : Int), .int .i64 P.size, .int .i64 P.sum, .int .i64 P.mn, .int .i64 P.mx], .agg #[Value.int .i64 QN.key, .int .i64 QN.val, .int .u32 (QN.left : Int), .int .u32 (QN.right : Int), .int .i64 QN.size, .int .i64 QN.sum, .int .i64 QN.mn, .int .i64 QN.mx], .agg #[Value.int .i64 R.key, .int .i64 R.val, .int .u32 (R.left : Int), .int .u32 (R.right : Int), .int .i64 R.size, .int .i64 R.sum, .int .i64 R.mn, .int .i64 R.mx]] w (Mut I p F (SprQ A rd held P QN R) w) := by
  obtain ⟨pa, rfl⟩ := I.ptr hI
  have hs0 := (((Ins.start hI).box #[Value.int .i64 P.key, .int .i64 P.val, .int .u32 (P.left : Int), .int .u32 (P.right : Int), .int .i64 P.size, .int .i64 P.sum, .int .i64 P.mn, .int .i64 P.mx] 81).box #[Value.int .i64 QN.key, .int .i64 QN.val, .int .u32 (QN.left : Int), .int .u32 (QN.right : Int), .int .i64 QN.size, .int .i64 QN.sum, .int .i64 QN.mn, .int .i64 QN.mx] 81).box #[Value.int .i64 R.key, .int .i64 R.val, .int .u32 (R.left : Int), .int .u32 (R.right : Int), .int .i64 R.size, .int .i64 R.sum, .int .i64 R.mn, .int .i64 R.mx] 81
  try simp only [sz_al] at hs0
  have HV := Lib.hid hv
  have HA := Lib.hid ha
  have HM := Lib.hid hm
  have HX := Lib.hid hx
  have HW := Lib.hid hw
  have HSZ := Lib.hid hs
  have HFR := Lib.hid hfr
  clear hI hv ha hm hx hw hs hfr
  go_enter Tryz.func156, Tryz.ntmps156
  go_upto_region 1 with fail
  generalize ((w.alloc (Obj.cells #[Value.int .i64 P.key, .int .i64 P.val, .int .u32 (P.left : Int), .int .u32 (P.right : Int), .int .i64 P.size, .int .i64 P.sum, .int .i64 P.mn, .int .i64 P.mx] 81)).alloc (Obj.cells #[Value.int .i64 QN.key, .int .i64 QN.val, .int .u32 (QN.left : Int), .int .u32 (QN.right : Int), .int .i64 QN.size, .int .i64 QN.sum, .int .i64 QN.mn, .int .i64 QN.mx] 81)).alloc (Obj.cells #[Value.int .i64 R.key, .int .i64 R.val, .int .u32 (R.left : Int), .int .u32 (R.right : Int), .int .i64 R.size, .int .i64 R.sum, .int .i64 R.mn, .int .i64 R.mx] 81) = w1 at hs0 ⊢
  generalize w.heap.size + 1 + 1 = gr at hs0 ⊢
  generalize w.heap.size + 1 = gq at hs0 ⊢
  generalize w.heap.size = gp at hs0 ⊢
  have HS0 := Lib.hid hs0
  clear hs0
  obtain ⟨i1, i2, i3, tl, hfl⟩ : ∃ i1 i2 i3 tl, A.σ.free = i1 :: i2 :: i3 :: tl := by
    have h := HFR.out
    match hq : A.σ.free, h with
    | a :: b :: c :: t, _ => exact ⟨a, b, c, t, rfl⟩
    | [a, b], h => simp at h
    | [a], h => simp at h
    | [], h => simp at h
  have nl := sz_nonneg HA.out HX.out.1
  have nq := sz_nonneg HA.out HX.out.2.1
  have nr := sz_nonneg HA.out HX.out.2.2.1
  have nh := sz_nonneg HA.out HX.out.2.2.2
  have hs1 : (A.node P.key P.val P.left QN.left).size ≤ 2147483647 := by have := HSZ.out; show 1 + A.sz _ + A.sz _ ≤ _; omega
  have HM1 := Lib.hid (mk (t := i2 :: i3 :: tl) HV.out HA.out hfl HW.out.1.1 HW.out.1.2 HX.out.1 HX.out.2.1 hs1)
  have HF1 := Lib.hid (And.intro hfl hs1)
  obtain ⟨A1, hA1⟩ : ∃ B, A.made i1 (i2 :: i3 :: tl) (A.node P.key P.val P.left QN.left) = B := ⟨_, rfl⟩
  have hf1 : A1.σ.free = i2 :: i3 :: tl := by rw [← hA1]; rfl
  rw [hA1] at HM1
  have hz1 : A1.sz i1 = 1 + A.sz P.left + A.sz QN.left := by
    unfold Ar.sz
    rw [if_neg (by have := HM1.out.inv.ok.on i1 HM1.out.new.1; omega), HM1.out.nd]
    rfl
  have x1 := HM1.out.kept.idx HX.out.2.2.1
  have x2 := HM1.out.kept.idx HX.out.2.2.2
  have z1 := kept_sz HM1.out.kept HX.out.2.2.1
  have z2 := kept_sz HM1.out.kept HX.out.2.2.2
  have hs2 : (A1.node R.key R.val QN.right R.right).size ≤ 2147483647 := by have := HSZ.out; show 1 + A1.sz _ + A1.sz _ ≤ _; omega
  have HM2 := Lib.hid (mk (t := i3 :: tl) HM1.out.inv HM1.out.agg hf1 HW.out.2.2.1 HW.out.2.2.2 x1 x2 hs2)
  have HF2 : Hid (A1.σ.free = i2 :: i3 :: tl ∧ (A1.node R.key R.val QN.right R.right).size ≤ 2147483647 ∧ A1.Idx QN.right ∧ A1.Idx R.right) := ⟨hf1, hs2, x1, x2⟩
  obtain ⟨A2, hA2⟩ : ∃ B, A1.made i2 (i3 :: tl) (A1.node R.key R.val QN.right R.right) = B := ⟨_, rfl⟩
  have hf2 : A2.σ.free = i3 :: tl := by rw [← hA2]; rfl
  rw [hA2] at HM2
  have y1 : A2.Idx i1 := .inr (HM2.out.kept.on i1 HM1.out.new.1)
  have y2 : A2.Idx i2 := .inr HM2.out.new.1
  have q1 := kept_sz HM2.out.kept (i := i1) (.inr HM1.out.new.1)
  have q2 : A2.sz i2 = 1 + A1.sz QN.right + A1.sz R.right := by
    unfold Ar.sz
    rw [if_neg (by have := HM2.out.inv.ok.on i2 HM2.out.new.1; omega), HM2.out.nd]
    rfl
  have hs3 : (A2.node QN.key QN.val i1 i2).size ≤ 2147483647 := by have := HSZ.out; show 1 + A2.sz _ + A2.sz _ ≤ _; omega
  have HM3 := Lib.hid (mk (t := tl) HM2.out.inv HM2.out.agg hf2 HW.out.2.1.1 HW.out.2.1.2 y1 y2 hs3)
  have HF3 : Hid (A2.σ.free = i3 :: tl ∧ (A2.node QN.key QN.val i1 i2).size ≤ 2147483647 ∧ A2.Idx i1 ∧ A2.Idx i2) := ⟨hf2, hs3, y1, y2⟩
  have hcn : ∀ x, A2.σ.on x = true → (x = i1 ∨ x = i2) → 2 ≤ (A2.made i3 tl (A2.node QN.key QN.val i1 i2)).cnt x := fun x hx h => by
    rw [made_cnt HM2.out.inv hf2 hx]
    have h1 := HM2.out.inv.pos x hx
    show 2 ≤ A2.cnt x + ((hit i1 x : Nat) : Int) + ((hit i2 x : Nat) : Int)
    rcases h with rfl | rfl
    · have e : hit x x = 1 := if_pos rfl
      rw [e]; omega
    · have e : hit x x = 1 := if_pos rfl
      rw [e]; omega
  have HT := Lib.hid (three_nodes_b HM1.out HM2.out HM3.out (hcn i1 (HM2.out.kept.on i1 HM1.out.new.1) (.inl rfl)) (hcn i2 HM2.out.new.1 (.inr rfl)))
  have HH1 : Hid (∀ j, more held i1 j ≤ 1048576) := fun j => Nat.le_trans (more_small HM.out i1 j) (by decide)
  have HH2 : Hid (∀ j, more (more held i1) i2 j ≤ 1048576) := fun j => Nat.le_trans (more_small (more_small HM.out i1) i2 j) (by decide)
  clear hfl nl nq nr nh hs1 hf1 hz1 x1 x2 z1 z2 hs2 hf2 y1 y2 q1 q2 hs3 hcn
  obtain ⟨⟨p0, p1, p2, p3, p4, p5, p6, p7⟩, -⟩ := HS0.out.row8 (g := gp) (X := P) (by simp [ndRow])
  obtain ⟨⟨q0, q1, q2, q3, q4, q5, q6, q7⟩, -⟩ := HS0.out.row8 (g := gq) (X := QN) (by simp [ndRow])
  go_wp2_with fail
  refine (HS0.out.make HV.out HA.out (fun j => Nat.le_trans (HM.out j) (by decide)) HW.out.1.1 HW.out.1.2 HX.out.1 HX.out.2.1 HF1.out.2 HF1.out.1).mono ?_
  rintro e w4 ⟨rfl, hs4⟩
  rw [hA1] at hs4
  have HS4 := Lib.hid hs4
  clear hs4 HS0 hA1 p0 p1 p2 p3 p4 p5 p6 p7 q0 q1 q2 q3 q4 q5 q6 q7
  obtain ⟨⟨r0, r1, r2, r3, r4, r5, r6, r7⟩, -⟩ := HS4.out.row8 (g := gr) (X := R) (by simp [ndRow])
  obtain ⟨⟨q0, q1, q2, q3, q4, q5, q6, q7⟩, -⟩ := HS4.out.row8 (g := gq) (X := QN) (by simp [ndRow])
  go_wp2_with fail
  refine (HS4.out.make HM1.out.inv HM1.out.agg HH1.out HW.out.2.2.1 HW.out.2.2.2 HF2.out.2.2.1 HF2.out.2.2.2 HF2.out.2.1 HF2.out.1).mono ?_
  rintro e w5 ⟨rfl, hs5⟩
  rw [hA2] at hs5
  have HS5 := Lib.hid hs5
  clear hs5 HS4 hA2 r0 r1 r2 r3 r4 r5 r6 r7 q0 q1 q2 q3 q4 q5 q6 q7
  obtain ⟨⟨q0, q1, q2, q3, q4, q5, q6, q7⟩, -⟩ := HS5.out.row8 (g := gq) (X := QN) (by simp [ndRow])
  go_wp2_with fail
  refine (HS5.out.make HM2.out.inv HM2.out.agg HH2.out HW.out.2.1.1 HW.out.2.1.2 HF3.out.2.2.1 HF3.out.2.2.2 HF3.out.2.1 HF3.out.1).mono ?_
  rintro e w6 ⟨rfl, hs6⟩
  have HS6 := Lib.hid hs6
  clear hs6 HS5 q0 q1 q2 q3 q4 q5 q6 q7
  go_wp2_with fail
  refine (HS6.out.release (idx_lt32 HM3.out.inv HT.out.2.1) HT.out.2.1 (HT.out.1 HT.out.2.1)).mono ?_
  rintro e w7 ⟨rfl, hs7⟩
  have HS7 := Lib.hid hs7
  clear hs7 HS6
  have HI2 : Hid (i1 < 4294967296) := idx_lt32 HM2.out.inv HF3.out.2.2.1
  go_wp2_with fail
  refine (HS7.out.release HI2.out HT.out.2.2.2.1 (HT.out.2.2.1 HT.out.2.2.2.1)).mono ?_
  rintro e w8 ⟨rfl, hs8⟩
  have HS8 := Lib.hid hs8
  clear hs8 HS7
  go_wp2_with fail
  go_ret2
  obtain ⟨_, _, _, _, t1, t2, t3, t4, t5, t6, t7, t8⟩ := HT.out
  obtain ⟨F', hal, hI⟩ := HS8.out.ends
  refine ⟨F', _, rd, hal, hI, rfl, i3, rfl, t1, i1, i2, t2, t5, t3, t4, ?_, ?_, ?_⟩
  · rw [t8]; exact ⟨rfl, rfl, rfl, rfl⟩
  · rw [t6]; exact ⟨rfl, rfl, rfl, rfl⟩
  · rw [t7]; exact ⟨rfl, rfl, rfl, rfl⟩
set_option maxHeartbeats 8000000 in
set_option maxRecDepth 100000 in
theorem rotDoubleLeft_any (I : AImpl) : RotSpec I 149 2 := by
  intro p A rd F held i w hI hv ha hwf hm h0 h1 hi
  obtain ⟨pa, rfl⟩ := I.ptr hI
  have HRD : Hid (0 ≤ rd ∧ rd ≤ 2199023255552) := ⟨h0, h1⟩
  have HI := Lib.hid hi
  have HV := Lib.hid hv
  have HA := Lib.hid ha
  have HWF := Lib.hid hwf
  have HM := Lib.hid hm
  have HS0 := Lib.hid (Ins.start hI)
  clear hI hv ha hwf hm h0 h1 hi
  go_enter Tryz.func149, Tryz.ntmps149
  go_wp2_with fail
  refine (HS0.out.look (by have := HRD.out; omega) (by have := HRD.out; omega) HI.out).mono ?_
  rintro e w2a ⟨rfl, rd1, hs, r1, r2⟩
  have HR0 : Hid (rd ≤ rd1 ∧ rd1 ≤ rd + 1) := ⟨r1, r2⟩
  obtain ⟨X, hX⟩ : ∃ x, ndz A i = x := ⟨_, rfl⟩
  rw [hX]
  have HX := Lib.hid hX
  have HCX : Hid (A.Idx X.left ∧ A.Idx X.right) := by have h := ndz_idx HV.out i; rw [hX] at h; exact h
  unfold ndRow
  have HS1 := Lib.hid (hs.box #[Value.int .i64 X.key, .int .i64 X.val, .int .u32 (X.left : Int), .int .u32 (X.right : Int), .int .i64 X.size, .int .i64 X.sum, .int .i64 X.mn, .int .i64 X.mx] 81)
  clear hs HS0 hX r1 r2
  go_upto_region 2 with fail
  generalize w2a.alloc (Obj.cells #[Value.int .i64 X.key, .int .i64 X.val, .int .u32 (X.left : Int), .int .u32 (X.right : Int), .int .i64 X.size, .int .i64 X.sum, .int .i64 X.mn, .int .i64 X.mx] 81) = w2 at HS1 ⊢
  generalize w2a.heap.size = gx at HS1 ⊢
  obtain ⟨⟨x0, x1, x2, x3, x4, x5, x6, x7⟩, -⟩ := HS1.out.row8 (g := gx) (X := X) (by simp [ndRow])
  go_wp2_with fail
  refine (HS1.out.look (by have := HRD.out; have := HR0.out; omega) (by have := HRD.out; have := HR0.out; omega) (idx_lt32 HV.out HCX.out.2)).mono ?_
  rintro e w4a ⟨rfl, rd2, hs, r1, r2⟩
  have HR1 : Hid (rd1 ≤ rd2 ∧ rd2 ≤ rd1 + 1) := ⟨r1, r2⟩
  obtain ⟨Y, hY⟩ : ∃ x, ndz A X.right = x := ⟨_, rfl⟩
  rw [hY]
  have HY := Lib.hid hY
  have HCY : Hid (A.Idx Y.left ∧ A.Idx Y.right) := by have h := ndz_idx HV.out X.right; rw [hY] at h; exact h
  clear x0 x1 x2 x3 x4 x5 x6 x7
  unfold ndRow
  have HS2 := Lib.hid (hs.box #[Value.int .i64 Y.key, .int .i64 Y.val, .int .u32 (Y.left : Int), .int .u32 (Y.right : Int), .int .i64 Y.size, .int .i64 Y.sum, .int .i64 Y.mn, .int .i64 Y.mx] 81)
  clear hs HS1 hY r1 r2
  go_upto_region 3 with fail
  generalize w4a.alloc (Obj.cells #[Value.int .i64 Y.key, .int .i64 Y.val, .int .u32 (Y.left : Int), .int .u32 (Y.right : Int), .int .i64 Y.size, .int .i64 Y.sum, .int .i64 Y.mn, .int .i64 Y.mx] 81) = w4 at HS2 ⊢
  generalize w4a.heap.size = gy at HS2 ⊢
  obtain ⟨⟨y0, y1, y2, y3, y4, y5, y6, y7⟩, -⟩ := HS2.out.row8 (g := gy) (X := Y) (by simp [ndRow])
  go_wp2_with fail
  refine (HS2.out.look (by have := HRD.out; have := HR0.out; have := HR1.out; omega) (by have := HRD.out; have := HR0.out; have := HR1.out; omega) (idx_lt32 HV.out HCY.out.1)).mono ?_
  rintro e w6a ⟨rfl, rd3, hs, r1, r2⟩
  have HR2 : Hid (rd2 ≤ rd3 ∧ rd3 ≤ rd2 + 1) := ⟨r1, r2⟩
  obtain ⟨QN, hQN⟩ : ∃ x, ndz A Y.left = x := ⟨_, rfl⟩
  rw [hQN]
  have HQN := Lib.hid hQN
  have HCQN : Hid (A.Idx QN.left ∧ A.Idx QN.right) := by have h := ndz_idx HV.out Y.left; rw [hQN] at h; exact h
  have hform : A.σ.on Y.left = rform A 2 i := by have h := form2 HV.out i; rw [HX.out, HY.out] at h; exact h
  rw [hform]
  have HFORM := Lib.hid hform
  clear hform y0 y1 y2 y3 y4 y5 y6 y7
  unfold ndRow
  have HS3 := Lib.hid (hs.box #[Value.int .i64 QN.key, .int .i64 QN.val, .int .u32 (QN.left : Int), .int .u32 (QN.right : Int), .int .i64 QN.size, .int .i64 QN.sum, .int .i64 QN.mn, .int .i64 QN.mx] 81)
  clear hs HS2 hQN r1 r2
  go_upto_region 4 with fail
  generalize w6a.alloc (Obj.cells #[Value.int .i64 QN.key, .int .i64 QN.val, .int .u32 (QN.left : Int), .int .u32 (QN.right : Int), .int .i64 QN.size, .int .i64 QN.sum, .int .i64 QN.mn, .int .i64 QN.mx] 81) = w6 at HS3 ⊢
  generalize w6a.heap.size = gq at HS3 ⊢
  generalize hff : rform A 2 i = b
  have HFF := Lib.hid hff
  have HE : Hid ((chkN b A.σ.free.length 3 = 1 ∧ b = false) ∨ (chkN b A.σ.free.length 3 = 2 ∧ b = true ∧ A.σ.free.length < 3) ∨ (chkN b A.σ.free.length 3 = 0 ∧ b = true ∧ 3 ≤ A.σ.free.length)) := by
    unfold chkN
    show _ ∨ _
    cases b
    · exact .inl ⟨rfl, rfl⟩
    · by_cases hl : ((A.σ.free.length : Nat) : Int) < 3
      · exact .inr (.inl ⟨by rw [if_neg (by decide), if_pos hl], rfl, by omega⟩)
      · exact .inr (.inr ⟨by rw [if_neg (by decide), if_neg hl], rfl, by omega⟩)
  clear hff
  go_wp2_with fail
  refine (chk_any HS3.out b 3).mono ?_
  rintro e wc ⟨rfl, hs⟩
  have HS := Lib.hid hs
  clear hs HS3
  obtain ⟨c, hc⟩ : ∃ c, chkN b A.σ.free.length 3 = c := ⟨_, rfl⟩
  have hE := HE.out
  rw [hc] at hE ⊢
  clear hc HE
  rcases hE with ⟨rfl, rfl⟩ | ⟨rfl, rfl, hfr⟩ | ⟨rfl, rfl, hfr⟩
  · go_wp2_with fail
    go_ret2
    exact rot_bad HS.out HFF.out (by have := HR0.out; have := HR1.out; have := HR2.out; omega) (by have := HR0.out; have := HR1.out; have := HR2.out; omega)
  · have HFR := Lib.hid hfr
    clear hfr
    go_wp2_with fail
    go_ret2
    exact rot_full HS.out HFF.out HFR.out (by have := HR0.out; have := HR1.out; have := HR2.out; omega) (by have := HR0.out; have := HR1.out; have := HR2.out; omega)
  have HFR : Hid (3 ≤ A.σ.free.length) := hfr
  clear hfr
  have HQJ : Hid (A.σ.on Y.left = true) := HFORM.out.trans HFF.out
  have HQI : Hid (A.σ.on X.right = true) := by have h := HQJ.out; rw [← HY.out] at h; exact on_of_left HV.out h
  have HON : Hid (A.σ.on i = true) := form_on HFF.out
  have HX' : Hid (A.nd i = X) := by have h := HX.out; rw [ndz_on HON.out] at h; exact h
  have HY' : Hid (A.nd X.right = Y) := by have h := HY.out; rw [ndz_on HQI.out] at h; exact h
  have HQ' : Hid (A.nd Y.left = QN) := by have h := HQN.out; rw [ndz_on HQJ.out] at h; exact h
  have HWP : Hid ((i64R X.key ∧ i64R X.val) ∧ (i64R Y.key ∧ i64R Y.val) ∧ i64R QN.key ∧ i64R QN.val) := by
    have h1 := HWF.out i (.inl rfl) HON.out
    have h2 := HWF.out X.right (by rw [← HX'.out]; simp) HQI.out
    have h3 := HWF.out Y.left (by rw [← HY'.out, ← HX'.out]; simp) HQJ.out
    rw [HX'.out] at h1
    rw [HY'.out] at h2
    rw [HQ'.out] at h3
    exact ⟨h1, h2, h3⟩
  have HSZ : Hid (3 + A.sz X.left + A.sz QN.left + A.sz QN.right + A.sz Y.right ≤ 2147483647) := by
    have e1 := sz_child HA.out HON.out
    have e2 := sz_child HA.out HQI.out
    have e3 := sz_child HA.out HQJ.out
    rw [HX'.out] at e1
    rw [HY'.out] at e2
    rw [HQ'.out] at e3
    have e4 : A.sz X.right = (A.nd X.right).size := by unfold Ar.sz; rw [if_neg]; have := HV.out.ok.on _ HQI.out; omega
    rw [HY'.out] at e4
    have e5 : A.sz Y.left = (A.nd Y.left).size := by unfold Ar.sz; rw [if_neg]; have := HV.out.ok.on _ HQJ.out; omega
    rw [HQ'.out] at e5
    have e6 := (HA.out.size i HON.out).2
    rw [HX'.out] at e6
    show _ ≤ _
    omega
  obtain ⟨⟨x0, x1, x2, x3, x4, x5, x6, x7⟩, -⟩ := HS.out.row8 (g := gx) (X := X) (by simp [ndRow])
  obtain ⟨⟨y0, y1, y2, y3, y4, y5, y6, y7⟩, -⟩ := HS.out.row8 (g := gy) (X := Y) (by simp [ndRow])
  obtain ⟨⟨q0, q1, q2, q3, q4, q5, q6, q7⟩, -⟩ := HS.out.row8 (g := gq) (X := QN) (by simp [ndRow])
  go_wp2_with fail
  refine (HS.out.mut fun F1 hI1 => spread_any I (P := X) (QN := QN) (R := Y) wc hI1 HV.out HA.out HM.out HFR.out ⟨HCX.out.1, HCQN.out.1, HCQN.out.2, HCY.out.2⟩ ⟨HWP.out.1, HWP.out.2.2, HWP.out.2.1⟩ (by have := HSZ.out; omega)).mono ?_
  rintro e w8 ⟨B, rd8, ⟨rfl, j, rfl, ht, y, z, n0, n1, n2, n3, n4, n5, n6⟩, hs8⟩
  have HS8 := Lib.hid hs8
  clear hs8 HS x0 x1 x2 x3 x4 x5 x6 x7 y0 y1 y2 y3 y4 y5 y6 y7 q0 q1 q2 q3 q4 q5 q6 q7
  have HT : Hid (Turned A held B j 3 ∧ RNodes A B 2 i j) := by
    refine ⟨ht, y, z, n0, n1, n2, n3, ?_, ?_, ?_⟩
    · rw [HX'.out, HY'.out, HQ'.out]; exact n4
    · rw [HX'.out, HY'.out, HQ'.out]; exact n5
    · rw [HX'.out, HY'.out, HQ'.out]; exact n6
  clear ht n0 n1 n2 n3 n4 n5 n6
  go_wp2_with fail
  go_ret2
  exact rot_ok HS8.out HFF.out HFR.out HT.out.1 HT.out.2 (by have := HR0.out; have := HR1.out; have := HR2.out; omega) (by have := HR0.out; have := HR1.out; have := HR2.out; omega)
set_option maxHeartbeats 8000000 in
set_option maxRecDepth 100000 in
theorem rotDoubleRight_any (I : AImpl) : RotSpec I 151 3 := by
  intro p A rd F held i w hI hv ha hwf hm h0 h1 hi
  obtain ⟨pa, rfl⟩ := I.ptr hI
  have HRD : Hid (0 ≤ rd ∧ rd ≤ 2199023255552) := ⟨h0, h1⟩
  have HI := Lib.hid hi
  have HV := Lib.hid hv
  have HA := Lib.hid ha
  have HWF := Lib.hid hwf
  have HM := Lib.hid hm
  have HS0 := Lib.hid (Ins.start hI)
  clear hI hv ha hwf hm h0 h1 hi
  go_enter Tryz.func151, Tryz.ntmps151
  go_wp2_with fail
  refine (HS0.out.look (by have := HRD.out; omega) (by have := HRD.out; omega) HI.out).mono ?_
  rintro e w2a ⟨rfl, rd1, hs, r1, r2⟩
  have HR0 : Hid (rd ≤ rd1 ∧ rd1 ≤ rd + 1) := ⟨r1, r2⟩
  obtain ⟨X, hX⟩ : ∃ x, ndz A i = x := ⟨_, rfl⟩
  rw [hX]
  have HX := Lib.hid hX
  have HCX : Hid (A.Idx X.left ∧ A.Idx X.right) := by have h := ndz_idx HV.out i; rw [hX] at h; exact h
  unfold ndRow
  have HS1 := Lib.hid (hs.box #[Value.int .i64 X.key, .int .i64 X.val, .int .u32 (X.left : Int), .int .u32 (X.right : Int), .int .i64 X.size, .int .i64 X.sum, .int .i64 X.mn, .int .i64 X.mx] 81)
  clear hs HS0 hX r1 r2
  go_upto_region 2 with fail
  generalize w2a.alloc (Obj.cells #[Value.int .i64 X.key, .int .i64 X.val, .int .u32 (X.left : Int), .int .u32 (X.right : Int), .int .i64 X.size, .int .i64 X.sum, .int .i64 X.mn, .int .i64 X.mx] 81) = w2 at HS1 ⊢
  generalize w2a.heap.size = gx at HS1 ⊢
  obtain ⟨⟨x0, x1, x2, x3, x4, x5, x6, x7⟩, -⟩ := HS1.out.row8 (g := gx) (X := X) (by simp [ndRow])
  go_wp2_with fail
  refine (HS1.out.look (by have := HRD.out; have := HR0.out; omega) (by have := HRD.out; have := HR0.out; omega) (idx_lt32 HV.out HCX.out.1)).mono ?_
  rintro e w4a ⟨rfl, rd2, hs, r1, r2⟩
  have HR1 : Hid (rd1 ≤ rd2 ∧ rd2 ≤ rd1 + 1) := ⟨r1, r2⟩
  obtain ⟨Y, hY⟩ : ∃ x, ndz A X.left = x := ⟨_, rfl⟩
  rw [hY]
  have HY := Lib.hid hY
  have HCY : Hid (A.Idx Y.left ∧ A.Idx Y.right) := by have h := ndz_idx HV.out X.left; rw [hY] at h; exact h
  clear x0 x1 x2 x3 x4 x5 x6 x7
  unfold ndRow
  have HS2 := Lib.hid (hs.box #[Value.int .i64 Y.key, .int .i64 Y.val, .int .u32 (Y.left : Int), .int .u32 (Y.right : Int), .int .i64 Y.size, .int .i64 Y.sum, .int .i64 Y.mn, .int .i64 Y.mx] 81)
  clear hs HS1 hY r1 r2
  go_upto_region 3 with fail
  generalize w4a.alloc (Obj.cells #[Value.int .i64 Y.key, .int .i64 Y.val, .int .u32 (Y.left : Int), .int .u32 (Y.right : Int), .int .i64 Y.size, .int .i64 Y.sum, .int .i64 Y.mn, .int .i64 Y.mx] 81) = w4 at HS2 ⊢
  generalize w4a.heap.size = gy at HS2 ⊢
  obtain ⟨⟨y0, y1, y2, y3, y4, y5, y6, y7⟩, -⟩ := HS2.out.row8 (g := gy) (X := Y) (by simp [ndRow])
  go_wp2_with fail
  refine (HS2.out.look (by have := HRD.out; have := HR0.out; have := HR1.out; omega) (by have := HRD.out; have := HR0.out; have := HR1.out; omega) (idx_lt32 HV.out HCY.out.2)).mono ?_
  rintro e w6a ⟨rfl, rd3, hs, r1, r2⟩
  have HR2 : Hid (rd2 ≤ rd3 ∧ rd3 ≤ rd2 + 1) := ⟨r1, r2⟩
  obtain ⟨QN, hQN⟩ : ∃ x, ndz A Y.right = x := ⟨_, rfl⟩
  rw [hQN]
  have HQN := Lib.hid hQN
  have HCQN : Hid (A.Idx QN.left ∧ A.Idx QN.right) := by have h := ndz_idx HV.out Y.right; rw [hQN] at h; exact h
  have hform : A.σ.on Y.right = rform A 3 i := by have h := form3 HV.out i; rw [HX.out, HY.out] at h; exact h
  rw [hform]
  have HFORM := Lib.hid hform
  clear hform y0 y1 y2 y3 y4 y5 y6 y7
  unfold ndRow
  have HS3 := Lib.hid (hs.box #[Value.int .i64 QN.key, .int .i64 QN.val, .int .u32 (QN.left : Int), .int .u32 (QN.right : Int), .int .i64 QN.size, .int .i64 QN.sum, .int .i64 QN.mn, .int .i64 QN.mx] 81)
  clear hs HS2 hQN r1 r2
  go_upto_region 4 with fail
  generalize w6a.alloc (Obj.cells #[Value.int .i64 QN.key, .int .i64 QN.val, .int .u32 (QN.left : Int), .int .u32 (QN.right : Int), .int .i64 QN.size, .int .i64 QN.sum, .int .i64 QN.mn, .int .i64 QN.mx] 81) = w6 at HS3 ⊢
  generalize w6a.heap.size = gq at HS3 ⊢
  generalize hff : rform A 3 i = b
  have HFF := Lib.hid hff
  have HE : Hid ((chkN b A.σ.free.length 3 = 1 ∧ b = false) ∨ (chkN b A.σ.free.length 3 = 2 ∧ b = true ∧ A.σ.free.length < 3) ∨ (chkN b A.σ.free.length 3 = 0 ∧ b = true ∧ 3 ≤ A.σ.free.length)) := by
    unfold chkN
    show _ ∨ _
    cases b
    · exact .inl ⟨rfl, rfl⟩
    · by_cases hl : ((A.σ.free.length : Nat) : Int) < 3
      · exact .inr (.inl ⟨by rw [if_neg (by decide), if_pos hl], rfl, by omega⟩)
      · exact .inr (.inr ⟨by rw [if_neg (by decide), if_neg hl], rfl, by omega⟩)
  clear hff
  go_wp2_with fail
  refine (chk_any HS3.out b 3).mono ?_
  rintro e wc ⟨rfl, hs⟩
  have HS := Lib.hid hs
  clear hs HS3
  obtain ⟨c, hc⟩ : ∃ c, chkN b A.σ.free.length 3 = c := ⟨_, rfl⟩
  have hE := HE.out
  rw [hc] at hE ⊢
  clear hc HE
  rcases hE with ⟨rfl, rfl⟩ | ⟨rfl, rfl, hfr⟩ | ⟨rfl, rfl, hfr⟩
  · go_wp2_with fail
    go_ret2
    exact rot_bad HS.out HFF.out (by have := HR0.out; have := HR1.out; have := HR2.out; omega) (by have := HR0.out; have := HR1.out; have := HR2.out; omega)
  · have HFR := Lib.hid hfr
    clear hfr
    go_wp2_with fail
    go_ret2
    exact rot_full HS.out HFF.out HFR.out (by have := HR0.out; have := HR1.out; have := HR2.out; omega) (by have := HR0.out; have := HR1.out; have := HR2.out; omega)
  have HFR : Hid (3 ≤ A.σ.free.length) := hfr
  clear hfr
  have HQJ : Hid (A.σ.on Y.right = true) := HFORM.out.trans HFF.out
  have HQI : Hid (A.σ.on X.left = true) := by have h := HQJ.out; rw [← HY.out] at h; exact on_of_right HV.out h
  have HON : Hid (A.σ.on i = true) := form_on HFF.out
  have HX' : Hid (A.nd i = X) := by have h := HX.out; rw [ndz_on HON.out] at h; exact h
  have HY' : Hid (A.nd X.left = Y) := by have h := HY.out; rw [ndz_on HQI.out] at h; exact h
  have HQ' : Hid (A.nd Y.right = QN) := by have h := HQN.out; rw [ndz_on HQJ.out] at h; exact h
  have HWP : Hid ((i64R X.key ∧ i64R X.val) ∧ (i64R Y.key ∧ i64R Y.val) ∧ i64R QN.key ∧ i64R QN.val) := by
    have h1 := HWF.out i (.inl rfl) HON.out
    have h2 := HWF.out X.left (by rw [← HX'.out]; simp) HQI.out
    have h3 := HWF.out Y.right (by rw [← HY'.out, ← HX'.out]; simp) HQJ.out
    rw [HX'.out] at h1
    rw [HY'.out] at h2
    rw [HQ'.out] at h3
    exact ⟨h1, h2, h3⟩
  have HSZ : Hid (3 + A.sz X.right + A.sz QN.left + A.sz QN.right + A.sz Y.left ≤ 2147483647) := by
    have e1 := sz_child HA.out HON.out
    have e2 := sz_child HA.out HQI.out
    have e3 := sz_child HA.out HQJ.out
    rw [HX'.out] at e1
    rw [HY'.out] at e2
    rw [HQ'.out] at e3
    have e4 : A.sz X.left = (A.nd X.left).size := by unfold Ar.sz; rw [if_neg]; have := HV.out.ok.on _ HQI.out; omega
    rw [HY'.out] at e4
    have e5 : A.sz Y.right = (A.nd Y.right).size := by unfold Ar.sz; rw [if_neg]; have := HV.out.ok.on _ HQJ.out; omega
    rw [HQ'.out] at e5
    have e6 := (HA.out.size i HON.out).2
    rw [HX'.out] at e6
    show _ ≤ _
    omega
  obtain ⟨⟨x0, x1, x2, x3, x4, x5, x6, x7⟩, -⟩ := HS.out.row8 (g := gx) (X := X) (by simp [ndRow])
  obtain ⟨⟨y0, y1, y2, y3, y4, y5, y6, y7⟩, -⟩ := HS.out.row8 (g := gy) (X := Y) (by simp [ndRow])
  obtain ⟨⟨q0, q1, q2, q3, q4, q5, q6, q7⟩, -⟩ := HS.out.row8 (g := gq) (X := QN) (by simp [ndRow])
  go_wp2_with fail
  refine (HS.out.mut fun F1 hI1 => spread_any I (P := Y) (QN := QN) (R := X) wc hI1 HV.out HA.out HM.out HFR.out ⟨HCY.out.1, HCQN.out.1, HCQN.out.2, HCX.out.2⟩ ⟨HWP.out.2.1, HWP.out.2.2, HWP.out.1⟩ (by have := HSZ.out; omega)).mono ?_
  rintro e w8 ⟨B, rd8, ⟨rfl, j, rfl, ht, y, z, n0, n1, n2, n3, n4, n5, n6⟩, hs8⟩
  have HS8 := Lib.hid hs8
  clear hs8 HS x0 x1 x2 x3 x4 x5 x6 x7 y0 y1 y2 y3 y4 y5 y6 y7 q0 q1 q2 q3 q4 q5 q6 q7
  have HT : Hid (Turned A held B j 3 ∧ RNodes A B 3 i j) := by
    refine ⟨ht, y, z, n0, n1, n2, n3, ?_, ?_, ?_⟩
    · rw [HX'.out, HY'.out, HQ'.out]; exact n4
    · rw [HX'.out, HY'.out, HQ'.out]; exact n5
    · rw [HX'.out, HY'.out, HQ'.out]; exact n6
  clear ht n0 n1 n2 n3 n4 n5 n6
  go_wp2_with fail
  go_ret2
  exact rot_ok HS8.out HFF.out HFR.out HT.out.1 HT.out.2 (by have := HR0.out; have := HR1.out; have := HR2.out; omega) (by have := HR0.out; have := HR1.out; have := HR2.out; omega)
theorem rotImpl (I : AImpl) : RotImpl I := ⟨rotLeft_any I, rotRight_any I, rotDoubleLeft_any I, rotDoubleRight_any I⟩
structure ShNum : Prop where
  maxHeight : ∀ (n : Int) (w : World), -9223372036854775808 ≤ n → n ≤ 9223372036854775807 → Calls Tryz.prog 117 #[.int .i64 n] w (Calm w (.int .i64 (xhI n)))
  balanced : ∀ (l r : Int) (w : World), -9223372036854775808 ≤ l → l ≤ 9223372036854775807 → -9223372036854775808 ≤ r → r ≤ 9223372036854775807 → Calls Tryz.prog 135 #[.int .i64 l, .int .i64 r] w (Calm w (.bool (bal l r)))
end Go.Proofs.YtfihklpofmcfgaaGreat
namespace Go.Proofs.YtfihklpofmcfgaaGreat
section
variable {P : Program} {ops : Array Oper} {Q : Exit → Act → World → Prop} {md : Region.Mode} {S : World → Prop} {z : Nat}
/-- whatever order is picked from here on; S holds behind each operation other than number z -/
def anyG (P : Program) (md : Region.Mode) (ops : Array Oper) (Q : Exit → Act → World → Prop) (S : World → Prop) (z : Nat) : Nat → Array Bool → Act → World → Prop
  | 0, ls, a, w => Region.ready md ops ls = [] ∧ Q .normal a w
  | n + 1, ls, a, w => (Region.ready md ops ls = [] → Q .normal a w) ∧
      ∀ k, k ∈ Region.ready md ops ls → wpOp P ops Q k (fun a' w' => (k ≠ z → S w') ∧ anyG P md ops Q S z n (ls.setIfInBounds k true) a' w') a w
theorem anyG_any (n : Nat) : ∀ (ls : Array Bool) (a : Act) (w : World), anyG P md ops Q S z n ls a w → wpAny P md ops Q n ls a w := by
  induction n with
  | zero => exact fun _ _ _ h => h
  | succ n ih => exact fun ls a w h => ⟨h.1, fun k hk => wpOp_mono (fun a' w' h' => ih _ a' w' h'.2) (h.2 k hk)⟩
theorem anyG_begin {id : Nat} {a : Act} {w : World} (hm : P.follows .mixedOrders = true) (hS : S w.drew)
    (h : S w.drew → anyG P .any ops Q S z ops.size (Array.replicate ops.size false) a w.drew) : (Code.region id ops true).wp P Q a w :=
  wp_region_any hm (anyG_any _ _ _ _ (h hS))
/-- number z waits for number k (or there is no number z) -/
def waits (md : Region.Mode) (ops : Array Oper) (z k : Nat) : Bool := (ops[z]?.map fun x => x.after.toList.any fun e => Region.binds md e && e.on == k).getD true
theorem waits_not {k : Nat} (hz : waits md ops z k = true) {ls : Array Bool} (hk : ls.getD k true = false) : ¬ z ∈ Region.ready md ops ls := by
  intro h
  obtain ⟨_, x, hx, hall⟩ := mem_ready.1 h
  unfold waits at hz
  rw [hx] at hz
  simp only [Option.map_some, Option.getD_some, List.any_eq_true, Bool.and_eq_true, beq_iff_eq] at hz
  obtain ⟨e, he, hb, hek⟩ := hz
  have h1 := hall e (by simpa using he) hb
  rw [hek] at h1
  by_cases hlt : k < ls.size
  · simp [hlt] at hk h1
    rw [hk] at h1
    cases h1
  · simp [Array.getElem?_eq_none (Nat.le_of_not_lt hlt)] at h1
/-- an operation that is ready, yields wherever S holds and is apart from what is open: first -/
theorem anyG_front {k : Nat} {o : Oper} {v : Value} (hk : ops[k]? = some o) (hsel : ∀ (j : Nat) (x : Oper) cs b, ops[j]? = some x → x.op ≠ .select cs b) (hz : waits md ops z k = true)
    (hQ : ∀ c a w, Q (.panic c) (a.put o.dst v) w → Q (.panic c) a w) (n : Nat) : ∀ (ls : Array Bool) (a : Act) (w : World),
      (∀ j x, ops[j]? = some x → j ≠ k → ls.getD j true = false → (∀ e ∈ x.after, Region.binds md e = true → e.on ≠ k) → o.apart ops x = true) →
      k ∈ Region.ready md ops ls → YieldsIf P ops S o v a → S w → anyG P md ops Q S z n (ls.setIfInBounds k true) (a.put o.dst v) w → anyG P md ops Q S z (n + 1) ls a w := by
  have base : ∀ (n : Nat) (ls : Array Bool) (a : Act) (w : World), YieldsIf P ops S o v a → S w → anyG P md ops Q S z n (ls.setIfInBounds k true) (a.put o.dst v) w →
      wpOp P ops Q k (fun a' w' => (k ≠ z → S w') ∧ anyG P md ops Q S z n (ls.setIfInBounds k true) a' w') a w :=
    fun n ls a w hy hS H => hy.wpOp hk hS ⟨fun _ => hS, H⟩
  have notNil : ∀ ls, k ∈ Region.ready md ops ls → Region.ready md ops ls ≠ [] := fun ls h e => by rw [e] at h; cases h
  induction n with
  | zero =>
    intro ls a w _ hr hy hS H
    refine ⟨fun e => absurd e (notNil ls hr), fun j hj => ?_⟩
    rcases Nat.decEq j k with hjk | rfl
    · exact absurd (H.1 ▸ ready_mono hj hjk) (by simp)
    · exact base 0 ls a w hy hS H
  | succ n ih =>
    intro ls a w hf hr hy hS H
    refine ⟨fun e => absurd e (notNil ls hr), fun j hj => ?_⟩
    rcases Nat.decEq j k with hjk | rfl
    · obtain ⟨hju, x, hx, hall⟩ := mem_ready.1 hj
      have hku := (mem_ready.1 hr).1
      have hjz : j ≠ z := fun e => waits_not hz hku (e ▸ hj)
      have hno : ∀ e ∈ x.after, Region.binds md e = true → e.on ≠ k := by
        rintro e he hb rfl
        have h1 := hall e he hb
        by_cases hlt : e.on < ls.size
        · simp [hlt] at hku h1
          rw [hku] at h1
          cases h1
        · simp [Array.getElem?_eq_none (Nat.le_of_not_lt hlt)] at h1
      have hs := wpOp_putIf hx (hf j x hx hjk hju hno) (fun cs b => hsel k o cs b hk) (fun cs b => hsel j x cs b hx) hQ hy (H.2 j (ready_mono hj hjk))
      refine wpOp_mono (fun a' w' h3 => ?_) hs
      have hS' : S w' := h3.2.1 hjz
      refine ⟨fun _ => hS', ih _ a' w' (fun i y hy' hik hun hno' => hf i y hy' hik ?_ hno') (ready_mono hr (Ne.symm hjk)) h3.1 hS' (by rw [Array.setIfInBounds_comm _ _ hjk]; exact h3.2.2)⟩
      rcases Nat.decEq j i with hji | rfl
      · rwa [getD_set_ne true hji] at hun
      · exact hju
    · exact base (n + 1) ls a w hy hS H
theorem anyG_take {k : Nat} {o : Oper} {v : Value} {n : Nat} {ls : Array Bool} {a : Act} {w : World} (d : Option Tmp) (hk : ops[k]? = some o) (hs : Region.noSelect ops = true) (hf : Region.free md ops ls k = true) (hr : (Region.ready md ops ls).contains k = true) (hz : waits md ops z k = true)
    (hQ : ∀ c a w, Q (.panic c) (a.put o.dst v) w → Q (.panic c) a w) (hy : YieldsIf P ops S o v a) (hS : S w) (hd : o.dst = d) (h : anyG P md ops Q S z n (ls.setIfInBounds k true) (a.put d v) w) : anyG P md ops Q S z (n + 1) ls a w :=
  anyG_front hk (Region.noSelect_spec hs) hz hQ n ls a w (Region.free_spec hk hf) (by simpa using hr) hy hS (by rw [hd]; exact h)
theorem anyG_tk {o : Oper} {v : Value} {n : Nat} {ls : Array Bool} {a : Act} {w : World} (k : Nat) (d : Tmp) (hk : ops[k]? = some o) (hc : (Region.noSelect ops && Region.free md ops ls k && (Region.ready md ops ls).contains k && waits md ops z k && (o.dst == some d)) = true)
    (hy : YieldsIf P ops S o v a) (hS : S w) (h : anyG P md ops Q S z n (ls.setIfInBounds k true) (a.put (some d) v) w) (hQ : ∀ c a w, Q (.panic c) (a.put o.dst v) w → Q (.panic c) a w := by exact fun _ _ _ h => h) : anyG P md ops Q S z (n + 1) ls a w := by
  simp only [Bool.and_eq_true] at hc
  obtain ⟨⟨⟨⟨h1, h2⟩, h3⟩, h4⟩, h5⟩ := hc
  exact anyG_take (some d) hk h1 h2 h3 h4 hQ hy hS (by simpa using h5) h
/-- one operation alone is ready, and it is not number z -/
theorem anyG_one {k : Nat} {o : Oper} {n : Nat} {ls : Array Bool} {a : Act} {w : World} (hr : Region.ready md ops ls = [k]) (hk : ops[k]? = some o)
    (h : ∀ K : Act → World → Prop, Shut (∀ a w, S w → (S w → anyG P md ops Q S z n (ls.setIfInBounds k true) a w) → K a w) → if Region.wanted o (yielded ops a.tmps) = true then Oper.wp P o a w K Q else K (a.put o.dst undef) w) : anyG P md ops Q S z (n + 1) ls a w := by
  refine ⟨fun e => (by rw [hr] at e; cases e), fun j hj => ?_⟩
  rw [hr] at hj
  obtain rfl : j = k := by simpa using hj
  exact wpOp_step hk fun K hK => h K fun a w hS hW => hK a w ⟨fun _ => hS, hW hS⟩
/-- all have come up -/
theorem anyG_done {ls : Array Bool} {a : Act} {w : World} (hr : Region.ready md ops ls = []) (h : Q .normal a w) : ∀ n, anyG P md ops Q S z n ls a w
  | 0 => ⟨hr, h⟩
  | _ + 1 => ⟨fun _ => h, by rw [hr]; simp⟩
end
end Go.Proofs.YtfihklpofmcfgaaGreat
