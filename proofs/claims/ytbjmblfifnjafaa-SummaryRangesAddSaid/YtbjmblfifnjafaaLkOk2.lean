/- The program's searches for the nearest entries keep their contracts. -/
import Derived.Test.YtbjmblfifnjafaaLkOk1
import Derived.Test.YtbjmblfifnjafaaSlotsAid
set_option linter.unusedVariables false
set_option linter.unusedSimpArgs false
namespace Go.Proofs.Ytbjmblfifnjafaa
open Go.RowKit
section
variable {I : AImpl} {w wr wx : World} {F : Nat → Prop} {p : Value} {A : Ar} {rd : Int} {X : Nat → Prop}
theorem In.set2 (h : In I w F p A rd X wr) {g : Nat} (hg : X g) (hn : w.heap.size ≤ g) (x y : Value) : In I w F p A rd X ((wr.setCell ⟨g, 0, none⟩ x).setCell ⟨g, 1, none⟩ y) := by
  obtain ⟨F1, f1, f2, f3⟩ := h.mr.has
  have ho : ∀ k, k ≠ g → ((wr.setCell ⟨g, 0, none⟩ x).setCell ⟨g, 1, none⟩ y).heap[k]? = wr.heap[k]? := fun k hk => by rw [heap_setCell_other _ _ _ _ hk, heap_setCell_other _ _ _ _ hk]
  have hsz : ((wr.setCell ⟨g, 0, none⟩ x).setCell ⟨g, 1, none⟩ y).heap.size = wr.heap.size := by simp [World.setCell]
  refine ⟨⟨⟨F1, I.keep f1 fun k hk => ho k fun e => (f3 g (.inr hg)).2 (e ▸ hk), f2, fun k hk => ⟨by rw [hsz]; exact (f3 k hk).1, (f3 k hk).2⟩⟩, ?_, Nat.zero_le _⟩, fun k hk => ?_⟩
  · exact h.mr.below.trans ⟨rfl, rfl, rfl, Nat.le_of_eq hsz.symm, fun k hk => by omega⟩
  · have hne : k ≠ g := fun e => by have := hk.1; omega
    exact (ho k hne).trans (h.kp k hk)
theorem In.call {bd : Int} {v : Value} {f : FuncId} {args : Array Value} (h : In I w F p A rd X wr) (hc : ∀ F1, I.Is wr p A rd F1 → Calls Try.prog f args wr (ReadsTo I p A rd F1 bd v wr)) :
    Calls Try.prog f args wr fun e w' => e = .returned v ∧ ∃ rd', In I w F p A rd' X w' ∧ Keeps X wr w' ∧ rd ≤ rd' ∧ rd' ≤ rd + bd := by
  refine (mr_call h.mr hc).mono ?_
  rintro e w1 ⟨he, rd', h1, h2, h3, h4⟩
  exact ⟨he, rd', ⟨h1, fun k hk => (h2 k (.inl hk)).trans (h.kp k hk)⟩, fun k hk => h2 k (.inr hk), h3, h4⟩
end
/-- the result's box and the best entry's box -/
structure BB (I : AImpl) (w : World) (F : Nat → Prop) (p : Value) (A : Ar) (rd : Int) (r b : Nat) (o : Option En) (wr : World) : Prop where
  ins : In I w F p A rd (fun k => k = r ∨ k = b) wr
  hr : wr.heap[r]? = some (.cells #[.int .i64 0, .int .i64 0] 49 (0, 0))
  hb : wr.heap[b]? = some (.cells #[.int .i64 (o.elim 0 (·.key)), .int .i64 (o.elim 0 (·.val))] 49 (0, 0))
  ne : r ≠ b
  old : w.heap.size ≤ r ∧ w.heap.size ≤ b
section
variable {I : AImpl} {w wr wx : World} {F : Nat → Prop} {p : Value} {A : Ar} {rd rd' : Int} {r b : Nat} {o : Option En}
theorem BB.start (h : I.Is w p A rd F) : BB I w F p A rd w.heap.size (w.heap.size + 1) none ((w.alloc (.cells #[.int .i64 0, .int .i64 0] 49)).alloc (.cells #[.int .i64 0, .int .i64 0] 49)) := by
  have h1 := (In.start h).alloc (.cells #[.int .i64 0, .int .i64 0] 49)
  have h2 := h1.alloc (.cells #[.int .i64 0, .int .i64 0] 49)
  refine ⟨h2.less fun k hk => ?_, ?_, ?_, by omega, by omega⟩
  · rcases hk with rfl | rfl
    · exact .inl (.inr rfl)
    · exact .inr (by simp)
  · exact (h1.keeps (below_new7 _ _) _ (.inr rfl)).trans (heap_alloc_new w _)
  · have := heap_alloc_new (w.alloc (.cells #[.int .i64 0, .int .i64 0] 49)) (.cells #[.int .i64 0, .int .i64 0] 49)
    rw [World.size_alloc] at this
    exact this
theorem BB.calm (h : BB I w F p A rd r b o wr) (hb : Below wr.heap.size wr wx) : BB I w F p A rd r b o wx :=
  ⟨h.ins.calm hb, (h.ins.keeps hb r (.inl rfl)).trans h.hr, (h.ins.keeps hb b (.inr rfl)).trans h.hb, h.ne, h.old⟩
theorem BB.step (h : BB I w F p A rd r b o wr) (hi : In I w F p A rd' (fun k => k = r ∨ k = b) wx) (hk : Keeps (fun k => k = r ∨ k = b) wr wx) : BB I w F p A rd' r b o wx :=
  ⟨hi, (hk r (.inl rfl)).trans h.hr, (hk b (.inr rfl)).trans h.hb, h.ne, h.old⟩
theorem BB.put (h : BB I w F p A rd r b o wr) (e : En) : BB I w F p A rd r b (some e) ((wr.setCell ⟨b, 0, none⟩ (.int .i64 e.key)).setCell ⟨b, 1, none⟩ (.int .i64 e.val)) :=
  ⟨h.ins.set2 (.inr rfl) h.old.2 _ _, by rw [heap_setCell_other _ _ _ _ h.ne, heap_setCell_other _ _ _ _ h.ne]; exact h.hr, by rw [heap_setCell_same _ b 1 _ _ _ (heap_setCell_same wr b 0 _ _ _ h.hb)]; rfl, h.ne, h.old⟩
theorem BB.ends {rd0 bd : Int} (h : BB I w F p A rd r b o wr) (h0 : rd0 ≤ rd) (h1 : rd ≤ rd0 + bd) :
    ReadsTo I p A rd0 F bd (enR o) w (.returned (.tuple #[.agg #[.int .i64 (o.elim 0 (·.key)), .int .i64 (o.elim 0 (·.val))], .bool o.isSome])) ((wr.setCell ⟨r, 0, none⟩ (.int .i64 (o.elim 0 (·.key)))).setCell ⟨r, 1, none⟩ (.int .i64 (o.elim 0 (·.val)))) ∧
    ((wr.setCell ⟨r, 0, none⟩ (.int .i64 (o.elim 0 (·.key)))).setCell ⟨r, 1, none⟩ (.int .i64 (o.elim 0 (·.val)))).heap[r]? = some (.cells #[.int .i64 (o.elim 0 (·.key)), .int .i64 (o.elim 0 (·.val))] 49 (0, 0)) :=
  ⟨(h.ins.set2 (.inl rfl) h.old.1 _ _).ends h0 h1, by rw [heap_setCell_same _ r 1 _ _ _ (heap_setCell_same wr r 0 _ _ _ h.hr)]; rfl⟩
end
def Waybefore (I : AImpl) (w : World) (F : Nat → Prop) (p : Value) (A : Ar) (rd0 : Int) (k : Int) (eq : Bool) (R : Option En) (top : Int) (r b U : Nat) (fd x c : Value) (wr : World) : Prop :=
  ∃ (i n : Nat) (u : Tr) (rd : Int) (o : Option En), fd = .bool o.isSome ∧ x = .int .u32 (i : Int) ∧ c = .int .i64 (n : Int) ∧ Sub A i u ∧ bef A.nd (k + if eq then 1 else 0) u o = R ∧ rd0 ≤ rd ∧ rd + (u.ht : Int) ≤ top ∧ n + u.size ≤ U ∧ BB I w F p A rd r b o wr
def Wayafter (I : AImpl) (w : World) (F : Nat → Prop) (p : Value) (A : Ar) (rd0 : Int) (k : Int) (eq : Bool) (R : Option En) (top : Int) (r b U : Nat) (fd x c : Value) (wr : World) : Prop :=
  ∃ (i n : Nat) (u : Tr) (rd : Int) (o : Option En), fd = .bool o.isSome ∧ x = .int .u32 (i : Int) ∧ c = .int .i64 (n : Int) ∧ Sub A i u ∧ aft A.nd (k + if eq then 0 else 1) u o = R ∧ rd0 ≤ rd ∧ rd + (u.ht : Int) ≤ top ∧ n + u.size ≤ U ∧ BB I w F p A rd r b o wr
end Go.Proofs.Ytbjmblfifnjafaa
