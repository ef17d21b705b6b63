/- The program's Get keeps its contract; an arena that is read inside a call; a bound on the length of a way. -/
import Derived.Test.YtbjmblfifnjafaaNear2
import Derived.Test.YtbjmblfifnjafaaOrdAb
import Derived.Test.YtbjmblfifnjafaaSlotsAid
import Derived.OwnWalk
import Derived.Deep.DeepCutAuto
set_option linter.unusedVariables false
set_option linter.unusedSimpArgs false
namespace Go.Proofs.Ytbjmblfifnjafaa
open Go.RowKit
/-- what lay there and is none of the arena's -/
def OldG (w : World) (F : Nat → Prop) (k : Nat) : Prop := k < w.heap.size ∧ ¬ F k
/-- inside a call that began in w: the arena, what lay there, and boxes X -/
structure In (I : AImpl) (w : World) (F : Nat → Prop) (p : Value) (A : Ar) (rd : Int) (X : Nat → Prop) (wr : World) : Prop where
  mr : MR I 0 w wr p A rd (fun k => OldG w F k ∨ X k)
  kp : Keeps (OldG w F) w wr
section
variable {I : AImpl} {w wr wx : World} {F : Nat → Prop} {p : Value} {A : Ar} {rd : Int} {X : Nat → Prop}
theorem In.start (h : I.Is w p A rd F) : In I w F p A rd (fun _ => False) w :=
  ⟨⟨⟨F, h, fun _ _ => Nat.zero_le _, fun k hk => by (rcases hk with hk | hk; exact hk; exact hk.elim)⟩, Below.refl _ _, Nat.zero_le _⟩, fun _ _ => rfl⟩
theorem In.calm (h : In I w F p A rd X wr) (hb : Below wr.heap.size wr wx) : In I w F p A rd X wx := ⟨h.mr.calm hb, fun k hk => (h.mr.keeps hb k (.inl hk)).trans (h.kp k hk)⟩
theorem In.keeps (h : In I w F p A rd X wr) (hb : Below wr.heap.size wr wx) : Keeps X wr wx := fun k hk => h.mr.keeps hb k (.inr hk)
theorem In.alloc (h : In I w F p A rd X wr) (o : Obj) : In I w F p A rd (fun k => X k ∨ k = wr.heap.size) (wr.alloc o) :=
  ⟨(h.mr.alloc o).less fun k hk => by (rcases hk with hk | hk | hk; exact .inl (.inl hk); exact .inl (.inr hk); exact .inr hk), (h.calm (below_new7 wr o)).kp⟩
theorem In.less {Y : Nat → Prop} (h : In I w F p A rd X wr) (hY : ∀ k, Y k → X k) : In I w F p A rd Y wr := ⟨h.mr.less fun k hk => hk.imp_right (hY k), h.kp⟩
theorem In.node (h : In I w F p A rd X wr) (h0 : 0 ≤ rd) (h1 : rd ≤ 4398046511104) {i : Nat} (hi : i < 4294967296) (hon : A.σ.on i = true) :
    Calls Try.prog 40 #[p, .int .u32 (i : Int)] wr fun e w' => e = .returned (.tuple #[.agg (ndRow (A.nd i)), .bool true]) ∧ In I w F p A (rd + 1) X w' ∧ Keeps X wr w' := by
  obtain ⟨F1, f1, f2, f3⟩ := h.mr.has
  refine (I.node p A rd F1 i wr f1 h0 (by omega) hi).mono ?_
  rintro e w1 ⟨F', hal, _, h6⟩
  obtain ⟨rfl, h7⟩ := h6 hon
  have hst := h.mr.step f2 f3 hal h7
  exact ⟨rfl, ⟨hst.1, fun k hk => (hst.2 k (.inl hk)).trans (h.kp k hk)⟩, fun k hk => hst.2 k (.inr hk)⟩
theorem In.off (h : In I w F p A rd X wr) (h0 : 0 ≤ rd) (h1 : rd ≤ 4398046511104) :
    Calls Try.prog 40 #[p, .int .u32 0] wr fun e w' => e = .returned (.tuple #[.agg (ndRow Nd.zero), .bool false]) ∧ In I w F p A rd X w' ∧ Keeps X wr w' := by
  obtain ⟨F1, f1, f2, f3⟩ := h.mr.has
  have hon : A.σ.on 0 = false := by
    cases hc : A.σ.on 0 with
    | false => rfl
    | true => have := (I.ok f1).on 0 hc; omega
  refine (I.node p A rd F1 0 wr f1 h0 (by omega) (by omega)).mono ?_
  rintro e w1 ⟨F', hal, h6, _⟩
  obtain ⟨rfl, h7⟩ := h6 hon
  have hst := h.mr.step f2 f3 hal h7
  exact ⟨rfl, ⟨hst.1, fun k hk => (hst.2 k (.inl hk)).trans (h.kp k hk)⟩, fun k hk => hst.2 k (.inr hk)⟩
theorem In.ends {rd0 bd : Int} {v : Value} (h : In I w F p A rd X wr) (h0 : rd0 ≤ rd) (h1 : rd ≤ rd0 + bd) : ReadsTo I p A rd0 F bd v w (.returned v) wr := by
  obtain ⟨F', f1, f2, f3⟩ := h.mr.has
  refine ⟨F', rd, rfl, ⟨h.mr.below.os, h.mr.below.tape, h.mr.below.output, h.mr.below.size, fun k hlt hF => h.kp k ⟨hlt, hF⟩, fun k hF' => ?_⟩, f1, h0, h1⟩
  by_cases hlt : k < w.heap.size
  · by_cases hF : F k
    · exact .inl hF
    · exact absurd hF' (f3 k (.inl ⟨hlt, hF⟩)).2
  · exact .inr (by omega)
end
theorem TreeAt.bound {A : Ar} {i : Nat} {t : Tr} {l : List En} (h : TreeAt A i t l) : (t.ht : Int) ≤ mostI l.length ∧ t.ht ≤ 65536 := by
  obtain ⟨held, hv⟩ := h.inv
  have h1 := h.sub.ht_cap hv.ok h.agg
  have h2 := hv.ok.cap2
  have h3 : l.length ≤ 2147483647 := by
    rw [← h.size]
    have := h.sub.size h.agg
    cases h.sub with
    | nil => simp [Tr.size]
    | node i l r h0 hon _ _ =>
      have h4 := (h.agg.size i hon).2
      unfold Ar.sz at this
      rw [if_neg h0] at this
      omega
  have h4 := h.ht h3
  unfold mostI
  exact ⟨by omega, by omega⟩
theorem sz_less {A : Ar} (ha : A.Agg) {i : Nat} {u : Tr} (h : Sub A i u) : (A.sz i).toNat = u.size := by rw [h.size ha]; omega
/-- a tree has no more nodes than slots are allocated -/
theorem TreeAt.held {A : Ar} {i : Nat} {t : Tr} {l : List En} (h : TreeAt A i t l) : t.size + A.σ.free.length ≤ A.σ.cap := by
  obtain ⟨held, hv⟩ := h.inv
  have hu : Asc none (t.keys A.nd) := by rw [Tr.ents_keys, h.ents]; exact up_asc l none h.up (fun k hk => by cases hk)
  have h1 := ord_above hv.ok h.sub ((ordT_spec A.nd t none).1 hu)
  have h2 := above_free hv.ok
  omega
/-- the child below which a key can be -/
def twd (x : Nd) (k : Int) : Nat := if k < x.key then x.left else x.right
def WayM (I : AImpl) (w : World) (F : Nat → Prop) (p : Value) (A : Ar) (rd0 k : Int) (R : Option En) (top : Int) (U : Nat) (x c : Value) (wr : World) : Prop :=
  ∃ (i n : Nat) (u : Tr) (rd : Int), x = .int .u32 (i : Int) ∧ c = .int .i64 (n : Int) ∧ Sub A i u ∧ getT A.nd k u = R ∧ rd0 ≤ rd ∧ rd + (u.ht : Int) ≤ top ∧ n + u.size ≤ U ∧ In I w F p A rd (fun _ => False) wr
end Go.Proofs.Ytbjmblfifnjafaa
