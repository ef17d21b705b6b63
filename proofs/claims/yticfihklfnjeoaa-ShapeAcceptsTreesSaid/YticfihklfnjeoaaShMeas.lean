/- What is asked of the program's Check and Measure, stated, not proved here; an arena beside boxes while it is read. -/
import Derived.Test.YticfihklfnjeoaaRefShape
import Derived.Test.YticfihklfnjeoaaArSide
import Derived.Test.YticfihklfnjeoaaShCon
set_option linter.unusedVariables false
set_option linter.unusedSimpArgs false
namespace Go.Proofs.Yticfihklfnjeoaa
open Go.RowKit
def shK (A : Ar) (t : Tr) : Int := if errT A t = 0 then (t.size : Int) else 0
def shH (A : Ar) (t : Tr) : Int := if errT A t = 0 then (t.ht : Int) else 0
structure ShMeas (I : AImpl) : Prop where
  check : ∀ (p : Value) (A : Ar) (rd : Int) (F : Nat → Prop) (i : Nat) (held : Nat → Nat) (w : World), I.Is w p A rd F → A.Inv [] held → A.Agg → 0 ≤ rd → rd ≤ 1099511627776 → i < 4294967296 →
    Calls Try.prog 22 #[p, .int .u32 (i : Int)] w fun e w' => ∃ F' rd', Alters F F' w w' ∧ I.Is w' p A rd' F' ∧ 0 ≤ rd' ∧ rd' ≤ rd + 16777216 ∧
      (¬ A.Idx i → e = .returned (.int .i64 1)) ∧ (∀ t, Sub A i t → e = .returned (.int .i64 (errT A t)))
  measure : ∀ (p : Value) (A : Ar) (rd : Int) (F : Nat → Prop) (i : Nat) (held : Nat → Nat) (w : World), I.Is w p A rd F → A.Inv [] held → A.Agg → 0 ≤ rd → rd ≤ 1099511627776 → i < 4294967296 →
    Calls Try.prog 21 #[p, .int .u32 (i : Int)] w fun e w' => ∃ F' rd', Alters F F' w w' ∧ I.Is w' p A rd' F' ∧ 0 ≤ rd' ∧ rd' ≤ rd + 16777216 ∧
      (¬ A.Idx i → e = .returned (.tuple #[.agg #[.int .i64 0, .int .i64 0], .int .i64 1])) ∧
      (∀ t, Sub A i t → e = .returned (.tuple #[.agg #[.int .i64 (shK A t), .int .i64 (shH A t)], .int .i64 (errT A t)]))
/-- what is asked of an index that stands for a tree of entries -/
theorem tree_err {A : Ar} (ha : A.Agg) {i : Nat} {t : Tr} (h : Sub A i t) (hb : t.bal = true) (hu : Asc none (t.keys A.nd)) : errT A t = 0 := by
  unfold errT
  rw [(ordT_spec A.nd t none).1 hu]
  show (if balT A t = true then (0 : Int) else 8) = 0
  rw [balT_bal ha h, hb, if_pos rfl]
theorem Planted.err {A A' : Ar} {held : Nat → Nat} {l : List En} {i : Nat} {t : Tr} (h : Planted A held l A' i t) (hu : Up l) : errT A' t = 0 :=
  tree_err h.agg h.sub h.bal (by rw [Tr.ents_keys, h.ents]; exact up_asc l none hu (fun k hk => by cases hk))
section
variable {I : AImpl} {B : Nat} {w0 w w' : World} {p : Value} {A : Ar} {top : Int} {G : Nat → Prop}
theorem ms_check (K : ShMeas I) (h : MS I B w0 w p A top G) (ht : top ≤ 1099511627776) {i : Nat} {held : Nat → Nat} (hv : A.Inv [] held) (ha : A.Agg) (hi : i < 4294967296) :
    Calls Try.prog 22 #[p, .int .u32 (i : Int)] w fun e w' => MS I B w0 w' p A (top + 16777216) G ∧ Keeps G w w' ∧ (¬ A.Idx i → e = .returned (.int .i64 1)) ∧ (∀ t, Sub A i t → e = .returned (.int .i64 (errT A t))) := by
  obtain ⟨rd, F, h1, h2, h3, h4, h5⟩ := h.has
  refine (K.check p A rd F i held w h1 hv ha h2 (by omega) hi).mono ?_
  rintro e w1 ⟨F', rd', hal, hI, hr1, hr2, he1, he2⟩
  have := h.step h4 h5 hal hI (top' := top + 16777216) (by omega) (by omega)
  exact ⟨this.1, this.2, he1, he2⟩
theorem ms_measure (K : ShMeas I) (h : MS I B w0 w p A top G) (ht : top ≤ 1099511627776) {i : Nat} {held : Nat → Nat} (hv : A.Inv [] held) (ha : A.Agg) (hi : i < 4294967296) :
    Calls Try.prog 21 #[p, .int .u32 (i : Int)] w fun e w' => MS I B w0 w' p A (top + 16777216) G ∧ Keeps G w w' ∧ (¬ A.Idx i → e = .returned (.tuple #[.agg #[.int .i64 0, .int .i64 0], .int .i64 1])) ∧
      (∀ t, Sub A i t → e = .returned (.tuple #[.agg #[.int .i64 (shK A t), .int .i64 (shH A t)], .int .i64 (errT A t)])) := by
  obtain ⟨rd, F, h1, h2, h3, h4, h5⟩ := h.has
  refine (K.measure p A rd F i held w h1 hv ha h2 (by omega) hi).mono ?_
  rintro e w1 ⟨F', rd', hal, hI, hr1, hr2, he1, he2⟩
  have := h.step h4 h5 hal hI (top' := top + 16777216) (by omega) (by omega)
  exact ⟨this.1, this.2, he1, he2⟩
end
/-- a box of two numbers, beside the arena -/
theorem two_of {w : World} {g : Nat} {x y : Int} {ty : TypeId} (h : w.heap[g]? = some (.cells #[.int .i64 x, .int .i64 y] ty (0, 0))) : w.cell? ⟨g, 0, none⟩ = some (.int .i64 x) ∧ w.cell? ⟨g, 1, none⟩ = some (.int .i64 y) := by
  constructor <;> (rw [cell_of_row _ _ _ _ _ _ h]; rfl)
theorem cells_two {w : World} {g : Nat} {x y : Int} {ty : TypeId} (h : w.heap[g]? = some (.cells #[.int .i64 x, .int .i64 y] ty (0, 0))) : g < w.heap.size := (Array.getElem?_eq_some_iff.1 h).1
structure MB (I : AImpl) (B : Nat) (w0 w : World) (p : Value) (A : Ar) (top : Int) (g : Nat) (x y : Int) : Prop where
  ms : MS I B w0 w p A top (fun k => k = g)
  box : w.heap[g]? = some (.cells #[.int .i64 x, .int .i64 y] 42 (0, 0))
section
variable {I : AImpl} {B g : Nat} {w0 w w' : World} {p : Value} {A : Ar} {top x y : Int}
theorem MB.calm (h : MB I B w0 w p A top g x y) (hb : Below w.heap.size w w') : MB I B w0 w' p A top g x y := ⟨h.ms.calm hb, (h.ms.keeps hb g rfl).trans h.box⟩
theorem MS.box {G : Nat → Prop} (h : MS I B w0 w p A top G) (x y : Int) : MB I B w0 (w.alloc (.cells #[.int .i64 x, .int .i64 y] 42)) p A top w.heap.size x y :=
  ⟨(h.alloc _).less fun k hk => .inr hk, heap_alloc_new w _⟩
theorem mb_check (K : ShMeas I) (h : MB I B w0 w p A top g x y) (ht : top ≤ 1099511627776) {i : Nat} {t : Tr} {held : Nat → Nat} (hv : A.Inv [] held) (ha : A.Agg) (hi : i < 4294967296) (hs : Sub A i t) {er : Int} (he : errT A t = er) :
    Calls Try.prog 22 #[p, .int .u32 (i : Int)] w fun e w' => e = .returned (.int .i64 er) ∧ MB I B w0 w' p A (top + 16777216) g x y := by
  refine (ms_check K h.ms ht hv ha hi).mono ?_
  rintro e w1 ⟨h1, h2, _, h3⟩
  exact ⟨by rw [h3 t hs, he], h1, (h2 g rfl).trans h.box⟩
theorem mb_dump (h : MB I B w0 w p A top g x y) {held : Nat → Nat} (hv : A.Inv [] held) : Calls Try.prog 19 #[p] w
    fun e w' => ∃ a c b d, e = .returned (.agg #[.slice a A.σ.cap c, .slice b A.σ.free.length d]) ∧ MB I B w0 w' p A top g x y ∧ SlotsAt w' a A.σ.cap A.sl := by
  refine (ms_dump h.ms hv).mono ?_
  rintro e w1 ⟨a, c, b, d, rfl, h1, h2, h3, _⟩
  exact ⟨a, c, b, d, rfl, ⟨h1, (h2 g rfl).trans h.box⟩, h3⟩
theorem mb_height (h : MB I B w0 w p A top g x y) {held : Nat → Nat} (hv : A.Inv [] held) (ha : A.Agg) {i : Nat} {t : Tr} (hs : Sub A i t) {a b : Option Addr} {c m d : Nat} (hS : SlotsAt w a A.σ.cap A.sl) :
    Calls Try.prog 23 #[.agg #[.slice a A.σ.cap c, .slice b m d], .int .u32 (i : Int)] w fun e w' => e = .returned (.int .i64 (t.ht : Int)) ∧ MB I B w0 w' p A top g x y := by
  refine (height_any hv.ok ha rfl hs w hS).mono ?_
  rintro e w1 ⟨h1, hb⟩
  exact ⟨h1, h.calm hb⟩
end
end Go.Proofs.Yticfihklfnjeoaa
