/- ShapeChecks: an arena beside its dump and a row of indexes; what calls leave of it. -/
import Derived.Test.YticfihklfnjeoaaShMeas
import Derived.Test.YticfihklfnjeoaaShBuild
import Derived.Test.YticfihklfnjeoaaSameDump
import Derived.Test.YticfihklfnjeoaaSlotsAid
set_option linter.unusedVariables false
set_option linter.unusedSimpArgs false
namespace Go.Proofs.Yticfihklfnjeoaa
open Go.RowKit
theorem set_two_only (w : World) (g : Nat) (x y : Value) : ((w.setCell ⟨g, 0, none⟩ x).setCell ⟨g, 1, none⟩ y).os = w.os ∧ ((w.setCell ⟨g, 0, none⟩ x).setCell ⟨g, 1, none⟩ y).tape = w.tape ∧ ((w.setCell ⟨g, 0, none⟩ x).setCell ⟨g, 1, none⟩ y).output = w.output ∧
    ((w.setCell ⟨g, 0, none⟩ x).setCell ⟨g, 1, none⟩ y).heap.size = w.heap.size ∧ ∀ k, k ≠ g → ((w.setCell ⟨g, 0, none⟩ x).setCell ⟨g, 1, none⟩ y).heap[k]? = w.heap[k]? :=
  ⟨rfl, rfl, rfl, by simp [World.setCell], fun k hk => by rw [heap_setCell_other _ _ _ _ hk, heap_setCell_other _ _ _ _ hk]⟩
theorem set_two_row {w : World} {g : Nat} {x0 y0 x y : Value} {ty : TypeId} (h : w.heap[g]? = some (.cells #[x0, y0] ty (0, 0))) : ((w.setCell ⟨g, 0, none⟩ x).setCell ⟨g, 1, none⟩ y).heap[g]? = some (.cells #[x, y] ty (0, 0)) := by
  rw [heap_setCell_same _ g 1 _ _ _ (heap_setCell_same w g 0 _ _ _ h)]; rfl
/-- what is answered of an index: the error, the number of keys, the height -/
def Ans (A : Ar) (i : Nat) (er k h : Int) : Prop := (¬ A.Idx i ∧ er = 1 ∧ k = 0 ∧ h = 0) ∨ ∃ t, Sub A i t ∧ er = errT A t ∧ k = shK A t ∧ h = shH A t
theorem ans_get {A : Ar} {s : List Nat} {held : Nat → Nat} (hI : A.Inv s held) (ha : A.Agg) (i : Nat) : ∃ er k h, Ans A i er k h := by
  by_cases hi : A.Idx i
  · obtain ⟨t, ht⟩ := Sub.get hI ha hi
    exact ⟨_, _, _, .inr ⟨t, ht, rfl, rfl, rfl⟩⟩
  · exact ⟨1, 0, 0, .inl ⟨hi, rfl, rfl, rfl⟩⟩
/-- where there is an error, or no node, nothing is measured -/
theorem Ans.none {A : Ar} {i : Nat} {er k h : Int} (ha : Ans A i er k h) (h0 : er ≠ 0 ∨ i = 0) : k = 0 ∧ h = 0 := by
  rcases ha with ⟨_, _, rfl, rfl⟩ | ⟨t, ht, he, rfl, rfl⟩
  · exact ⟨rfl, rfl⟩
  · rcases h0 with h0 | h0
    · exact ⟨if_neg (fun e => h0 (he.trans e)), if_neg (fun e => h0 (he.trans e))⟩
    · subst h0
      have : t = .nil := by
        cases ht with
        | nil => rfl
        | node _ _ _ h1 => exact absurd rfl h1
      subst this
      unfold shK shH
      exact ⟨ite_self _, ite_self _⟩
theorem Ans.tree {A : Ar} {i : Nat} {er k h : Int} (hg : A.Agg) (ha : Ans A i er k h) (h0 : er = 0) (hi : i ≠ 0) : ∃ t, Sub A i t ∧ A.σ.on i = true ∧ (A.nd i).size = k ∧ (t.ht : Int) = h := by
  rcases ha with ⟨_, h1, _, _⟩ | ⟨t, ht, he, rfl, rfl⟩
  · omega
  · have hon := ht.idx.resolve_left hi
    have he0 : errT A t = 0 := by rw [← he]; exact h0
    refine ⟨t, ht, hon, ?_, ?_⟩
    · have := ht.size hg
      unfold Ar.sz at this
      rw [if_neg hi] at this
      unfold shK
      rw [if_pos he0, this]
    · unfold shH
      rw [if_pos he0]
/-- the blocks of the dump and of the row of indexes -/
def CG (q : Nat) (v1 v2 v3 : Value) (k : Nat) : Prop := k = q ∨ v1.ownBlock = some k ∨ v2.ownBlock = some k ∨ v3.ownBlock = some k
structure CS (I : AImpl) (B : Nat) (w0 w : World) (p : Value) (A : Ar) (top : Int) (q : Nat) (da db ta : Option Addr) (dc dd tc : Nat) (xs : List Nat) (X : Nat → Prop) : Prop where
  ms : MS I B w0 w p A top (fun k => CG q (.slice da A.σ.cap dc) (.slice db A.σ.free.length dd) (.slice ta xs.length tc) k ∨ X k)
  box : w.heap[q]? = some (.cells #[.slice da A.σ.cap dc, .slice db A.σ.free.length dd] 37 (0, 0))
  sl : w.ownsRow B 49 11 (.slice da A.σ.cap dc) A.σ.cap (slotsV A)
  fr : w.ownsRow B 30 1 (.slice db A.σ.free.length dd) A.σ.free.length (u32s A.σ.free)
  tr : w.ownsRow B 30 1 (.slice ta xs.length tc) xs.length (u32s xs)
section
variable {I : AImpl} {B q dc dd tc : Nat} {w0 w w' : World} {p : Value} {A : Ar} {top top' : Int} {da db ta : Option Addr} {xs : List Nat} {X : Nat → Prop}
theorem CS.keep (h : CS I B w0 w p A top q da db ta dc dd tc xs X) {Y : Nat → Prop} (hm : MS I B w0 w' p A top' (fun k => CG q (.slice da A.σ.cap dc) (.slice db A.σ.free.length dd) (.slice ta xs.length tc) k ∨ Y k)) (hk : Keeps (CG q (.slice da A.σ.cap dc) (.slice db A.σ.free.length dd) (.slice ta xs.length tc)) w w') :
    CS I B w0 w' p A top' q da db ta dc dd tc xs Y :=
  ⟨hm, (hk q (.inl rfl)).trans h.box, row_keep h.sl fun k hk' => hk k (.inr (.inl hk')), row_keep h.fr fun k hk' => hk k (.inr (.inr (.inl hk'))), row_keep h.tr fun k hk' => hk k (.inr (.inr (.inr hk')))⟩
theorem CS.calm (h : CS I B w0 w p A top q da db ta dc dd tc xs X) (hb : Below w.heap.size w w') : CS I B w0 w' p A top q da db ta dc dd tc xs X :=
  h.keep (h.ms.calm hb) fun k hk => h.ms.keeps hb k (.inl hk)
theorem CS.kept (h : CS I B w0 w p A top q da db ta dc dd tc xs X) (hb : Below w.heap.size w w') : Keeps X w w' := fun k hk => h.ms.keeps hb k (.inr hk)
theorem CS.lt (h : CS I B w0 w p A top q da db ta dc dd tc xs X) : ∀ k, CG q (.slice da A.σ.cap dc) (.slice db A.σ.free.length dd) (.slice ta xs.length tc) k → k < w.heap.size := fun k hk => h.ms.lt (.inl hk)
theorem CS.alloc (h : CS I B w0 w p A top q da db ta dc dd tc xs X) (o : Obj) : CS I B w0 (w.alloc o) p A top q da db ta dc dd tc xs (fun k => X k ∨ k = w.heap.size) :=
  h.keep ((h.ms.alloc o).less fun k hk => by rcases hk with hk | hk | hk; exact .inl (.inl hk); exact .inl (.inr hk); exact .inr hk) fun k hk => h.ms.keeps (below_new7 w o) k (.inl hk)
theorem CS.le (h : CS I B w0 w p A top q da db ta dc dd tc xs X) (ht : top ≤ top') : CS I B w0 w p A top' q da db ta dc dd tc xs X := by
  obtain ⟨rd, F, h1, h2, h3, h4, h5⟩ := h.ms.has
  exact h.keep ⟨⟨rd, F, h1, h2, by omega, h4, h5⟩, h.ms.below, h.ms.hB⟩ fun k hk => rfl
theorem CS.less {Y : Nat → Prop} (h : CS I B w0 w p A top q da db ta dc dd tc xs X) (hY : ∀ k, Y k → X k) : CS I B w0 w p A top q da db ta dc dd tc xs Y :=
  h.keep (h.ms.less fun k hk => hk.imp_right (hY k)) fun k hk => rfl
theorem CS.slots (h : CS I B w0 w p A top q da db ta dc dd tc xs X) {held : Nat → Nat} (hv : A.Inv [] held) : SlotsAt w da A.σ.cap A.sl := slots_at hv h.sl
theorem CS.cellsD (h : CS I B w0 w p A top q da db ta dc dd tc xs X) : w.cell? ⟨q, 0, none⟩ = some (.slice da A.σ.cap dc) ∧ w.cell? ⟨q, 1, none⟩ = some (.slice db A.σ.free.length dd) := two_cells h.box
theorem CS.nth (h : CS I B w0 w p A top q da db ta dc dd tc xs X) {g j y : Nat} (ha : ta = some ⟨g, 0, none⟩) (hj : xs[j]? = some y) : w.cell? ⟨g, j, none⟩ = some (.int .u32 (y : Int)) := by
  have hjl := (List.getElem?_eq_some_iff.1 hj).1
  obtain ⟨g', hg, _, hc⟩ := row_cell h.tr hjl
  rw [ha] at hg
  simp only [Option.some.injEq, Addr.mk.injEq, and_true] at hg
  subst hg
  rw [hc]
  simp [u32s, hj]
theorem cs_check (K : ShMeas I) (h : CS I B w0 w p A top q da db ta dc dd tc xs X) (ht : top ≤ 1099511627776) {i : Nat} {held : Nat → Nat} (hv : A.Inv [] held) (ha : A.Agg) (hi : i < 4294967296) {er k hh : Int} (hs : Ans A i er k hh) :
    Calls Try.prog 22 #[p, .int .u32 (i : Int)] w fun e w' => e = .returned (.int .i64 er) ∧ CS I B w0 w' p A (top + 16777216) q da db ta dc dd tc xs X ∧ Keeps X w w' := by
  refine (ms_check K h.ms ht hv ha hi).mono ?_
  rintro e w1 ⟨h1, h2, h3, h4⟩
  refine ⟨?_, h.keep h1 fun k hk => h2 k (.inl hk), fun k hk => h2 k (.inr hk)⟩
  rcases hs with ⟨hn, rfl, _, _⟩ | ⟨t, hst, rfl, _, _⟩
  · exact h3 hn
  · exact h4 t hst
theorem cs_measure (K : ShMeas I) (h : CS I B w0 w p A top q da db ta dc dd tc xs X) (ht : top ≤ 1099511627776) {i : Nat} {held : Nat → Nat} (hv : A.Inv [] held) (ha : A.Agg) (hi : i < 4294967296) {er k hh : Int} (hs : Ans A i er k hh) :
    Calls Try.prog 21 #[p, .int .u32 (i : Int)] w fun e w' => e = .returned (.tuple #[.agg #[.int .i64 k, .int .i64 hh], .int .i64 er]) ∧ CS I B w0 w' p A (top + 16777216) q da db ta dc dd tc xs X ∧ Keeps X w w' := by
  refine (ms_measure K h.ms ht hv ha hi).mono ?_
  rintro e w1 ⟨h1, h2, h3, h4⟩
  refine ⟨?_, h.keep h1 fun k hk => h2 k (.inl hk), fun k hk => h2 k (.inr hk)⟩
  rcases hs with ⟨hn, rfl, rfl, rfl⟩ | ⟨t, hst, rfl, rfl, rfl⟩
  · exact h3 hn
  · exact h4 t hst
/-- the reference's Check on the dump -/
theorem ref_check {w : World} {A : Ar} {da db : Option Addr} {dc m dd : Nat} (hS : SlotsAt w da A.σ.cap A.sl) {i : Nat} {held : Nat → Nat} (hv : A.Inv [] held) (ha : A.Agg) (hi : i < 4294967296) {er k hh : Int} (hs : Ans A i er k hh) :
    Calls Try.prog 20 #[.agg #[.slice da A.σ.cap dc, .slice db m dd], .int .u32 (i : Int)] w (Calm w (.int .i64 er)) := by
  rcases hs with ⟨hn, rfl, _, _⟩ | ⟨t, hst, rfl, _, _⟩
  · exact refCheck_bad hv.ok rfl hS hi hn
  · exact refCheck_ok hv.ok ha rfl hS hst hv.ok.cap2
theorem OnlyG.cs {g : Nat} (h : CS I B w0 w p A top q da db ta dc dd tc xs X) (hX : X g) (hg : ¬ CG q (.slice da A.σ.cap dc) (.slice db A.σ.free.length dd) (.slice ta xs.length tc) g) (hB : B ≤ g)
    (ho : w'.os = w.os ∧ w'.tape = w.tape ∧ w'.output = w.output ∧ w'.heap.size = w.heap.size ∧ ∀ k, k ≠ g → w'.heap[k]? = w.heap[k]?) : CS I B w0 w' p A top q da db ta dc dd tc xs X := by
  obtain ⟨o1, o2, o3, o4, o5⟩ := ho
  obtain ⟨rd, F, h1, h2, h3, h4, h5⟩ := h.ms.has
  refine h.keep ⟨⟨rd, F, I.keep h1 fun k hk => o5 k fun e => (h5 g (.inr hX)).2 (e ▸ hk), h2, h3, h4, fun k hk => ⟨by rw [o4]; exact (h5 k hk).1, (h5 k hk).2⟩⟩, ?_, by rw [o4]; exact h.ms.hB⟩ fun k hk => o5 k fun e => hg (e ▸ hk)
  exact h.ms.below.trans ⟨o1, o2, o3, Nat.le_of_eq o4.symm, fun k hk => o5 k (by omega)⟩
end
end Go.Proofs.Yticfihklfnjeoaa
