/- The program's arena, its first functions: they keep their contracts. Condition: each theorem's own. -/
import Derived.Test.YtkhfofpbmnapjaaArenaCon
import Derived.Test.YtkhfofpbmnapjaaSlotsOk5
import Derived.Deep.MidRow
import Derived.Deep.CutRange
import Derived.Deep.LoopGhost
import Derived.Deep.DeepCutAuto
import Derived.Deep.RegionHeld3
set_option linter.unusedVariables false
namespace Go.Proofs.Ytkhfofpbmnapjaa
open Go.RowKit

/-- the cells of slot i -/
def celV (A : Ar) (i : Nat) : List Value := ndV (A.nd i) ++ [.int .i64 (A.cnt i)]
def celsV (A : Ar) : List Value := (List.range' 1 A.σ.cap).flatMap (celV A)
theorem celflat {α : Type} {f : α → List Value} {m : Nat} (hm : ∀ x, (f x).length = m) : ∀ (l : List α) (i j : Nat) (x : α), l[i]? = some x → j < m → (l.flatMap f)[i * m + j]? = (f x)[j]?
  | [], i, j, x, h, hj => by simp at h
  | a :: t, 0, j, x, h, hj => by
    simp at h
    subst h
    rw [List.flatMap_cons, Nat.zero_mul, Nat.zero_add, List.getElem?_append_left (by rw [hm]; exact hj)]
  | a :: t, i + 1, j, x, h, hj => by
    simp at h
    rw [List.flatMap_cons, List.getElem?_append_right (by rw [hm, Nat.succ_mul]; omega), hm, show (i + 1) * m + j - m = i * m + j by rw [Nat.succ_mul]; omega]
    exact celflat hm t i j x h hj
theorem cel_len (A : Ar) (i : Nat) : (celV A i).length = 9 := by simp [celV, ndV]
theorem cels_len (A : Ar) : (celsV A).length = A.σ.cap * 9 := by
  unfold celsV
  have key : ∀ l : List Nat, (l.flatMap (celV A)).length = l.length * 9 := fun l => by
    induction l with
    | nil => rfl
    | cons a t ih => rw [List.flatMap_cons, List.length_append, ih, cel_len]; simp; omega
  rw [key, List.length_range']
theorem cels_at (A : Ar) {i j : Nat} (hi : i < A.σ.cap) (hj : j < 9) : (celsV A)[i * 9 + j]? = (celV A (i + 1))[j]? :=
  celflat (f := celV A) (m := 9) (cel_len A) (List.range' 1 A.σ.cap) i j (i + 1) (by rw [List.getElem?_range' hi]; simp; omega) hj
/-- two rows of cells that agree cell by cell -/
theorem cels_ext {A : Ar} {l : List Value} (hl : l.length = A.σ.cap * 9) (h : ∀ i j, i < A.σ.cap → j < 9 → l[i * 9 + j]? = (celV A (i + 1))[j]?) : l = celsV A := by
  apply List.ext_getElem?
  intro k
  by_cases hk : k < A.σ.cap * 9
  · have h1 := h (k / 9) (k % 9) (by omega) (by omega)
    have h2 := cels_at A (i := k / 9) (j := k % 9) (by omega) (by omega)
    rw [show k / 9 * 9 + k % 9 = k by omega] at h1 h2
    rw [h1, h2]
  · rw [List.getElem?_eq_none (by omega), List.getElem?_eq_none (by rw [cels_len]; omega)]
theorem row_head9 {w : World} {B n c : Nat} {e : TypeId} {a : Option Addr} {s : Nat} {xs : List Value} (h : w.ownsRow B e s (.slice a n c) n xs) (h0 : 0 < n) : ∃ g, a = some ⟨g, 0, none⟩ := by
  rcases h.2 with ⟨_, hn⟩ | ⟨g, cap, cur, hv, _⟩
  · omega
  · simp only [Value.slice.injEq] at hv
    exact ⟨g, hv.1⟩
/-- cells stored one behind the other -/
def patch : List Value → Nat → List Value → List Value
  | xs, _, [] => xs
  | xs, o, v :: t => patch (xs.set o v) (o + 1) t
theorem patch_len : ∀ (vs xs : List Value) (o : Nat), (patch xs o vs).length = xs.length
  | [], xs, o => rfl
  | v :: t, xs, o => by rw [patch, patch_len t, List.length_set]
theorem patch_at : ∀ (vs xs : List Value) (o k : Nat), (patch xs o vs)[k]? = if o ≤ k ∧ k < o + vs.length ∧ k < xs.length then vs[k - o]? else xs[k]?
  | [], xs, o, k => by rw [patch, if_neg (by simp; omega)]
  | v :: t, xs, o, k => by
    rw [patch, patch_at t, List.length_set]
    by_cases h1 : o + 1 ≤ k ∧ k < o + 1 + t.length ∧ k < xs.length
    · rw [if_pos h1, if_pos (by simp only [List.length_cons]; omega), show k - o = (k - (o + 1)) + 1 by omega, List.getElem?_cons_succ]
    · rw [if_neg h1, List.getElem?_set]
      by_cases h2 : o = k
      · subst h2
        rw [if_pos rfl]
        by_cases h3 : o < xs.length
        · rw [if_pos h3, if_pos (by simp only [List.length_cons]; omega)]; simp
        · rw [if_neg h3, if_neg (by omega), List.getElem?_eq_none (by omega)]
      · rw [if_neg h2, if_neg (by simp only [List.length_cons]; omega)]
theorem row_patch {B n c g s : Nat} {e : TypeId} : ∀ (vs : List Value) (w : World) (o : Nat) (xs : List Value), w.ownsRow B e s (.slice (some ⟨g, 0, none⟩) n c) n xs → (w.setCells g o vs).ownsRow B e s (.slice (some ⟨g, 0, none⟩) n c) n (patch xs o vs)
  | [], w, o, xs, h => h
  | v :: t, w, o, xs, h => row_patch t _ (o + 1) _ (h.stored o v).1
/-- every count is one -/
def Ar.Fit (A : Ar) : Prop := ∀ i, 0 ≤ A.cnt i ∧ A.cnt i ≤ 9223372036854775807
structure LieA (I : Impl) (w : World) (ab : Nat) (sp : Addr) (A : Ar) (rd : Int) (ca : Option Addr) (cc : Nat) (Fs : Nat → Prop) : Prop where
  slots : I.Is w (.pointer (some sp)) A.σ Fs
  box : w.heap[ab]? = some (.cells #[.pointer (some sp), .slice ca A.σ.cap cc, .int .u64 rd] 69 (0, 0))
  cels : w.ownsRow 0 71 9 (.slice ca A.σ.cap cc) A.σ.cap (celsV A)
  off : ∀ i, A.σ.on i = false → A.cnt i = 0 ∧ A.nd i = Nd.zero
  fit : A.Fit
  abF : ¬ Fs ab
  caF : ∀ k, (Value.slice ca A.σ.cap cc).ownBlock = some k → ¬ Fs k ∧ k ≠ ab
def FootA (ab : Nat) (ca : Option Addr) (Fs : Nat → Prop) (k : Nat) : Prop := k = ab ∨ (∃ x, ca = some x ∧ x.block = k) ∨ Fs k
section
variable {I : Impl} {w w' : World} {ab : Nat} {sp : Addr} {A A' : Ar} {rd : Int} {ca : Option Addr} {cc g : Nat} {Fs Fs' : Nat → Prop}
theorem LieA.ok (h : LieA I w ab sp A rd ca cc Fs) : A.σ.Ok := I.ok h.slots
theorem LieA.lt (h : LieA I w ab sp A rd ca cc Fs) : ab < w.heap.size := (Array.getElem?_eq_some_iff.1 h.box).1
theorem LieA.head (h : LieA I w ab sp A rd ca cc Fs) : ∃ g, ca = some ⟨g, 0, none⟩ := row_head9 h.cels h.ok.cap1
theorem LieA.below (h : LieA I w ab sp A rd ca cc Fs) (hb : Below w.heap.size w w') : LieA I w' ab sp A rd ca cc Fs :=
  ⟨I.below h.slots hb, (hb.block ab h.lt).trans h.box, row_below h.cels hb, h.off, h.fit, h.abF, h.caF⟩
theorem LieA.cells (h : LieA I w ab sp A rd ca cc Fs) : w.cell? ⟨ab, 0, none⟩ = some (.pointer (some sp)) ∧ w.cell? ⟨ab, 1, none⟩ = some (.slice ca A.σ.cap cc) ∧ w.cell? ⟨ab, 2, none⟩ = some (.int .u64 rd) := by
  refine ⟨?_, ?_, ?_⟩ <;> (rw [cell_of_row _ _ _ _ _ _ h.box]; rfl)
theorem LieA.dom (h : LieA I w ab sp A rd ca cc Fs) : ∀ k, FootA ab ca Fs k → k < w.heap.size := by
  intro k hk
  rcases hk with rfl | ⟨x, rfl, rfl⟩ | hk
  · exact h.lt
  · exact (row_lt h.cels _ rfl).2
  · exact I.dom h.slots k hk
theorem LieA.keep (h : LieA I w ab sp A rd ca cc Fs) (hk : ∀ k, FootA ab ca Fs k → w'.heap[k]? = w.heap[k]?) : LieA I w' ab sp A rd ca cc Fs :=
  ⟨I.keep h.slots fun k e => hk k (.inr (.inr e)), (hk ab (.inl rfl)).trans h.box, row_keep h.cels fun k e => hk k (.inr (.inl (foot_own e))), h.off, h.fit, h.abF, h.caF⟩
/-- what lies in memory while slot numbers and cells do not yet agree: the allocator's state, the row's cells, each for itself -/
structure RawA (I : Impl) (w : World) (ab : Nat) (sp : Addr) (σ : St) (xs : List Value) (rd : Int) (g : Nat) (cc : Nat) (Fs : Nat → Prop) : Prop where
  slots : I.Is w (.pointer (some sp)) σ Fs
  box : w.heap[ab]? = some (.cells #[.pointer (some sp), .slice (some ⟨g, 0, none⟩) σ.cap cc, .int .u64 rd] 69 (0, 0))
  cels : w.ownsRow 0 71 9 (.slice (some ⟨g, 0, none⟩) σ.cap cc) σ.cap xs
  abF : ¬ Fs ab
  caF : ¬ Fs g ∧ g ≠ ab
theorem LieA.raw (h : LieA I w ab sp A rd (some ⟨g, 0, none⟩) cc Fs) : RawA I w ab sp A.σ (celsV A) rd g cc Fs := ⟨h.slots, h.box, h.cels, h.abF, h.caF g rfl⟩
theorem RawA.lie {σ : St} {xs : List Value} (h : RawA I w ab sp σ xs rd g cc Fs) (hσ : A.σ = σ) (hx : xs = celsV A) (off : ∀ i, A.σ.on i = false → A.cnt i = 0 ∧ A.nd i = Nd.zero) (fit : A.Fit) : LieA I w ab sp A rd (some ⟨g, 0, none⟩) cc Fs := by
  subst hσ hx
  exact ⟨h.slots, h.box, h.cels, off, fit, h.abF, fun k hk => by simp [Value.ownBlock] at hk; subst hk; exact h.caF⟩
section
variable {σ σ' : St} {xs : List Value}
theorem RawA.lt (h : RawA I w ab sp σ xs rd g cc Fs) : ab < w.heap.size := (Array.getElem?_eq_some_iff.1 h.box).1
theorem RawA.glt (h : RawA I w ab sp σ xs rd g cc Fs) : g < w.heap.size := (row_lt h.cels g rfl).2
theorem RawA.below (h : RawA I w ab sp σ xs rd g cc Fs) (hb : Below w.heap.size w w') : RawA I w' ab sp σ xs rd g cc Fs :=
  ⟨I.below h.slots hb, (hb.block ab h.lt).trans h.box, row_below h.cels hb, h.abF, h.caF⟩
theorem RawA.cells (h : RawA I w ab sp σ xs rd g cc Fs) : w.cell? ⟨ab, 0, none⟩ = some (.pointer (some sp)) ∧ w.cell? ⟨ab, 1, none⟩ = some (.slice (some ⟨g, 0, none⟩) σ.cap cc) ∧ w.cell? ⟨ab, 2, none⟩ = some (.int .u64 rd) := by
  refine ⟨?_, ?_, ?_⟩ <;> (rw [cell_of_row _ _ _ _ _ _ h.box]; rfl)
/-- the allocator took a step -/
theorem RawA.step (h : RawA I w ab sp σ xs rd g cc Fs) (ha : Alters Fs Fs' w w') (hs : I.Is w' (.pointer (some sp)) σ' Fs') (hc : σ'.cap = σ.cap) : RawA I w' ab sp σ' xs rd g cc Fs' ∧ Alters (FootA ab (some ⟨g, 0, none⟩) Fs) (FootA ab (some ⟨g, 0, none⟩) Fs') w w' := by
  have hn : ∀ k, k < w.heap.size → ¬ Fs k → ¬ Fs' k := fun k hk hf hf' => by
    rcases ha.foot k hf' with h1 | h1
    · exact hf h1
    · omega
  refine ⟨⟨hs, by rw [hc]; exact (ha.block ab h.lt h.abF).trans h.box, by rw [hc]; exact row_keep h.cels fun k e => ha.block k (row_lt h.cels k e).2 (by simp [Value.ownBlock] at e; subst e; exact h.caF.1), hn ab h.lt h.abF, hn g h.glt h.caF.1, h.caF.2⟩, ⟨ha.os, ha.tape, ha.output, ha.size, fun k hk hf => ha.block k hk fun e => hf (.inr (.inr e)), fun k hk => ?_⟩⟩
  · rcases hk with rfl | hk | hk
    · exact .inl (.inl rfl)
    · exact .inl (.inr (.inl hk))
    · rcases ha.foot k hk with h1 | h1
      · exact .inl (.inr (.inr h1))
      · exact .inr h1
/-- a cell of the row is written -/
theorem RawA.set (h : RawA I w ab sp σ xs rd g cc Fs) (j : Nat) (v : Value) : RawA I (w.setCell ⟨g, j, none⟩ v) ab sp σ (xs.set j v) rd g cc Fs ∧ Alters (FootA ab (some ⟨g, 0, none⟩) Fs) (FootA ab (some ⟨g, 0, none⟩) Fs) w (w.setCell ⟨g, j, none⟩ v) := by
  refine ⟨⟨I.keep h.slots fun k e => heap_setCell_other _ _ _ _ fun e2 => h.caF.1 (by have e3 : k = g := e2; rw [e3] at e; exact e), (heap_setCell_other _ _ _ _ (fun e2 => h.caF.2 e2.symm)).trans h.box, (h.cels.stored j v).1, h.abF, h.caF⟩, alters_set (.inr (.inl ⟨_, rfl, rfl⟩))⟩
/-- cells of the row are written -/
theorem RawA.sets : ∀ (vs : List Value) {w : World} {xs : List Value} (o : Nat), RawA I w ab sp σ xs rd g cc Fs → RawA I (w.setCells g o vs) ab sp σ (patch xs o vs) rd g cc Fs ∧ Alters (FootA ab (some ⟨g, 0, none⟩) Fs) (FootA ab (some ⟨g, 0, none⟩) Fs) w (w.setCells g o vs)
  | [], w, xs, o, h => ⟨h, Alters.refl _ _⟩
  | v :: t, w, xs, o, h => by
    obtain ⟨h1, h2⟩ := h.set o v
    obtain ⟨h3, h4⟩ := RawA.sets t (o + 1) h1
    exact ⟨h3, h2.trans h4⟩
/-- the reads are written -/
theorem RawA.reads (h : RawA I w ab sp σ xs rd g cc Fs) (x : Int) : RawA I (w.setCell ⟨ab, 2, none⟩ (.int .u64 x)) ab sp σ xs x g cc Fs ∧ Alters (FootA ab (some ⟨g, 0, none⟩) Fs) (FootA ab (some ⟨g, 0, none⟩) Fs) w (w.setCell ⟨ab, 2, none⟩ (.int .u64 x)) := by
  refine ⟨⟨I.keep h.slots fun k e => heap_setCell_other _ _ _ _ fun e2 => h.abF (by have e3 : k = ab := e2; rw [e3] at e; exact e), ?_, row_keep h.cels fun k e => heap_setCell_other _ _ _ _ fun e2 => ?_, h.abF, h.caF⟩, alters_set (.inl rfl)⟩
  · rw [heap_setCell_same _ _ _ _ _ _ h.box]; rfl
  · simp [Value.ownBlock] at e
    have e3 : k = ab := e2
    exact h.caF.2 (by omega)
end
/-- the nine cells of slot j + 1 -/
theorem LieA.nine (h : LieA I w ab sp A rd (some ⟨g, 0, none⟩) cc Fs) {j : Nat} (hj : j < A.σ.cap) :
    w.cell? ⟨g, j * 9, none⟩ = some (.int .i64 (A.nd (j + 1)).key) ∧ w.cell? ⟨g, j * 9 + 1, none⟩ = some (.int .i64 (A.nd (j + 1)).val) ∧ w.cell? ⟨g, j * 9 + 2, none⟩ = some (.int .u32 ((A.nd (j + 1)).left : Int)) ∧ w.cell? ⟨g, j * 9 + 3, none⟩ = some (.int .u32 ((A.nd (j + 1)).right : Int)) ∧
    w.cell? ⟨g, j * 9 + 4, none⟩ = some (.int .i64 (A.nd (j + 1)).size) ∧ w.cell? ⟨g, j * 9 + 5, none⟩ = some (.int .i64 (A.nd (j + 1)).sum) ∧ w.cell? ⟨g, j * 9 + 6, none⟩ = some (.int .i64 (A.nd (j + 1)).mn) ∧ w.cell? ⟨g, j * 9 + 7, none⟩ = some (.int .i64 (A.nd (j + 1)).mx) ∧ w.cell? ⟨g, j * 9 + 8, none⟩ = some (.int .i64 (A.cnt (j + 1))) := by
  have key : ∀ k v, k < 9 → (celV A (j + 1))[k]? = some v → w.cell? ⟨g, j * 9 + k, none⟩ = some v := fun k v hk hv => by
    rw [h.cels.cellAt (j * 9 + k) (by omega), cels_at A hj hk]; exact hv
  exact ⟨key 0 _ (by decide) rfl, key 1 _ (by decide) rfl, key 2 _ (by decide) rfl, key 3 _ (by decide) rfl, key 4 _ (by decide) rfl, key 5 _ (by decide) rfl, key 6 _ (by decide) rfl, key 7 _ (by decide) rfl, key 8 _ (by decide) rfl⟩
theorem LieA.there (h : LieA I w ab sp A rd (some ⟨g, 0, none⟩) cc Fs) {j o n : Nat} (hj : j < A.σ.cap) (hn : o + n ≤ 9) : w.there g (j * 9 + o) n := fun k hk => by
  refine ⟨?_, h.cels.frozenAt _⟩
  rw [h.cels.cellAt (j * 9 + o + k) (by omega), show j * 9 + o + k = j * 9 + (o + k) by omega, cels_at A hj (by omega), List.getElem?_eq_getElem (by rw [cel_len]; omega)]
  rfl
theorem LieA.range (h : LieA I w ab sp A rd (some ⟨g, 0, none⟩) cc Fs) {j : Nat} (hj : j < A.σ.cap) : w.rangeAt g (j * 9) (ndV (A.nd (j + 1))) := fun k v hv => by
  have hk : k < 8 := by have := (List.getElem?_eq_some_iff.1 hv).1; simpa [ndV] using this
  rw [h.cels.cellAt (j * 9 + k) (by omega), cels_at A hj (by omega)]
  unfold celV
  rw [List.getElem?_append_left (by simpa [ndV] using hk)]
  exact hv
end
end Go.Proofs.Ytkhfofpbmnapjaa
set_option linter.unusedVariables false
namespace Go.Proofs.Ytkhfofpbmnapjaa
open Go.RowKit
def Ar.putC (A : Ar) (i : Nat) (x : Int) : Ar := ⟨A.σ, A.nd, fun j => if j = i then x else A.cnt j⟩
theorem cels_putC (A : Ar) {j : Nat} (x : Int) (hj : j < A.σ.cap) : (celsV A).set (j * 9 + 8) (.int .i64 x) = celsV (A.putC (j + 1) x) := by
  refine cels_ext (A := A.putC (j + 1) x) (by rw [List.length_set, cels_len]; rfl) fun i k hi hk => ?_
  have hi' : i < A.σ.cap := hi
  rw [List.getElem?_set]
  by_cases e : j * 9 + 8 = i * 9 + k
  · have e1 : i = j := by omega
    have e2 : k = 8 := by omega
    subst e1 e2
    rw [if_pos rfl, if_pos (by rw [cels_len]; omega)]
    show _ = some (Value.int IntKind.i64 (if i + 1 = i + 1 then x else A.cnt (i + 1)))
    rw [if_pos rfl]
  · rw [if_neg e, cels_at A hi' hk]
    unfold celV
    by_cases e1 : i = j
    · subst e1
      have hk8 : k < 8 := by omega
      rw [List.getElem?_append_left (by simpa [ndV] using hk8), List.getElem?_append_left (by simpa [ndV] using hk8)]
      rfl
    · show _ = (ndV (A.nd (i + 1)) ++ [Value.int IntKind.i64 (if i + 1 = j + 1 then x else A.cnt (i + 1))])[k]?
      rw [if_neg (by omega)]
section
variable {I : Impl} {w w' : World} {ab : Nat} {sp : Addr} {A A' : Ar} {rd : Int} {ca : Option Addr} {cc g : Nat} {Fs Fs' : Nat → Prop}
theorem LieA.putC (h : LieA I w ab sp A rd (some ⟨g, 0, none⟩) cc Fs) {j : Nat} (hj : A.σ.on (j + 1) = true) (x : Int) (hx : 0 ≤ x ∧ x ≤ 9223372036854775807) :
    LieA I (w.setCell ⟨g, j * 9 + 8, none⟩ (.int .i64 x)) ab sp (A.putC (j + 1) x) rd (some ⟨g, 0, none⟩) cc Fs ∧ Alters (FootA ab (some ⟨g, 0, none⟩) Fs) (FootA ab (some ⟨g, 0, none⟩) Fs) w (w.setCell ⟨g, j * 9 + 8, none⟩ (.int .i64 x)) := by
  obtain ⟨h1, h2⟩ := h.raw.set (j * 9 + 8) (.int .i64 x)
  have hjc := h.ok.on _ hj
  refine ⟨h1.lie rfl (cels_putC A x (by omega)) (fun i hi => ?_) (fun i => ?_), h2⟩
  rotate_left
  · show 0 ≤ (if i = j + 1 then x else A.cnt i) ∧ (if i = j + 1 then x else A.cnt i) ≤ 9223372036854775807
    split
    · exact hx
    · exact h.fit i
  have hi' : A.σ.on i = false := hi
  have hne : i ≠ j + 1 := fun e => by subst e; rw [hj] at hi'; cases hi'
  show (if i = j + 1 then x else A.cnt i) = 0 ∧ _
  rw [if_neg hne]
  exact h.off i hi'
set_option maxHeartbeats 1000000 in
set_option maxRecDepth 100000 in
theorem a_cell_on (h : LieA I w ab sp A rd (some ⟨g, 0, none⟩) cc Fs) (j : Nat) (hj : A.σ.on (j + 1) = true) :
    Calls Try.prog 48 #[.pointer (some ⟨ab, 0, none⟩), .int .u32 ((j : Int) + 1)] w (Quiet w (.pointer (some ⟨g, j * 9, none⟩))) := by
  obtain ⟨c0, c1, c2⟩ := h.cells
  have hjc := h.ok.on _ hj
  have hcap := h.ok.cap2
  have hji : (j : Int) < (A.σ.cap : Int) := by omega
  have hj0 : (0 : Int) ≤ (j : Int) := by omega
  have hj4 : (j : Int) + 1 < 4294967296 := by omega
  have HA := Lib.hid (I.allocated _ _ _ (j + 1) _ h.slots (by omega))
  clear h hjc hcap
  go_enter Try.func48, Try.ntmps48
  go_wp2_with fail
  refine HA.out.mono ?_
  rintro e w1 ⟨rfl, q, rfl⟩
  rw [hj]
  have d1 : (w.drewN q).cell? ⟨ab, 1, none⟩ = some (.slice (some ⟨g, 0, none⟩) A.σ.cap cc) := c1
  generalize hW : w.drewN q = w1 at d1 ⊢
  have HW := Lib.hid hW
  clear hW c0 c1 c2 hj HA
  go_wp2_with fail
  go_ret
  exact ⟨rfl, q, HW.out.symm⟩
set_option maxHeartbeats 1000000 in
set_option maxRecDepth 100000 in
theorem a_cell_off (h : LieA I w ab sp A rd ca cc Fs) (i : Nat) (hi : i < 4294967296) (ho : A.σ.on i = false) :
    Calls Try.prog 48 #[.pointer (some ⟨ab, 0, none⟩), .int .u32 (i : Int)] w (Quiet w (.pointer none)) := by
  obtain ⟨c0, c1, c2⟩ := h.cells
  have HA := Lib.hid (I.allocated _ _ _ i _ h.slots hi)
  clear h
  go_enter Try.func48, Try.ntmps48
  go_wp2_with fail
  refine HA.out.mono ?_
  rintro e w1 ⟨rfl, q, rfl⟩
  rw [ho]
  clear HA c0 c1 c2 ho
  go_wp2_with fail
  go_ret
  exact ⟨rfl, q, rfl⟩
set_option maxHeartbeats 1000000 in
set_option maxRecDepth 100000 in
theorem a_isIndex (h : LieA I w ab sp A rd ca cc Fs) (i : Nat) (hi : i < 4294967296) :
    Calls Try.prog 57 #[.pointer (some ⟨ab, 0, none⟩), .int .u32 (i : Int)] w (Quiet w (.bool (decide (i = 0) || A.σ.on i))) := by
  obtain ⟨c0, c1, c2⟩ := h.cells
  by_cases h0 : i = 0
  · subst h0
    clear h
    rw [show (decide (0 = 0) || A.σ.on 0) = true by simp]
    go_enter Try.func57, Try.ntmps57
    go_wp2
    go_ret
    exact ⟨rfl, 0, rfl⟩
  · have hi0 : ((i : Int) == 0) = false := beq_eq_false_iff_ne.2 (by omega)
    have HA := Lib.hid (I.allocated _ _ _ i _ h.slots hi)
    rw [show (decide (i = 0) || A.σ.on i) = A.σ.on i by simp [h0]]
    clear h h0
    go_enter Try.func57, Try.ntmps57
    go_wp2_with fail
    refine HA.out.mono ?_
    rintro e w2 ⟨rfl, q, rfl⟩
    clear c0 c1 c2 HA
    go_wp2_with fail
    go_ret
    exact ⟨rfl, q, rfl⟩
set_option maxHeartbeats 1000000 in
set_option maxRecDepth 100000 in
theorem a_addRef_off (h : LieA I w ab sp A rd ca cc Fs) (i : Nat) (hi : i < 4294967296) (ho : A.σ.on i = false) :
    Calls Try.prog 45 #[.pointer (some ⟨ab, 0, none⟩), .int .u32 (i : Int)] w (fun e w' => (∃ v, e = .returned v) ∧ Below w.heap.size w w') := by
  have HA := Lib.hid (a_cell_off h i hi ho)
  clear h ho
  go_enter Try.func45, Try.ntmps45
  go_wp2_with fail
  refine HA.out.mono ?_
  rintro e w2 ⟨rfl, q, rfl⟩
  clear HA
  go_wp2_with fail
  go_end0
  exact ⟨⟨_, rfl⟩, below_drewN (Below.refl _ _) _⟩
set_option maxHeartbeats 1000000 in
set_option maxRecDepth 100000 in
theorem a_addRef (h : LieA I w ab sp A rd (some ⟨g, 0, none⟩) cc Fs) (j : Nat) (hj : A.σ.on (j + 1) = true) (hc : A.cnt (j + 1) < 4611686018427387904) :
    Calls Try.prog 45 #[.pointer (some ⟨ab, 0, none⟩), .int .u32 ((j : Int) + 1)] w (fun e w' => (∃ v, e = .returned v) ∧ LieA I w' ab sp (A.inc (j + 1)) rd (some ⟨g, 0, none⟩) cc Fs ∧ Alters (FootA ab (some ⟨g, 0, none⟩) Fs) (FootA ab (some ⟨g, 0, none⟩) Fs) w w') := by
  have HA := Lib.hid (a_cell_on h j hj)
  have HH := Lib.hid h
  have HJ := Lib.hid hj
  have hjc := h.ok.on _ hj
  have hc0 := (h.fit (j + 1)).1
  have hcap := h.ok.cap2
  have hj4 : (j : Int) + 1 < 4294967296 := by omega
  have hjl : j < A.σ.cap := by omega
  clear h hj hjc hcap
  go_enter Try.func45, Try.ntmps45
  go_wp2_with fail
  refine HA.out.mono ?_
  rintro e w2 ⟨rfl, q, rfl⟩
  have hb : Below w.heap.size w (w.drewN q) := below_drewN (Below.refl _ _) q
  have h2 := HH.out.below hb
  generalize w.drewN q = w2 at hb h2 ⊢
  have c8 := (h2.nine hjl).2.2.2.2.2.2.2.2
  have f8 := h2.cels.frozenAt (j * 9 + 8)
  obtain ⟨h3, h4⟩ := h2.putC HJ.out (A.cnt (j + 1) + 1) (by have := h2.fit (j + 1); omega)
  have H3 := Lib.hid h3
  have H4 := Lib.hid ((Alters.of_below hb).trans h4)
  clear HA h2 h3 h4 hb hjl
  generalize hC : A.cnt (j + 1) = C at c8 hc hc0 H3 H4
  have HC := Lib.hid hC
  clear hC
  go_wp2_with fail
  go_end0
  refine ⟨⟨_, rfl⟩, ?_, H4.out⟩
  have e : A.inc (j + 1) = A.putC (j + 1) (C + 1) := by unfold Ar.inc Ar.putC; rw [HC.out]
  rw [e]
  exact H3.out
set_option maxHeartbeats 1000000 in
set_option maxRecDepth 100000 in
theorem a_free (h : LieA I w ab sp A rd ca cc Fs) : Calls Try.prog 17 #[.pointer (some ⟨ab, 0, none⟩)] w (Quiet w (.int .i64 (A.σ.free.length : Int))) := by
  obtain ⟨c0, c1, c2⟩ := h.cells
  have HA := Lib.hid (I.freeN _ _ _ _ h.slots)
  clear h
  go_enter Try.func17, Try.ntmps17
  go_wp2_with fail
  refine HA.out.mono ?_
  rintro e w1 ⟨rfl, q, rfl⟩
  clear HA c0 c1 c2
  go_wp2_with fail
  go_ret
  exact ⟨rfl, q, rfl⟩
end
end Go.Proofs.Ytkhfofpbmnapjaa
set_option linter.unusedVariables false
namespace Go.Proofs.Ytkhfofpbmnapjaa
open Go.RowKit
def nodA (x : Nd) : Array Value := #[.int .i64 x.key, .int .i64 x.val, .int .u32 (x.left : Int), .int .u32 (x.right : Int), .int .i64 x.size, .int .i64 x.sum, .int .i64 x.mn, .int .i64 x.mx]
theorem nod_ones (x : Nd) : (nodA x).all (·.oneCell') = true := by simp [nodA, Value.oneCell']
theorem alt_row {F F' : Nat → Prop} {w w' : World} {p : Nat} {cs : Array Value} (h : Alters F F' w w') (hp : w.heap.size ≤ p) : Alters F F' w (w'.setRow p cs) :=
  ⟨h.os, h.tape, h.output, by have := h.size; simp [World.setRow]; omega, fun k hk hf => (setRow_other _ _ _ _ (by omega)).trans (h.block k hk hf), h.foot⟩
theorem below_row {w w' : World} {p : Nat} {cs : Array Value} (h : Below w.heap.size w w') (hp : w.heap.size ≤ p) : Below w.heap.size w (w'.setRow p cs) :=
  ⟨h.os, h.tape, h.output, by have := h.size; simp [World.setRow]; omega, fun k hk => (setRow_other _ _ _ _ (by omega)).trans (h.block k hk)⟩
theorem nodInfo : (Try.prog.info? 40).map (·.size) = some 8 := by kernel_rfl
theorem below_al (w : World) (o : Obj) : Below w.heap.size w (w.alloc o) := (Below.refl _ _).alloc (Nat.le_refl _) _
section
variable {I : Impl} {w w' : World} {ab : Nat} {sp : Addr} {A A' : Ar} {rd : Int} {ca : Option Addr} {cc g : Nat} {Fs Fs' : Nat → Prop}
theorem LieA.reads (h : LieA I w ab sp A rd (some ⟨g, 0, none⟩) cc Fs) (x : Int) : LieA I (w.setCell ⟨ab, 2, none⟩ (.int .u64 x)) ab sp A x (some ⟨g, 0, none⟩) cc Fs ∧ Alters (FootA ab (some ⟨g, 0, none⟩) Fs) (FootA ab (some ⟨g, 0, none⟩) Fs) w (w.setCell ⟨ab, 2, none⟩ (.int .u64 x)) := by
  obtain ⟨h1, h2⟩ := h.raw.reads x
  exact ⟨h1.lie rfl rfl h.off h.fit, h2⟩
def ANode (I : Impl) (w : World) (ab : Nat) (sp : Addr) (A : Ar) (rd : Int) (g cc : Nat) (Fs : Nat → Prop) (i : Nat) (e : Ending) (w' : World) : Prop :=
  e = .returned (.tuple #[.agg (nodA (A.nd i)), .bool (A.σ.on i)]) ∧ LieA I w' ab sp A (if A.σ.on i = true then rd + 1 else rd) (some ⟨g, 0, none⟩) cc Fs ∧ Alters (FootA ab (some ⟨g, 0, none⟩) Fs) (FootA ab (some ⟨g, 0, none⟩) Fs) w w'
set_option maxHeartbeats 2000000 in
set_option maxRecDepth 100000 in
theorem a_node (h : LieA I w ab sp A rd (some ⟨g, 0, none⟩) cc Fs) (i : Nat) (hi : i < 4294967296) (h0 : 0 ≤ rd) (h1 : rd < 4611686018427387904) :
    Calls Try.prog 28 #[.pointer (some ⟨ab, 0, none⟩), .int .u32 (i : Int)] w (ANode I w ab sp A rd g cc Fs i) := by
  have HU : Hid _ := Lib.hid Try.underlying40
  have HIN := Lib.hid nodInfo
  have hb1 := below_al w (Obj.cells (nodA Nd.zero) 40)
  have h2 := h.below hb1
  have HP := Lib.hid (heap_alloc_new w (Obj.cells (nodA Nd.zero) 40))
  have HB1 := Lib.hid hb1
  have HLQ : Hid (ab < w.heap.size) := h.lt
  have HGQ : Hid (g < w.heap.size) := h.raw.glt
  have HDOM : Hid (∀ k, FootA ab (some ⟨g, 0, none⟩) Fs k → k < w.heap.size) := h.dom
  have HOK := Lib.hid h.ok
  have HOFF := Lib.hid h.off
  have H2 := Lib.hid h2
  clear h hb1 h2
  go_enter Try.func28, Try.ntmps28
  go_upto_region 1 with fail
  rw [show #[Value.int .i64 0, .int .i64 0, .int .u32 0, .int .u32 0, .int .i64 0, .int .i64 0, .int .i64 0, .int .i64 0] = nodA Nd.zero from rfl]
  generalize w.alloc (Obj.cells (nodA Nd.zero) 40) = w1 at HP HB1 H2 ⊢
  obtain ⟨p, hp⟩ : ∃ p, w.heap.size = p := ⟨_, rfl⟩
  rw [hp] at HP HB1 HLQ HGQ HDOM ⊢
  have HPP := Lib.hid hp
  clear hp
  by_cases ho : A.σ.on i = true
  · have hle := HOK.out.on i ho
    obtain ⟨j, rfl⟩ : ∃ j, i = j + 1 := ⟨i - 1, by omega⟩
    have hj : j < A.σ.cap := by omega
    have HO := Lib.hid ho
    have HJ := Lib.hid hj
    clear ho hle hj hi
    go_wp2_with fail
    refine (a_cell_on H2.out j HO.out).mono ?_
    rintro e w2 ⟨rfl, q2, rfl⟩
    have hb2 : Below w1.heap.size w1 (w1.drewN q2) := below_drewN (Below.refl _ _) q2
    generalize w1.drewN q2 = w2 at hb2 ⊢
    have HP2 := Lib.hid ((hb2.block p (Array.getElem?_eq_some_iff.1 HP.out).1).trans HP.out)
    have H3 := Lib.hid (H2.out.below hb2)
    have HBB : Hid (Below w.heap.size w w2) := by
      have h9 := HB1.out
      rw [HPP.out]
      exact h9.trans (hb2.mono (by have := h9.size; rw [HPP.out] at this; exact this))
    clear hb2
    obtain ⟨c0, c1, c2⟩ := H3.out.cells
    have f2 := frozen_of_row w2 ab 2 _ _ H3.out.box
    go_upto_region 5 with fail
    obtain ⟨h4, ha4⟩ := H3.out.reads (rd + 1)
    have hP4 : (w2.setCell ⟨ab, 2, none⟩ (.int .u64 (rd + 1))).heap[p]? = some (Obj.cells (nodA Nd.zero) 40 (0, 0)) := (heap_setCell_other _ _ _ _ (show p ≠ ab by have := HLQ.out; omega)).trans HP2.out
    have HA4 := Lib.hid ((Alters.of_below HBB.out).trans ha4)
    have H4 := Lib.hid h4
    have HP4 := Lib.hid hP4
    clear h4 ha4 hP4 c0 c1 c2 f2
    generalize w2.setCell ⟨ab, 2, none⟩ (.int .u64 (rd + 1)) = w3 at H4 HA4 HP4 ⊢
    obtain ⟨g0, g1, g2, g3, g4, g5, g6, g7, _⟩ := H4.out.nine HJ.out
    go_wp2_with (refine wpList_store_row rfl 40 (.tmp 4) (.tmp 23) rfl p (nodA (A.nd (j + 1))) rfl rfl 40 _ HP4.out HIN.out rfl (nod_ones _) ?_)
    refine bodyPost_ret (results_row_tmp rfl _ _ p 40 (nodA (A.nd (j + 1))) (0, 0) _ rfl (setRow_heap _ _ _ _ _ _ HP4.out) HU.out rfl HIN.out) rfl ?_
    have hpp := HPP.out
    exact ⟨by rw [HO.out]; rfl, by rw [if_pos HO.out]; exact H4.out.keep fun k hk => setRow_other _ _ _ _ (by have := HDOM.out k hk; omega), alt_row HA4.out (by omega)⟩
  · have ho' : A.σ.on i = false := by simpa using ho
    have HZ := Lib.hid (HOFF.out i ho').2
    have HO := Lib.hid ho'
    clear ho ho'
    go_wp2_with fail
    refine (a_cell_off H2.out i hi HO.out).mono ?_
    rintro e w2 ⟨rfl, q2, rfl⟩
    have hb2 : Below w1.heap.size w1 (w1.drewN q2) := below_drewN (Below.refl _ _) q2
    generalize w1.drewN q2 = w2 at hb2 ⊢
    have HP2 := Lib.hid ((hb2.block p (Array.getElem?_eq_some_iff.1 HP.out).1).trans HP.out)
    have H3 := Lib.hid (H2.out.below hb2)
    have HBB : Hid (Below w.heap.size w w2) := by
      have h9 := HB1.out
      rw [HPP.out]
      exact h9.trans (hb2.mono (by have := h9.size; rw [HPP.out] at this; exact this))
    clear hb2
    go_wp2_with (refine wpList_store_row rfl 40 (.tmp 4) (.tmp 12) rfl p (nodA Nd.zero) rfl rfl 40 _ HP2.out HIN.out rfl (nod_ones _) ?_)
    refine bodyPost_ret (results_row_tmp rfl _ _ p 40 (nodA Nd.zero) (0, 0) _ rfl (setRow_heap _ _ _ _ _ _ HP2.out) HU.out rfl HIN.out) rfl ?_
    have hpp := HPP.out
    exact ⟨by rw [HO.out, HZ.out]; rfl, by rw [HO.out, if_neg (by simp)]; exact H3.out.keep fun k hk => setRow_other _ _ _ _ (by have := HDOM.out k hk; omega), alt_row (Alters.of_below HBB.out) (by omega)⟩
def ASize (I : Impl) (w : World) (ab : Nat) (sp : Addr) (A : Ar) (rd : Int) (g cc : Nat) (Fs : Nat → Prop) (i : Nat) (e : Ending) (w' : World) : Prop :=
  e = .returned (.int .i64 (A.nd i).size) ∧ LieA I w' ab sp A (if A.σ.on i = true then rd + 1 else rd) (some ⟨g, 0, none⟩) cc Fs ∧ Alters (FootA ab (some ⟨g, 0, none⟩) Fs) (FootA ab (some ⟨g, 0, none⟩) Fs) w w'
set_option maxHeartbeats 2000000 in
set_option maxRecDepth 100000 in
theorem a_child (h : LieA I w ab sp A rd (some ⟨g, 0, none⟩) cc Fs) (i : Nat) (hi : i < 4294967296) :
    Calls Try.prog 54 #[.pointer (some ⟨ab, 0, none⟩), .int .u32 (i : Int)] w (Calm w (.tuple #[.agg (nodA (A.nd i)), .bool (decide (i = 0) || A.σ.on i)])) := by
  have HU : Hid _ := Lib.hid Try.underlying40
  have HIN := Lib.hid nodInfo
  have hb1 := below_al w (Obj.cells (nodA Nd.zero) 40)
  have h2 := h.below hb1
  have HP := Lib.hid (heap_alloc_new w (Obj.cells (nodA Nd.zero) 40))
  have HB1 := Lib.hid hb1
  have HOK := Lib.hid h.ok
  have HOFF := Lib.hid h.off
  have H2 := Lib.hid h2
  clear h hb1 h2
  go_enter Try.func54, Try.ntmps54
  go_upto_region 1 with fail
  rw [show #[Value.int .i64 0, .int .i64 0, .int .u32 0, .int .u32 0, .int .i64 0, .int .i64 0, .int .i64 0, .int .i64 0] = nodA Nd.zero from rfl]
  generalize w.alloc (Obj.cells (nodA Nd.zero) 40) = w1 at HP HB1 H2 ⊢
  obtain ⟨p, hp⟩ : ∃ p, w.heap.size = p := ⟨_, rfl⟩
  rw [hp] at HP HB1 ⊢
  have HPP := Lib.hid hp
  clear hp
  by_cases ho : A.σ.on i = true
  · have hle := HOK.out.on i ho
    obtain ⟨j, rfl⟩ : ∃ j, i = j + 1 := ⟨i - 1, by omega⟩
    have hj : j < A.σ.cap := by omega
    have HO := Lib.hid ho
    have HJ := Lib.hid hj
    clear ho hle hj hi
    go_wp2_with fail
    refine (a_cell_on H2.out j HO.out).mono ?_
    rintro e w2 ⟨rfl, q2, rfl⟩
    have hb2 : Below w1.heap.size w1 (w1.drewN q2) := below_drewN (Below.refl _ _) q2
    generalize w1.drewN q2 = w2 at hb2 ⊢
    have HP2 := Lib.hid ((hb2.block p (Array.getElem?_eq_some_iff.1 HP.out).1).trans HP.out)
    have H3 := Lib.hid (H2.out.below hb2)
    have HBB : Hid (Below w.heap.size w w2) := by
      have h9 := HB1.out
      rw [HPP.out]
      exact h9.trans (hb2.mono (by have := h9.size; rw [HPP.out] at this; exact this))
    clear hb2
    obtain ⟨g0, g1, g2, g3, g4, g5, g6, g7, _⟩ := H3.out.nine HJ.out
    go_wp2_with (refine wpList_store_row rfl 40 (.tmp 4) (.tmp 15) rfl p (nodA (A.nd (j + 1))) rfl rfl 40 _ HP2.out HIN.out rfl (nod_ones _) ?_)
    refine bodyPost_ret (results_row_tmp rfl _ _ p 40 (nodA (A.nd (j + 1))) (0, 0) _ rfl (setRow_heap _ _ _ _ _ _ HP2.out) HU.out rfl HIN.out) rfl ?_
    have hpp := HPP.out
    exact ⟨by rw [HO.out]; simp, below_row HBB.out (by omega)⟩
  · have ho' : A.σ.on i = false := by simpa using ho
    have HZ := Lib.hid (HOFF.out i ho').2
    have HO := Lib.hid ho'
    clear ho ho'
    go_wp2_with fail
    refine (a_cell_off H2.out i hi HO.out).mono ?_
    rintro e w2 ⟨rfl, q2, rfl⟩
    have hb2 : Below w1.heap.size w1 (w1.drewN q2) := below_drewN (Below.refl _ _) q2
    generalize w1.drewN q2 = w2 at hb2 ⊢
    have HP2 := Lib.hid ((hb2.block p (Array.getElem?_eq_some_iff.1 HP.out).1).trans HP.out)
    have HBB : Hid (Below w.heap.size w w2) := by
      have h9 := HB1.out
      rw [HPP.out]
      exact h9.trans (hb2.mono (by have := h9.size; rw [HPP.out] at this; exact this))
    clear hb2
    have hdec : ((i : Int) == 0) = decide (i = 0) := by
      by_cases e : i = 0
      · subst e; rfl
      · rw [decide_eq_false e]; exact beq_eq_false_iff_ne.2 (by omega)
    obtain ⟨dz, hdz⟩ : ∃ dz, decide (i = 0) = dz := ⟨_, rfl⟩
    rw [hdz] at hdec
    have HDZ := Lib.hid hdz
    clear hdz
    go_wp2_with (refine wpList_store_row rfl 40 (.tmp 4) (.tmp 16) rfl p (nodA Nd.zero) rfl rfl 40 _ HP2.out HIN.out rfl (nod_ones _) ?_)
    refine bodyPost_ret (results_row_tmp rfl _ _ p 40 (nodA Nd.zero) (0, 0) _ rfl (setRow_heap _ _ _ _ _ _ HP2.out) HU.out rfl HIN.out) rfl ?_
    have hpp := HPP.out
    exact ⟨by rw [HO.out, HZ.out, HDZ.out]; simp, below_row HBB.out (by omega)⟩
end
end Go.Proofs.Ytkhfofpbmnapjaa
set_option linter.unusedVariables false
namespace Go.Proofs.Ytkhfofpbmnapjaa
open Go.RowKit
def Nd.add (x c : Nd) : Nd := if c.size = 0 then x else ⟨x.key, x.val, x.left, x.right, x.size + c.size, IntKind.i64.wrap (x.sum + c.sum), min x.mn c.mn, max x.mx c.mx⟩
theorem row8n {w : World} {g : Nat} {t : TypeId} {c0 c1 c2 c3 c4 c5 c6 c7 : Value} (h : w.heap[g]? = some (.cells #[c0, c1, c2, c3, c4, c5, c6, c7] t (0, 0))) :
    w.cell? ⟨g, 0, none⟩ = some c0 ∧ w.cell? ⟨g, 1, none⟩ = some c1 ∧ w.cell? ⟨g, 2, none⟩ = some c2 ∧ w.cell? ⟨g, 3, none⟩ = some c3 ∧ w.cell? ⟨g, 4, none⟩ = some c4 ∧ w.cell? ⟨g, 5, none⟩ = some c5 ∧ w.cell? ⟨g, 6, none⟩ = some c6 ∧ w.cell? ⟨g, 7, none⟩ = some c7 := by
  refine ⟨?_, ?_, ?_, ?_, ?_, ?_, ?_, ?_⟩ <;> (rw [cell_of_row _ _ _ _ _ _ h]; rfl)
theorem min_run (a b : Int) (w : World) (ts : Array TypeId) (t : TypeId) : (Builtin.min_ ts t #[.int .i64 a, .int .i64 b]).run Try.prog w = .ok (.int .i64 (min a b)) w := by
  have h : (if b < a then b else a) = min a b := by rw [Int.min_def]; split <;> split <;> omega
  rw [← h]
  simp [Builtin.min_, Builtin.min2]
theorem max_run (a b : Int) (w : World) (ts : Array TypeId) (t : TypeId) : (Builtin.max_ ts t #[.int .i64 a, .int .i64 b]).run Try.prog w = .ok (.int .i64 (max a b)) w := by
  have h : (if a < b then b else a) = max a b := by rw [Int.max_def]; split <;> split <;> omega
  rw [← h]
  simp [Builtin.max_, Builtin.max2]
def AddRes (w : World) (b : Nat) (x : Nd) (e : Ending) (w' : World) : Prop :=
  (∃ v, e = .returned v) ∧ w'.heap[b]? = some (.cells (nodA x) 40 (0, 0)) ∧ Alters (fun k => k = b) (fun k => k = b) w w'
theorem row_set1 {w : World} {b : Nat} {cs : Array Value} {t : TypeId} (h : w.heap[b]? = some (.cells cs t (0, 0))) (j : Nat) (v : Value) : (w.setCell ⟨b, j, none⟩ v).heap[b]? = some (.cells (cs.setIfInBounds j v) t (0, 0)) :=
  heap_setCell_same _ _ _ _ _ _ h
theorem alt_set1 {F F' : Nat → Prop} {w w' : World} {a : Addr} {v : Value} (h : Alters F F' w w') (hF : F' a.block) : Alters F F' w (w'.setCell a v) := h.trans (alters_set hF)
theorem alt_drew4 {F F' : Nat → Prop} {w w' : World} (h : Alters F F' w w') : Alters F F' w w'.drew.drew.drew.drew := ⟨h.os, h.tape, h.output, h.size, h.block, h.foot⟩
set_option maxHeartbeats 2000000 in
set_option maxRecDepth 100000 in
theorem a_addAgg (w : World) (b : Nat) (x c : Nd) (hb : w.heap[b]? = some (.cells (nodA x) 40 (0, 0))) (h1 : 0 ≤ x.size) (h2 : x.size ≤ 2147483647) (h3 : 0 ≤ c.size) (h4 : c.size ≤ 2147483647) :
    Calls Try.prog 55 #[.pointer (some ⟨b, 0, none⟩), .agg (nodA c)] w (AddRes w b (x.add c)) := by
  have hlt := (Array.getElem?_eq_some_iff.1 hb).1
  have hal := below_al w (Obj.cells (nodA c) 40)
  have hq := heap_alloc_new w (Obj.cells (nodA c) 40)
  have hb1 := (hal.block b hlt).trans hb
  have HA1 : Hid (Alters (fun k => k = b) (fun k => k = b) w (w.alloc (Obj.cells (nodA c) 40))) := .of_below hal
  clear hb hal
  go_enter Try.func55, Try.ntmps55
  unfold nodA
  go_upto_region 1 with fail
  rw [show #[Value.int .i64 c.key, .int .i64 c.val, .int .u32 (c.left : Int), .int .u32 (c.right : Int), .int .i64 c.size, .int .i64 c.sum, .int .i64 c.mn, .int .i64 c.mx] = nodA c from rfl]
  generalize w.alloc (Obj.cells (nodA c) 40) = w1 at hq hb1 HA1 ⊢
  obtain ⟨q, hqq⟩ : ∃ q, w.heap.size = q := ⟨_, rfl⟩
  rw [hqq] at hq hlt ⊢
  have HQQ := Lib.hid hqq
  have n1 : ¬ b = q := by omega
  have n2 : ¬ q = b := by omega
  clear hlt hqq
  have HQ := Lib.hid hq
  have HB := Lib.hid hb1
  unfold nodA at hq hb1
  obtain ⟨q0, q1, q2, q3, q4, q5, q6, q7⟩ := row8n hq
  obtain ⟨b0, b1, b2, b3, b4, b5, b6, b7⟩ := row8n hb1
  have f4 := frozen_of_row w1 b 4 _ _ hb1
  have f5 := frozen_of_row w1 b 5 _ _ hb1
  have f6 := frozen_of_row w1 b 6 _ _ hb1
  have f7 := frozen_of_row w1 b 7 _ _ hb1
  clear hq hb1
  by_cases hz : c.size = 0
  · have HZ := Lib.hid hz
    have hz2 : (c.size == 0) = true := by rw [hz]; rfl
    clear hz
    go_wp2_with fail
    refine bodyPost_ret (results_none rfl _ _ _) rfl ?_
    exact ⟨⟨_, rfl⟩, by unfold Nd.add; rw [if_pos HZ.out]; exact HB.out, HA1.out⟩
  · have HZ := Lib.hid hz
    have hz2 : (c.size == 0) = false := by simpa using hz
    clear hz
    go_upto_region 2 with fail
    go_region
    go_upto_region 3 with fail
    go_region
    have hmin := min_run x.mn c.mn
    have hmax := max_run x.mx c.mx
    go_upto_region 4 with fail
    go_region
    go_upto_region 5 with fail
    go_region
    go_wp2_with fail
    go_end0
    have e : ∀ W : World, W.drew.drew.drew.drew.heap[b]? = W.heap[b]? := fun _ => rfl
    refine ⟨⟨_, rfl⟩, ?_, alt_drew4 (alt_set1 (alt_set1 (alt_set1 (alt_set1 HA1.out rfl) rfl) rfl) rfl)⟩
    rw [e, row_set1 (row_set1 (row_set1 (row_set1 HB.out 4 _) 5 _) 6 _) 7 _]
    unfold Nd.add
    rw [if_neg HZ.out, show IntKind.i64.wrap (x.sum + c.sum) = wrap64 (x.sum + c.sum) from IntWalk.i64_left _]
    rfl
end Go.Proofs.Ytkhfofpbmnapjaa
