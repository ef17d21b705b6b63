/- The program's arena: what lies in memory. -/
import Derived.Test.YtnmookemeibioaaArenaCon
import Derived.Test.YtnmookemeibioaaSlotsOk5
import Derived.Deep.MidRow
set_option linter.unusedVariables false
namespace Go.Proofs.Ytnmookemeibioaa
open Go.RowKit

/-- the cells of slot i -/
def celV (A : Ar) (i : Nat) : List Value := ndV (A.nd i) ++ [.int .i64 (A.cnt i)]
def celsV (A : Ar) : List Value := (List.range' 1 A.σ.cap).flatMap (celV A)
theorem celflat {α : Type} {f : α → List Value} {m : Nat} (hm : ∀ x, (f x).length = m) : ∀ (l : List α) (i j : Nat) (x : α), l[i]? = some x → j < m → (l.flatMap f)[i * m + j]? = (f x)[j]?
  | [], i, j, x, h, hj => by simp at h
  | a :: t, 0, j, x, h, hj => by
    simp at h
    subst h
    rw [List.flatMap_cons, Nat.zero_mul, Nat.zero_add, List.getElem?_append_left (by rw [hm]; exact hj)]
  | a :: t, i + 1, j, x, h, hj => by
    simp at h
    rw [List.flatMap_cons, List.getElem?_append_right (by rw [hm, Nat.succ_mul]; omega), hm, show (i + 1) * m + j - m = i * m + j by rw [Nat.succ_mul]; omega]
    exact celflat hm t i j x h hj
theorem cel_len (A : Ar) (i : Nat) : (celV A i).length = 9 := by simp [celV, ndV]
theorem cels_len (A : Ar) : (celsV A).length = A.σ.cap * 9 := by
  unfold celsV
  have key : ∀ l : List Nat, (l.flatMap (celV A)).length = l.length * 9 := fun l => by
    induction l with
    | nil => rfl
    | cons a t ih => rw [List.flatMap_cons, List.length_append, ih, cel_len]; simp; omega
  rw [key, List.length_range']
theorem cels_at (A : Ar) {i j : Nat} (hi : i < A.σ.cap) (hj : j < 9) : (celsV A)[i * 9 + j]? = (celV A (i + 1))[j]? :=
  celflat (f := celV A) (m := 9) (cel_len A) (List.range' 1 A.σ.cap) i j (i + 1) (by rw [List.getElem?_range' hi]; simp; omega) hj
/-- two rows of cells that agree cell by cell -/
theorem cels_ext {A : Ar} {l : List Value} (hl : l.length = A.σ.cap * 9) (h : ∀ i j, i < A.σ.cap → j < 9 → l[i * 9 + j]? = (celV A (i + 1))[j]?) : l = celsV A := by
  apply List.ext_getElem?
  intro k
  by_cases hk : k < A.σ.cap * 9
  · have h1 := h (k / 9) (k % 9) (by omega) (by omega)
    have h2 := cels_at A (i := k / 9) (j := k % 9) (by omega) (by omega)
    rw [show k / 9 * 9 + k % 9 = k by omega] at h1 h2
    rw [h1, h2]
  · rw [List.getElem?_eq_none (by omega), List.getElem?_eq_none (by rw [cels_len]; omega)]
theorem row_head9 {w : World} {B n c : Nat} {e : TypeId} {a : Option Addr} {s : Nat} {xs : List Value} (h : w.ownsRow B e s (.slice a n c) n xs) (h0 : 0 < n) : ∃ g, a = some ⟨g, 0, none⟩ := by
  rcases h.2 with ⟨_, hn⟩ | ⟨g, cap, cur, hv, _⟩
  · omega
  · simp only [Value.slice.injEq] at hv
    exact ⟨g, hv.1⟩
/-- cells stored one behind the other -/
def patch : List Value → Nat → List Value → List Value
  | xs, _, [] => xs
  | xs, o, v :: t => patch (xs.set o v) (o + 1) t
theorem patch_len : ∀ (vs xs : List Value) (o : Nat), (patch xs o vs).length = xs.length
  | [], xs, o => rfl
  | v :: t, xs, o => by rw [patch, patch_len t, List.length_set]
theorem patch_at : ∀ (vs xs : List Value) (o k : Nat), (patch xs o vs)[k]? = if o ≤ k ∧ k < o + vs.length ∧ k < xs.length then vs[k - o]? else xs[k]?
  | [], xs, o, k => by rw [patch, if_neg (by simp; omega)]
  | v :: t, xs, o, k => by
    rw [patch, patch_at t, List.length_set]
    by_cases h1 : o + 1 ≤ k ∧ k < o + 1 + t.length ∧ k < xs.length
    · rw [if_pos h1, if_pos (by simp only [List.length_cons]; omega), show k - o = (k - (o + 1)) + 1 by omega, List.getElem?_cons_succ]
    · rw [if_neg h1, List.getElem?_set]
      by_cases h2 : o = k
      · subst h2
        rw [if_pos rfl]
        by_cases h3 : o < xs.length
        · rw [if_pos h3, if_pos (by simp only [List.length_cons]; omega)]; simp
        · rw [if_neg h3, if_neg (by omega), List.getElem?_eq_none (by omega)]
      · rw [if_neg h2, if_neg (by simp only [List.length_cons]; omega)]
theorem row_patch {B n c g s : Nat} {e : TypeId} : ∀ (vs : List Value) (w : World) (o : Nat) (xs : List Value), w.ownsRow B e s (.slice (some ⟨g, 0, none⟩) n c) n xs → (w.setCells g o vs).ownsRow B e s (.slice (some ⟨g, 0, none⟩) n c) n (patch xs o vs)
  | [], w, o, xs, h => h
  | v :: t, w, o, xs, h => row_patch t _ (o + 1) _ (h.stored o v).1
/-- every count is one -/
def Ar.Fit (A : Ar) : Prop := ∀ i, 0 ≤ A.cnt i ∧ A.cnt i ≤ 9223372036854775807
structure LieA (I : Impl) (w : World) (ab : Nat) (sp : Addr) (A : Ar) (rd : Int) (ca : Option Addr) (cc : Nat) (Fs : Nat → Prop) : Prop where
  slots : I.Is w (.pointer (some sp)) A.σ Fs
  box : w.heap[ab]? = some (.cells #[.pointer (some sp), .slice ca A.σ.cap cc, .int .u64 rd] 79 (0, 0))
  cels : w.ownsRow 0 85 9 (.slice ca A.σ.cap cc) A.σ.cap (celsV A)
  off : ∀ i, A.σ.on i = false → A.cnt i = 0 ∧ A.nd i = Nd.zero
  fit : A.Fit
  abF : ¬ Fs ab
  caF : ∀ k, (Value.slice ca A.σ.cap cc).ownBlock = some k → ¬ Fs k ∧ k ≠ ab
def FootA (ab : Nat) (ca : Option Addr) (Fs : Nat → Prop) (k : Nat) : Prop := k = ab ∨ (∃ x, ca = some x ∧ x.block = k) ∨ Fs k
section
variable {I : Impl} {w w' : World} {ab : Nat} {sp : Addr} {A A' : Ar} {rd : Int} {ca : Option Addr} {cc g : Nat} {Fs Fs' : Nat → Prop}
theorem LieA.ok (h : LieA I w ab sp A rd ca cc Fs) : A.σ.Ok := I.ok h.slots
theorem LieA.lt (h : LieA I w ab sp A rd ca cc Fs) : ab < w.heap.size := (Array.getElem?_eq_some_iff.1 h.box).1
theorem LieA.head (h : LieA I w ab sp A rd ca cc Fs) : ∃ g, ca = some ⟨g, 0, none⟩ := row_head9 h.cels h.ok.cap1
theorem LieA.below (h : LieA I w ab sp A rd ca cc Fs) (hb : Below w.heap.size w w') : LieA I w' ab sp A rd ca cc Fs :=
  ⟨I.below h.slots hb, (hb.block ab h.lt).trans h.box, row_below h.cels hb, h.off, h.fit, h.abF, h.caF⟩
theorem LieA.cells (h : LieA I w ab sp A rd ca cc Fs) : w.cell? ⟨ab, 0, none⟩ = some (.pointer (some sp)) ∧ w.cell? ⟨ab, 1, none⟩ = some (.slice ca A.σ.cap cc) ∧ w.cell? ⟨ab, 2, none⟩ = some (.int .u64 rd) := by
  refine ⟨?_, ?_, ?_⟩ <;> (rw [cell_of_row _ _ _ _ _ _ h.box]; rfl)
theorem LieA.dom (h : LieA I w ab sp A rd ca cc Fs) : ∀ k, FootA ab ca Fs k → k < w.heap.size := by
  intro k hk
  rcases hk with rfl | ⟨x, rfl, rfl⟩ | hk
  · exact h.lt
  · exact (row_lt h.cels _ rfl).2
  · exact I.dom h.slots k hk
theorem LieA.keep (h : LieA I w ab sp A rd ca cc Fs) (hk : ∀ k, FootA ab ca Fs k → w'.heap[k]? = w.heap[k]?) : LieA I w' ab sp A rd ca cc Fs :=
  ⟨I.keep h.slots fun k e => hk k (.inr (.inr e)), (hk ab (.inl rfl)).trans h.box, row_keep h.cels fun k e => hk k (.inr (.inl (foot_own e))), h.off, h.fit, h.abF, h.caF⟩
/-- what lies in memory while slot numbers and cells do not yet agree: the allocator's state, the row's cells, each for itself -/
structure RawA (I : Impl) (w : World) (ab : Nat) (sp : Addr) (σ : St) (xs : List Value) (rd : Int) (g : Nat) (cc : Nat) (Fs : Nat → Prop) : Prop where
  slots : I.Is w (.pointer (some sp)) σ Fs
  box : w.heap[ab]? = some (.cells #[.pointer (some sp), .slice (some ⟨g, 0, none⟩) σ.cap cc, .int .u64 rd] 79 (0, 0))
  cels : w.ownsRow 0 85 9 (.slice (some ⟨g, 0, none⟩) σ.cap cc) σ.cap xs
  abF : ¬ Fs ab
  caF : ¬ Fs g ∧ g ≠ ab
theorem LieA.raw (h : LieA I w ab sp A rd (some ⟨g, 0, none⟩) cc Fs) : RawA I w ab sp A.σ (celsV A) rd g cc Fs := ⟨h.slots, h.box, h.cels, h.abF, h.caF g rfl⟩
theorem RawA.lie {σ : St} {xs : List Value} (h : RawA I w ab sp σ xs rd g cc Fs) (hσ : A.σ = σ) (hx : xs = celsV A) (off : ∀ i, A.σ.on i = false → A.cnt i = 0 ∧ A.nd i = Nd.zero) (fit : A.Fit) : LieA I w ab sp A rd (some ⟨g, 0, none⟩) cc Fs := by
  subst hσ hx
  exact ⟨h.slots, h.box, h.cels, off, fit, h.abF, fun k hk => by simp [Value.ownBlock] at hk; subst hk; exact h.caF⟩
section
variable {σ σ' : St} {xs : List Value}
theorem RawA.lt (h : RawA I w ab sp σ xs rd g cc Fs) : ab < w.heap.size := (Array.getElem?_eq_some_iff.1 h.box).1
theorem RawA.glt (h : RawA I w ab sp σ xs rd g cc Fs) : g < w.heap.size := (row_lt h.cels g rfl).2
theorem RawA.below (h : RawA I w ab sp σ xs rd g cc Fs) (hb : Below w.heap.size w w') : RawA I w' ab sp σ xs rd g cc Fs :=
  ⟨I.below h.slots hb, (hb.block ab h.lt).trans h.box, row_below h.cels hb, h.abF, h.caF⟩
theorem RawA.cells (h : RawA I w ab sp σ xs rd g cc Fs) : w.cell? ⟨ab, 0, none⟩ = some (.pointer (some sp)) ∧ w.cell? ⟨ab, 1, none⟩ = some (.slice (some ⟨g, 0, none⟩) σ.cap cc) ∧ w.cell? ⟨ab, 2, none⟩ = some (.int .u64 rd) := by
  refine ⟨?_, ?_, ?_⟩ <;> (rw [cell_of_row _ _ _ _ _ _ h.box]; rfl)
/-- the allocator took a step -/
theorem RawA.step (h : RawA I w ab sp σ xs rd g cc Fs) (ha : Alters Fs Fs' w w') (hs : I.Is w' (.pointer (some sp)) σ' Fs') (hc : σ'.cap = σ.cap) : RawA I w' ab sp σ' xs rd g cc Fs' ∧ Alters (FootA ab (some ⟨g, 0, none⟩) Fs) (FootA ab (some ⟨g, 0, none⟩) Fs') w w' := by
  have hn : ∀ k, k < w.heap.size → ¬ Fs k → ¬ Fs' k := fun k hk hf hf' => by
    rcases ha.foot k hf' with h1 | h1
    · exact hf h1
    · omega
  refine ⟨⟨hs, by rw [hc]; exact (ha.block ab h.lt h.abF).trans h.box, by rw [hc]; exact row_keep h.cels fun k e => ha.block k (row_lt h.cels k e).2 (by simp [Value.ownBlock] at e; subst e; exact h.caF.1), hn ab h.lt h.abF, hn g h.glt h.caF.1, h.caF.2⟩, ⟨ha.os, ha.tape, ha.output, ha.size, fun k hk hf => ha.block k hk fun e => hf (.inr (.inr e)), fun k hk => ?_⟩⟩
  · rcases hk with rfl | hk | hk
    · exact .inl (.inl rfl)
    · exact .inl (.inr (.inl hk))
    · rcases ha.foot k hk with h1 | h1
      · exact .inl (.inr (.inr h1))
      · exact .inr h1
/-- a cell of the row is written -/
theorem RawA.set (h : RawA I w ab sp σ xs rd g cc Fs) (j : Nat) (v : Value) : RawA I (w.setCell ⟨g, j, none⟩ v) ab sp σ (xs.set j v) rd g cc Fs ∧ Alters (FootA ab (some ⟨g, 0, none⟩) Fs) (FootA ab (some ⟨g, 0, none⟩) Fs) w (w.setCell ⟨g, j, none⟩ v) := by
  refine ⟨⟨I.keep h.slots fun k e => heap_setCell_other _ _ _ _ fun e2 => h.caF.1 (by have e3 : k = g := e2; rw [e3] at e; exact e), (heap_setCell_other _ _ _ _ (fun e2 => h.caF.2 e2.symm)).trans h.box, (h.cels.stored j v).1, h.abF, h.caF⟩, alters_set (.inr (.inl ⟨_, rfl, rfl⟩))⟩
/-- cells of the row are written -/
theorem RawA.sets : ∀ (vs : List Value) {w : World} {xs : List Value} (o : Nat), RawA I w ab sp σ xs rd g cc Fs → RawA I (w.setCells g o vs) ab sp σ (patch xs o vs) rd g cc Fs ∧ Alters (FootA ab (some ⟨g, 0, none⟩) Fs) (FootA ab (some ⟨g, 0, none⟩) Fs) w (w.setCells g o vs)
  | [], w, xs, o, h => ⟨h, Alters.refl _ _⟩
  | v :: t, w, xs, o, h => by
    obtain ⟨h1, h2⟩ := h.set o v
    obtain ⟨h3, h4⟩ := RawA.sets t (o + 1) h1
    exact ⟨h3, h2.trans h4⟩
/-- the reads are written -/
theorem RawA.reads (h : RawA I w ab sp σ xs rd g cc Fs) (x : Int) : RawA I (w.setCell ⟨ab, 2, none⟩ (.int .u64 x)) ab sp σ xs x g cc Fs ∧ Alters (FootA ab (some ⟨g, 0, none⟩) Fs) (FootA ab (some ⟨g, 0, none⟩) Fs) w (w.setCell ⟨ab, 2, none⟩ (.int .u64 x)) := by
  refine ⟨⟨I.keep h.slots fun k e => heap_setCell_other _ _ _ _ fun e2 => h.abF (by have e3 : k = ab := e2; rw [e3] at e; exact e), ?_, row_keep h.cels fun k e => heap_setCell_other _ _ _ _ fun e2 => ?_, h.abF, h.caF⟩, alters_set (.inl rfl)⟩
  · rw [heap_setCell_same _ _ _ _ _ _ h.box]; rfl
  · simp [Value.ownBlock] at e
    have e3 : k = ab := e2
    exact h.caF.2 (by omega)
end
/-- the nine cells of slot j + 1 -/
theorem LieA.nine (h : LieA I w ab sp A rd (some ⟨g, 0, none⟩) cc Fs) {j : Nat} (hj : j < A.σ.cap) :
    w.cell? ⟨g, j * 9, none⟩ = some (.int .i64 (A.nd (j + 1)).key) ∧ w.cell? ⟨g, j * 9 + 1, none⟩ = some (.int .i64 (A.nd (j + 1)).val) ∧ w.cell? ⟨g, j * 9 + 2, none⟩ = some (.int .u32 ((A.nd (j + 1)).left : Int)) ∧ w.cell? ⟨g, j * 9 + 3, none⟩ = some (.int .u32 ((A.nd (j + 1)).right : Int)) ∧
    w.cell? ⟨g, j * 9 + 4, none⟩ = some (.int .i64 (A.nd (j + 1)).size) ∧ w.cell? ⟨g, j * 9 + 5, none⟩ = some (.int .i64 (A.nd (j + 1)).sum) ∧ w.cell? ⟨g, j * 9 + 6, none⟩ = some (.int .i64 (A.nd (j + 1)).mn) ∧ w.cell? ⟨g, j * 9 + 7, none⟩ = some (.int .i64 (A.nd (j + 1)).mx) ∧ w.cell? ⟨g, j * 9 + 8, none⟩ = some (.int .i64 (A.cnt (j + 1))) := by
  have key : ∀ k v, k < 9 → (celV A (j + 1))[k]? = some v → w.cell? ⟨g, j * 9 + k, none⟩ = some v := fun k v hk hv => by
    rw [h.cels.cellAt (j * 9 + k) (by omega), cels_at A hj hk]; exact hv
  exact ⟨key 0 _ (by decide) rfl, key 1 _ (by decide) rfl, key 2 _ (by decide) rfl, key 3 _ (by decide) rfl, key 4 _ (by decide) rfl, key 5 _ (by decide) rfl, key 6 _ (by decide) rfl, key 7 _ (by decide) rfl, key 8 _ (by decide) rfl⟩
theorem LieA.there (h : LieA I w ab sp A rd (some ⟨g, 0, none⟩) cc Fs) {j o n : Nat} (hj : j < A.σ.cap) (hn : o + n ≤ 9) : w.there g (j * 9 + o) n := fun k hk => by
  refine ⟨?_, h.cels.frozenAt _⟩
  rw [h.cels.cellAt (j * 9 + o + k) (by omega), show j * 9 + o + k = j * 9 + (o + k) by omega, cels_at A hj (by omega), List.getElem?_eq_getElem (by rw [cel_len]; omega)]
  rfl
theorem LieA.range (h : LieA I w ab sp A rd (some ⟨g, 0, none⟩) cc Fs) {j : Nat} (hj : j < A.σ.cap) : w.rangeAt g (j * 9) (ndV (A.nd (j + 1))) := fun k v hv => by
  have hk : k < 8 := by have := (List.getElem?_eq_some_iff.1 hv).1; simpa [ndV] using this
  rw [h.cels.cellAt (j * 9 + k) (by omega), cels_at A hj (by omega)]
  unfold celV
  rw [List.getElem?_append_left (by simpa [ndV] using hk)]
  exact hv
end
end Go.Proofs.Ytnmookemeibioaa
