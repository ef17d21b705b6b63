/- Of the proof of SJoinUndoesSplitP: ArOk3, PlayPure, ArOk6, DumpB, DumpR, DumpE. -/
import Derived.Test.YtehaffcjoafkcaaSJoinUndoesSplitP1
import Derived.Deep.MidRow
import Derived.Deep.CutRange
import Derived.Deep.LoopGhost
import Derived.Deep.DeepCutAuto
import Derived.Deep.RegionHeld3
import Derived.Deep.QuietTactic
import Derived.BigQuiet
import Derived.BigGuardPart
set_option linter.unusedVariables false
namespace Go.Proofs.Ytehaffcjoafkcaa
open Go.RowKit
/-- the cells of slot i -/
def celV (A : Ar) (i : Nat) : List Value := ndV (A.nd i) ++ [.int .i64 (A.cnt i)]
def celsV (A : Ar) : List Value := (List.range' 1 A.σ.cap).flatMap (celV A)
theorem celflat {α : Type} {f : α → List Value} {m : Nat} (hm : ∀ x, (f x).length = m) : ∀ (l : List α) (i j : Nat) (x : α), l[i]? = some x → j < m → (l.flatMap f)[i * m + j]? = (f x)[j]?
  | [], i, j, x, h, hj => by simp at h
  | a :: t, 0, j, x, h, hj => by
    simp at h
    subst h
    rw [List.flatMap_cons, Nat.zero_mul, Nat.zero_add, List.getElem?_append_left (by rw [hm]; exact hj)]
  | a :: t, i + 1, j, x, h, hj => by
    simp at h
    rw [List.flatMap_cons, List.getElem?_append_right (by rw [hm, Nat.succ_mul]; omega), hm, show (i + 1) * m + j - m = i * m + j by rw [Nat.succ_mul]; omega]
    exact celflat hm t i j x h hj
theorem cel_len (A : Ar) (i : Nat) : (celV A i).length = 9 := by simp [celV, ndV]
theorem cels_len (A : Ar) : (celsV A).length = A.σ.cap * 9 := by
  unfold celsV
  have key : ∀ l : List Nat, (l.flatMap (celV A)).length = l.length * 9 := fun l => by
    induction l with
    | nil => rfl
    | cons a t ih => rw [List.flatMap_cons, List.length_append, ih, cel_len]; simp; omega
  rw [key, List.length_range']
theorem cels_at (A : Ar) {i j : Nat} (hi : i < A.σ.cap) (hj : j < 9) : (celsV A)[i * 9 + j]? = (celV A (i + 1))[j]? :=
  celflat (f := celV A) (m := 9) (cel_len A) (List.range' 1 A.σ.cap) i j (i + 1) (by rw [List.getElem?_range' hi]; simp; omega) hj
/-- two rows of cells that agree cell by cell -/
theorem cels_ext {A : Ar} {l : List Value} (hl : l.length = A.σ.cap * 9) (h : ∀ i j, i < A.σ.cap → j < 9 → l[i * 9 + j]? = (celV A (i + 1))[j]?) : l = celsV A := by
  apply List.ext_getElem?
  intro k
  by_cases hk : k < A.σ.cap * 9
  · have h1 := h (k / 9) (k % 9) (by omega) (by omega)
    have h2 := cels_at A (i := k / 9) (j := k % 9) (by omega) (by omega)
    rw [show k / 9 * 9 + k % 9 = k by omega] at h1 h2
    rw [h1, h2]
  · rw [List.getElem?_eq_none (by omega), List.getElem?_eq_none (by rw [cels_len]; omega)]
/-- cells stored one behind the other -/
def patch : List Value → Nat → List Value → List Value
  | xs, _, [] => xs
  | xs, o, v :: t => patch (xs.set o v) (o + 1) t
theorem patch_len : ∀ (vs xs : List Value) (o : Nat), (patch xs o vs).length = xs.length
  | [], xs, o => rfl
  | v :: t, xs, o => by rw [patch, patch_len t, List.length_set]
theorem patch_at : ∀ (vs xs : List Value) (o k : Nat), (patch xs o vs)[k]? = if o ≤ k ∧ k < o + vs.length ∧ k < xs.length then vs[k - o]? else xs[k]?
  | [], xs, o, k => by rw [patch, if_neg (by simp; omega)]
  | v :: t, xs, o, k => by
    rw [patch, patch_at t, List.length_set]
    by_cases h1 : o + 1 ≤ k ∧ k < o + 1 + t.length ∧ k < xs.length
    · rw [if_pos h1, if_pos (by simp only [List.length_cons]; omega), show k - o = (k - (o + 1)) + 1 by omega, List.getElem?_cons_succ]
    · rw [if_neg h1, List.getElem?_set]
      by_cases h2 : o = k
      · subst h2
        rw [if_pos rfl]
        by_cases h3 : o < xs.length
        · rw [if_pos h3, if_pos (by simp only [List.length_cons]; omega)]; simp
        · rw [if_neg h3, if_neg (by omega), List.getElem?_eq_none (by omega)]
      · rw [if_neg h2, if_neg (by simp only [List.length_cons]; omega)]
/-- every count is one -/
def Ar.Fit (A : Ar) : Prop := ∀ i, 0 ≤ A.cnt i ∧ A.cnt i ≤ 9223372036854775807
structure LieA (I : Impl) (w : World) (ab : Nat) (sp : Addr) (A : Ar) (rd : Int) (ca : Option Addr) (cc : Nat) (Fs : Nat → Prop) : Prop where
  slots : I.Is w (.pointer (some sp)) A.σ Fs
  box : w.heap[ab]? = some (.cells #[.pointer (some sp), .slice ca A.σ.cap cc, .int .u64 rd] 71 (0, 0))
  cels : w.ownsRow 0 79 9 (.slice ca A.σ.cap cc) A.σ.cap (celsV A)
  off : ∀ i, A.σ.on i = false → A.cnt i = 0 ∧ A.nd i = Nd.zero
  fit : A.Fit
  abF : ¬ Fs ab
  caF : ∀ k, (Value.slice ca A.σ.cap cc).ownBlock = some k → ¬ Fs k ∧ k ≠ ab
def FootA (ab : Nat) (ca : Option Addr) (Fs : Nat → Prop) (k : Nat) : Prop := k = ab ∨ (∃ x, ca = some x ∧ x.block = k) ∨ Fs k
section
variable {I : Impl} {w w' : World} {ab : Nat} {sp : Addr} {A A' : Ar} {rd : Int} {ca : Option Addr} {cc g : Nat} {Fs Fs' : Nat → Prop}
theorem LieA.ok (h : LieA I w ab sp A rd ca cc Fs) : A.σ.Ok := I.ok h.slots
theorem LieA.lt (h : LieA I w ab sp A rd ca cc Fs) : ab < w.heap.size := (Array.getElem?_eq_some_iff.1 h.box).1
theorem LieA.below (h : LieA I w ab sp A rd ca cc Fs) (hb : Below w.heap.size w w') : LieA I w' ab sp A rd ca cc Fs :=
  ⟨I.below h.slots hb, (hb.block ab h.lt).trans h.box, row_below h.cels hb, h.off, h.fit, h.abF, h.caF⟩
theorem LieA.cells (h : LieA I w ab sp A rd ca cc Fs) : w.cell? ⟨ab, 0, none⟩ = some (.pointer (some sp)) ∧ w.cell? ⟨ab, 1, none⟩ = some (.slice ca A.σ.cap cc) ∧ w.cell? ⟨ab, 2, none⟩ = some (.int .u64 rd) := by
  refine ⟨?_, ?_, ?_⟩ <;> (rw [cell_of_row _ _ _ _ _ _ h.box]; rfl)
theorem LieA.dom (h : LieA I w ab sp A rd ca cc Fs) : ∀ k, FootA ab ca Fs k → k < w.heap.size := by
  intro k hk
  rcases hk with rfl | ⟨x, rfl, rfl⟩ | hk
  · exact h.lt
  · exact (row_lt h.cels _ rfl).2
  · exact I.dom h.slots k hk
theorem LieA.keep (h : LieA I w ab sp A rd ca cc Fs) (hk : ∀ k, FootA ab ca Fs k → w'.heap[k]? = w.heap[k]?) : LieA I w' ab sp A rd ca cc Fs :=
  ⟨I.keep h.slots fun k e => hk k (.inr (.inr e)), (hk ab (.inl rfl)).trans h.box, row_keep h.cels fun k e => hk k (.inr (.inl (foot_own e))), h.off, h.fit, h.abF, h.caF⟩
/-- what lies in memory while slot numbers and cells do not yet agree: the allocator's state, the row's cells, each for itself -/
structure RawA (I : Impl) (w : World) (ab : Nat) (sp : Addr) (σ : St) (xs : List Value) (rd : Int) (g : Nat) (cc : Nat) (Fs : Nat → Prop) : Prop where
  slots : I.Is w (.pointer (some sp)) σ Fs
  box : w.heap[ab]? = some (.cells #[.pointer (some sp), .slice (some ⟨g, 0, none⟩) σ.cap cc, .int .u64 rd] 71 (0, 0))
  cels : w.ownsRow 0 79 9 (.slice (some ⟨g, 0, none⟩) σ.cap cc) σ.cap xs
  abF : ¬ Fs ab
  caF : ¬ Fs g ∧ g ≠ ab
theorem LieA.raw (h : LieA I w ab sp A rd (some ⟨g, 0, none⟩) cc Fs) : RawA I w ab sp A.σ (celsV A) rd g cc Fs := ⟨h.slots, h.box, h.cels, h.abF, h.caF g rfl⟩
theorem RawA.lie {σ : St} {xs : List Value} (h : RawA I w ab sp σ xs rd g cc Fs) (hσ : A.σ = σ) (hx : xs = celsV A) (off : ∀ i, A.σ.on i = false → A.cnt i = 0 ∧ A.nd i = Nd.zero) (fit : A.Fit) : LieA I w ab sp A rd (some ⟨g, 0, none⟩) cc Fs := by
  subst hσ hx
  exact ⟨h.slots, h.box, h.cels, off, fit, h.abF, fun k hk => by simp [Value.ownBlock] at hk; subst hk; exact h.caF⟩
section
variable {σ σ' : St} {xs : List Value}
theorem RawA.lt (h : RawA I w ab sp σ xs rd g cc Fs) : ab < w.heap.size := (Array.getElem?_eq_some_iff.1 h.box).1
theorem RawA.glt (h : RawA I w ab sp σ xs rd g cc Fs) : g < w.heap.size := (row_lt h.cels g rfl).2
theorem RawA.cells (h : RawA I w ab sp σ xs rd g cc Fs) : w.cell? ⟨ab, 0, none⟩ = some (.pointer (some sp)) ∧ w.cell? ⟨ab, 1, none⟩ = some (.slice (some ⟨g, 0, none⟩) σ.cap cc) ∧ w.cell? ⟨ab, 2, none⟩ = some (.int .u64 rd) := by
  refine ⟨?_, ?_, ?_⟩ <;> (rw [cell_of_row _ _ _ _ _ _ h.box]; rfl)
/-- the allocator took a step -/
theorem RawA.step (h : RawA I w ab sp σ xs rd g cc Fs) (ha : Alters Fs Fs' w w') (hs : I.Is w' (.pointer (some sp)) σ' Fs') (hc : σ'.cap = σ.cap) : RawA I w' ab sp σ' xs rd g cc Fs' ∧ Alters (FootA ab (some ⟨g, 0, none⟩) Fs) (FootA ab (some ⟨g, 0, none⟩) Fs') w w' := by
  have hn : ∀ k, k < w.heap.size → ¬ Fs k → ¬ Fs' k := fun k hk hf hf' => by
    rcases ha.foot k hf' with h1 | h1
    · exact hf h1
    · omega
  refine ⟨⟨hs, by rw [hc]; exact (ha.block ab h.lt h.abF).trans h.box, by rw [hc]; exact row_keep h.cels fun k e => ha.block k (row_lt h.cels k e).2 (by simp [Value.ownBlock] at e; subst e; exact h.caF.1), hn ab h.lt h.abF, hn g h.glt h.caF.1, h.caF.2⟩, ⟨ha.os, ha.tape, ha.output, ha.size, fun k hk hf => ha.block k hk fun e => hf (.inr (.inr e)), fun k hk => ?_⟩⟩
  · rcases hk with rfl | hk | hk
    · exact .inl (.inl rfl)
    · exact .inl (.inr (.inl hk))
    · rcases ha.foot k hk with h1 | h1
      · exact .inl (.inr (.inr h1))
      · exact .inr h1
/-- a cell of the row is written -/
theorem RawA.set (h : RawA I w ab sp σ xs rd g cc Fs) (j : Nat) (v : Value) : RawA I (w.setCell ⟨g, j, none⟩ v) ab sp σ (xs.set j v) rd g cc Fs ∧ Alters (FootA ab (some ⟨g, 0, none⟩) Fs) (FootA ab (some ⟨g, 0, none⟩) Fs) w (w.setCell ⟨g, j, none⟩ v) := by
  refine ⟨⟨I.keep h.slots fun k e => heap_setCell_other _ _ _ _ fun e2 => h.caF.1 (by have e3 : k = g := e2; rw [e3] at e; exact e), (heap_setCell_other _ _ _ _ (fun e2 => h.caF.2 e2.symm)).trans h.box, (h.cels.stored j v).1, h.abF, h.caF⟩, alters_set (.inr (.inl ⟨_, rfl, rfl⟩))⟩
/-- cells of the row are written -/
theorem RawA.sets : ∀ (vs : List Value) {w : World} {xs : List Value} (o : Nat), RawA I w ab sp σ xs rd g cc Fs → RawA I (w.setCells g o vs) ab sp σ (patch xs o vs) rd g cc Fs ∧ Alters (FootA ab (some ⟨g, 0, none⟩) Fs) (FootA ab (some ⟨g, 0, none⟩) Fs) w (w.setCells g o vs)
  | [], w, xs, o, h => ⟨h, Alters.refl _ _⟩
  | v :: t, w, xs, o, h => by
    obtain ⟨h1, h2⟩ := h.set o v
    obtain ⟨h3, h4⟩ := RawA.sets t (o + 1) h1
    exact ⟨h3, h2.trans h4⟩
/-- the reads are written -/
theorem RawA.reads (h : RawA I w ab sp σ xs rd g cc Fs) (x : Int) : RawA I (w.setCell ⟨ab, 2, none⟩ (.int .u64 x)) ab sp σ xs x g cc Fs ∧ Alters (FootA ab (some ⟨g, 0, none⟩) Fs) (FootA ab (some ⟨g, 0, none⟩) Fs) w (w.setCell ⟨ab, 2, none⟩ (.int .u64 x)) := by
  refine ⟨⟨I.keep h.slots fun k e => heap_setCell_other _ _ _ _ fun e2 => h.abF (by have e3 : k = ab := e2; rw [e3] at e; exact e), ?_, row_keep h.cels fun k e => heap_setCell_other _ _ _ _ fun e2 => ?_, h.abF, h.caF⟩, alters_set (.inl rfl)⟩
  · rw [heap_setCell_same _ _ _ _ _ _ h.box]; rfl
  · simp [Value.ownBlock] at e
    have e3 : k = ab := e2
    exact h.caF.2 (by omega)
end
/-- the nine cells of slot j + 1 -/
theorem LieA.nine (h : LieA I w ab sp A rd (some ⟨g, 0, none⟩) cc Fs) {j : Nat} (hj : j < A.σ.cap) :
    w.cell? ⟨g, j * 9, none⟩ = some (.int .i64 (A.nd (j + 1)).key) ∧ w.cell? ⟨g, j * 9 + 1, none⟩ = some (.int .i64 (A.nd (j + 1)).val) ∧ w.cell? ⟨g, j * 9 + 2, none⟩ = some (.int .u32 ((A.nd (j + 1)).left : Int)) ∧ w.cell? ⟨g, j * 9 + 3, none⟩ = some (.int .u32 ((A.nd (j + 1)).right : Int)) ∧
    w.cell? ⟨g, j * 9 + 4, none⟩ = some (.int .i64 (A.nd (j + 1)).size) ∧ w.cell? ⟨g, j * 9 + 5, none⟩ = some (.int .i64 (A.nd (j + 1)).sum) ∧ w.cell? ⟨g, j * 9 + 6, none⟩ = some (.int .i64 (A.nd (j + 1)).mn) ∧ w.cell? ⟨g, j * 9 + 7, none⟩ = some (.int .i64 (A.nd (j + 1)).mx) ∧ w.cell? ⟨g, j * 9 + 8, none⟩ = some (.int .i64 (A.cnt (j + 1))) := by
  have key : ∀ k v, k < 9 → (celV A (j + 1))[k]? = some v → w.cell? ⟨g, j * 9 + k, none⟩ = some v := fun k v hk hv => by
    rw [h.cels.cellAt (j * 9 + k) (by omega), cels_at A hj hk]; exact hv
  exact ⟨key 0 _ (by decide) rfl, key 1 _ (by decide) rfl, key 2 _ (by decide) rfl, key 3 _ (by decide) rfl, key 4 _ (by decide) rfl, key 5 _ (by decide) rfl, key 6 _ (by decide) rfl, key 7 _ (by decide) rfl, key 8 _ (by decide) rfl⟩
end
end Go.Proofs.Ytehaffcjoafkcaa
set_option linter.unusedVariables false
namespace Go.Proofs.Ytehaffcjoafkcaa
open Go.RowKit
def Ar.putC (A : Ar) (i : Nat) (x : Int) : Ar := ⟨A.σ, A.nd, fun j => if j = i then x else A.cnt j⟩
theorem cels_putC (A : Ar) {j : Nat} (x : Int) (hj : j < A.σ.cap) : (celsV A).set (j * 9 + 8) (.int .i64 x) = celsV (A.putC (j + 1) x) := by
  refine cels_ext (A := A.putC (j + 1) x) (by rw [List.length_set, cels_len]; rfl) fun i k hi hk => ?_
  have hi' : i < A.σ.cap := hi
  rw [List.getElem?_set]
  by_cases e : j * 9 + 8 = i * 9 + k
  · have e1 : i = j := by omega
    have e2 : k = 8 := by omega
    subst e1 e2
    rw [if_pos rfl, if_pos (by rw [cels_len]; omega)]
    show _ = some (Value.int IntKind.i64 (if i + 1 = i + 1 then x else A.cnt (i + 1)))
    rw [if_pos rfl]
  · rw [if_neg e, cels_at A hi' hk]
    unfold celV
    by_cases e1 : i = j
    · subst e1
      have hk8 : k < 8 := by omega
      rw [List.getElem?_append_left (by simpa [ndV] using hk8), List.getElem?_append_left (by simpa [ndV] using hk8)]
      rfl
    · show _ = (ndV (A.nd (i + 1)) ++ [Value.int IntKind.i64 (if i + 1 = j + 1 then x else A.cnt (i + 1))])[k]?
      rw [if_neg (by omega)]
section
variable {I : Impl} {w w' : World} {ab : Nat} {sp : Addr} {A A' : Ar} {rd : Int} {ca : Option Addr} {cc g : Nat} {Fs Fs' : Nat → Prop}
theorem LieA.putC (h : LieA I w ab sp A rd (some ⟨g, 0, none⟩) cc Fs) {j : Nat} (hj : A.σ.on (j + 1) = true) (x : Int) (hx : 0 ≤ x ∧ x ≤ 9223372036854775807) :
    LieA I (w.setCell ⟨g, j * 9 + 8, none⟩ (.int .i64 x)) ab sp (A.putC (j + 1) x) rd (some ⟨g, 0, none⟩) cc Fs ∧ Alters (FootA ab (some ⟨g, 0, none⟩) Fs) (FootA ab (some ⟨g, 0, none⟩) Fs) w (w.setCell ⟨g, j * 9 + 8, none⟩ (.int .i64 x)) := by
  obtain ⟨h1, h2⟩ := h.raw.set (j * 9 + 8) (.int .i64 x)
  have hjc := h.ok.on _ hj
  refine ⟨h1.lie rfl (cels_putC A x (by omega)) (fun i hi => ?_) (fun i => ?_), h2⟩
  rotate_left
  · show 0 ≤ (if i = j + 1 then x else A.cnt i) ∧ (if i = j + 1 then x else A.cnt i) ≤ 9223372036854775807
    split
    · exact hx
    · exact h.fit i
  have hi' : A.σ.on i = false := hi
  have hne : i ≠ j + 1 := fun e => by subst e; rw [hj] at hi'; cases hi'
  show (if i = j + 1 then x else A.cnt i) = 0 ∧ _
  rw [if_neg hne]
  exact h.off i hi'
set_option maxHeartbeats 1000000 in
set_option maxRecDepth 100000 in
theorem a_cell_on (h : LieA I w ab sp A rd (some ⟨g, 0, none⟩) cc Fs) (j : Nat) (hj : A.σ.on (j + 1) = true) :
    Calls Try.prog 34 #[.pointer (some ⟨ab, 0, none⟩), .int .u32 ((j : Int) + 1)] w (Quiet w (.pointer (some ⟨g, j * 9, none⟩))) := by
  obtain ⟨c0, c1, c2⟩ := h.cells
  have hjc := h.ok.on _ hj
  have hcap := h.ok.cap2
  have hji : (j : Int) < (A.σ.cap : Int) := by omega
  have hj0 : (0 : Int) ≤ (j : Int) := by omega
  have hj4 : (j : Int) + 1 < 4294967296 := by omega
  have HA := Lib.hid (I.allocated _ _ _ (j + 1) _ h.slots (by omega))
  clear h hjc hcap
  go_enter Try.func34, Try.ntmps34
  go_wp2_with fail
  refine HA.out.mono ?_
  rintro e w1 ⟨rfl, q, rfl⟩
  rw [hj]
  have d1 : (w.drewN q).cell? ⟨ab, 1, none⟩ = some (.slice (some ⟨g, 0, none⟩) A.σ.cap cc) := c1
  generalize hW : w.drewN q = w1 at d1 ⊢
  have HW := Lib.hid hW
  clear hW c0 c1 c2 hj HA
  go_wp2_with fail
  go_ret
  exact ⟨rfl, q, HW.out.symm⟩
set_option maxHeartbeats 1000000 in
set_option maxRecDepth 100000 in
theorem a_cell_off (h : LieA I w ab sp A rd ca cc Fs) (i : Nat) (hi : i < 4294967296) (ho : A.σ.on i = false) :
    Calls Try.prog 34 #[.pointer (some ⟨ab, 0, none⟩), .int .u32 (i : Int)] w (Quiet w (.pointer none)) := by
  obtain ⟨c0, c1, c2⟩ := h.cells
  have HA := Lib.hid (I.allocated _ _ _ i _ h.slots hi)
  clear h
  go_enter Try.func34, Try.ntmps34
  go_wp2_with fail
  refine HA.out.mono ?_
  rintro e w1 ⟨rfl, q, rfl⟩
  rw [ho]
  clear HA c0 c1 c2 ho
  go_wp2_with fail
  go_ret
  exact ⟨rfl, q, rfl⟩
set_option maxHeartbeats 1000000 in
set_option maxRecDepth 100000 in
theorem a_isIndex (h : LieA I w ab sp A rd ca cc Fs) (i : Nat) (hi : i < 4294967296) :
    Calls Try.prog 27 #[.pointer (some ⟨ab, 0, none⟩), .int .u32 (i : Int)] w (Quiet w (.bool (decide (i = 0) || A.σ.on i))) := by
  obtain ⟨c0, c1, c2⟩ := h.cells
  by_cases h0 : i = 0
  · subst h0
    clear h
    rw [show (decide (0 = 0) || A.σ.on 0) = true by simp]
    go_enter Try.func27, Try.ntmps27
    go_wp2
    go_ret
    exact ⟨rfl, 0, rfl⟩
  · have hi0 : ((i : Int) == 0) = false := beq_eq_false_iff_ne.2 (by omega)
    have HA := Lib.hid (I.allocated _ _ _ i _ h.slots hi)
    rw [show (decide (i = 0) || A.σ.on i) = A.σ.on i by simp [h0]]
    clear h h0
    go_enter Try.func27, Try.ntmps27
    go_wp2_with fail
    refine HA.out.mono ?_
    rintro e w2 ⟨rfl, q, rfl⟩
    clear c0 c1 c2 HA
    go_wp2_with fail
    go_ret
    exact ⟨rfl, q, rfl⟩
set_option maxHeartbeats 1000000 in
set_option maxRecDepth 100000 in
theorem a_addRef_off (h : LieA I w ab sp A rd ca cc Fs) (i : Nat) (hi : i < 4294967296) (ho : A.σ.on i = false) :
    Calls Try.prog 37 #[.pointer (some ⟨ab, 0, none⟩), .int .u32 (i : Int)] w (fun e w' => (∃ v, e = .returned v) ∧ Below w.heap.size w w') := by
  have HA := Lib.hid (a_cell_off h i hi ho)
  clear h ho
  go_enter Try.func37, Try.ntmps37
  go_wp2_with fail
  refine HA.out.mono ?_
  rintro e w2 ⟨rfl, q, rfl⟩
  clear HA
  go_wp2_with fail
  go_end0
  exact ⟨⟨_, rfl⟩, below_drewN (Below.refl _ _) _⟩
set_option maxHeartbeats 1000000 in
set_option maxRecDepth 100000 in
theorem a_addRef (h : LieA I w ab sp A rd (some ⟨g, 0, none⟩) cc Fs) (j : Nat) (hj : A.σ.on (j + 1) = true) (hc : A.cnt (j + 1) < 4611686018427387904) :
    Calls Try.prog 37 #[.pointer (some ⟨ab, 0, none⟩), .int .u32 ((j : Int) + 1)] w (fun e w' => (∃ v, e = .returned v) ∧ LieA I w' ab sp (A.inc (j + 1)) rd (some ⟨g, 0, none⟩) cc Fs ∧ Alters (FootA ab (some ⟨g, 0, none⟩) Fs) (FootA ab (some ⟨g, 0, none⟩) Fs) w w') := by
  have HA := Lib.hid (a_cell_on h j hj)
  have HH := Lib.hid h
  have HJ := Lib.hid hj
  have hjc := h.ok.on _ hj
  have hc0 := (h.fit (j + 1)).1
  have hcap := h.ok.cap2
  have hj4 : (j : Int) + 1 < 4294967296 := by omega
  have hjl : j < A.σ.cap := by omega
  clear h hj hjc hcap
  go_enter Try.func37, Try.ntmps37
  go_wp2_with fail
  refine HA.out.mono ?_
  rintro e w2 ⟨rfl, q, rfl⟩
  have hb : Below w.heap.size w (w.drewN q) := below_drewN (Below.refl _ _) q
  have h2 := HH.out.below hb
  generalize w.drewN q = w2 at hb h2 ⊢
  have c8 := (h2.nine hjl).2.2.2.2.2.2.2.2
  have f8 := h2.cels.frozenAt (j * 9 + 8)
  obtain ⟨h3, h4⟩ := h2.putC HJ.out (A.cnt (j + 1) + 1) (by have := h2.fit (j + 1); omega)
  have H3 := Lib.hid h3
  have H4 := Lib.hid ((Alters.of_below hb).trans h4)
  clear HA h2 h3 h4 hb hjl
  generalize hC : A.cnt (j + 1) = C at c8 hc hc0 H3 H4
  have HC := Lib.hid hC
  clear hC
  go_wp2_with fail
  go_end0
  refine ⟨⟨_, rfl⟩, ?_, H4.out⟩
  have e : A.inc (j + 1) = A.putC (j + 1) (C + 1) := by unfold Ar.inc Ar.putC; rw [HC.out]
  rw [e]
  exact H3.out
set_option maxHeartbeats 1000000 in
set_option maxRecDepth 100000 in
theorem a_retain_bad (h : LieA I w ab sp A rd ca cc Fs) (i : Nat) (hi : i < 4294967296) (hb : ¬ A.Idx i) :
    Calls Try.prog 20 #[.pointer (some ⟨ab, 0, none⟩), .int .u32 (i : Int)] w (Calm w (.int .i64 3)) := by
  have hx : (decide (i = 0) || A.σ.on i) = false := by
    unfold Ar.Idx at hb
    have h1 : ¬ i = 0 := fun e => hb (.inl e)
    have h2 : ¬ A.σ.on i = true := fun e => hb (.inr e)
    simp [h1, h2]
  have HI := Lib.hid (a_isIndex h i hi)
  have HX := Lib.hid hx
  clear h hb hx
  go_enter Try.func20, Try.ntmps20
  go_wp2_with fail
  refine HI.out.mono ?_
  rintro e w2 ⟨rfl, q, rfl⟩
  rw [HX.out]
  clear HI HX
  go_wp2_with fail
  go_ret
  exact ⟨rfl, below_drewN (Below.refl _ _) _⟩
set_option maxHeartbeats 1000000 in
set_option maxRecDepth 100000 in
theorem a_retain (h : LieA I w ab sp A rd (some ⟨g, 0, none⟩) cc Fs) (i : Nat) (hi : i < 4294967296) (hb : A.Idx i) (hc : A.σ.on i = true → A.cnt i < 4611686018427387904) :
    Calls Try.prog 20 #[.pointer (some ⟨ab, 0, none⟩), .int .u32 (i : Int)] w (fun e w' => e = .returned (.int .i64 0) ∧ LieA I w' ab sp (A.ret i) rd (some ⟨g, 0, none⟩) cc Fs ∧ Alters (FootA ab (some ⟨g, 0, none⟩) Fs) (FootA ab (some ⟨g, 0, none⟩) Fs) w w') := by
  have hx : (decide (i = 0) || A.σ.on i) = true := by
    rcases hb with e | e
    · simp [e]
    · simp [e]
  have HI := Lib.hid (a_isIndex h i hi)
  have HX := Lib.hid hx
  have HH := Lib.hid h
  have HOK := Lib.hid h.ok
  clear h hx
  by_cases h0 : i = 0
  · subst h0
    have ho : Hid (A.σ.on 0 = false) := by
      show A.σ.on 0 = false
      cases hq : A.σ.on 0 with
      | false => rfl
      | true => have := HOK.out.on 0 hq; omega
    clear hc hb
    go_enter Try.func20, Try.ntmps20
    go_wp2_with fail
    refine HI.out.mono ?_
    rintro e w2 ⟨rfl, q, rfl⟩
    rw [HX.out]
    have hb2 : Below w.heap.size w (w.drewN q) := below_drewN (Below.refl _ _) q
    generalize w.drewN q = w2 at hb2 ⊢
    have H2 := Lib.hid (HH.out.below hb2)
    have HB := Lib.hid hb2
    clear hb2
    go_wp2_with fail
    refine (a_addRef_off H2.out 0 (by omega) ho.out).mono ?_
    rintro e w3 ⟨⟨v, rfl⟩, hb3⟩
    have HB3 := Lib.hid hb3
    clear hb3
    go_wp2_with fail
    go_ret
    exact ⟨rfl, by unfold Ar.ret; rw [if_pos rfl]; exact H2.out.below HB3.out, .of_below (HB.out.trans (HB3.out.mono HB.out.size))⟩
  · have hon : A.σ.on i = true := by rcases hb with e | e; exact absurd e h0; exact e
    have hle := HOK.out.on i hon
    obtain ⟨j, rfl⟩ : ∃ j, i = j + 1 := ⟨i - 1, by omega⟩
    have HON := Lib.hid hon
    have HC := Lib.hid (hc hon)
    clear hb hon hle h0 hc
    go_enter Try.func20, Try.ntmps20
    go_wp2_with fail
    refine HI.out.mono ?_
    rintro e w2 ⟨rfl, q, rfl⟩
    rw [HX.out]
    have hb2 : Below w.heap.size w (w.drewN q) := below_drewN (Below.refl _ _) q
    generalize w.drewN q = w2 at hb2 ⊢
    have H2 := Lib.hid (HH.out.below hb2)
    have HB := Lib.hid hb2
    clear hb2
    go_wp2_with fail
    refine (a_addRef H2.out j HON.out HC.out).mono ?_
    rintro e w3 ⟨⟨v, rfl⟩, h3, ha3⟩
    have H3 := Lib.hid h3
    have HA3 := Lib.hid ha3
    clear h3 ha3
    go_wp2_with fail
    go_ret
    exact ⟨rfl, by unfold Ar.ret; rw [if_neg (by omega)]; exact H3.out, (Alters.of_below HB.out).trans HA3.out⟩
set_option maxHeartbeats 1000000 in
set_option maxRecDepth 100000 in
theorem a_free (h : LieA I w ab sp A rd ca cc Fs) : Calls Try.prog 12 #[.pointer (some ⟨ab, 0, none⟩)] w (Quiet w (.int .i64 (A.σ.free.length : Int))) := by
  obtain ⟨c0, c1, c2⟩ := h.cells
  have HA := Lib.hid (I.freeN _ _ _ _ h.slots)
  clear h
  go_enter Try.func12, Try.ntmps12
  go_wp2_with fail
  refine HA.out.mono ?_
  rintro e w1 ⟨rfl, q, rfl⟩
  clear HA c0 c1 c2
  go_wp2_with fail
  go_ret
  exact ⟨rfl, q, rfl⟩
set_option maxHeartbeats 1000000 in
set_option maxRecDepth 100000 in
theorem a_capacity (h : LieA I w ab sp A rd ca cc Fs) : Calls Try.prog 13 #[.pointer (some ⟨ab, 0, none⟩)] w (Quiet w (.int .i64 (A.σ.cap : Int))) := by
  obtain ⟨c0, c1, c2⟩ := h.cells
  have HA := Lib.hid (I.capacity _ _ _ _ h.slots)
  clear h
  go_enter Try.func13, Try.ntmps13
  go_wp2_with fail
  refine HA.out.mono ?_
  rintro e w1 ⟨rfl, q, rfl⟩
  clear HA c0 c1 c2
  go_wp2_with fail
  go_ret
  exact ⟨rfl, q, rfl⟩
end
end Go.Proofs.Ytehaffcjoafkcaa
set_option linter.unusedVariables false
namespace Go.Proofs.Ytehaffcjoafkcaa
open Go.RowKit
def nodA (x : Nd) : Array Value := #[.int .i64 x.key, .int .i64 x.val, .int .u32 (x.left : Int), .int .u32 (x.right : Int), .int .i64 x.size, .int .i64 x.sum, .int .i64 x.mn, .int .i64 x.mx]
theorem nod_ones (x : Nd) : (nodA x).all (·.oneCell') = true := by simp [nodA, Value.oneCell']
theorem alt_row {F F' : Nat → Prop} {w w' : World} {p : Nat} {cs : Array Value} (h : Alters F F' w w') (hp : w.heap.size ≤ p) : Alters F F' w (w'.setRow p cs) :=
  ⟨h.os, h.tape, h.output, by have := h.size; simp [World.setRow]; omega, fun k hk hf => (setRow_other _ _ _ _ (by omega)).trans (h.block k hk hf), h.foot⟩
theorem below_row {w w' : World} {p : Nat} {cs : Array Value} (h : Below w.heap.size w w') (hp : w.heap.size ≤ p) : Below w.heap.size w (w'.setRow p cs) :=
  ⟨h.os, h.tape, h.output, by have := h.size; simp [World.setRow]; omega, fun k hk => (setRow_other _ _ _ _ (by omega)).trans (h.block k hk)⟩
theorem nodInfo : (Try.prog.info? 65).map (·.size) = some 8 := by kernel_rfl
theorem below_al (w : World) (o : Obj) : Below w.heap.size w (w.alloc o) := (Below.refl _ _).alloc (Nat.le_refl _) _
section
variable {I : Impl} {w w' : World} {ab : Nat} {sp : Addr} {A A' : Ar} {rd : Int} {ca : Option Addr} {cc g : Nat} {Fs Fs' : Nat → Prop}
theorem LieA.reads (h : LieA I w ab sp A rd (some ⟨g, 0, none⟩) cc Fs) (x : Int) : LieA I (w.setCell ⟨ab, 2, none⟩ (.int .u64 x)) ab sp A x (some ⟨g, 0, none⟩) cc Fs ∧ Alters (FootA ab (some ⟨g, 0, none⟩) Fs) (FootA ab (some ⟨g, 0, none⟩) Fs) w (w.setCell ⟨ab, 2, none⟩ (.int .u64 x)) := by
  obtain ⟨h1, h2⟩ := h.raw.reads x
  exact ⟨h1.lie rfl rfl h.off h.fit, h2⟩
def ANode (I : Impl) (w : World) (ab : Nat) (sp : Addr) (A : Ar) (rd : Int) (g cc : Nat) (Fs : Nat → Prop) (i : Nat) (e : Ending) (w' : World) : Prop :=
  e = .returned (.tuple #[.agg (nodA (A.nd i)), .bool (A.σ.on i)]) ∧ LieA I w' ab sp A (if A.σ.on i = true then rd + 1 else rd) (some ⟨g, 0, none⟩) cc Fs ∧ Alters (FootA ab (some ⟨g, 0, none⟩) Fs) (FootA ab (some ⟨g, 0, none⟩) Fs) w w'
set_option maxHeartbeats 2000000 in
set_option maxRecDepth 100000 in
theorem a_node (h : LieA I w ab sp A rd (some ⟨g, 0, none⟩) cc Fs) (i : Nat) (hi : i < 4294967296) (h0 : 0 ≤ rd) (h1 : rd < 4611686018427387904) :
    Calls Try.prog 60 #[.pointer (some ⟨ab, 0, none⟩), .int .u32 (i : Int)] w (ANode I w ab sp A rd g cc Fs i) := by
  have HU : Hid _ := Lib.hid Try.underlying65
  have HIN := Lib.hid nodInfo
  have hb1 := below_al w (Obj.cells (nodA Nd.zero) 65)
  have h2 := h.below hb1
  have HP := Lib.hid (heap_alloc_new w (Obj.cells (nodA Nd.zero) 65))
  have HB1 := Lib.hid hb1
  have HLQ : Hid (ab < w.heap.size) := h.lt
  have HGQ : Hid (g < w.heap.size) := h.raw.glt
  have HDOM : Hid (∀ k, FootA ab (some ⟨g, 0, none⟩) Fs k → k < w.heap.size) := h.dom
  have HOK := Lib.hid h.ok
  have HOFF := Lib.hid h.off
  have H2 := Lib.hid h2
  clear h hb1 h2
  go_enter Try.func60, Try.ntmps60
  go_upto_region 1 with fail
  rw [show #[Value.int .i64 0, .int .i64 0, .int .u32 0, .int .u32 0, .int .i64 0, .int .i64 0, .int .i64 0, .int .i64 0] = nodA Nd.zero from rfl]
  generalize w.alloc (Obj.cells (nodA Nd.zero) 65) = w1 at HP HB1 H2 ⊢
  obtain ⟨p, hp⟩ : ∃ p, w.heap.size = p := ⟨_, rfl⟩
  rw [hp] at HP HB1 HLQ HGQ HDOM ⊢
  have HPP := Lib.hid hp
  clear hp
  by_cases ho : A.σ.on i = true
  · have hle := HOK.out.on i ho
    obtain ⟨j, rfl⟩ : ∃ j, i = j + 1 := ⟨i - 1, by omega⟩
    have hj : j < A.σ.cap := by omega
    have HO := Lib.hid ho
    have HJ := Lib.hid hj
    clear ho hle hj hi
    go_wp2_with fail
    refine (a_cell_on H2.out j HO.out).mono ?_
    rintro e w2 ⟨rfl, q2, rfl⟩
    have hb2 : Below w1.heap.size w1 (w1.drewN q2) := below_drewN (Below.refl _ _) q2
    generalize w1.drewN q2 = w2 at hb2 ⊢
    have HP2 := Lib.hid ((hb2.block p (Array.getElem?_eq_some_iff.1 HP.out).1).trans HP.out)
    have H3 := Lib.hid (H2.out.below hb2)
    have HBB : Hid (Below w.heap.size w w2) := by
      have h9 := HB1.out
      rw [HPP.out]
      exact h9.trans (hb2.mono (by have := h9.size; rw [HPP.out] at this; exact this))
    clear hb2
    obtain ⟨c0, c1, c2⟩ := H3.out.cells
    have f2 := frozen_of_row w2 ab 2 _ _ H3.out.box
    go_upto_region 5 with fail
    obtain ⟨h4, ha4⟩ := H3.out.reads (rd + 1)
    have hP4 : (w2.setCell ⟨ab, 2, none⟩ (.int .u64 (rd + 1))).heap[p]? = some (Obj.cells (nodA Nd.zero) 65 (0, 0)) := (heap_setCell_other _ _ _ _ (show p ≠ ab by have := HLQ.out; omega)).trans HP2.out
    have HA4 := Lib.hid ((Alters.of_below HBB.out).trans ha4)
    have H4 := Lib.hid h4
    have HP4 := Lib.hid hP4
    clear h4 ha4 hP4 c0 c1 c2 f2
    generalize w2.setCell ⟨ab, 2, none⟩ (.int .u64 (rd + 1)) = w3 at H4 HA4 HP4 ⊢
    obtain ⟨g0, g1, g2, g3, g4, g5, g6, g7, _⟩ := H4.out.nine HJ.out
    go_wp2_with (refine wpList_store_row rfl 65 (.tmp 4) (.tmp 23) rfl p (nodA (A.nd (j + 1))) rfl rfl 65 _ HP4.out HIN.out rfl (nod_ones _) ?_)
    refine bodyPost_ret (results_row_tmp rfl _ _ p 65 (nodA (A.nd (j + 1))) (0, 0) _ rfl (setRow_heap _ _ _ _ _ _ HP4.out) HU.out rfl HIN.out) rfl ?_
    have hpp := HPP.out
    exact ⟨by rw [HO.out]; rfl, by rw [if_pos HO.out]; exact H4.out.keep fun k hk => setRow_other _ _ _ _ (by have := HDOM.out k hk; omega), alt_row HA4.out (by omega)⟩
  · have ho' : A.σ.on i = false := by simpa using ho
    have HZ := Lib.hid (HOFF.out i ho').2
    have HO := Lib.hid ho'
    clear ho ho'
    go_wp2_with fail
    refine (a_cell_off H2.out i hi HO.out).mono ?_
    rintro e w2 ⟨rfl, q2, rfl⟩
    have hb2 : Below w1.heap.size w1 (w1.drewN q2) := below_drewN (Below.refl _ _) q2
    generalize w1.drewN q2 = w2 at hb2 ⊢
    have HP2 := Lib.hid ((hb2.block p (Array.getElem?_eq_some_iff.1 HP.out).1).trans HP.out)
    have H3 := Lib.hid (H2.out.below hb2)
    have HBB : Hid (Below w.heap.size w w2) := by
      have h9 := HB1.out
      rw [HPP.out]
      exact h9.trans (hb2.mono (by have := h9.size; rw [HPP.out] at this; exact this))
    clear hb2
    go_wp2_with (refine wpList_store_row rfl 65 (.tmp 4) (.tmp 12) rfl p (nodA Nd.zero) rfl rfl 65 _ HP2.out HIN.out rfl (nod_ones _) ?_)
    refine bodyPost_ret (results_row_tmp rfl _ _ p 65 (nodA Nd.zero) (0, 0) _ rfl (setRow_heap _ _ _ _ _ _ HP2.out) HU.out rfl HIN.out) rfl ?_
    have hpp := HPP.out
    exact ⟨by rw [HO.out, HZ.out]; rfl, by rw [HO.out, if_neg (by simp)]; exact H3.out.keep fun k hk => setRow_other _ _ _ _ (by have := HDOM.out k hk; omega), alt_row (Alters.of_below HBB.out) (by omega)⟩
def ASize (I : Impl) (w : World) (ab : Nat) (sp : Addr) (A : Ar) (rd : Int) (g cc : Nat) (Fs : Nat → Prop) (i : Nat) (e : Ending) (w' : World) : Prop :=
  e = .returned (.int .i64 (A.nd i).size) ∧ LieA I w' ab sp A (if A.σ.on i = true then rd + 1 else rd) (some ⟨g, 0, none⟩) cc Fs ∧ Alters (FootA ab (some ⟨g, 0, none⟩) Fs) (FootA ab (some ⟨g, 0, none⟩) Fs) w w'
set_option maxHeartbeats 1000000 in
set_option maxRecDepth 100000 in
theorem a_size (h : LieA I w ab sp A rd (some ⟨g, 0, none⟩) cc Fs) (i : Nat) (hi : i < 4294967296) (h0 : 0 ≤ rd) (h1 : rd < 4611686018427387904) :
    Calls Try.prog 17 #[.pointer (some ⟨ab, 0, none⟩), .int .u32 (i : Int)] w (ASize I w ab sp A rd g cc Fs i) := by
  by_cases ho : A.σ.on i = true
  · have hle := h.ok.on i ho
    obtain ⟨j, rfl⟩ : ∃ j, i = j + 1 := ⟨i - 1, by omega⟩
    have HA := Lib.hid (a_cell_on h j ho)
    have HH := Lib.hid h
    have HO := Lib.hid ho
    have hjl : j < A.σ.cap := by omega
    have HJ := Lib.hid hjl
    clear h ho hle hjl
    go_enter Try.func17, Try.ntmps17
    go_wp2_with fail
    refine HA.out.mono ?_
    rintro e w2 ⟨rfl, q, rfl⟩
    have hb : Below w.heap.size w (w.drewN q) := below_drewN (Below.refl _ _) q
    have h2 := HH.out.below hb
    generalize w.drewN q = w2 at hb h2 ⊢
    obtain ⟨c0, c1, c2⟩ := h2.cells
    have f2 := frozen_of_row w2 ab 2 _ _ h2.box
    obtain ⟨h4, ha4⟩ := h2.reads (rd + 1)
    have H4 := Lib.hid h4
    have HA4 := Lib.hid ((Alters.of_below hb).trans ha4)
    clear h2 hb h4 ha4
    go_upto_region 5 with fail
    clear c0 c1 c2 f2
    generalize w2.setCell ⟨ab, 2, none⟩ (.int .u64 (rd + 1)) = w3 at H4 HA4 ⊢
    obtain ⟨g0, g1, g2, g3, g4, g5, g6, g7, _⟩ := H4.out.nine HJ.out
    go_wp2_with fail
    go_ret
    exact ⟨rfl, by rw [if_pos HO.out]; exact H4.out, HA4.out⟩
  · have ho' : A.σ.on i = false := by simpa using ho
    have hz := (h.off i ho').2
    have HA := Lib.hid (a_cell_off h i hi ho')
    have HZ := Lib.hid hz
    have HO := Lib.hid ho'
    have HH := Lib.hid h
    clear h ho ho' hz
    go_enter Try.func17, Try.ntmps17
    go_wp2_with fail
    refine HA.out.mono ?_
    rintro e w2 ⟨rfl, q, rfl⟩
    have HB : Hid (Below w.heap.size w (w.drewN q)) := below_drewN (Below.refl _ _) q
    generalize w.drewN q = w2 at HB ⊢
    clear HA
    go_wp2_with fail
    go_ret
    exact ⟨by rw [HZ.out]; rfl, by rw [HO.out, if_neg (by simp)]; exact HH.out.below HB.out, .of_below HB.out⟩
set_option maxHeartbeats 2000000 in
set_option maxRecDepth 100000 in
theorem a_child (h : LieA I w ab sp A rd (some ⟨g, 0, none⟩) cc Fs) (i : Nat) (hi : i < 4294967296) :
    Calls Try.prog 71 #[.pointer (some ⟨ab, 0, none⟩), .int .u32 (i : Int)] w (Calm w (.tuple #[.agg (nodA (A.nd i)), .bool (decide (i = 0) || A.σ.on i)])) := by
  have HU : Hid _ := Lib.hid Try.underlying65
  have HIN := Lib.hid nodInfo
  have hb1 := below_al w (Obj.cells (nodA Nd.zero) 65)
  have h2 := h.below hb1
  have HP := Lib.hid (heap_alloc_new w (Obj.cells (nodA Nd.zero) 65))
  have HB1 := Lib.hid hb1
  have HOK := Lib.hid h.ok
  have HOFF := Lib.hid h.off
  have H2 := Lib.hid h2
  clear h hb1 h2
  go_enter Try.func71, Try.ntmps71
  go_upto_region 1 with fail
  rw [show #[Value.int .i64 0, .int .i64 0, .int .u32 0, .int .u32 0, .int .i64 0, .int .i64 0, .int .i64 0, .int .i64 0] = nodA Nd.zero from rfl]
  generalize w.alloc (Obj.cells (nodA Nd.zero) 65) = w1 at HP HB1 H2 ⊢
  obtain ⟨p, hp⟩ : ∃ p, w.heap.size = p := ⟨_, rfl⟩
  rw [hp] at HP HB1 ⊢
  have HPP := Lib.hid hp
  clear hp
  by_cases ho : A.σ.on i = true
  · have hle := HOK.out.on i ho
    obtain ⟨j, rfl⟩ : ∃ j, i = j + 1 := ⟨i - 1, by omega⟩
    have hj : j < A.σ.cap := by omega
    have HO := Lib.hid ho
    have HJ := Lib.hid hj
    clear ho hle hj hi
    go_wp2_with fail
    refine (a_cell_on H2.out j HO.out).mono ?_
    rintro e w2 ⟨rfl, q2, rfl⟩
    have hb2 : Below w1.heap.size w1 (w1.drewN q2) := below_drewN (Below.refl _ _) q2
    generalize w1.drewN q2 = w2 at hb2 ⊢
    have HP2 := Lib.hid ((hb2.block p (Array.getElem?_eq_some_iff.1 HP.out).1).trans HP.out)
    have H3 := Lib.hid (H2.out.below hb2)
    have HBB : Hid (Below w.heap.size w w2) := by
      have h9 := HB1.out
      rw [HPP.out]
      exact h9.trans (hb2.mono (by have := h9.size; rw [HPP.out] at this; exact this))
    clear hb2
    obtain ⟨g0, g1, g2, g3, g4, g5, g6, g7, _⟩ := H3.out.nine HJ.out
    go_wp2_with (refine wpList_store_row rfl 65 (.tmp 4) (.tmp 15) rfl p (nodA (A.nd (j + 1))) rfl rfl 65 _ HP2.out HIN.out rfl (nod_ones _) ?_)
    refine bodyPost_ret (results_row_tmp rfl _ _ p 65 (nodA (A.nd (j + 1))) (0, 0) _ rfl (setRow_heap _ _ _ _ _ _ HP2.out) HU.out rfl HIN.out) rfl ?_
    have hpp := HPP.out
    exact ⟨by rw [HO.out]; simp, below_row HBB.out (by omega)⟩
  · have ho' : A.σ.on i = false := by simpa using ho
    have HZ := Lib.hid (HOFF.out i ho').2
    have HO := Lib.hid ho'
    clear ho ho'
    go_wp2_with fail
    refine (a_cell_off H2.out i hi HO.out).mono ?_
    rintro e w2 ⟨rfl, q2, rfl⟩
    have hb2 : Below w1.heap.size w1 (w1.drewN q2) := below_drewN (Below.refl _ _) q2
    generalize w1.drewN q2 = w2 at hb2 ⊢
    have HP2 := Lib.hid ((hb2.block p (Array.getElem?_eq_some_iff.1 HP.out).1).trans HP.out)
    have HBB : Hid (Below w.heap.size w w2) := by
      have h9 := HB1.out
      rw [HPP.out]
      exact h9.trans (hb2.mono (by have := h9.size; rw [HPP.out] at this; exact this))
    clear hb2
    have hdec : ((i : Int) == 0) = decide (i = 0) := by
      by_cases e : i = 0
      · subst e; rfl
      · rw [decide_eq_false e]; exact beq_eq_false_iff_ne.2 (by omega)
    obtain ⟨dz, hdz⟩ : ∃ dz, decide (i = 0) = dz := ⟨_, rfl⟩
    rw [hdz] at hdec
    have HDZ := Lib.hid hdz
    clear hdz
    go_wp2_with (refine wpList_store_row rfl 65 (.tmp 4) (.tmp 16) rfl p (nodA Nd.zero) rfl rfl 65 _ HP2.out HIN.out rfl (nod_ones _) ?_)
    refine bodyPost_ret (results_row_tmp rfl _ _ p 65 (nodA Nd.zero) (0, 0) _ rfl (setRow_heap _ _ _ _ _ _ HP2.out) HU.out rfl HIN.out) rfl ?_
    have hpp := HPP.out
    exact ⟨by rw [HO.out, HZ.out, HDZ.out]; simp, below_row HBB.out (by omega)⟩
end
end Go.Proofs.Ytehaffcjoafkcaa
set_option linter.unusedVariables false
namespace Go.Proofs.Ytehaffcjoafkcaa
open Go.RowKit
def Nd.add (x c : Nd) : Nd := if c.size = 0 then x else ⟨x.key, x.val, x.left, x.right, x.size + c.size, IntKind.i64.wrap (x.sum + c.sum), min x.mn c.mn, max x.mx c.mx⟩
theorem row8n {w : World} {g : Nat} {t : TypeId} {c0 c1 c2 c3 c4 c5 c6 c7 : Value} (h : w.heap[g]? = some (.cells #[c0, c1, c2, c3, c4, c5, c6, c7] t (0, 0))) :
    w.cell? ⟨g, 0, none⟩ = some c0 ∧ w.cell? ⟨g, 1, none⟩ = some c1 ∧ w.cell? ⟨g, 2, none⟩ = some c2 ∧ w.cell? ⟨g, 3, none⟩ = some c3 ∧ w.cell? ⟨g, 4, none⟩ = some c4 ∧ w.cell? ⟨g, 5, none⟩ = some c5 ∧ w.cell? ⟨g, 6, none⟩ = some c6 ∧ w.cell? ⟨g, 7, none⟩ = some c7 := by
  refine ⟨?_, ?_, ?_, ?_, ?_, ?_, ?_, ?_⟩ <;> (rw [cell_of_row _ _ _ _ _ _ h]; rfl)
theorem min_run (a b : Int) (w : World) (ts : Array TypeId) (t : TypeId) : (Builtin.min_ ts t #[.int .i64 a, .int .i64 b]).run Try.prog w = .ok (.int .i64 (min a b)) w := by
  have h : (if b < a then b else a) = min a b := by rw [Int.min_def]; split <;> split <;> omega
  rw [← h]
  simp [Builtin.min_, Builtin.min2]
theorem max_run (a b : Int) (w : World) (ts : Array TypeId) (t : TypeId) : (Builtin.max_ ts t #[.int .i64 a, .int .i64 b]).run Try.prog w = .ok (.int .i64 (max a b)) w := by
  have h : (if a < b then b else a) = max a b := by rw [Int.max_def]; split <;> split <;> omega
  rw [← h]
  simp [Builtin.max_, Builtin.max2]
def AddRes (w : World) (b : Nat) (x : Nd) (e : Ending) (w' : World) : Prop :=
  (∃ v, e = .returned v) ∧ w'.heap[b]? = some (.cells (nodA x) 65 (0, 0)) ∧ Alters (fun k => k = b) (fun k => k = b) w w'
theorem row_set1 {w : World} {b : Nat} {cs : Array Value} {t : TypeId} (h : w.heap[b]? = some (.cells cs t (0, 0))) (j : Nat) (v : Value) : (w.setCell ⟨b, j, none⟩ v).heap[b]? = some (.cells (cs.setIfInBounds j v) t (0, 0)) :=
  heap_setCell_same _ _ _ _ _ _ h
theorem alt_set1 {F F' : Nat → Prop} {w w' : World} {a : Addr} {v : Value} (h : Alters F F' w w') (hF : F' a.block) : Alters F F' w (w'.setCell a v) := h.trans (alters_set hF)
theorem alt_drew4 {F F' : Nat → Prop} {w w' : World} (h : Alters F F' w w') : Alters F F' w w'.drew.drew.drew.drew := ⟨h.os, h.tape, h.output, h.size, h.block, h.foot⟩
set_option maxHeartbeats 2000000 in
set_option maxRecDepth 100000 in
theorem a_addAgg (w : World) (b : Nat) (x c : Nd) (hb : w.heap[b]? = some (.cells (nodA x) 65 (0, 0))) (h1 : 0 ≤ x.size) (h2 : x.size ≤ 2147483647) (h3 : 0 ≤ c.size) (h4 : c.size ≤ 2147483647) :
    Calls Try.prog 72 #[.pointer (some ⟨b, 0, none⟩), .agg (nodA c)] w (AddRes w b (x.add c)) := by
  have hlt := (Array.getElem?_eq_some_iff.1 hb).1
  have hal := below_al w (Obj.cells (nodA c) 65)
  have hq := heap_alloc_new w (Obj.cells (nodA c) 65)
  have hb1 := (hal.block b hlt).trans hb
  have HA1 : Hid (Alters (fun k => k = b) (fun k => k = b) w (w.alloc (Obj.cells (nodA c) 65))) := .of_below hal
  clear hb hal
  go_enter Try.func72, Try.ntmps72
  unfold nodA
  go_upto_region 1 with fail
  rw [show #[Value.int .i64 c.key, .int .i64 c.val, .int .u32 (c.left : Int), .int .u32 (c.right : Int), .int .i64 c.size, .int .i64 c.sum, .int .i64 c.mn, .int .i64 c.mx] = nodA c from rfl]
  generalize w.alloc (Obj.cells (nodA c) 65) = w1 at hq hb1 HA1 ⊢
  obtain ⟨q, hqq⟩ : ∃ q, w.heap.size = q := ⟨_, rfl⟩
  rw [hqq] at hq hlt ⊢
  have HQQ := Lib.hid hqq
  have n1 : ¬ b = q := by omega
  have n2 : ¬ q = b := by omega
  clear hlt hqq
  have HQ := Lib.hid hq
  have HB := Lib.hid hb1
  unfold nodA at hq hb1
  obtain ⟨q0, q1, q2, q3, q4, q5, q6, q7⟩ := row8n hq
  obtain ⟨b0, b1, b2, b3, b4, b5, b6, b7⟩ := row8n hb1
  have f4 := frozen_of_row w1 b 4 _ _ hb1
  have f5 := frozen_of_row w1 b 5 _ _ hb1
  have f6 := frozen_of_row w1 b 6 _ _ hb1
  have f7 := frozen_of_row w1 b 7 _ _ hb1
  clear hq hb1
  by_cases hz : c.size = 0
  · have HZ := Lib.hid hz
    have hz2 : (c.size == 0) = true := by rw [hz]; rfl
    clear hz
    go_wp2_with fail
    refine bodyPost_ret (results_none rfl _ _ _) rfl ?_
    exact ⟨⟨_, rfl⟩, by unfold Nd.add; rw [if_pos HZ.out]; exact HB.out, HA1.out⟩
  · have HZ := Lib.hid hz
    have hz2 : (c.size == 0) = false := by simpa using hz
    clear hz
    go_upto_region 2 with fail
    go_region
    go_upto_region 3 with fail
    go_region
    have hmin := min_run x.mn c.mn
    have hmax := max_run x.mx c.mx
    go_upto_region 4 with fail
    go_region
    go_upto_region 5 with fail
    go_region
    go_wp2_with fail
    go_end0
    have e : ∀ W : World, W.drew.drew.drew.drew.heap[b]? = W.heap[b]? := fun _ => rfl
    refine ⟨⟨_, rfl⟩, ?_, alt_drew4 (alt_set1 (alt_set1 (alt_set1 (alt_set1 HA1.out rfl) rfl) rfl) rfl)⟩
    rw [e, row_set1 (row_set1 (row_set1 (row_set1 HB.out 4 _) 5 _) 6 _) 7 _]
    unfold Nd.add
    rw [if_neg HZ.out, show IntKind.i64.wrap (x.sum + c.sum) = wrap64 (x.sum + c.sum) from IntWalk.i64_left _]
    rfl
end Go.Proofs.Ytehaffcjoafkcaa
set_option linter.unusedVariables false
namespace Go.Proofs.Ytehaffcjoafkcaa
/-- how often each slot is held -/
def hof (l : List Nat) (i : Nat) : Nat := if i = 0 then 0 else l.count i
theorem hof_zero (l : List Nat) : hof (l ++ [0]) = hof l := by
  funext i
  unfold hof
  split
  · rfl
  · rename_i h
    rw [List.count_append]
    have : List.count i [0] = 0 := by rw [List.count_eq_zero]; simp; exact h
    omega
theorem hof_more (l : List Nat) {i : Nat} (hi : i ≠ 0) : hof (l ++ [i]) = more (hof l) i := by
  funext j
  show (if j = 0 then 0 else (l ++ [i]).count j) = (if j = i then (if i = 0 then 0 else l.count i) + 1 else (if j = 0 then 0 else l.count j))
  by_cases h : j = 0
  · subst h; rw [if_pos rfl, if_neg (fun e => hi e.symm), if_pos rfl]
  · rw [if_neg h, List.count_append]
    by_cases e : j = i
    · subst e; rw [if_pos rfl, if_neg h]; simp
    · rw [if_neg e, if_neg h]
      have : List.count j [i] = 0 := by rw [List.count_eq_zero]; simp; exact e
      omega
theorem count_erase {l : List Nat} {k : Nat} (h : k < l.length) (j : Nat) : l.count j = (l.take k ++ l.drop (k + 1)).count j + if l.getD k 0 = j then 1 else 0 := by
  have e : l = l.take k ++ l.getD k 0 :: l.drop (k + 1) := by
    rw [List.getD_eq_getElem?_getD, List.getElem?_eq_getElem h]
    simp
  have e2 : l.count j = (l.take k ++ l.getD k 0 :: l.drop (k + 1)).count j := congrArg (List.count j) e
  rw [e2, List.count_append, List.count_append, List.count_cons]
  by_cases e3 : l.getD k 0 = j
  · rw [if_pos e3, if_pos (by simpa using e3)]; omega
  · rw [if_neg e3, if_neg (by simpa using e3)]; omega
theorem hof_erase0 {l : List Nat} {k : Nat} (h : k < l.length) (h0 : l.getD k 0 = 0) : hof (l.take k ++ l.drop (k + 1)) = hof l := by
  funext j
  unfold hof
  split
  · rfl
  · rename_i hj
    rw [count_erase h j, h0, if_neg (fun e => hj e.symm)]
    rfl
theorem hof_erase {l : List Nat} {k i : Nat} (h : k < l.length) (hi : l.getD k 0 = i) (h0 : i ≠ 0) : hof (l.take k ++ l.drop (k + 1)) = less (hof l) i := by
  funext j
  show (if j = 0 then 0 else (l.take k ++ l.drop (k + 1)).count j) = (if j = i then (if i = 0 then 0 else l.count i) - 1 else (if j = 0 then 0 else l.count j))
  have hc := count_erase h j
  rw [hi] at hc
  by_cases hj : j = 0
  · subst hj; rw [if_pos rfl, if_neg (fun e => h0 e.symm), if_pos rfl]
  · rw [if_neg hj]
    by_cases e : j = i
    · subst e; rw [if_pos rfl] at hc; rw [if_pos rfl, if_neg hj]; omega
    · rw [if_neg (fun e2 => e e2.symm)] at hc; rw [if_neg e, if_neg hj]; omega
theorem hof_pos {l : List Nat} {i : Nat} (h : i ∈ l) (h0 : i ≠ 0) : 0 < hof l i := by
  unfold hof
  rw [if_neg h0]
  exact List.count_pos_iff.2 h
theorem edge_le (A : Ar) (k i : Nat) : A.edge k i ≤ 2 := by
  unfold Ar.edge hit
  split
  · split <;> split <;> omega
  · omega
theorem refs_le (A : Ar) (i : Nat) : A.refs i ≤ 2 * A.σ.cap := by
  unfold Ar.refs
  have key : ∀ l : List Nat, (l.map fun k => A.edge k i).sum ≤ 2 * l.length := fun l => by
    induction l with
    | nil => simp
    | cons a t ih => rw [List.map_cons, List.sum_cons, List.length_cons]; have := edge_le A a i; omega
  have := key (List.range' 1 A.σ.cap)
  rwa [List.length_range'] at this
/-- where nothing is held, nothing is allocated -/
theorem none_held {A : Ar} (h : A.Inv [] (fun _ => 0)) (ha : A.Agg) (k : Nat) : A.σ.on k = false := by
  cases hk : A.σ.on k with
  | false => rfl
  | true =>
    have h1 := Ar.reach_all h ha 2147483648 k hk (by have := (ha.size k hk).1; omega)
    have key : ∀ k, A.Reach (fun _ => 0) k → False := fun k hr => by
      induction hr with
      | root i hi => omega
      | left k _ _ ih => exact ih
      | right k _ _ ih => exact ih
    exact (key k h1).elim
theorem all_free {σ : St} (h : σ.Ok) (ho : ∀ k, σ.on k = false) : σ.free.length = σ.cap := by
  have h1 : σ.free.Perm (List.range' 1 σ.cap) := (List.perm_ext_iff_of_nodup h.nodup List.nodup_range').2 fun i => by
    rw [h.free i, List.mem_range'_1, ho i]
    simp
    omega
  rw [h1.length_eq, List.length_range']
end Go.Proofs.Ytehaffcjoafkcaa
set_option linter.unusedVariables false
namespace Go.Proofs.Ytehaffcjoafkcaa
open Go.RowKit
def Nd.base (key val : Int) (l r : Nat) : Nd := ⟨key, val, l, r, 1, val, val, val⟩
theorem add_node {A : Ar} (hok : A.σ.Ok) (ha : A.Agg) (hoff : ∀ i, A.σ.on i = false → A.nd i = Nd.zero) {key val : Int} {l r : Nat} (hl : A.Idx l) (hr : A.Idx r) (hv1 : -9223372036854775808 ≤ val) (hv2 : val ≤ 9223372036854775807) :
    ((Nd.base key val l r).add (A.nd l)).add (A.nd r) = A.node key val l r := by
  have h0 : A.nd 0 = Nd.zero := hoff 0 (by cases hq : A.σ.on 0 with | false => rfl | true => have := hok.on 0 hq; omega)
  have hsz : ∀ i, A.Idx i → (i = 0 ∧ (A.nd i).size = 0 ∧ A.nd i = Nd.zero) ∨ (i ≠ 0 ∧ (A.nd i).size ≠ 0) := fun i hi => by
    by_cases e : i = 0
    · subst e; exact .inl ⟨rfl, by rw [h0]; rfl, h0⟩
    · rcases hi with h1 | h1
      · exact absurd h1 e
      · have := (ha.size i h1).1; exact .inr ⟨e, by omega⟩
  have hw : IntKind.i64.wrap val = val := by rw [IntKind.wrap_i64]; omega
  unfold Ar.node Ar.sz Ar.sm Ar.low Ar.high Nd.add Nd.base
  rcases hsz l hl with ⟨rfl, e1, e2⟩ | ⟨e1, e2⟩ <;> rcases hsz r hr with ⟨rfl, e3, e4⟩ | ⟨e3, e4⟩
  · simp [e1, hw]
  · simp [e1, e3, e4, hw]
  · simp [e3, e1, e2]
    rw [IntKind.wrap_i64, IntKind.wrap_i64]; omega
  · simp [e1, e2, e3, e4]
theorem add_size (x c : Nd) : (x.add c).size = x.size + c.size := by
  unfold Nd.add
  split
  · omega
  · rfl
theorem node_sizes {A : Ar} (ha : A.Agg) (hoff : ∀ i, A.σ.on i = false → A.nd i = Nd.zero) (i : Nat) : 0 ≤ (A.nd i).size ∧ (A.nd i).size ≤ 2147483647 := by
  cases ho : A.σ.on i with
  | true => have := ha.size i ho; omega
  | false => rw [hoff i ho]; exact ⟨Int.le_refl 0, by decide⟩
theorem row8v {w : World} {b : Nat} {t : TypeId} {x : Nd} (h : w.heap[b]? = some (.cells (nodA x) t (0, 0))) :
    w.cell? ⟨b, 0, none⟩ = some (.int .i64 x.key) ∧ w.cell? ⟨b, 1, none⟩ = some (.int .i64 x.val) ∧ w.cell? ⟨b, 2, none⟩ = some (.int .u32 (x.left : Int)) ∧ w.cell? ⟨b, 3, none⟩ = some (.int .u32 (x.right : Int)) ∧ w.cell? ⟨b, 4, none⟩ = some (.int .i64 x.size) ∧ w.cell? ⟨b, 5, none⟩ = some (.int .i64 x.sum) ∧ w.cell? ⟨b, 6, none⟩ = some (.int .i64 x.mn) ∧ w.cell? ⟨b, 7, none⟩ = some (.int .i64 x.mx) := row8n h
section
variable {I : Impl} {w w' : World} {ab : Nat} {sp : Addr} {A A' : Ar} {rd : Int} {ca : Option Addr} {cc g : Nat} {Fs Fs' : Nat → Prop}
def AsmRes (w : World) (A : Ar) (key val : Int) (l r : Nat) (e : Ending) (w' : World) : Prop :=
  ((A.Idx l ∧ A.Idx r ∧ (A.node key val l r).size ≤ 2147483647) ∧ e = .returned (.tuple #[.agg (nodA (A.node key val l r)), .bool true]) ∨ ¬ (A.Idx l ∧ A.Idx r ∧ (A.node key val l r).size ≤ 2147483647) ∧ e = .returned (.tuple #[.agg (nodA Nd.zero), .bool false])) ∧ Below w.heap.size w w'
theorem idx_true {A : Ar} {i : Nat} (h : (decide (i = 0) || A.σ.on i) = true) : A.Idx i := by
  simp at h
  exact h
theorem idx_false {A : Ar} {i : Nat} (h : (decide (i = 0) || A.σ.on i) = false) : ¬ A.Idx i := by
  simp at h
  rintro (e | e)
  · exact h.1 e
  · rw [h.2] at e; cases e
theorem trans_of' {w a b : World} (h : Below w.heap.size w a) (hb : Below a.heap.size a b) : Below w.heap.size w b := h.trans (hb.mono h.size)
theorem below_blk {w w' : World} {p : Nat} (h : Below p w w') (hp : w.heap.size = p) : Below w.heap.size w w' := by rw [hp]; exact h
theorem keep_blk {w w' : World} {b : Nat} {o : Obj} (h : w.heap[b]? = some o) (hb : Below w.heap.size w w') : w'.heap[b]? = some o := (hb.block b (Array.getElem?_eq_some_iff.1 h).1).trans h
set_option maxHeartbeats 4000000 in
set_option maxRecDepth 100000 in
theorem a_assemble (h : LieA I w ab sp A rd (some ⟨g, 0, none⟩) cc Fs) (ha : A.Agg) (key val : Int) (l r : Nat) (hl : l < 4294967296) (hr : r < 4294967296) (hv1 : -9223372036854775808 ≤ val) (hv2 : val ≤ 9223372036854775807) :
    Calls Try.prog 55 #[.pointer (some ⟨ab, 0, none⟩), .int .i64 key, .int .i64 val, .int .u32 (l : Int), .int .u32 (r : Int)] w (AsmRes w A key val l r) := by
  have HU : Hid _ := Lib.hid Try.underlying65
  have HIN := Lib.hid nodInfo
  have hb1 := below_al w (Obj.cells (nodA Nd.zero) 65)
  have HP := Lib.hid (heap_alloc_new w (Obj.cells (nodA Nd.zero) 65))
  have HB1 := Lib.hid hb1
  have H2 := Lib.hid (h.below hb1)
  have HOK := Lib.hid h.ok
  have hoff : ∀ i, A.σ.on i = false → A.nd i = Nd.zero := fun i hi => (h.off i hi).2
  have HADD : Hid (A.Idx l → A.Idx r → ((Nd.base key val l r).add (A.nd l)).add (A.nd r) = A.node key val l r) := fun h1 h2 => add_node h.ok ha hoff h1 h2 hv1 hv2
  have HSL := Lib.hid (node_sizes ha hoff l)
  have HSR := Lib.hid (node_sizes ha hoff r)
  clear h hb1 ha hoff
  go_enter Try.func55, Try.ntmps55
  go_upto_region 1 with fail
  rw [show #[Value.int .i64 0, .int .i64 0, .int .u32 0, .int .u32 0, .int .i64 0, .int .i64 0, .int .i64 0, .int .i64 0] = nodA Nd.zero from rfl]
  generalize w.alloc (Obj.cells (nodA Nd.zero) 65) = w1 at HP HB1 H2 ⊢
  obtain ⟨p, hp⟩ : ∃ p, w.heap.size = p := ⟨_, rfl⟩
  rw [hp] at HP HB1 ⊢
  have HPP := Lib.hid hp
  clear hp
  go_wp2_with fail
  refine (a_child H2.out l hl).mono ?_
  rintro e w2 ⟨rfl, hb2⟩
  have HP2 := Lib.hid (keep_blk HP.out hb2)
  have H3 := Lib.hid (H2.out.below hb2)
  have HBA := Lib.hid (trans_of' (below_blk HB1.out HPP.out) hb2)
  clear hb2
  obtain ⟨bl, hbl⟩ : ∃ bl, (decide (l = 0) || A.σ.on l) = bl := ⟨_, rfl⟩
  rw [hbl]
  have HBL := Lib.hid hbl
  clear hbl
  have hal3 := below_al w2 (Obj.cells (nodA (A.nd l)) 65)
  have hx3 := heap_alloc_new w2 (Obj.cells (nodA (A.nd l)) 65)
  have H4 := Lib.hid (H3.out.below hal3)
  have HP3 := Lib.hid (keep_blk HP2.out hal3)
  have HBB := Lib.hid (trans_of' HBA.out hal3)
  have HX3 := Lib.hid hx3
  clear hal3 hx3
  unfold nodA
  go_upto_region 2 with fail
  unfold nodA at HX3 H4 HP3 HBB
  generalize w2.alloc _ = w3 at HX3 H4 HP3 HBB ⊢
  obtain ⟨q, hq⟩ : ∃ q, w2.heap.size = q := ⟨_, rfl⟩
  rw [hq] at HX3 ⊢
  have HQ := Lib.hid hq
  clear hq
  go_wp2_with fail
  refine (a_child H4.out r hr).mono ?_
  rintro e w4 ⟨rfl, hb4⟩
  have HP4 := Lib.hid (keep_blk HP3.out hb4)
  have HX4 := Lib.hid (keep_blk HX3.out hb4)
  have HBC := Lib.hid (trans_of' HBB.out hb4)
  clear hb4
  obtain ⟨br, hbr⟩ : ∃ br, (decide (r = 0) || A.σ.on r) = br := ⟨_, rfl⟩
  rw [hbr]
  have HBR := Lib.hid hbr
  clear hbr
  have hal5 := below_al w4 (Obj.cells (nodA (A.nd r)) 65)
  have hx5 := heap_alloc_new w4 (Obj.cells (nodA (A.nd r)) 65)
  have HP5 := Lib.hid (keep_blk HP4.out hal5)
  have HY5 := Lib.hid (keep_blk HX4.out hal5)
  have HBD := Lib.hid (trans_of' HBC.out hal5)
  have HX5 := Lib.hid hx5
  clear hal5 hx5
  unfold nodA
  go_upto_region 3 with fail
  unfold nodA at HX5 HP5 HY5 HBD
  generalize w4.alloc _ = w5 at HX5 HP5 HY5 HBD ⊢
  obtain ⟨q2, hq2⟩ : ∃ q2, w4.heap.size = q2 := ⟨_, rfl⟩
  rw [hq2] at HX5 ⊢
  have HQ2 := Lib.hid hq2
  clear hq2
  have HSZ : Hid (A.Idx l → A.Idx r → (A.node key val l r).size = 1 + (A.nd l).size + (A.nd r).size) := fun h1 h2 => by
    rw [← HADD.out h1 h2, add_size, add_size]; rfl
  cases bl with
  | false =>
    go_wp2_with (refine wpList_store_row rfl 65 (.tmp 10) (.tmp 43) rfl p (nodA Nd.zero) rfl rfl 65 _ HP5.out HIN.out rfl (nod_ones _) ?_)
    refine bodyPost_ret (results_row_tmp rfl _ _ p 65 (nodA Nd.zero) (0, 0) _ rfl (setRow_heap _ _ _ _ _ _ HP5.out) HU.out rfl HIN.out) rfl ?_
    have hpp := HPP.out
    exact ⟨.inr ⟨fun h => idx_false HBL.out h.1, rfl⟩, below_row HBD.out (by omega)⟩
  | true =>
    cases br with
    | false =>
      go_wp2_with (refine wpList_store_row rfl 65 (.tmp 10) (.tmp 43) rfl p (nodA Nd.zero) rfl rfl 65 _ HP5.out HIN.out rfl (nod_ones _) ?_)
      refine bodyPost_ret (results_row_tmp rfl _ _ p 65 (nodA Nd.zero) (0, 0) _ rfl (setRow_heap _ _ _ _ _ _ HP5.out) HU.out rfl HIN.out) rfl ?_
      have hpp := HPP.out
      exact ⟨.inr ⟨fun h => idx_false HBR.out h.2.1, rfl⟩, below_row HBD.out (by omega)⟩
    | true =>
      obtain ⟨_, _, _, _, y4, _⟩ := row8v (x := A.nd l) HY5.out
      obtain ⟨_, _, _, _, z4, _⟩ := row8v (x := A.nd r) HX5.out
      obtain ⟨sl0, sl1⟩ := HSL.out
      obtain ⟨sr0, sr1⟩ := HSR.out
      by_cases hs : (A.nd l).size + (A.nd r).size ≤ 2147483646
      · have HS := Lib.hid hs
        have hg : decide (2147483646 - (A.nd r).size < (A.nd l).size) = false := decide_eq_false (by omega)
        clear hs
        go_upto_region 6 with fail
        have hal6 := below_al w5 (Obj.cells (nodA (Nd.base key val l r)) 65)
        have hx6 := heap_alloc_new w5 (Obj.cells (nodA (Nd.base key val l r)) 65)
        have HP6 := Lib.hid (keep_blk HP5.out hal6)
        have HY6 := Lib.hid (keep_blk HY5.out hal6)
        have HX6 := Lib.hid (keep_blk HX5.out hal6)
        have HBE := Lib.hid (trans_of' HBD.out hal6)
        have HZ6 := Lib.hid hx6
        have n1 : Hid (p < w5.heap.size ∧ q < w5.heap.size ∧ q2 < w5.heap.size) := ⟨(Array.getElem?_eq_some_iff.1 HP5.out).1, (Array.getElem?_eq_some_iff.1 HY5.out).1, (Array.getElem?_eq_some_iff.1 HX5.out).1⟩
        clear hal6 hx6 y4 z4
        rw [show #[Value.int .i64 key, .int .i64 val, .int .u32 (l : Int), .int .u32 (r : Int), .int .i64 1, .int .i64 val, .int .i64 val, .int .i64 val] = nodA (Nd.base key val l r) from rfl]
        generalize w5.alloc (Obj.cells (nodA (Nd.base key val l r)) 65) = w6 at HP6 HY6 HX6 HBE HZ6 ⊢
        obtain ⟨q3, hq3⟩ : ∃ q3, w5.heap.size = q3 := ⟨_, rfl⟩
        rw [hq3] at HZ6 n1 ⊢
        have HQ3 := Lib.hid hq3
        clear hq3
        obtain ⟨y0, y1, y2, y3, y4, y5, y6, y7⟩ := row8v (x := A.nd l) HY6.out
        go_wp2_with fail
        refine (a_addAgg _ q3 (Nd.base key val l r) (A.nd l) HZ6.out (show (0 : Int) ≤ 1 by decide) (show (1 : Int) ≤ 2147483647 by decide) sl0 sl1).mono ?_
        rintro e w7 ⟨⟨v7, rfl⟩, hZ7, ha7⟩
        have hk7 : ∀ b, b < q3 → b < w6.heap.size → w7.heap[b]? = w6.heap[b]? := fun b hb hb2 => ha7.block b hb2 (by omega)
        have HZ7 := Lib.hid hZ7
        have n6 : Hid (p < w6.heap.size ∧ q2 < w6.heap.size) := ⟨(Array.getElem?_eq_some_iff.1 HP6.out).1, (Array.getElem?_eq_some_iff.1 HX6.out).1⟩
        have HP7 := Lib.hid ((hk7 p n1.out.1 n6.out.1).trans HP6.out)
        have HX7 := Lib.hid ((hk7 q2 n1.out.2.2 n6.out.2).trans HX6.out)
        have HBF : Hid (Below p w w7) := by
          have h9 := HBE.out
          rw [HPP.out] at h9
          exact ha7.below h9 (by have := h9.size; rw [HPP.out] at this; exact this) (fun k hk => by have := n1.out.1; omega)
        clear ha7 hk7 y0 y1 y2 y3 y4 y5 y6 y7 hZ7
        obtain ⟨z0, z1, z2, z3, z4, z5, z6, z7⟩ := row8v (x := A.nd r) HX7.out
        go_wp2_with fail
        have hsz1 := add_size (Nd.base key val l r) (A.nd l)
        have hb1 : (Nd.base key val l r).size = 1 := rfl
        refine (a_addAgg _ q3 ((Nd.base key val l r).add (A.nd l)) (A.nd r) HZ7.out (by omega) (by have := HS.out; omega) sr0 sr1).mono ?_
        rintro e w8 ⟨⟨v8, rfl⟩, hZ8, ha8⟩
        have n7 : Hid (p < w7.heap.size) := (Array.getElem?_eq_some_iff.1 HP7.out).1
        have HP8 := Lib.hid ((ha8.block p n7.out (by have := n1.out.1; omega)).trans HP7.out)
        have HBG : Hid (Below p w w8) := by
          have h9 := HBF.out
          exact ha8.below h9 (by have := h9.size; rw [HPP.out] at this; exact this) (fun k hk => by have := n1.out.1; omega)
        have HID := Lib.hid (idx_true HBL.out)
        have HIE := Lib.hid (idx_true HBR.out)
        rw [HADD.out HID.out HIE.out] at hZ8
        have HZ8 := Lib.hid hZ8
        clear ha8 hZ8 z0 z1 z2 z3 z4 z5 z6 z7 hsz1 hb1
        obtain ⟨z0, z1, z2, z3, z4, z5, z6, z7⟩ := row8v HZ8.out
        go_wp2_with (refine wpList_store_row rfl 65 (.tmp 10) (.tmp 56) rfl p (nodA (A.node key val l r)) rfl rfl 65 _ HP8.out HIN.out rfl (nod_ones _) ?_)
        refine bodyPost_ret (results_row_tmp rfl _ _ p 65 (nodA (A.node key val l r)) (0, 0) _ rfl (setRow_heap _ _ _ _ _ _ HP8.out) HU.out rfl HIN.out) rfl ?_
        have hpp := HPP.out
        exact ⟨.inl ⟨⟨HID.out, HIE.out, by rw [HSZ.out HID.out HIE.out]; have := HS.out; omega⟩, rfl⟩, below_row (by rw [hpp]; exact HBG.out) (by omega)⟩
      · have HS := Lib.hid hs
        have hg : 2147483646 - (A.nd r).size < (A.nd l).size := by omega
        clear hs
        go_wp2_with (refine wpList_store_row rfl 65 (.tmp 10) (.tmp 43) rfl p (nodA Nd.zero) rfl rfl 65 _ HP5.out HIN.out rfl (nod_ones _) ?_)
        refine bodyPost_ret (results_row_tmp rfl _ _ p 65 (nodA Nd.zero) (0, 0) _ rfl (setRow_heap _ _ _ _ _ _ HP5.out) HU.out rfl HIN.out) rfl ?_
        have hpp := HPP.out
        exact ⟨.inr ⟨fun h => by have h1 := HSZ.out h.1 h.2.1; have h2 := h.2.2; have h3 := HS.out; omega, rfl⟩, below_row HBD.out (by omega)⟩
end
end Go.Proofs.Ytehaffcjoafkcaa
set_option linter.unusedVariables false
namespace Go.Proofs.Ytehaffcjoafkcaa
open Go.RowKit
/-- slot i is taken, with a node and one reference -/
def Ar.took (A : Ar) (i : Nat) (t : List Nat) (x : Nd) : Ar := ⟨A.σ.take i t, fun j => if j = i then x else A.nd j, fun j => if j = i then 1 else A.cnt j⟩
theorem cels_patch (A A' : Ar) {j : Nat} (hc : A'.σ.cap = A.σ.cap) (hj : j < A.σ.cap) (hn : ∀ i, i ≠ j + 1 → A'.nd i = A.nd i) (hcn : ∀ i, i ≠ j + 1 → A'.cnt i = A.cnt i) : patch (celsV A) (j * 9) (celV A' (j + 1)) = celsV A' := by
  refine cels_ext (by rw [patch_len, cels_len, hc]) fun i k hi hk => ?_
  rw [hc] at hi
  rw [patch_at, cel_len, cels_len]
  by_cases e : i = j
  · subst e
    rw [if_pos (by omega), show i * 9 + k - i * 9 = k by omega]
  · rw [if_neg (by omega), cels_at A hi hk]
    unfold celV
    rw [hn (i + 1) (by omega), hcn (i + 1) (by omega)]
theorem ret_σ (A : Ar) (l : Nat) : (A.ret l).σ = A.σ := by unfold Ar.ret; split <;> rfl
theorem ret_nd (A : Ar) (l : Nat) : (A.ret l).nd = A.nd := by unfold Ar.ret; split <;> rfl
theorem ret_cnt (A : Ar) (l m : Nat) : (A.ret l).cnt m = A.cnt m + (if l ≠ 0 ∧ m = l then 1 else 0) := by
  unfold Ar.ret Ar.inc
  by_cases h : l = 0
  · subst h; simp
  · rw [if_neg h]
    show (if m = l then A.cnt l + 1 else A.cnt m) = _
    by_cases e : m = l
    · subst e; simp [h]
    · simp [e]
theorem ar_ext {A B : Ar} (h1 : A.σ = B.σ) (h2 : A.nd = B.nd) (h3 : ∀ m, A.cnt m = B.cnt m) : A = B := by
  cases A; cases B
  have h4 := funext h3
  simp only at h1 h2 h4
  subst h1 h2 h4
  rfl
theorem made_took (A : Ar) {i l r : Nat} (t : List Nat) (key val : Int) (hl : l ≠ i) (hr : r ≠ i) (hi : i ≠ 0) : ((A.took i t (A.node key val l r)).ret l).ret r = A.made i t (A.node key val l r) := by
  refine ar_ext (by rw [ret_σ, ret_σ]; rfl) (by rw [ret_nd, ret_nd]; rfl) fun m => ?_
  rw [ret_cnt, ret_cnt]
  show (if m = i then (1 : Int) else A.cnt m) + _ + _ = if m = i then 1 else if m = 0 then A.cnt 0 else A.cnt m + (hit l m : Int) + (hit r m : Int)
  unfold hit
  by_cases e : m = i
  · subst e
    rw [if_pos rfl, if_pos rfl, if_neg (fun h => hl h.2.symm), if_neg (fun h => hr h.2.symm)]; rfl
  · rw [if_neg e, if_neg e]
    by_cases e0 : m = 0
    · subst e0
      rw [if_pos rfl, if_neg (fun h => h.1 h.2.symm), if_neg (fun h => h.1 h.2.symm)]; omega
    · rw [if_neg e0]
      have k1 : (if l ≠ 0 ∧ m = l then (1 : Int) else 0) = ((if l = m then 1 else 0 : Nat) : Int) := by
        by_cases e1 : l = m
        · subst e1; simp [e0]
        · simp [e1]; exact fun _ h => e1 h.symm
      have k2 : (if r ≠ 0 ∧ m = r then (1 : Int) else 0) = ((if r = m then 1 else 0 : Nat) : Int) := by
        by_cases e1 : r = m
        · subst e1; simp [e0]
        · simp [e1]; exact fun _ h => e1 h.symm
      rw [k1, k2]
theorem cnt_le {A : Ar} {held : Nat → Nat} (h : A.Inv [] held) (hm : ∀ j, held j ≤ 1048576) {i : Nat} (hi : A.σ.on i = true) : 1 ≤ A.cnt i ∧ A.cnt i ≤ 1179648 := by
  have h1 := h.cnt i hi
  have h2 := refs_le A i
  have h3 := hm i
  have h4 := h.ok.cap2
  have h5 := h.pos i hi
  simp at h1
  omega
theorem sets9 (w : World) (g o : Nat) (v0 v1 v2 v3 v4 v5 v6 v7 v8 : Value) : ((((((((w.setCell ⟨g, o, none⟩ v0).setCell ⟨g, o + 1, none⟩ v1).setCell ⟨g, o + 2, none⟩ v2).setCell ⟨g, o + 3, none⟩ v3).setCell ⟨g, o + 4, none⟩ v4).setCell ⟨g, o + 5, none⟩ v5).setCell ⟨g, o + 6, none⟩ v6).setCell ⟨g, o + 7, none⟩ v7).setCell ⟨g, o + 8, none⟩ v8 = w.setCells g o [v0, v1, v2, v3, v4, v5, v6, v7, v8] := rfl
section
variable {I : Impl} {w w' : World} {ab : Nat} {sp : Addr} {A A' : Ar} {rd : Int} {ca : Option Addr} {cc g : Nat} {Fs Fs' : Nat → Prop}
def ARef (I : Impl) (w : World) (ab : Nat) (sp : Addr) (A : Ar) (rd : Int) (g cc : Nat) (Fs : Nat → Prop) (e : Ending) (w' : World) : Prop :=
  (∃ v, e = .returned v) ∧ LieA I w' ab sp A rd (some ⟨g, 0, none⟩) cc Fs ∧ Alters (FootA ab (some ⟨g, 0, none⟩) Fs) (FootA ab (some ⟨g, 0, none⟩) Fs) w w'
theorem a_addRefI (h : LieA I w ab sp A rd (some ⟨g, 0, none⟩) cc Fs) (i : Nat) (hi : A.Idx i) (hc : A.σ.on i = true → A.cnt i < 4611686018427387904) :
    Calls Try.prog 37 #[.pointer (some ⟨ab, 0, none⟩), .int .u32 (i : Int)] w (ARef I w ab sp (A.ret i) rd g cc Fs) := by
  by_cases h0 : i = 0
  · subst h0
    have ho : A.σ.on 0 = false := by
      cases hq : A.σ.on 0 with
      | false => rfl
      | true => have := h.ok.on 0 hq; omega
    refine (a_addRef_off h 0 (by omega) ho).mono fun e w1 ⟨h1, hb⟩ => ⟨h1, ?_, .of_below hb⟩
    unfold Ar.ret
    rw [if_pos rfl]
    exact h.below hb
  · have hon : A.σ.on i = true := by rcases hi with e | e; exact absurd e h0; exact e
    have hle := h.ok.on i hon
    obtain ⟨j, rfl⟩ : ∃ j, i = j + 1 := ⟨i - 1, by omega⟩
    refine (a_addRef h j hon (hc hon)).mono fun e w1 ⟨h1, h2, h3⟩ => ⟨h1, ?_, h3⟩
    unfold Ar.ret
    rw [if_neg h0]
    exact h2
def AMake (I : Impl) (w : World) (ab : Nat) (sp : Addr) (A : Ar) (rd : Int) (g cc : Nat) (Fs : Nat → Prop) (key val : Int) (l r : Nat) (e : Ending) (w' : World) : Prop :=
  ∃ Fs', Alters (FootA ab (some ⟨g, 0, none⟩) Fs) (FootA ab (some ⟨g, 0, none⟩) Fs') w w' ∧
    (¬ (A.Idx l ∧ A.Idx r ∧ (A.node key val l r).size ≤ 2147483647) → e = .returned (.tuple #[.int .u32 0, .int .i64 1]) ∧ LieA I w' ab sp A rd (some ⟨g, 0, none⟩) cc Fs') ∧
    (A.Idx l ∧ A.Idx r ∧ (A.node key val l r).size ≤ 2147483647 → A.σ.free = [] → e = .returned (.tuple #[.int .u32 0, .int .i64 2]) ∧ LieA I w' ab sp A rd (some ⟨g, 0, none⟩) cc Fs') ∧
    (A.Idx l ∧ A.Idx r ∧ (A.node key val l r).size ≤ 2147483647 → ∀ i t, A.σ.free = i :: t → e = .returned (.tuple #[.int .u32 (i : Int), .int .i64 0]) ∧ LieA I w' ab sp (A.made i t (A.node key val l r)) rd (some ⟨g, 0, none⟩) cc Fs')
set_option maxHeartbeats 4000000 in
set_option maxRecDepth 100000 in
theorem a_make (h : LieA I w ab sp A rd (some ⟨g, 0, none⟩) cc Fs) (ha : A.Agg) (key val : Int) (l r : Nat) (hl : l < 4294967296) (hr : r < 4294967296) (hv1 : -9223372036854775808 ≤ val) (hv2 : val ≤ 9223372036854775807) (hcnt : ∀ i, A.σ.on i = true → 1 ≤ A.cnt i ∧ A.cnt i ≤ 1179648) :
    Calls Try.prog 33 #[.pointer (some ⟨ab, 0, none⟩), .int .i64 key, .int .i64 val, .int .u32 (l : Int), .int .u32 (r : Int)] w (AMake I w ab sp A rd g cc Fs key val l r) := by
  have HASM := Lib.hid (a_assemble h ha key val l r hl hr hv1 hv2)
  have HH := Lib.hid h
  have HCNT := Lib.hid hcnt
  clear h ha hcnt
  go_enter Try.func33, Try.ntmps33
  go_wp2_with fail
  refine HASM.out.mono ?_
  rintro e w1 ⟨hor, hb1⟩
  have HB1 := Lib.hid hb1
  have H1 := Lib.hid (HH.out.below hb1)
  clear HASM hb1
  rcases hor with ⟨hok, rfl⟩ | ⟨hno, rfl⟩
  · have HOK := Lib.hid hok
    clear hok
    have hal2 := below_al w1 (Obj.cells (nodA (A.node key val l r)) 65)
    have hx2 := heap_alloc_new w1 (Obj.cells (nodA (A.node key val l r)) 65)
    have H2 := Lib.hid (H1.out.below hal2)
    have HB2 := Lib.hid (trans_of' HB1.out hal2)
    have HX2 := Lib.hid hx2
    have HF1 : Hid (∀ k, Fs k → k < w1.heap.size) := I.dom H1.out.slots
    have HG1 : Hid (g < w1.heap.size) := H1.out.raw.glt
    clear hal2 hx2
    unfold nodA
    go_upto_region 4 with fail
    unfold nodA at HX2 H2 HB2
    generalize w1.alloc _ = w2 at HX2 H2 HB2 ⊢
    obtain ⟨p, hp⟩ : ∃ p, w1.heap.size = p := ⟨_, rfl⟩
    rw [hp] at HX2 HF1 HG1 ⊢
    clear hp
    obtain ⟨c0, c1, c2⟩ := H2.out.cells
    go_wp2_with fail
    refine (I.alloc _ _ _ _ H2.out.slots).mono ?_
    rintro e w3 ⟨Fs', ha3, hfull, htake⟩
    have HX3 := Lib.hid ((ha3.block p (Array.getElem?_eq_some_iff.1 HX2.out).1 (fun hf => by have := HF1.out p hf; omega)).trans HX2.out)
    clear c0 c1 c2
    rcases (show A.σ.free = [] ∨ ∃ i t, A.σ.free = i :: t by cases A.σ.free with | nil => exact .inl rfl | cons i t => exact .inr ⟨i, t, rfl⟩) with hf | ⟨i, t, hf⟩
    · obtain ⟨rfl, h3⟩ := hfull hf
      obtain ⟨h4, ha4⟩ := H2.out.raw.step ha3 h3 rfl
      have H4 := Lib.hid (h4.lie rfl rfl H2.out.off H2.out.fit)
      have HA4 := Lib.hid ((Alters.of_below HB2.out).trans ha4)
      have HF := Lib.hid hf
      clear hfull htake ha3 h3 h4 ha4 hf
      go_wp2_with fail
      go_ret2
      exact ⟨Fs', HA4.out, fun h => absurd HOK.out h, fun _ _ => ⟨rfl, H4.out⟩, fun _ i t h => by rw [HF.out] at h; cases h⟩
    · obtain ⟨rfl, h3⟩ := htake i t hf
      have him := (H2.out.ok.free i).1 (by rw [hf]; simp)
      have hcap := H2.out.ok.cap2
      obtain ⟨j, rfl⟩ : ∃ j, i = j + 1 := ⟨i - 1, by omega⟩
      obtain ⟨h4, ha4⟩ := H2.out.raw.step ha3 h3 rfl
      have H4 := Lib.hid h4
      have HA4 := Lib.hid ((Alters.of_below HB2.out).trans ha4)
      have HF := Lib.hid hf
      have HIM := Lib.hid him
      have hji : (j : Int) < (A.σ.cap : Int) := by omega
      have hj0 : (0 : Int) ≤ (j : Int) := by omega
      have hj4 : (j : Int) + 1 < 4294967296 := by omega
      have hjc : j < A.σ.cap := by omega
      have hce : (A.σ.take (j + 1) t).cap = A.σ.cap := rfl
      obtain ⟨c0, c1, c2⟩ := h4.cells
      rw [hce] at c1
      obtain ⟨x0, x1, x2, x3, x4, x5, x6, x7⟩ := row8v (x := A.node key val l r) HX3.out
      have hn1 : ¬ g = p := by have := HG1.out; omega
      have hn2 : ¬ p = g := by have := HG1.out; omega
      have hcel : ∀ k, k < 9 → ∃ v, w3.cell? ⟨g, j * 9 + k, none⟩ = some v := fun k hk => by
        rw [h4.cels.cellAt (j * 9 + k) (by rw [hce]; omega), List.getElem?_eq_getElem (by rw [cels_len]; omega)]
        exact ⟨_, rfl⟩
      obtain ⟨u0, k0⟩ := hcel 0 (by decide)
      obtain ⟨u1, k1⟩ := hcel 1 (by decide)
      obtain ⟨u2, k2⟩ := hcel 2 (by decide)
      obtain ⟨u3, k3⟩ := hcel 3 (by decide)
      obtain ⟨u4, k4⟩ := hcel 4 (by decide)
      obtain ⟨u5, k5⟩ := hcel 5 (by decide)
      obtain ⟨u6, k6⟩ := hcel 6 (by decide)
      obtain ⟨u7, k7⟩ := hcel 7 (by decide)
      obtain ⟨u8, k8⟩ := hcel 8 (by decide)
      rw [Nat.add_zero] at k0
      have f0 := h4.cels.frozenAt (j * 9)
      have f1 := h4.cels.frozenAt (j * 9 + 1)
      have f2 := h4.cels.frozenAt (j * 9 + 2)
      have f3 := h4.cels.frozenAt (j * 9 + 3)
      have f4 := h4.cels.frozenAt (j * 9 + 4)
      have f5 := h4.cels.frozenAt (j * 9 + 5)
      have f6 := h4.cels.frozenAt (j * 9 + 6)
      have f7 := h4.cels.frozenAt (j * 9 + 7)
      have f8 := h4.cels.frozenAt (j * 9 + 8)
      clear hfull htake ha3 h3 h4 ha4 hf him hcap hcel hce hjc
      go_upto_region 7 with fail
      go_region
      rw [sets9]
      have hne : ∀ y, A.Idx y → y ≠ j + 1 := fun y hy e => by
        rcases hy with hy | hy
        · omega
        · rw [e, HIM.out.2.2] at hy; cases hy
      obtain ⟨h5, ha5⟩ := RawA.sets (ndV (A.node key val l r) ++ [.int .i64 1]) (j * 9) H4.out
      have hcv : celV (A.took (j + 1) t (A.node key val l r)) (j + 1) = ndV (A.node key val l r) ++ [.int .i64 1] := by
        unfold celV Ar.took
        show ndV (if j + 1 = j + 1 then _ else _) ++ [Value.int IntKind.i64 (if j + 1 = j + 1 then _ else _)] = _
        rw [if_pos rfl, if_pos rfl]
      have h6 := h5.lie (A := A.took (j + 1) t (A.node key val l r)) rfl (by
        rw [← hcv]
        exact cels_patch A _ rfl (by have := HIM.out; omega) (fun i hi => if_neg hi) (fun i hi => if_neg hi)) (fun i hi => by
          have hi' : (A.σ.take (j + 1) t).on i = false := hi
          have hne2 : i ≠ j + 1 := fun e => by rw [e, take_same] at hi'; cases hi'
          rw [take_other _ _ hne2] at hi'
          show (if i = j + 1 then (1 : Int) else A.cnt i) = 0 ∧ (if i = j + 1 then _ else A.nd i) = _
          rw [if_neg hne2, if_neg hne2]
          exact H2.out.off i hi') (fun i => by
          show 0 ≤ (if i = j + 1 then (1 : Int) else A.cnt i) ∧ (if i = j + 1 then (1 : Int) else A.cnt i) ≤ 9223372036854775807
          split
          · exact ⟨by decide, by decide⟩
          · exact H2.out.fit i)
      have hbd : Below (w3.setCells g (j * 9) (ndV (A.node key val l r) ++ [.int .i64 1])).heap.size (w3.setCells g (j * 9) (ndV (A.node key val l r) ++ [.int .i64 1])) (w3.setCells g (j * 9) (ndV (A.node key val l r) ++ [.int .i64 1])).drew := (Below.refl _ _).drew
      have H7 := Lib.hid (h6.below hbd)
      have HA7 := Lib.hid (HA4.out.trans (ha5.trans (.of_below hbd)))
      have HNE := Lib.hid hne
      have hid1 : ∀ y, A.Idx y → (A.took (j + 1) t (A.node key val l r)).Idx y := fun y hy => by
        rcases hy with e | e
        · exact .inl e
        · exact .inr (by show (A.σ.take (j + 1) t).on y = true; rw [take_other _ _ (HNE.out y (.inr e))]; exact e)
      have hbn1 : ∀ y, (A.took (j + 1) t (A.node key val l r)).σ.on y = true → 1 ≤ (A.took (j + 1) t (A.node key val l r)).cnt y ∧ (A.took (j + 1) t (A.node key val l r)).cnt y ≤ 1179648 := fun y hy => by
        show 1 ≤ (if y = j + 1 then (1 : Int) else A.cnt y) ∧ (if y = j + 1 then (1 : Int) else A.cnt y) ≤ 1179648
        split
        · exact ⟨Int.le_refl 1, by decide⟩
        · exact HCNT.out y (take_is hy (by assumption))
      have HID1 := Lib.hid hid1
      have HBN1 := Lib.hid hbn1
      rw [show [Value.int .i64 (A.node key val l r).key, .int .i64 (A.node key val l r).val, .int .u32 ((A.node key val l r).left : Int), .int .u32 ((A.node key val l r).right : Int), .int .i64 (A.node key val l r).size, .int .i64 (A.node key val l r).sum, .int .i64 (A.node key val l r).mn, .int .i64 (A.node key val l r).mx, .int .i64 1] = ndV (A.node key val l r) ++ [.int .i64 1] from rfl]
      clear h5 ha5 hcv h6 hbd hne hid1 hbn1 c0 c1 c2 x0 x1 x2 x3 x4 x5 x6 x7 k0 k1 k2 k3 k4 k5 k6 k7 k8 f0 f1 f2 f3 f4 f5 f6 f7 f8
      generalize (w3.setCells g (j * 9) (ndV (A.node key val l r) ++ [.int .i64 1])).drew = w5 at H7 HA7 ⊢
      go_wp2_with fail
      refine (a_addRefI H7.out l (HID1.out l HOK.out.1) (fun h => by have := HBN1.out l h; omega)).mono ?_
      rintro e w6 ⟨⟨v6, rfl⟩, h8, ha8⟩
      have H8 := Lib.hid h8
      have HA8 := Lib.hid (HA7.out.trans ha8)
      clear h8 ha8
      have hbn2 : ∀ y, ((A.took (j + 1) t (A.node key val l r)).ret l).σ.on y = true → 1 ≤ ((A.took (j + 1) t (A.node key val l r)).ret l).cnt y ∧ ((A.took (j + 1) t (A.node key val l r)).ret l).cnt y ≤ 1179649 := fun y hy => by
        rw [ret_σ] at hy
        have := HBN1.out y hy
        rw [ret_cnt]
        split <;> omega
      have HBN2 := Lib.hid hbn2
      clear hbn2
      go_wp2_with fail
      refine (a_addRefI H8.out r (by
        rcases HID1.out r HOK.out.2.1 with e | e
        · exact .inl e
        · exact .inr (by rw [ret_σ]; exact e)) (fun h => by have := HBN2.out r h; omega)).mono ?_
      rintro e w7 ⟨⟨v7, rfl⟩, h9, ha9⟩
      rw [made_took A t key val (HNE.out l HOK.out.1) (HNE.out r HOK.out.2.1) (by omega)] at h9
      have H9 := Lib.hid h9
      have HA9 := Lib.hid (HA8.out.trans ha9)
      clear h9 ha9
      go_wp2_with fail
      go_ret2
      refine ⟨Fs', HA9.out, fun h => absurd HOK.out h, fun _ h => (by rw [HF.out] at h; cases h), fun _ i' t' h => ?_⟩
      rw [HF.out] at h
      simp only [List.cons.injEq] at h
      obtain ⟨rfl, rfl⟩ := h
      exact ⟨rfl, H9.out⟩
  · have HNO := Lib.hid hno
    clear hno
    have hal2 := below_al w1 (Obj.cells (nodA Nd.zero) 65)
    have H2 := Lib.hid (H1.out.below hal2)
    have HB2 := Lib.hid (trans_of' HB1.out hal2)
    clear hal2
    unfold nodA
    go_wp2_with fail
    unfold nodA at H2 HB2
    go_ret2
    exact ⟨Fs, .of_below HB2.out, fun _ => ⟨rfl, H2.out⟩, fun h => absurd h HNO.out, fun h => absurd h HNO.out⟩
end
end Go.Proofs.Ytehaffcjoafkcaa
set_option linter.unusedVariables false
namespace Go.Proofs.Ytehaffcjoafkcaa
open Go.RowKit
section
variable {I : Impl} {w w' : World} {ab : Nat} {sp : Addr} {A A' : Ar} {rd : Int} {ca : Option Addr} {cc g : Nat} {Fs Fs' : Nat → Prop}
def ARem (I : Impl) (w : World) (ab : Nat) (sp : Addr) (A : Ar) (rd : Int) (g cc : Nat) (Fs : Nat → Prop) (i : Nat) (e : Ending) (w' : World) : Prop :=
  ∃ Fs', Alters (FootA ab (some ⟨g, 0, none⟩) Fs) (FootA ab (some ⟨g, 0, none⟩) Fs') w w' ∧
    (A.σ.on i = false → e = .returned (.tuple #[.agg (nodA Nd.zero), .bool false]) ∧ LieA I w' ab sp A rd (some ⟨g, 0, none⟩) cc Fs') ∧
    (A.σ.on i = true → A.cnt i ≠ 1 → e = .returned (.tuple #[.agg (nodA Nd.zero), .bool false]) ∧ LieA I w' ab sp (A.dec i) rd (some ⟨g, 0, none⟩) cc Fs') ∧
    (A.σ.on i = true → A.cnt i = 1 → e = .returned (.tuple #[.agg (nodA (A.nd i)), .bool true]) ∧ LieA I w' ab sp (A.drop i) rd (some ⟨g, 0, none⟩) cc Fs')
set_option maxHeartbeats 4000000 in
set_option maxRecDepth 100000 in
theorem a_remove (h : LieA I w ab sp A rd (some ⟨g, 0, none⟩) cc Fs) (i : Nat) (hi : i < 4294967296) (hp1 : A.σ.on i = true → 1 ≤ A.cnt i) :
    Calls Try.prog 28 #[.pointer (some ⟨ab, 0, none⟩), .int .u32 (i : Int)] w (ARem I w ab sp A rd g cc Fs i) := by
  have HU : Hid _ := Lib.hid Try.underlying65
  have HIN := Lib.hid nodInfo
  have hb1 := below_al w (Obj.cells (nodA Nd.zero) 65)
  have HP := Lib.hid (heap_alloc_new w (Obj.cells (nodA Nd.zero) 65))
  have HB1 := Lib.hid hb1
  have HOK := Lib.hid h.ok
  have HOFF := Lib.hid h.off
  have HFIT := Lib.hid h.fit
  have HDOM : Hid (∀ k, FootA ab (some ⟨g, 0, none⟩) Fs k → k < w.heap.size) := h.dom
  have H2 := Lib.hid (h.below hb1)
  have HPOS := Lib.hid hp1
  clear h hb1 hp1
  go_enter Try.func28, Try.ntmps28
  go_upto_region 1 with fail
  rw [show #[Value.int .i64 0, .int .i64 0, .int .u32 0, .int .u32 0, .int .i64 0, .int .i64 0, .int .i64 0, .int .i64 0] = nodA Nd.zero from rfl]
  generalize w.alloc (Obj.cells (nodA Nd.zero) 65) = w1 at HP HB1 H2 ⊢
  obtain ⟨p, hp⟩ : ∃ p, w.heap.size = p := ⟨_, rfl⟩
  rw [hp] at HP HDOM ⊢
  have HPP := Lib.hid hp
  clear hp
  by_cases ho : A.σ.on i = true
  · have hle := HOK.out.on i ho
    have hcap := HOK.out.cap2
    have hpos := HPOS.out ho
    obtain ⟨j, rfl⟩ : ∃ j, i = j + 1 := ⟨i - 1, by omega⟩
    have hj : j < A.σ.cap := by omega
    have HO := Lib.hid ho
    have HJ := Lib.hid hj
    have hj4 : (j : Int) + 1 < 4294967296 := by omega
    clear ho hle hj hi hcap
    go_wp2_with fail
    refine (a_cell_on H2.out j HO.out).mono ?_
    rintro e w2 ⟨rfl, q2, rfl⟩
    have hb2 : Below w1.heap.size w1 (w1.drewN q2) := below_drewN (Below.refl _ _) q2
    generalize w1.drewN q2 = w2 at hb2 ⊢
    have HP2 := Lib.hid (keep_blk HP.out hb2)
    have h3 := H2.out.below hb2
    have HBB := Lib.hid (trans_of' HB1.out hb2)
    clear hb2
    obtain ⟨_, _, _, _, _, _, _, _, c8⟩ := h3.nine HJ.out
    have f8 := h3.cels.frozenAt (j * 9 + 8)
    obtain ⟨C, hC⟩ : ∃ C, A.cnt (j + 1) = C := ⟨_, rfl⟩
    have hfit := HFIT.out (j + 1)
    rw [hC] at c8 hpos hfit
    obtain ⟨h4, ha4⟩ := h3.putC HO.out (C - 1) (by omega)
    have hP4 : (w2.setCell ⟨g, j * 9 + 8, none⟩ (.int .i64 (C - 1))).heap[p]? = some (Obj.cells (nodA Nd.zero) 65 (0, 0)) := (heap_setCell_other _ _ _ _ (show p ≠ g by have := HDOM.out g (.inr (.inl ⟨_, rfl, rfl⟩)); omega)).trans HP2.out
    have HC := Lib.hid hC
    have H4 := Lib.hid h4
    have HP4 := Lib.hid hP4
    have HA4 := Lib.hid ((Alters.of_below HBB.out).trans ha4)
    have hfit2 := hfit.2
    clear h3 h4 ha4 hP4 hC hfit
    go_upto_region 5 with fail
    have HPC := Lib.hid hpos
    clear c8 f8 hpos hfit2
    generalize w2.setCell ⟨g, j * 9 + 8, none⟩ (.int .i64 (C - 1)) = w3 at H4 HP4 HA4 ⊢
    obtain ⟨g0, g1, g2, g3, g4, g5, g6, g7, g8⟩ := H4.out.nine HJ.out
    rw [show (A.putC (j + 1) (C - 1)).cnt (j + 1) = C - 1 from if_pos rfl] at g8
    rw [show (A.putC (j + 1) (C - 1)).nd (j + 1) = A.nd (j + 1) from rfl] at g0 g1 g2 g3 g4 g5 g6 g7
    obtain ⟨D, hD⟩ : ∃ D, C - 1 = D := ⟨_, rfl⟩
    rw [hD] at g8 H4
    have HD := Lib.hid hD
    clear hD
    by_cases hc1 : C = 1
    · obtain rfl : D = 0 := by have := HD.out; omega
      have HC1 := Lib.hid hc1
      clear hc1
      have hal4 := below_al w3 (Obj.cells (nodA (A.nd (j + 1))) 65)
      have hx4 := heap_alloc_new w3 (Obj.cells (nodA (A.nd (j + 1))) 65)
      have H5 := Lib.hid (H4.out.below hal4)
      have HP5 := Lib.hid (keep_blk HP4.out hal4)
      have HA5 := Lib.hid (HA4.out.trans (.of_below hal4))
      have HX5 := Lib.hid hx4
      have HPL : Hid (p < w3.heap.size) := (Array.getElem?_eq_some_iff.1 HP4.out).1
      clear hal4 hx4
      go_upto_region 8 with fail
      rw [show #[Value.int .i64 (A.nd (j + 1)).key, .int .i64 (A.nd (j + 1)).val, .int .u32 ((A.nd (j + 1)).left : Int), .int .u32 ((A.nd (j + 1)).right : Int), .int .i64 (A.nd (j + 1)).size, .int .i64 (A.nd (j + 1)).sum, .int .i64 (A.nd (j + 1)).mn, .int .i64 (A.nd (j + 1)).mx] = nodA (A.nd (j + 1)) from rfl]
      clear g0 g1 g2 g3 g4 g5 g6 g7 g8
      generalize w3.alloc (Obj.cells (nodA (A.nd (j + 1))) 65) = w4 at H5 HP5 HA5 HX5 ⊢
      obtain ⟨p7, hp7⟩ : ∃ p7, w3.heap.size = p7 := ⟨_, rfl⟩
      rw [hp7] at HX5 HPL ⊢
      clear hp7
      obtain ⟨g0, g1, g2, g3, g4, g5, g6, g7, g8⟩ := H5.out.nine HJ.out
      have f0 := H5.out.cels.frozenAt (j * 9)
      have f1 := H5.out.cels.frozenAt (j * 9 + 1)
      have f2 := H5.out.cels.frozenAt (j * 9 + 2)
      have f3 := H5.out.cels.frozenAt (j * 9 + 3)
      have f4 := H5.out.cels.frozenAt (j * 9 + 4)
      have f5 := H5.out.cels.frozenAt (j * 9 + 5)
      have f6 := H5.out.cels.frozenAt (j * 9 + 6)
      have f7 := H5.out.cels.frozenAt (j * 9 + 7)
      have f8 := H5.out.cels.frozenAt (j * 9 + 8)
      obtain ⟨h6, ha6⟩ := RawA.sets [.int .i64 0, .int .i64 0, .int .u32 0, .int .u32 0, .int .i64 0, .int .i64 0, .int .i64 0, .int .i64 0, .int .i64 0] (j * 9) H5.out.raw
      have hcv : celV (A.drop (j + 1)) (j + 1) = [.int .i64 0, .int .i64 0, .int .u32 0, .int .u32 0, .int .i64 0, .int .i64 0, .int .i64 0, .int .i64 0, .int .i64 0] := by
        unfold celV Ar.drop
        show ndV (if j + 1 = j + 1 then _ else _) ++ [Value.int IntKind.i64 (if j + 1 = j + 1 then _ else _)] = _
        rw [if_pos rfl, if_pos rfl]
        rfl
      rw [← hcv, cels_patch (A.putC (j + 1) 0) (A.drop (j + 1)) rfl HJ.out (fun i hi => if_neg hi) (fun i hi => by show (if i = j + 1 then (0 : Int) else A.cnt i) = (if i = j + 1 then (0 : Int) else A.cnt i); rfl), hcv] at h6
      have hP6 := (ha6.block p (Array.getElem?_eq_some_iff.1 HP5.out).1 (fun hf => by have := HDOM.out p hf; omega)).trans HP5.out
      have hX6 := (ha6.block p7 (Array.getElem?_eq_some_iff.1 HX5.out).1 (fun hf => by have := HDOM.out p7 hf; have := HPL.out; omega)).trans HX5.out
      have H6 := Lib.hid h6
      have HA6 := Lib.hid (HA5.out.trans ha6)
      have HP6 := Lib.hid hP6
      have HX6 := Lib.hid hX6
      clear h6 ha6 hcv hP6 hX6
      go_upto_region 9 with fail
      rw [sets9]
      clear g0 g1 g2 g3 g4 g5 g6 g7 g8 f0 f1 f2 f3 f4 f5 f6 f7 f8
      generalize w4.setCells g (j * 9) _ = w5 at H6 HA6 HP6 HX6 ⊢
      obtain ⟨c0, c1, c2⟩ := H6.out.cells
      go_wp2_with fail
      refine (I.release _ _ _ (j + 1) _ H6.out.slots (by omega)).mono ?_
      rintro e w6 ⟨Fs', ha7, _, h7⟩
      obtain ⟨rfl, h8⟩ := h7 HO.out
      obtain ⟨h9, ha9⟩ := H6.out.step ha7 h8 rfl
      have hFp : ∀ k, Fs k → k < p := fun k hk => HDOM.out k (.inr (.inr hk))
      have hP7 := (ha7.block p (Array.getElem?_eq_some_iff.1 HP6.out).1 (fun hf => by have := hFp p hf; omega)).trans HP6.out
      have hX7 := (ha7.block p7 (Array.getElem?_eq_some_iff.1 HX6.out).1 (fun hf => by have := hFp p7 hf; have := HPL.out; omega)).trans HX6.out
      have HNF : Hid (¬ Fs' p) := fun hf => by
        rcases ha7.foot p hf with h1 | h1
        · have := hFp p h1; omega
        · have := (Array.getElem?_eq_some_iff.1 HP6.out).1; omega
      have h10 := h9.lie (A := A.drop (j + 1)) rfl rfl (fun i hi => by
        have hi' : (A.σ.put (j + 1)).on i = false := hi
        show (if i = j + 1 then (0 : Int) else A.cnt i) = 0 ∧ (if i = j + 1 then Nd.zero else A.nd i) = Nd.zero
        by_cases e : i = j + 1
        · rw [if_pos e, if_pos e]; exact ⟨rfl, rfl⟩
        · rw [if_neg e, if_neg e]
          rw [put_other _ e] at hi'
          exact HOFF.out i hi') (fun i => by
        show 0 ≤ (if i = j + 1 then (0 : Int) else A.cnt i) ∧ (if i = j + 1 then (0 : Int) else A.cnt i) ≤ 9223372036854775807
        split
        · exact ⟨by decide, by decide⟩
        · exact HFIT.out i)
      have H10 := Lib.hid h10
      have HA10 := Lib.hid (HA6.out.trans ha9)
      have HP7 := Lib.hid hP7
      have HX7 := Lib.hid hX7
      clear c0 c1 c2 ha7 h7 h8 h9 ha9 hFp hP7 hX7 h10
      obtain ⟨z0, z1, z2, z3, z4, z5, z6, z7⟩ := row8v HX7.out
      go_wp2_with (refine wpList_store_row rfl 65 (.tmp 4) (.tmp 40) rfl p (nodA (A.nd (j + 1))) rfl rfl 65 _ HP7.out HIN.out rfl (nod_ones _) ?_)
      refine bodyPost_ret (results_row_tmp rfl _ _ p 65 (nodA (A.nd (j + 1))) (0, 0) _ rfl (setRow_heap _ _ _ _ _ _ HP7.out) HU.out rfl HIN.out) rfl ?_
      have hpp := HPP.out
      refine ⟨Fs', alt_row HA10.out (by omega), fun h => (by rw [HO.out] at h; cases h), fun _ h => absurd (HC.out.trans HC1.out) h, fun _ _ => ⟨rfl, ?_⟩⟩
      refine H10.out.keep fun k hk => setRow_other _ _ _ _ fun e => ?_
      subst e
      rcases hk with hk | hk | hk
      · have := HDOM.out k (.inl hk); omega
      · have := HDOM.out k (.inr (.inl hk)); omega
      · exact HNF.out hk
    · have hgt : (0 : Int) < D := by have := HD.out; have := HPC.out; omega
      have HC1 := Lib.hid hc1
      clear hc1
      go_wp2_with (refine wpList_store_row rfl 65 (.tmp 4) (.tmp 26) rfl p (nodA Nd.zero) rfl rfl 65 _ HP4.out HIN.out rfl (nod_ones _) ?_)
      refine bodyPost_ret (results_row_tmp rfl _ _ p 65 (nodA Nd.zero) (0, 0) _ rfl (setRow_heap _ _ _ _ _ _ HP4.out) HU.out rfl HIN.out) rfl ?_
      have hpp := HPP.out
      refine ⟨Fs, alt_row HA4.out (by omega), fun h => (by rw [HO.out] at h; cases h), fun _ _ => ⟨rfl, ?_⟩, fun _ h => absurd (HC.out.symm.trans h) HC1.out⟩
      have e : A.dec (j + 1) = A.putC (j + 1) D := by unfold Ar.dec Ar.putC; rw [HC.out, HD.out]
      rw [e]
      exact H4.out.keep fun k hk => setRow_other _ _ _ _ (by have := HDOM.out k hk; omega)
  · have ho' : A.σ.on i = false := by simpa using ho
    have HO := Lib.hid ho'
    clear ho ho'
    go_wp2_with fail
    refine (a_cell_off H2.out i hi HO.out).mono ?_
    rintro e w2 ⟨rfl, q2, rfl⟩
    have hb2 : Below w1.heap.size w1 (w1.drewN q2) := below_drewN (Below.refl _ _) q2
    generalize w1.drewN q2 = w2 at hb2 ⊢
    have HP2 := Lib.hid (keep_blk HP.out hb2)
    have H3 := Lib.hid (H2.out.below hb2)
    have HBB := Lib.hid (trans_of' HB1.out hb2)
    clear hb2
    go_wp2_with (refine wpList_store_row rfl 65 (.tmp 4) (.tmp 13) rfl p (nodA Nd.zero) rfl rfl 65 _ HP2.out HIN.out rfl (nod_ones _) ?_)
    refine bodyPost_ret (results_row_tmp rfl _ _ p 65 (nodA Nd.zero) (0, 0) _ rfl (setRow_heap _ _ _ _ _ _ HP2.out) HU.out rfl HIN.out) rfl ?_
    have hpp := HPP.out
    exact ⟨Fs, alt_row (Alters.of_below HBB.out) (by omega), fun _ => ⟨rfl, H3.out.keep fun k hk => setRow_other _ _ _ _ (by have := HDOM.out k hk; omega)⟩, fun h => (by rw [HO.out] at h; cases h), fun h => (by rw [HO.out] at h; cases h)⟩
end
end Go.Proofs.Ytehaffcjoafkcaa
set_option linter.unusedVariables false
namespace Go.Proofs.Ytehaffcjoafkcaa
open Go.RowKit
/-- a slot's description -/
structure Sl where
  on : Bool
  cnt : Int
  gen : Int
  nd : Nd
def slV (s : Sl) : List Value := [.bool s.on, .int .i64 s.cnt, .int .u32 s.gen, .int .i64 s.nd.key, .int .i64 s.nd.val, .int .u32 (s.nd.left : Int), .int .u32 (s.nd.right : Int), .int .i64 s.nd.size, .int .i64 s.nd.sum, .int .i64 s.nd.mn, .int .i64 s.nd.mx]
/-- slot i + 1 of the n slots reads as S i -/
structure SlotsAt (w : World) (a : Option Addr) (n : Nat) (S : Nat → Sl) : Prop where
  cell : ∀ i, i < n → ∃ b off, a = some ⟨b, off, none⟩ ∧ b < w.heap.size ∧ ∀ j v, (slV (S i))[j]? = some v → w.cell? ⟨b, off + i * 11 + j, none⟩ = some v
  kid : ∀ i, i < n → (S i).nd.left < 4294967296 ∧ (S i).nd.right < 4294967296
theorem SlotsAt.below {w w' : World} {a : Option Addr} {n : Nat} {S : Nat → Sl} (h : SlotsAt w a n S) (hb : Below w.heap.size w w') : SlotsAt w' a n S := by
  refine ⟨fun i hi => ?_, h.kid⟩
  obtain ⟨b, off, ha, hlt, hc⟩ := h.cell i hi
  exact ⟨b, off, ha, Nat.lt_of_lt_of_le hlt hb.size, fun j v hv => by rw [← hc j v hv]; exact hb.cell (p := ⟨b, off + i * 11 + j, none⟩) hlt⟩
set_option maxHeartbeats 1000000 in
set_option maxRecDepth 100000 in
theorem dallocated_any {w : World} {a b : Option Addr} {n c m d i : Nat} {S : Nat → Sl} (h : SlotsAt w a n S) (hn : n ≤ 65536) (hi : i < 4294967296) :
    Calls Try.prog 67 #[.agg #[.slice a n c, .slice b m d], .int .u32 (i : Int)] w (Calm w (.bool (decide (1 ≤ i ∧ i ≤ n ∧ (S (i - 1)).on = true)))) := by
  have hb1 : Below w.heap.size w (w.alloc (Obj.cells #[Value.slice a n c, Value.slice b m d] 61)) := (Below.refl _ _).alloc (Nat.le_refl _) _
  have HB := Lib.hid hb1
  clear hb1
  have hni : (n : Int) ≤ 65536 := by omega
  by_cases h0 : 1 ≤ i ∧ i ≤ n
  · obtain ⟨j, rfl⟩ : ∃ j, i = j + 1 := ⟨i - 1, by omega⟩
    obtain ⟨b', off, rfl, hlt, hc⟩ := h.cell j (by omega)
    have hc0 : w.cell? ⟨b', off + j * 11, none⟩ = _ := hc 0 _ rfl
    have hjn : (j : Int) < (n : Int) := by omega
    have hjn2 : (j : Int) + 1 ≤ (n : Int) := by omega
    have hj1 : (1 : Int) ≤ (j : Int) + 1 := by omega
    rw [show decide (1 ≤ j + 1 ∧ j + 1 ≤ n ∧ (S (j + 1 - 1)).on = true) = (S j).on by
      have : 1 ≤ j + 1 ∧ j + 1 ≤ n := h0
      simp [this]]
    generalize (S j).on = o at *
    clear h hc h0 hi
    go_enter Try.func67, Try.ntmps67
    go_wp2
    go_ret
    exact ⟨rfl, HB.out⟩
  · rw [show decide (1 ≤ i ∧ i ≤ n ∧ (S (i - 1)).on = true) = false by simp; omega]
    by_cases h1 : i = 0
    · subst h1
      clear h h0
      go_enter Try.func67, Try.ntmps67
      go_wp2
      go_ret
      exact ⟨rfl, HB.out⟩
    · have hin : ¬ (i : Int) ≤ (n : Int) := by omega
      have hi1 : (1 : Int) ≤ (i : Int) := by omega
      clear h h0
      go_enter Try.func67, Try.ntmps67
      go_wp2
      go_ret
      exact ⟨rfl, HB.out⟩
end Go.Proofs.Ytehaffcjoafkcaa
set_option linter.unusedVariables false
namespace Go.Proofs.Ytehaffcjoafkcaa
open Go.RowKit
end Go.Proofs.Ytehaffcjoafkcaa
set_option linter.unusedVariables false
namespace Go.Proofs.Ytehaffcjoafkcaa
open Go.RowKit
/-- child t (0 or 1) of a slot -/
def kd (s : Sl) (t : Nat) : Nat := if t = 0 then s.nd.left else s.nd.right
/-- the references to x from the first t children of a slot, if it is allocated -/
def ph (t : Nat) (s : Sl) (x : Nat) : Nat := if s.on = true then ((List.range t).map fun u => hit (kd s u) x).sum else 0
/-- the references to x from the first k slots -/
def eg (S : Nat → Sl) (k : Nat) (x : Nat) : Nat := ((List.range k).map fun m => ph 2 (S m) x).sum
/-- the eleven cells of a slot -/
theorem SlotsAt.all {w : World} {a : Option Addr} {n : Nat} {S : Nat → Sl} (h : SlotsAt w a n S) {i : Nat} (hi : i < n) : ∃ b off, a = some ⟨b, off, none⟩ ∧ b < w.heap.size ∧
    w.cell? ⟨b, off + i * 11, none⟩ = some (.bool (S i).on) ∧ w.cell? ⟨b, off + i * 11 + 1, none⟩ = some (.int .i64 (S i).cnt) ∧ w.cell? ⟨b, off + i * 11 + 2, none⟩ = some (.int .u32 (S i).gen) ∧
    w.cell? ⟨b, off + i * 11 + 3, none⟩ = some (.int .i64 (S i).nd.key) ∧ w.cell? ⟨b, off + i * 11 + 4, none⟩ = some (.int .i64 (S i).nd.val) ∧ w.cell? ⟨b, off + i * 11 + 5, none⟩ = some (.int .u32 ((S i).nd.left : Int)) ∧
    w.cell? ⟨b, off + i * 11 + 6, none⟩ = some (.int .u32 ((S i).nd.right : Int)) ∧ w.cell? ⟨b, off + i * 11 + 7, none⟩ = some (.int .i64 (S i).nd.size) ∧ w.cell? ⟨b, off + i * 11 + 8, none⟩ = some (.int .i64 (S i).nd.sum) ∧
    w.cell? ⟨b, off + i * 11 + 9, none⟩ = some (.int .i64 (S i).nd.mn) ∧ w.cell? ⟨b, off + i * 11 + 10, none⟩ = some (.int .i64 (S i).nd.mx) := by
  obtain ⟨b, off, ha, hlt, hc⟩ := h.cell i hi
  exact ⟨b, off, ha, hlt, hc 0 _ rfl, hc 1 _ rfl, hc 2 _ rfl, hc 3 _ rfl, hc 4 _ rfl, hc 5 _ rfl, hc 6 _ rfl, hc 7 _ rfl, hc 8 _ rfl, hc 9 _ rfl, hc 10 _ rfl⟩
theorem two_cells {w : World} {k : Nat} {x y : Value} {t : TypeId} (h : w.heap[k]? = some (.cells #[x, y] t (0, 0))) : w.cell? ⟨k, 0, none⟩ = some x ∧ w.cell? ⟨k, 1, none⟩ = some y := by
  refine ⟨?_, ?_⟩ <;> (rw [cell_of_row _ _ _ _ _ _ h]; rfl)
end Go.Proofs.Ytehaffcjoafkcaa
set_option linter.unusedVariables false
namespace Go.Proofs.Ytehaffcjoafkcaa
/-- x is an allocated slot -/
def Al (S : Nat → Sl) (n x : Nat) : Prop := 1 ≤ x ∧ x ≤ n ∧ (S (x - 1)).on = true
instance (S : Nat → Sl) (n x : Nat) : Decidable (Al S n x) := by unfold Al; exact inferInstance
end Go.Proofs.Ytehaffcjoafkcaa
set_option linter.unusedVariables false
namespace Go.Proofs.Ytehaffcjoafkcaa
open Go.RowKit
theorem u32s_app (l m : List Nat) : u32s (l ++ m) = u32s l ++ u32s m := by simp [u32s]
theorem u32s_last (l : List Nat) (x : Nat) : (u32s (l ++ [x]))[l.length]? = some (.int .u32 (x : Int)) := by simp [u32s]
theorem row_cut {w : World} {B n m c : Nat} {e : TypeId} {g : Nat} {xs : List Value} (h : w.ownsRow B e 1 (.slice (some ⟨g, 0, none⟩) n c) n xs) (hm : m ≤ n) : w.ownsRow B e 1 (.slice (some ⟨g, 0, none⟩) m c) m (xs.take m) := by
  have hl := h.1
  rcases h.2 with ⟨hv, _⟩ | ⟨g2, cap, cur, hv, hB, hc, hn, hcm, hs, ht⟩
  · simp at hv
  · simp only [Value.slice.injEq, Option.some.injEq, Addr.mk.injEq] at hv
    obtain ⟨⟨rfl, _⟩, _, rfl⟩ := hv
    refine ⟨by simp; omega, .inr ⟨g, c, cur, rfl, hB, hc, by omega, hcm, hs, ?_⟩⟩
    rw [← ht, List.take_take]
    congr 1
    omega
theorem row_caps {w : World} {B n c s : Nat} {e : TypeId} {a : Option Addr} {xs : List Value} (h : w.ownsRow B e s (.slice a n c) n xs) : n ≤ c ∧ c ≤ maxLen := by
  rcases h.2 with ⟨hv, hn⟩ | ⟨g2, cap, cur, hv, hB, hc, hn, hcm, hs, ht⟩
  · simp only [Value.slice.injEq] at hv
    omega
  · simp only [Value.slice.injEq] at hv
    omega
theorem cell_new2 (w : World) (x y : Value) (t : TypeId) : ∀ j u, [x, y][j]? = some u → (w.alloc (.cells #[x, y] t)).cell? ((⟨w.heap.size, 0, none⟩ : Addr).add j) = some u := by
  intro j u hu
  match j, hu with
  | 0, hu => simp at hu; subst hu; simp [Addr.add]
  | 1, hu => simp at hu; subst hu; simp [Addr.add]
theorem one_cell2 (k : IntKind) (x y : Int) : ∀ u ∈ [Value.int k x, Value.int k y], u.oneCell' = true := by
  intro u hu; simp at hu; rcases hu with rfl | rfl <;> rfl
end Go.Proofs.Ytehaffcjoafkcaa
set_option linter.unusedVariables false
namespace Go.Proofs.Ytehaffcjoafkcaa
open Go.RowKit
end Go.Proofs.Ytehaffcjoafkcaa
