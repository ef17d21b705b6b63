/- The references from the allocated slots of a dump: the reference's InEdges. Which slots of a dump are reachable: what is marked at each step of a search by a work stack. No program is spoken of. -/
import Derived.Test.YtbjmblfifnjafaaDumpB
import Derived.Deep.CutRange
set_option linter.unusedVariables false
namespace Go.Proofs.Ytbjmblfifnjafaa
open Go.RowKit

/-- child t (0 or 1) of a slot -/
def kd (s : Sl) (t : Nat) : Nat := if t = 0 then s.nd.left else s.nd.right
/-- the references to x from the first t children of a slot, if it is allocated -/
def ph (t : Nat) (s : Sl) (x : Nat) : Nat := if s.on = true then ((List.range t).map fun u => hit (kd s u) x).sum else 0
theorem ph_succ (t : Nat) (s : Sl) (x : Nat) : ph (t + 1) s x = ph t s x + if s.on = true ∧ kd s t = x then 1 else 0 := by
  unfold ph
  by_cases h : s.on = true
  · rw [if_pos h, if_pos h, List.range_succ, List.map_append, List.sum_append]
    simp [hit, h]
  · rw [if_neg h, if_neg h, if_neg (fun e => h e.1)]
theorem ph_zero (s : Sl) (x : Nat) : ph 0 s x = 0 := by unfold ph; simp
theorem ph_le (t : Nat) (s : Sl) (x : Nat) : ph t s x ≤ t := by
  induction t with
  | zero => rw [ph_zero]; exact Nat.le_refl _
  | succ t ih => rw [ph_succ]; split <;> omega
/-- the references to x from the first k slots -/
def eg (S : Nat → Sl) (k : Nat) (x : Nat) : Nat := ((List.range k).map fun m => ph 2 (S m) x).sum
theorem eg_succ (S : Nat → Sl) (k x : Nat) : eg S (k + 1) x = eg S k x + ph 2 (S k) x := by
  unfold eg
  rw [List.range_succ, List.map_append, List.sum_append]
  simp
theorem eg_le (S : Nat → Sl) (k x : Nat) : eg S k x ≤ 2 * k := by
  induction k with
  | zero => unfold eg; simp
  | succ k ih => rw [eg_succ]; have := ph_le 2 (S k) x; omega
/-- the box of a dump -/
structure DBox (w : World) (q : Nat) (a b : Option Addr) (n c m d : Nat) : Prop where
  box : w.heap[q]? = some (.cells #[.slice a n c, .slice b m d] 41 (0, 0))
theorem DBox.new (w : World) (a b : Option Addr) (n c m d : Nat) : DBox (w.alloc (Obj.cells #[.slice a n c, .slice b m d] 41)) w.heap.size a b n c m d := ⟨heap_alloc_new w _⟩
section
variable {w w' : World} {q : Nat} {a b : Option Addr} {n c m d : Nat}
theorem DBox.lt (h : DBox w q a b n c m d) : q < w.heap.size := (Array.getElem?_eq_some_iff.1 h.box).1
theorem DBox.below {B : Nat} (h : DBox w q a b n c m d) (hb : Below B w w') (hq : q < B) : DBox w' q a b n c m d := ⟨(hb.block q hq).trans h.box⟩
theorem DBox.cells (h : DBox w q a b n c m d) : w.cell? ⟨q, 0, none⟩ = some (.slice a n c) ∧ w.cell? ⟨q, 1, none⟩ = some (.slice b m d) := by
  refine ⟨?_, ?_⟩ <;> (rw [cell_of_row _ _ _ _ _ _ h.box]; rfl)
end
/-- the eleven cells of a slot -/
theorem SlotsAt.all {w : World} {a : Option Addr} {n : Nat} {S : Nat → Sl} (h : SlotsAt w a n S) {i : Nat} (hi : i < n) : ∃ b off, a = some ⟨b, off, none⟩ ∧ b < w.heap.size ∧
    w.cell? ⟨b, off + i * 11, none⟩ = some (.bool (S i).on) ∧ w.cell? ⟨b, off + i * 11 + 1, none⟩ = some (.int .i64 (S i).cnt) ∧ w.cell? ⟨b, off + i * 11 + 2, none⟩ = some (.int .u32 (S i).gen) ∧
    w.cell? ⟨b, off + i * 11 + 3, none⟩ = some (.int .i64 (S i).nd.key) ∧ w.cell? ⟨b, off + i * 11 + 4, none⟩ = some (.int .i64 (S i).nd.val) ∧ w.cell? ⟨b, off + i * 11 + 5, none⟩ = some (.int .u32 ((S i).nd.left : Int)) ∧
    w.cell? ⟨b, off + i * 11 + 6, none⟩ = some (.int .u32 ((S i).nd.right : Int)) ∧ w.cell? ⟨b, off + i * 11 + 7, none⟩ = some (.int .i64 (S i).nd.size) ∧ w.cell? ⟨b, off + i * 11 + 8, none⟩ = some (.int .i64 (S i).nd.sum) ∧
    w.cell? ⟨b, off + i * 11 + 9, none⟩ = some (.int .i64 (S i).nd.mn) ∧ w.cell? ⟨b, off + i * 11 + 10, none⟩ = some (.int .i64 (S i).nd.mx) := by
  obtain ⟨b, off, ha, hlt, hc⟩ := h.cell i hi
  exact ⟨b, off, ha, hlt, hc 0 _ rfl, hc 1 _ rfl, hc 2 _ rfl, hc 3 _ rfl, hc 4 _ rfl, hc 5 _ rfl, hc 6 _ rfl, hc 7 _ rfl, hc 8 _ rfl, hc 9 _ rfl, hc 10 _ rfl⟩
theorem two_cells {w : World} {k : Nat} {x y : Value} {t : TypeId} (h : w.heap[k]? = some (.cells #[x, y] t (0, 0))) : w.cell? ⟨k, 0, none⟩ = some x ∧ w.cell? ⟨k, 1, none⟩ = some y := by
  refine ⟨?_, ?_⟩ <;> (rw [cell_of_row _ _ _ _ _ _ h]; rfl)
def EdgeRel (S : Nat → Sl) (n q : Nat) (w1 : World) (f : Nat → Nat) (wr : World) : Prop :=
  wr.ownsRow (q + 1) 3 1 (.slice (some ⟨q + 1, 0, none⟩) n n) n (natR n f) ∧ Below (q + 1) w1 wr
theorem EdgeRel.store {S : Nat → Sl} {n q : Nat} {w1 wr : World} {f g : Nat → Nat} (h : EdgeRel S n q w1 f wr) (j : Nat) (x : Int) (hx : x = ((g j : Nat) : Int)) (hs : q + 1 ≤ w1.heap.size) (hg : ∀ i, i < n → i ≠ j → g i = f i) :
    EdgeRel S n q w1 g (wr.setCell ⟨q + 1, j, none⟩ (.int .i64 x)) := by
  refine ⟨?_, h.2.setCell (Nat.le_refl _) _⟩
  have h1 := (h.1.stored j (.int .i64 x)).1
  rw [natR_set f x (g j) hx] at h1
  have e : natR n (fun i => if i = j then g j else f i) = natR n g := by
    unfold natR
    refine List.map_congr_left fun i hi => ?_
    rw [List.mem_range] at hi
    show Value.int .i64 (((if i = j then g j else f i : Nat)) : Int) = Value.int .i64 ((g i : Nat) : Int)
    by_cases e : i = j
    · rw [if_pos e, e]
    · rw [if_neg e, hg i hi e]
  rw [e] at h1
  exact h1
theorem EdgeRel.below {S : Nat → Sl} {n q : Nat} {w1 wr w' : World} {f : Nat → Nat} (h : EdgeRel S n q w1 f wr) (hb : Below wr.heap.size wr w') (hs : q + 1 ≤ w1.heap.size) : EdgeRel S n q w1 f w' :=
  ⟨row_below h.1 hb, h.2.trans (hb.mono (Nat.le_trans hs h.2.size))⟩
theorem EdgeRel.same {S : Nat → Sl} {n q : Nat} {w1 wr : World} {f g : Nat → Nat} (h : EdgeRel S n q w1 f wr) (hg : ∀ i, i < n → g i = f i) : EdgeRel S n q w1 g wr := by
  refine ⟨?_, h.2⟩
  have e : natR n g = natR n f := by
    unfold natR
    refine List.map_congr_left fun i hi => ?_
    rw [List.mem_range] at hi
    show Value.int .i64 ((g i : Nat) : Int) = Value.int .i64 ((f i : Nat) : Int)
    rw [hg i hi]
  rw [e]
  exact h.1
end Go.Proofs.Ytbjmblfifnjafaa
set_option linter.unusedVariables false
namespace Go.Proofs.Ytbjmblfifnjafaa

/-- x is an allocated slot -/
def Al (S : Nat → Sl) (n x : Nat) : Prop := 1 ≤ x ∧ x ≤ n ∧ (S (x - 1)).on = true
instance (S : Nat → Sl) (n x : Nat) : Decidable (Al S n x) := by unfold Al; exact inferInstance
inductive Rch (S : Nat → Sl) (n : Nat) (rs : List Nat) : Nat → Prop where
  | root (x : Nat) : x ∈ rs → Al S n x → Rch S n rs x
  | kid (x t : Nat) : Rch S n rs x → t < 2 → Al S n (kd (S (x - 1)) t) → Rch S n rs (kd (S (x - 1)) t)
theorem Rch.al {S : Nat → Sl} {n : Nat} {rs : List Nat} {x : Nat} (h : Rch S n rs x) : Al S n x := by
  cases h with
  | root _ _ h => exact h
  | kid _ _ _ _ h => exact h
def setB (B : Nat → Bool) (j : Nat) : Nat → Bool := fun i => if i = j then true else B i
structure MInv (S : Nat → Sl) (n : Nat) (rs : List Nat) (B : Nat → Bool) (st : List Nat) : Prop where
  sound : ∀ j, j < n → B j = true → Rch S n rs (j + 1)
  stack : ∀ x ∈ st, Al S n x → Rch S n rs x
  roots : ∀ x ∈ rs, Al S n x → B (x - 1) = true ∨ x ∈ st
  kids : ∀ j, j < n → B j = true → ∀ t, t < 2 → Al S n (kd (S j) t) → B (kd (S j) t - 1) = true ∨ kd (S j) t ∈ st
theorem MInv.start (S : Nat → Sl) (n : Nat) (rs : List Nat) : MInv S n rs (fun _ => false) rs :=
  ⟨(fun j _ h => (by cases h)), (fun x h1 h2 => .root x h1 h2), (fun x h _ => .inr h), (fun j _ h => (by cases h))⟩
theorem MInv.skip {S : Nat → Sl} {n : Nat} {rs : List Nat} {B : Nat → Bool} {t : List Nat} {x : Nat} (h : MInv S n rs B (t ++ [x])) (hx : Al S n x → B (x - 1) = true) : MInv S n rs B t := by
  have key : ∀ y, Al S n y → (B (y - 1) = true ∨ y ∈ t ++ [x]) → B (y - 1) = true ∨ y ∈ t := fun y hy h1 => by
    rcases h1 with h1 | h1
    · exact .inl h1
    · rcases List.mem_append.1 h1 with h2 | h2
      · exact .inr h2
      · simp at h2; subst h2; exact .inl (hx hy)
  exact ⟨h.sound, fun y hy => h.stack y (by simp [hy]), fun y h1 h2 => key y h2 (h.roots y h1 h2), fun j h1 h2 u hu h3 => key _ h3 (h.kids j h1 h2 u hu h3)⟩
theorem MInv.mark {S : Nat → Sl} {n : Nat} {rs : List Nat} {B : Nat → Bool} {t : List Nat} {j : Nat} (h : MInv S n rs B (t ++ [j + 1])) (hx : Al S n (j + 1)) : MInv S n rs (setB B j) (t ++ [(S j).nd.left, (S j).nd.right]) := by
  have hr : Rch S n rs (j + 1) := h.stack _ (by simp) hx
  have hB : ∀ i, B i = true → setB B j i = true := fun i hi => by unfold setB; split <;> simp [hi]
  have key : ∀ y, Al S n y → (B (y - 1) = true ∨ y ∈ t ++ [j + 1]) → setB B j (y - 1) = true ∨ y ∈ t ++ [(S j).nd.left, (S j).nd.right] := fun y hy h1 => by
    rcases h1 with h1 | h1
    · exact .inl (hB _ h1)
    · rcases List.mem_append.1 h1 with h2 | h2
      · exact .inr (by simp [h2])
      · simp at h2; subst h2; exact .inl (by unfold setB; simp)
  refine ⟨fun i hi hb => ?_, fun y hy ha => ?_, fun y h1 h2 => key y h2 (h.roots y h1 h2), fun i hi hb u hu h3 => ?_⟩
  · unfold setB at hb
    by_cases e : i = j
    · subst e; exact hr
    · rw [if_neg e] at hb; exact h.sound i hi hb
  · rcases List.mem_append.1 hy with h2 | h2
    · exact h.stack y (by simp [h2]) ha
    · simp at h2
      rcases h2 with rfl | rfl
      · exact Rch.kid (S := S) (j + 1) 0 hr (by decide) ha
      · exact Rch.kid (S := S) (j + 1) 1 hr (by decide) ha
  · unfold setB at hb
    by_cases e : i = j
    · subst e
      refine .inr ?_
      unfold kd
      split <;> simp
    · rw [if_neg e] at hb; exact key _ h3 (h.kids i hi hb u hu h3)
theorem MInv.done {S : Nat → Sl} {n : Nat} {rs : List Nat} {B : Nat → Bool} (h : MInv S n rs B []) {j : Nat} (hj : j < n) : B j = true ↔ Rch S n rs (j + 1) := by
  refine ⟨h.sound j hj, fun hr => ?_⟩
  have key : ∀ y, Rch S n rs y → B (y - 1) = true := fun y hy => by
    induction hy with
    | root x h1 h2 =>
      rcases h.roots x h1 h2 with h3 | h3
      · exact h3
      · cases h3
    | kid x t h1 h2 h3 ih =>
      have h4 := h1.al
      obtain ⟨h5, h6, _⟩ := h4
      rcases h.kids (x - 1) (by omega) ih t h2 h3 with h7 | h7
      · exact h7
      · cases h7
  exact key _ hr
/-- how many are not marked -/
def um : Nat → (Nat → Bool) → Nat
  | 0, _ => 0
  | n + 1, B => um n B + if B n = true then 0 else 1
theorem um_le (B : Nat → Bool) : ∀ n, um n B ≤ n
  | 0 => Nat.le_refl _
  | n + 1 => by unfold um; have := um_le B n; split <;> omega
theorem um_out (B : Nat → Bool) (j : Nat) : ∀ n, n ≤ j → um n (setB B j) = um n B
  | 0, _ => rfl
  | n + 1, h => by
    unfold um
    rw [um_out B j n (by omega)]
    have : setB B j n = B n := by unfold setB; rw [if_neg (by omega)]
    rw [this]
theorem um_set (B : Nat → Bool) {j : Nat} (hb : B j = false) : ∀ n, j < n → um n (setB B j) + 1 = um n B
  | 0, h => by omega
  | n + 1, h => by
    unfold um
    by_cases e : j = n
    · subst e
      rw [um_out B j j (Nat.le_refl _), hb]
      have : setB B j j = true := by unfold setB; simp
      rw [this]
      simp
    · have ih := um_set B hb n (by omega)
      have : setB B j n = B n := by unfold setB; rw [if_neg (by omega)]
      rw [this]
      omega
end Go.Proofs.Ytbjmblfifnjafaa
