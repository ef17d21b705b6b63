/- The client of layer 5's statements: an arena and the row of the references that it holds, in a box; what an operation leaves. -/
import Derived.Test.YtnmookemeibioaaPlayPure
import Derived.Test.YtnmookemeibioaaArenaPlay
import Derived.Test.YtnmookemeibioaaArenaChain
import Derived.Maps.AppendAt
set_option linter.unusedVariables false
namespace Go.Proofs.Ytnmookemeibioaa
open Go.RowKit

structure TC (I : AImpl) (B : Nat) (w0 w : World) (q : Nat) (p x : Value) (A : Ar) (rd : Int) (held : Nat → Nat) (l : List Nat) : Prop where
  has : ∃ F, I.Is w p A rd F ∧ (∀ k, F k → B ≤ k) ∧ ¬ F q ∧ ∀ k, x.ownBlock = some k → ¬ F k
  inv : A.Inv [] held
  agg : A.Agg
  below : Below B w0 w
  hB : B ≤ w.heap.size
  hq : B ≤ q
  box : w.heap[q]? = some (.cells #[p, x] 70 (0, 0))
  row : w.ownsRow B 41 1 x l.length (u32s l)
  qx : x.ownBlock ≠ some q
section
variable {I : AImpl} {B q : Nat} {w w' w0 : World} {p x : Value} {A A' : Ar} {rd rd' : Int} {held held' : Nat → Nat} {l : List Nat}
theorem TC.lt (h : TC I B w0 w q p x A rd held l) : q < w.heap.size := (Array.getElem?_eq_some_iff.1 h.box).1
theorem TC.calm (h : TC I B w0 w q p x A rd held l) (hb : Below w.heap.size w w') : TC I B w0 w' q p x A rd held l := by
  obtain ⟨F, h1, h2, h3, h4⟩ := h.has
  exact ⟨⟨F, I.below h1 hb, h2, h3, h4⟩, h.inv, h.agg, h.below.trans (hb.mono h.hB), Nat.le_trans h.hB hb.size, h.hq, (hb.block q h.lt).trans h.box, row_below h.row hb, h.qx⟩
theorem TC.step {F F' : Nat → Prop} (h : TC I B w0 w q p x A rd held l) (hF : ∀ k, F k → B ≤ k) (hq : ¬ F q) (hx : ∀ k, x.ownBlock = some k → ¬ F k) (ha : Alters F F' w w') (hs : I.Is w' p A' rd' F') (hi : A'.Inv [] held') (hg : A'.Agg) : TC I B w0 w' q p x A' rd' held' l := by
  have h1 := ha.apart (G := fun k => k = q ∨ x.ownBlock = some k) (fun k hk => by
    rcases hk with rfl | hk
    · exact ⟨h.lt, hq⟩
    · exact ⟨(row_lt h.row k hk).2, hx k hk⟩)
  exact ⟨⟨F', hs, ha.from h.hB hF, (h1 q (.inl rfl)).2, fun k hk => (h1 k (.inr hk)).2⟩, hi, hg, ha.below h.below h.hB hF, Nat.le_trans h.hB ha.size, h.hq, (ha.block q h.lt hq).trans h.box, ha.row h.row hx, h.qx⟩
theorem TC.cells (h : TC I B w0 w q p x A rd held l) : w.cell? ⟨q, 0, none⟩ = some p ∧ w.cell? ⟨q, 1, none⟩ = some x := by
  refine ⟨?_, ?_⟩ <;> (rw [cell_of_row _ _ _ _ _ _ h.box]; rfl)
theorem TC.frozen (h : TC I B w0 w q p x A rd held l) (j : Nat) : w.frozen? ⟨q, j, none⟩ = false := frozen_of_row w q j _ _ h.box
/-- the row of held references grows by an append to it: the box is then stored -/
theorem TC.grew {l' : List Nat} {v : Value} (h : TC I B w0 w q p x A rd held l) (hr : w'.ownsRow B 41 1 v l'.length (u32s l')) (hg : w.grownBy w' x.ownBlock) (hv : v.ownBlock = x.ownBlock ∨ v.ownBlock = some w.heap.size) :
    TC I B w0 (w'.setCell ⟨q, 1, none⟩ v) q p v A rd held l' := by
  obtain ⟨F, h1, h2, h3, h4⟩ := h.has
  have hql := h.lt
  have hqv : v.ownBlock ≠ some q := by
    rcases hv with e | e
    · rw [e]; exact h.qx
    · rw [e]; intro e2; simp at e2; omega
  have hbox : w'.heap[q]? = some (.cells #[p, x] 70 (0, 0)) := (hg.block q hql (fun e => h.qx e.symm)).trans h.box
  refine ⟨⟨F, I.keep h1 fun k hk => ?_, h2, h3, fun k hk hF => ?_⟩, h.inv, h.agg, (h.below.grown hg h.hB (row_from h.row)).setCell h.hq _, ?_, h.hq, ?_, row_keep hr fun k hk => heap_setCell_other _ _ _ _ fun e => hqv (by rw [hk, e]), hqv⟩
  · rw [heap_setCell_other _ _ _ _ (show k ≠ q from fun e => h3 (e ▸ hk)), hg.block k (I.dom h1 k hk) fun e => h4 k e.symm hk]
  · rcases hv with e | e
    · exact h4 k (e ▸ hk) hF
    · rw [e] at hk; simp at hk; have := I.dom h1 k hF; omega
  · have := hg.size; have := h.hB; simp [World.setCell]; omega
  · rw [heap_setCell_same _ _ _ _ _ _ hbox]; rfl
theorem TC.renew {l' : List Nat} {v : Value} (h : TC I B w0 w q p x A rd held l) (hr : w'.ownsRow w.heap.size 41 1 v l'.length (u32s l')) (hb : Below w.heap.size w w') :
    TC I B w0 (w'.setCell ⟨q, 1, none⟩ v) q p v A rd held l' := by
  have h' := h.calm hb
  obtain ⟨F, h1, h2, h3, h4⟩ := h.has
  have hql := h.lt
  have hqv : v.ownBlock ≠ some q := fun e => by have := row_from hr q e; omega
  have hbox : w'.heap[q]? = some (.cells #[p, x] 70 (0, 0)) := h'.box
  refine ⟨⟨F, I.keep h1 fun k hk => ?_, h2, h3, fun k hk hF => ?_⟩, h.inv, h.agg, h'.below.setCell h.hq _, ?_, h.hq, ?_, row_mono (row_keep hr fun k hk => heap_setCell_other _ _ _ _ fun e => hqv (by rw [hk, e])) h.hB, hqv⟩
  · rw [heap_setCell_other _ _ _ _ (show k ≠ q from fun e => h3 (e ▸ hk)), hb.block k (I.dom h1 k hk)]
  · have := row_from hr k hk; have := I.dom h1 k hF; omega
  · have := h'.hB; simp [World.setCell]; omega
  · rw [heap_setCell_same _ _ _ _ _ _ hbox]; rfl
def ARc (I : AImpl) (B : Nat) (w0 : World) (q : Nat) (p x : Value) (A : Ar) (rd : Int) (held : Nat → Nat) (l : List Nat) (r : Value) (e : Ending) (w' : World) : Prop :=
  e = .returned r ∧ TC I B w0 w' q p x A rd held l
theorem tc_retain (h : TC I B w0 w q p x A rd (hof l) l) {i : Nat} (hi : i = 0 ∨ i ∈ l) (hl : l.length ≤ 1000000) :
    Calls Try.prog 21 #[p, .int .u32 (i : Int)] w (fun e w' => ∃ A', A'.σ.cap = A.σ.cap ∧ ARc I B w0 q p x A' rd (hof (l ++ [i])) l (.int .i64 0) e w') := by
  obtain ⟨F, h1, h2, h3, h4⟩ := h.has
  have hidx := held_idx h.inv hi
  have hi4 : i < 4294967296 := by
    rcases hidx with h5 | h5
    · omega
    · have := h.inv.ok.on i h5; have := h.inv.ok.cap2; omega
  refine (I.retain p A rd F i w h1 hi4 (fun hon => cnt_small h.inv hl hon)).mono ?_
  rintro e w1 ⟨F', hal, _, h5⟩
  obtain ⟨rfl, h6⟩ := h5 hidx
  by_cases h0 : i = 0
  · subst h0
    have h7 : A.ret 0 = A := by unfold Ar.ret; rw [if_pos rfl]
    rw [h7] at h6
    exact ⟨A, rfl, rfl, by rw [hof_zero]; exact h.step h2 h3 h4 hal h6 h.inv h.agg⟩
  · have hon : A.σ.on i = true := by rcases hidx with h8 | h8; exact absurd h8 h0; exact h8
    have h7 : A.ret i = A.inc i := by unfold Ar.ret; rw [if_neg h0]
    rw [h7] at h6
    exact ⟨A.inc i, rfl, rfl, by rw [hof_more l h0]; exact h.step h2 h3 h4 hal h6 (h.inv.inc hon) (h.agg.inc i)⟩
theorem tc_release (h : TC I B w0 w q p x A rd (hof l) l) {k : Nat} (hk : k < l.length) :
    Calls Try.prog 25 #[p, .int .u32 ((l.getD k 0 : Nat) : Int)] w (fun e w' => ∃ A' : Ar, ∃ m : Nat, A'.σ.cap = A.σ.cap ∧ A'.σ.free.length = A.σ.free.length + m ∧ ARc I B w0 q p x A' rd (hof (l.take k ++ l.drop (k + 1))) l (.tuple #[.int .i64 (m : Int), .int .i64 0]) e w') := by
  obtain ⟨F, h1, h2, h3, h4⟩ := h.has
  have hmem := getD_in hk
  have hidx := held_idx h.inv (.inr hmem)
  obtain ⟨i, hI⟩ : ∃ i, l.getD k 0 = i := ⟨_, rfl⟩
  rw [hI] at hmem hidx ⊢
  have hi4 : i < 4294967296 := by
    rcases hidx with h5 | h5
    · omega
    · have := h.inv.ok.on i h5; have := h.inv.ok.cap2; omega
  by_cases h0 : i = 0
  · subst h0
    refine (I.release p A rd F 0 (hof l) w h1 (by decide) (fun _ => h.inv.give0)).mono ?_
    rintro e w1 ⟨F', hal, _, h5⟩
    obtain ⟨rfl, h6⟩ := h5 (.inl rfl)
    rw [(gone_zero A).1] at h6
    refine ⟨A, 0, rfl, rfl, ?_, by rw [hof_erase0 hk hI]; exact h.step h2 h3 h4 hal h6 h.inv h.agg⟩
    rw [(gone_zero A).2]
  · have hon : A.σ.on i = true := by rcases hidx with h8 | h8; exact absurd h8 h0; exact h8
    have hg := h.inv.give (hof_pos hmem h0)
    have hgo := Ar.gone_ok hg h.agg
    refine (I.release p A rd F i (less (hof l) i) w h1 hi4 (fun _ => hg)).mono ?_
    rintro e w1 ⟨F', hal, _, h5⟩
    obtain ⟨rfl, h6⟩ := h5 hidx
    exact ⟨A.gone i, A.freed i, hgo.2.2.1, hgo.2.2.2, rfl, by rw [hof_erase hk hI h0]; exact h.step h2 h3 h4 hal h6 hgo.1 hgo.2.1⟩
theorem hof_len (l : List Nat) (j : Nat) : hof l j ≤ l.length := by
  unfold hof
  split
  · exact Nat.zero_le _
  · exact List.count_le_length
def MadeRes (I : AImpl) (B : Nat) (w0 : World) (q : Nat) (p x : Value) (A : Ar) (rd : Int) (l : List Nat) (e : Ending) (w' : World) : Prop :=
  ∃ (A' : Ar) (i : Nat) (er : Int) (l' : List Nat), A'.σ.cap = A.σ.cap ∧ e = .returned (.tuple #[.int .u32 (i : Int), .int .i64 er]) ∧ TC I B w0 w' q p x A' rd (hof l') l ∧ i < 4294967296 ∧ ((er = 0 ∧ l' = l ++ [i]) ∨ (er = 2 ∧ l' = l))
theorem tc_make_at (h : TC I B w0 w q p x A rd (hof l) l) {F : Nat → Prop} (g1 : I.Is w p A rd F) (g2 : ∀ k, F k → B ≤ k) (g3 : ¬ F q) (g4 : ∀ k, x.ownBlock = some k → ¬ F k) {key val : Int} {a b : Nat} (ha : Args key val a b) (h1 : a = 0 ∨ a ∈ l) (h2 : b = 0 ∨ b ∈ l) (hc : A.σ.cap ≤ 30) (hll : l.length ≤ 1000000) :
    Calls Try.prog 34 #[p, .int .i64 key, .int .i64 val, .int .u32 (a : Int), .int .u32 (b : Int)] w (fun e w' => (∃ F', Alters F F' w w') ∧ MadeRes I B w0 q p x A rd l e w') := by
  have hl := held_idx h.inv h1
  have hr := held_idx h.inv h2
  have hs := size_fits h.inv h.agg hc key val hl hr
  refine (I.make p A rd F key val a b (hof l) w g1 h.inv h.agg (fun j => Nat.le_trans (hof_len l j) (by omega)) ha.1.1 ha.1.2 ha.2.1.1 ha.2.1.2 ha.2.2.1 ha.2.2.2).mono ?_
  rintro e w1 ⟨F', hal, _, h5, h6⟩
  refine ⟨⟨F', hal⟩, ?_⟩
  cases hf : A.σ.free with
  | nil =>
    obtain ⟨rfl, h7⟩ := h5 ⟨hl, hr, hs⟩ hf
    exact ⟨A, 0, 2, l, rfl, rfl, h.step g2 g3 g4 hal h7 h.inv h.agg, by decide, .inr ⟨rfl, rfl⟩⟩
  | cons i t =>
    obtain ⟨rfl, h7⟩ := h6 ⟨hl, hr, hs⟩ i t hf
    have him := (h.inv.ok.free i).1 (by rw [hf]; simp)
    have hcap := h.inv.ok.cap2
    refine ⟨A.made i t (A.node key val a b), i, 0, l ++ [i], rfl, rfl, ?_, by omega, .inl ⟨rfl, rfl⟩⟩
    rw [hof_more l (by omega)]
    exact h.step g2 g3 g4 hal h7 (h.inv.made (x := A.node key val a b) hf hl hr) (h.agg.made h.inv hf hl hr hs)
theorem tc_make (h : TC I B w0 w q p x A rd (hof l) l) {key val : Int} {a b : Nat} (ha : Args key val a b) (h1 : a = 0 ∨ a ∈ l) (h2 : b = 0 ∨ b ∈ l) (hc : A.σ.cap ≤ 30) (hll : l.length ≤ 1000000) :
    Calls Try.prog 34 #[p, .int .i64 key, .int .i64 val, .int .u32 (a : Int), .int .u32 (b : Int)] w (MadeRes I B w0 q p x A rd l) := by
  obtain ⟨F, g1, g2, g3, g4⟩ := h.has
  exact (tc_make_at h g1 g2 g3 g4 ha h1 h2 hc hll).mono fun e w1 h3 => h3.2
end
end Go.Proofs.Ytnmookemeibioaa
