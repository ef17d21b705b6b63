/- Which slots of a dump are reachable: a search that marks a slot when it is added to the work. No program is spoken of. -/
import Derived.Test.YticmaddcomemhaaDumpR
set_option linter.unusedVariables false
namespace Go.Proofs.Yticmaddcomemhaa
/-- ks: the roots that were visited; of y the children from p on are not yet visited -/
structure PInv (S : Nat → Sl) (n : Nat) (rs ks : List Nat) (B : Nat → Bool) (st : List Nat) (y p : Nat) : Prop where
  sound : ∀ j, j < n → B j = true → Rch S n rs (j + 1)
  stack : ∀ x ∈ st, Al S n x ∧ B (x - 1) = true
  roots : ∀ x ∈ ks, Al S n x → B (x - 1) = true
  kids : ∀ j, j < n → B j = true → ∀ t, t < 2 → Al S n (kd (S j) t) → B (kd (S j) t - 1) = true ∨ j + 1 ∈ st ∨ (j + 1 = y ∧ p ≤ t)
section
variable {S : Nat → Sl} {n : Nat} {rs ks : List Nat} {B : Nat → Bool} {st : List Nat} {y p x : Nat}
theorem PInv.start (S : Nat → Sl) (n : Nat) (rs : List Nat) : PInv S n rs [] (fun _ => false) [] 0 2 :=
  ⟨(fun j _ h => (by cases h)), (fun x h => (by cases h)), (fun x h => (by cases h)), (fun j _ h => (by cases h))⟩
theorem setB_same (B : Nat → Bool) (j : Nat) : setB B j j = true := by unfold setB; simp
theorem setB_up {B : Nat → Bool} {i : Nat} (j : Nat) (h : B i = true) : setB B j i = true := by unfold setB; split <;> simp [h]
/-- an allocated slot that is not marked is marked and added -/
theorem PInv.add (h : PInv S n rs ks B st y p) (hx : Al S n x) (hr : Rch S n rs x) : PInv S n rs ks (setB B (x - 1)) (st ++ [x]) y p := by
  refine ⟨fun j hj hb => ?_, fun z hz => ?_, fun z hz ha => setB_up _ (h.roots z hz ha), fun j hj hb t ht ha => ?_⟩
  · unfold setB at hb
    by_cases e : j = x - 1
    · subst e; have := hx.1; rwa [show x - 1 + 1 = x by omega]
    · rw [if_neg e] at hb; exact h.sound j hj hb
  · rcases List.mem_append.1 hz with hz | hz
    · exact ⟨(h.stack z hz).1, setB_up _ (h.stack z hz).2⟩
    · simp at hz; subst hz; exact ⟨hx, setB_same _ _⟩
  · unfold setB at hb
    by_cases e : j = x - 1
    · subst e; have := hx.1; exact .inr (.inl (by simp; omega))
    · rw [if_neg e] at hb
      rcases h.kids j hj hb t ht ha with h1 | h1 | h1
      · exact .inl (setB_up _ h1)
      · exact .inr (.inl (by simp [h1]))
      · exact .inr (.inr h1)
theorem PInv.root (h : PInv S n rs ks B st y p) (hx : Al S n x → B (x - 1) = true) : PInv S n rs (ks ++ [x]) B st y p :=
  ⟨h.sound, h.stack, fun z hz ha => by
    rcases List.mem_append.1 hz with hz | hz
    · exact h.roots z hz ha
    · simp at hz; subst hz; exact hx ha, h.kids⟩
theorem PInv.pop (h : PInv S n rs ks B (st ++ [x]) y 2) : PInv S n rs ks B st x 0 :=
  ⟨h.sound, fun z hz => h.stack z (by simp [hz]), h.roots, fun j hj hb t ht ha => by
    rcases h.kids j hj hb t ht ha with h1 | h1 | h1
    · exact .inl h1
    · rcases List.mem_append.1 h1 with h2 | h2
      · exact .inr (.inl h2)
      · simp at h2; exact .inr (.inr ⟨h2, Nat.zero_le _⟩)
    · omega⟩
theorem PInv.next (h : PInv S n rs ks B st (x + 1) p) (hx : Al S n (kd (S x) p) → B (kd (S x) p - 1) = true) : PInv S n rs ks B st (x + 1) (p + 1) :=
  ⟨h.sound, h.stack, h.roots, fun j hj hb t ht ha => by
    rcases h.kids j hj hb t ht ha with h1 | h1 | h1
    · exact .inl h1
    · exact .inr (.inl h1)
    · by_cases e : t = p
      · subst e
        obtain rfl : j = x := by omega
        exact .inl (hx ha)
      · exact .inr (.inr ⟨h1.1, by omega⟩)⟩
theorem PInv.done (h : PInv S n rs rs B [] y 2) {j : Nat} (hj : j < n) : B j = true ↔ Rch S n rs (j + 1) := by
  refine ⟨h.sound j hj, fun hr => ?_⟩
  have key : ∀ z, Rch S n rs z → B (z - 1) = true := fun z hz => by
    induction hz with
    | root z hm ha => exact h.roots z hm ha
    | kid z t hz ht ha ih =>
      have h1 := hz.al
      rcases h.kids (z - 1) (by have := h1.1; have := h1.2.1; omega) ih t ht ha with h2 | h2 | h2
      · exact h2
      · cases h2
      · omega
  have := key _ hr
  simpa using this
/-- what a visit of x leaves -/
def visB (S : Nat → Sl) (n : Nat) (B : Nat → Bool) (x : Nat) : Nat → Bool := if Al S n x ∧ B (x - 1) = false then setB B (x - 1) else B
def visS (S : Nat → Sl) (n : Nat) (B : Nat → Bool) (st : List Nat) (x : Nat) : List Nat := if Al S n x ∧ B (x - 1) = false then st ++ [x] else st
theorem vis_num (x : Nat) (B : Nat → Bool) (st : List Nat) : 2 * um n (visB S n B x) + (visS S n B st x).length ≤ 2 * um n B + st.length := by
  unfold visB visS
  split
  · rename_i h
    have h1 := um_set B h.2 n (by have := h.1.1; have := h.1.2.1; omega)
    rw [List.length_append]
    simp
    omega
  · exact Nat.le_refl _
theorem PInv.visit (h : PInv S n rs ks B st y p) (hr : Al S n x → Rch S n rs x) : PInv S n rs ks (visB S n B x) (visS S n B st x) y p ∧ (Al S n x → visB S n B x (x - 1) = true) := by
  unfold visB visS
  by_cases hc : Al S n x ∧ B (x - 1) = false
  · rw [if_pos hc, if_pos hc]
    exact ⟨h.add hc.1 (hr hc.1), fun _ => setB_same _ _⟩
  · rw [if_neg hc, if_neg hc]
    refine ⟨h, fun ha => ?_⟩
    cases hb : B (x - 1) with
    | true => rfl
    | false => exact absurd ⟨ha, hb⟩ hc
end
end Go.Proofs.Yticmaddcomemhaa
