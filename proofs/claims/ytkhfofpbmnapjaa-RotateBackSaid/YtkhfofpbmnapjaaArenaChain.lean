/- A chain of nodes: the cascade frees all of it, in the order from the root downwards. No program is spoken of. -/
import Derived.Test.YtkhfofpbmnapjaaArenaCon
set_option linter.unusedVariables false
namespace Go.Proofs.Ytkhfofpbmnapjaa
/-- slots 1 to k have one reference each, and the child of slot j is j - 1, the right one if rt -/
def Ch (A : Ar) (rt : Bool) (k : Nat) : Prop := ∀ j, 1 ≤ j → j ≤ k → A.cnt j = 1 ∧ (A.nd j).left = (if rt = true then 0 else j - 1) ∧ (A.nd j).right = (if rt = true then j - 1 else 0)
theorem run_zeros : ∀ (f m : Nat) (A : Ar), m ≤ f → Ar.run f A (List.replicate m 0) = (A, 0)
  | 0, m, A, h => by
    obtain rfl : m = 0 := by omega
    rfl
  | f + 1, 0, A, h => rfl
  | f + 1, m + 1, A, h => by
    show Ar.run (f + 1) A (0 :: List.replicate m 0) = _
    unfold Ar.run
    rw [if_pos rfl]
    exact run_zeros f m A (by omega)
theorem run_chain (rt : Bool) : ∀ (k f m : Nat) (A : Ar), Ch A rt k → 3 * k + m + 1 ≤ f → (Ar.run f A (k :: List.replicate m 0)).2 = k ∧ (Ar.run f A (k :: List.replicate m 0)).1.σ.free = List.range' 1 k ++ A.σ.free
  | 0, f, m, A, h, hf => by
    rw [show (0 :: List.replicate m 0) = List.replicate (m + 1) 0 from rfl, run_zeros f (m + 1) A (by omega)]
    exact ⟨rfl, by simp⟩
  | k + 1, f, m, A, h, hf => by
    obtain ⟨f, rfl⟩ : ∃ g, f = g + 1 := ⟨f - 1, by omega⟩
    obtain ⟨hc, hl, hr⟩ := h (k + 1) (by omega) (Nat.le_refl _)
    have hd : Ch (A.drop (k + 1)) rt k := fun j h1 h2 => by
      have h3 := h j h1 (by omega)
      have hne : ¬ j = k + 1 := by omega
      show (if j = k + 1 then 0 else A.cnt j) = 1 ∧ (if j = k + 1 then Nd.zero else A.nd j).left = _ ∧ (if j = k + 1 then Nd.zero else A.nd j).right = _
      rw [if_neg hne, if_neg hne]
      exact h3
    have hfree : (A.drop (k + 1)).σ.free = (k + 1) :: A.σ.free := rfl
    have hrun : Ar.run (f + 1) A ((k + 1) :: List.replicate m 0) = ((Ar.run f (A.drop (k + 1)) ((A.nd (k + 1)).left :: (A.nd (k + 1)).right :: List.replicate m 0)).1, (Ar.run f (A.drop (k + 1)) ((A.nd (k + 1)).left :: (A.nd (k + 1)).right :: List.replicate m 0)).2 + 1) := by
      conv => lhs; unfold Ar.run
      rw [if_neg (by omega), if_pos hc]
    rw [hrun, hl, hr]
    have hcat : List.range' 1 k ++ (k + 1) :: A.σ.free = List.range' 1 (k + 1) ++ A.σ.free := by
      rw [List.range'_concat]
      have e : 1 + 1 * k = k + 1 := by omega
      rw [e]; simp
    cases rt with
    | false =>
      rw [if_neg (by simp), if_neg (by simp), show k + 1 - 1 = k from rfl]
      have ih := run_chain false k f (m + 1) (A.drop (k + 1)) hd (by omega)
      rw [show (0 :: List.replicate m 0) = List.replicate (m + 1) 0 from rfl]
      exact ⟨by rw [ih.1], by rw [ih.2, hfree, hcat]⟩
    | true =>
      rw [if_pos rfl, if_pos rfl, show k + 1 - 1 = k from rfl]
      obtain ⟨f, rfl⟩ : ∃ g, f = g + 1 := ⟨f - 1, by omega⟩
      have h0 : Ar.run (f + 1) (A.drop (k + 1)) (0 :: k :: List.replicate m 0) = Ar.run f (A.drop (k + 1)) (k :: List.replicate m 0) := by
        conv => lhs; unfold Ar.run
        rw [if_pos rfl]
      rw [h0]
      have ih := run_chain true k f m (A.drop (k + 1)) hd (by omega)
      exact ⟨by rw [ih.1], by rw [ih.2, hfree, hcat]⟩
/-- a reference that isn't the last one is removed, one of 0 too -/
theorem gone_shared {A : Ar} {i : Nat} (h0 : i ≠ 0) (hc : A.cnt i ≠ 1) : A.gone i = A.dec i ∧ A.freed i = 0 := by
  unfold Ar.gone Ar.freed Ar.fuel
  have h1 : Ar.run (3 * A.σ.cap + 1) A [i] = Ar.run (3 * A.σ.cap) (A.dec i) [] := by
    conv => lhs; unfold Ar.run
    rw [if_neg h0, if_neg hc]
  rw [h1]
  cases 3 * A.σ.cap <;> exact ⟨rfl, rfl⟩
theorem gone_zero (A : Ar) : A.gone 0 = A ∧ A.freed 0 = 0 := by
  unfold Ar.gone Ar.freed Ar.fuel
  have h1 : Ar.run (3 * A.σ.cap + 1) A [0] = Ar.run (3 * A.σ.cap) A [] := by
    conv => lhs; unfold Ar.run
    rw [if_pos rfl]
  rw [h1]
  cases 3 * A.σ.cap <;> exact ⟨rfl, rfl⟩
/-- a chain of k nodes in slots 1 to k of n -/
structure DS (A : Ar) (rt : Bool) (k n : Nat) : Prop where
  cap : A.σ.cap = n
  free : A.σ.free = List.range' (k + 1) (n - k)
  on : ∀ j, 1 ≤ j → j ≤ k → A.σ.on j = true
  ch : Ch A rt k
  size : ∀ j, 1 ≤ j → j ≤ k → (A.nd j).size = (j : Int)
/-- the root alone is held -/
def hk (k : Nat) : Nat → Nat := fun j => if j = k ∧ k ≠ 0 then 1 else 0
theorem hk_zero : more (hk 0) 1 = hk 1 := by
  funext j
  unfold more hk
  by_cases e : j = 1
  · subst e; simp
  · simp [e]
theorem hk_next {k : Nat} (h : k ≠ 0) : less (more (hk k) (k + 1)) k = hk (k + 1) := by
  funext j
  unfold less more hk
  by_cases e : j = k
  · subst e; simp [h]
  · by_cases e2 : j = k + 1
    · subst e2; simp
    · simp [e, e2]
theorem DS.start (n : Nat) (rt : Bool) : DS (Ar.init n) rt 0 n := ⟨rfl, by simp [Ar.init, St.init], fun j h1 h2 => absurd h1 (by omega), fun j h1 h2 => absurd h1 (by omega), fun j h1 h2 => absurd h1 (by omega)⟩
theorem DS.made {A : Ar} {rt : Bool} {k n : Nat} (h : DS A rt k n) (hkn : k < n) (key : Int) :
    DS (if k = 0 then A.made (k + 1) (List.range' (k + 2) (n - (k + 1))) (A.node key 1 (if rt = true then 0 else k) (if rt = true then k else 0)) else (A.made (k + 1) (List.range' (k + 2) (n - (k + 1))) (A.node key 1 (if rt = true then 0 else k) (if rt = true then k else 0))).dec k) rt (k + 1) n := by
  have hszk : A.sz k = (k : Int) := by
    unfold Ar.sz
    split
    · rename_i h0; subst h0; rfl
    · exact h.size k (by omega) (Nat.le_refl _)
  have hsz : (A.node key 1 (if rt = true then 0 else k) (if rt = true then k else 0)).size = ((k + 1 : Nat) : Int) := by
    show 1 + A.sz _ + A.sz _ = _
    have h0 : A.sz 0 = 0 := rfl
    cases rt <;> simp [hszk, h0] <;> omega
  have hnl : (A.node key 1 (if rt = true then 0 else k) (if rt = true then k else 0)).left = (if rt = true then 0 else k) := rfl
  have hnr : (A.node key 1 (if rt = true then 0 else k) (if rt = true then k else 0)).right = (if rt = true then k else 0) := rfl
  generalize A.node key 1 (if rt = true then 0 else k) (if rt = true then k else 0) = x at *
  have key1 : ∀ j, 1 ≤ j → j ≤ k + 1 → (A.made (k + 1) (List.range' (k + 2) (n - (k + 1))) x).σ.on j = true ∧ ((A.made (k + 1) (List.range' (k + 2) (n - (k + 1))) x).nd j).size = (j : Int) ∧
      ((A.made (k + 1) (List.range' (k + 2) (n - (k + 1))) x).nd j).left = (if rt = true then 0 else j - 1) ∧ ((A.made (k + 1) (List.range' (k + 2) (n - (k + 1))) x).nd j).right = (if rt = true then j - 1 else 0) ∧
      (A.made (k + 1) (List.range' (k + 2) (n - (k + 1))) x).cnt j = (if j = k then 2 else 1) := by
    intro j h1 h2
    by_cases e : j = k + 1
    · subst e
      have e1 : (A.made (k + 1) (List.range' (k + 2) (n - (k + 1))) x).nd (k + 1) = x := if_pos rfl
      rw [e1, hnl, hnr]
      refine ⟨take_same _ _ _, hsz, rfl, rfl, ?_⟩
      show (if k + 1 = k + 1 then 1 else _) = _
      rw [if_pos rfl, if_neg (by omega)]
    · have e1 : (A.made (k + 1) (List.range' (k + 2) (n - (k + 1))) x).nd j = A.nd j := if_neg e
      have hc := h.ch j h1 (by omega)
      rw [e1]
      refine ⟨(take_other _ _ e).trans (h.on j h1 (by omega)), h.size j h1 (by omega), hc.2.1, hc.2.2, ?_⟩
      show (if j = k + 1 then 1 else if j = 0 then A.cnt 0 else A.cnt j + (hit x.left j : Int) + (hit x.right j : Int)) = _
      rw [if_neg e, if_neg (by omega), hc.1, hnl, hnr]
      unfold hit
      by_cases ek : j = k
      · subst ek
        rw [if_pos rfl]
        have h3 : ¬ 0 = j := by omega
        cases rt <;> simp [h3]
      · rw [if_neg ek]
        have ek2 : ¬ k = j := fun e => ek e.symm
        have ek3 : ¬ 0 = j := by omega
        cases rt <;> simp [ek2, ek3]
  by_cases h0 : k = 0
  · rw [if_pos h0]
    subst h0
    exact ⟨h.cap, rfl, fun j h1 h2 => (key1 j h1 h2).1, fun j h1 h2 => ⟨by rw [(key1 j h1 h2).2.2.2.2, if_neg (by omega)], (key1 j h1 h2).2.2.1, (key1 j h1 h2).2.2.2.1⟩, fun j h1 h2 => (key1 j h1 h2).2.1⟩
  · rw [if_neg h0]
    refine ⟨h.cap, rfl, fun j h1 h2 => (key1 j h1 h2).1, fun j h1 h2 => ⟨?_, (key1 j h1 h2).2.2.1, (key1 j h1 h2).2.2.2.1⟩, fun j h1 h2 => (key1 j h1 h2).2.1⟩
    show (if j = k then (A.made (k + 1) (List.range' (k + 2) (n - (k + 1))) x).cnt k - 1 else (A.made (k + 1) (List.range' (k + 2) (n - (k + 1))) x).cnt j) = 1
    by_cases ek : j = k
    · rw [if_pos ek, (key1 k (by omega) (by omega)).2.2.2.2, if_pos rfl]; rfl
    · rw [if_neg ek, (key1 j h1 h2).2.2.2.2, if_neg ek]
end Go.Proofs.Ytkhfofpbmnapjaa
