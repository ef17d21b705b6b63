/- The nearest entries by a search down a tree, plain. -/
import Derived.Test.YtbjmblfifnjafaaNear
import Derived.Test.YtbjmblfifnjafaaLkCon
set_option linter.unusedVariables false
namespace Go.Proofs.Ytbjmblfifnjafaa
theorem up_app {A B : List En} {e : En} (h : Up (A ++ e :: B)) : Up A ∧ Up B ∧ (∀ x ∈ A, x.key < e.key) ∧ ∀ x ∈ B, e.key < x.key := by
  unfold Up at *
  rw [List.pairwise_append, List.pairwise_cons] at h
  exact ⟨h.1, h.2.1.2, fun x hx => h.2.2 x hx e (by simp), h.2.1.1⟩
theorem rankE_app (A B : List En) (k : Int) : rankE (A ++ B) k = rankE A k + rankE B k := by unfold rankE; exact List.countP_append
theorem rankE_all : ∀ {A : List En} {k : Int}, (∀ x ∈ A, x.key < k) → rankE A k = A.length
  | [], k, h => rfl
  | x :: t, k, h => by rw [rankE_cons, rankE_all (fun y hy => h y (by simp [hy])), if_pos (h x (by simp))]; rfl
/-- the rank of the next number -/
theorem rank_next {l : List En} (h : Up l) (k : Int) : rankE l (k + 1) = rankE l k + (if (getE l k).isSome then 1 else 0) := by
  cases hg : getE l k with
  | none =>
    have h1 := get_none hg
    show rankE l (k + 1) = rankE l k
    unfold rankE
    exact List.countP_congr fun e he => by
      have := h1 e he
      simp only [decide_eq_true_eq]
      omega
  | some e =>
    obtain ⟨hm, rfl⟩ := get_some hg
    obtain ⟨j, hj, hje⟩ := List.mem_iff_getElem.1 hm
    have hje' : l[j]? = some e := by rw [List.getElem?_eq_getElem hj, hje]
    rw [rank_of h hje']
    show rankE l (e.key + 1) = j + 1
    have h1 := (rank_iff (e.key + 1) h hje').1 (by omega)
    rcases Nat.lt_or_ge (j + 1) (rankE l (e.key + 1)) with h2 | h2
    · have h3 := rankE_le l (e.key + 1)
      have hb : l[j + 1]? = some l[j + 1] := List.getElem?_eq_getElem (by omega)
      have h4 := (rank_iff (e.key + 1) h hb).2 h2
      have h5 := List.pairwise_iff_getElem.1 h j (j + 1) hj (by omega) (by omega)
      rw [hje] at h5
      omega
    · omega
theorem floor_below {l : List En} (h : Up l) (k : Int) : floorE l k = belowE l (k + 1) := by
  unfold floorE belowE
  rw [rank_next h k]
  cases hg : (getE l k).isSome with
  | true => rw [if_pos rfl, if_pos rfl]; congr 1; omega
  | false => rfl
theorem above_ceil {l : List En} (h : Up l) (k : Int) : aboveE l k = ceilE l (k + 1) := by
  unfold aboveE ceilE
  rw [rank_next h k]
  cases hg : (getE l k).isSome with
  | true => rw [if_pos rfl, if_pos rfl]; rfl
  | false => rfl
theorem below_node {A B : List En} {e : En} (h : Up (A ++ e :: B)) (k : Int) : belowE (A ++ e :: B) k = if e.key < k then (belowE B k).or (some e) else belowE A k := by
  obtain ⟨h1, h2, h3, h4⟩ := up_app h
  unfold belowE
  rw [rankE_app, rankE_cons, selE_pred]
  by_cases hk : e.key < k
  · rw [if_pos hk, rankE_all (A := A) (fun x hx => by have := h3 x hx; omega), if_neg (by omega), if_pos hk, selE_pred]
    by_cases h0 : rankE B k = 0
    · rw [if_pos h0, h0, show A.length + (0 + 1) - 1 = A.length by omega]
      rw [List.getElem?_append_right (Nat.le_refl _), Nat.sub_self]
      rfl
    · rw [if_neg h0, show A.length + (rankE B k + 1) - 1 = A.length + rankE B k by omega, List.getElem?_append_right (by omega), show A.length + rankE B k - A.length = (rankE B k - 1) + 1 by omega, List.getElem?_cons_succ]
      have := rankE_le B k
      rw [List.getElem?_eq_getElem (by omega)]
      rfl
  · rw [if_neg hk, if_neg hk, rankE_zero (t := B) (fun y hy => by have := h4 y hy; omega), selE_pred]
    simp only [Nat.add_zero]
    by_cases h0 : rankE A k = 0
    · rw [if_pos h0, if_pos h0]
    · have := rankE_le A k
      rw [if_neg h0, if_neg h0, List.getElem?_append_left (by omega)]
theorem ceil_node {A B : List En} {e : En} (h : Up (A ++ e :: B)) (k : Int) : ceilE (A ++ e :: B) k = if e.key < k then ceilE B k else (ceilE A k).or (some e) := by
  obtain ⟨h1, h2, h3, h4⟩ := up_app h
  unfold ceilE
  rw [rankE_app, rankE_cons, selE_nat, selE_nat, selE_nat]
  by_cases hk : e.key < k
  · rw [if_pos hk, if_pos hk, rankE_all (A := A) (fun x hx => by have := h3 x hx; omega), List.getElem?_append_right (by omega), show A.length + (rankE B k + 1) - A.length = rankE B k + 1 by omega, List.getElem?_cons_succ]
  · rw [if_neg hk, if_neg hk, rankE_zero (t := B) (fun y hy => by have := h4 y hy; omega)]
    simp only [Nat.add_zero]
    have := rankE_le A k
    rcases Nat.lt_or_ge (rankE A k) A.length with h0 | h0
    · rw [List.getElem?_append_left h0, List.getElem?_eq_getElem h0]; rfl
    · rw [List.getElem?_append_right h0, show rankE A k - A.length = 0 by omega, List.getElem?_eq_none h0]; rfl
theorem getE_app (A B : List En) (k : Int) : getE (A ++ B) k = (getE A k).or (getE B k) := by unfold getE; exact List.find?_append
theorem getE_none {l : List En} {k : Int} (h : ∀ e ∈ l, e.key ≠ k) : getE l k = none := by
  unfold getE
  exact List.find?_eq_none.2 fun e he => by simpa using h e he
theorem get_node {A B : List En} {e : En} (h : Up (A ++ e :: B)) (k : Int) : getE (A ++ e :: B) k = if k = e.key then some e else if k < e.key then getE A k else getE B k := by
  obtain ⟨h1, h2, h3, h4⟩ := up_app h
  rw [getE_app]
  have hc : getE (e :: B) k = if e.key = k then some e else getE B k := getE_step (l := e :: B) (j := 0) rfl k
  rw [hc]
  by_cases hk : k = e.key
  · rw [if_pos hk, if_pos hk.symm, getE_none (fun x hx => by have := h3 x hx; omega)]; rfl
  · rw [if_neg hk, if_neg (fun e => hk e.symm)]
    by_cases hl : k < e.key
    · rw [if_pos hl, getE_none (l := B) (fun x hx => by have := h4 x hx; omega)]
      cases getE A k <;> rfl
    · rw [if_neg hl, getE_none (l := A) (fun x hx => by have := h3 x hx; omega)]; rfl
/-! ### down a tree -/
def ndE (x : Nd) : En := ⟨x.key, x.val⟩
def bef (nd : Nat → Nd) (k : Int) : Tr → Option En → Option En
  | .nil, o => o
  | .node i l r, o => if (nd i).key < k then bef nd k r (some (ndE (nd i))) else bef nd k l o
def aft (nd : Nat → Nd) (k : Int) : Tr → Option En → Option En
  | .nil, o => o
  | .node i l r, o => if (nd i).key < k then aft nd k r o else aft nd k l (some (ndE (nd i)))
def getT (nd : Nat → Nd) (k : Int) : Tr → Option En
  | .nil => none
  | .node i l r => if k = (nd i).key then some (ndE (nd i)) else if k < (nd i).key then getT nd k l else getT nd k r
def minT (nd : Nat → Nd) : Tr → Option En → Option En
  | .nil, o => o
  | .node i l _, _ => minT nd l (some (ndE (nd i)))
def maxT (nd : Nat → Nd) : Tr → Option En → Option En
  | .nil, o => o
  | .node i _ r, _ => maxT nd r (some (ndE (nd i)))
theorem bef_spec (nd : Nat → Nd) (k : Int) : ∀ (t : Tr) (o : Option En), Up (t.ents nd) → bef nd k t o = (belowE (t.ents nd) k).or o
  | .nil, o, h => by unfold bef; show o = (belowE [] k).or o; rfl
  | .node i l r, o, h => by
    rw [Tr.ents_node] at h ⊢
    obtain ⟨h1, h2, _, _⟩ := up_app h
    rw [below_node h k]
    unfold bef
    by_cases hk : (nd i).key < k
    · rw [if_pos hk, if_pos hk, bef_spec nd k r _ h2, Option.or_assoc]; rfl
    · rw [if_neg hk, if_neg hk, bef_spec nd k l _ h1]
theorem aft_spec (nd : Nat → Nd) (k : Int) : ∀ (t : Tr) (o : Option En), Up (t.ents nd) → aft nd k t o = (ceilE (t.ents nd) k).or o
  | .nil, o, h => by unfold aft; show o = (ceilE [] k).or o; rfl
  | .node i l r, o, h => by
    rw [Tr.ents_node] at h ⊢
    obtain ⟨h1, h2, _, _⟩ := up_app h
    rw [ceil_node h k]
    unfold aft
    by_cases hk : (nd i).key < k
    · rw [if_pos hk, if_pos hk, aft_spec nd k r _ h2]
    · rw [if_neg hk, if_neg hk, aft_spec nd k l _ h1, Option.or_assoc]; rfl
theorem getT_spec (nd : Nat → Nd) (k : Int) : ∀ t : Tr, Up (t.ents nd) → getT nd k t = getE (t.ents nd) k
  | .nil, h => rfl
  | .node i l r, h => by
    rw [Tr.ents_node] at h ⊢
    obtain ⟨h1, h2, _, _⟩ := up_app h
    rw [get_node h k]
    unfold getT
    rw [getT_spec nd k l h1, getT_spec nd k r h2]
    rfl
theorem minT_spec (nd : Nat → Nd) : ∀ (t : Tr) (o : Option En), minT nd t o = (t.ents nd).head?.or o
  | .nil, o => rfl
  | .node i l r, o => by
    unfold minT
    rw [minT_spec nd l _, Tr.ents_node]
    cases l.ents nd <;> rfl
theorem maxT_spec (nd : Nat → Nd) : ∀ (t : Tr) (o : Option En), maxT nd t o = (t.ents nd).getLast?.or o
  | .nil, o => rfl
  | .node i l r, o => by
    unfold maxT
    rw [maxT_spec nd r _, Tr.ents_node]
    cases h : r.ents nd with
    | nil => simp [ndE]
    | cons x t =>
      rw [List.getLast?_append, List.getLast?_cons_cons]
      cases h2 : (x :: t).getLast? with
      | none => simp at h2
      | some y => rfl
end Go.Proofs.Ytbjmblfifnjafaa
