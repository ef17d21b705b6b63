/- Neighbors in an ascending list, plain. -/
import Derived.Test.YtbjmblfifnjafaaRefNear
set_option linter.unusedVariables false
namespace Go.Proofs.Ytbjmblfifnjafaa
theorem rankE_cons (x : En) (t : List En) (k : Int) : rankE (x :: t) k = rankE t k + (if x.key < k then 1 else 0) := by
  unfold rankE
  rw [List.countP_cons]
  by_cases h : x.key < k <;> simp [h]
theorem rankE_zero : ∀ {t : List En} {k : Int}, (∀ y ∈ t, k ≤ y.key) → rankE t k = 0
  | [], k, h => rfl
  | x :: t, k, h => by
    rw [rankE_cons, rankE_zero (fun y hy => h y (by simp [hy])), if_neg (by have := h x (by simp); omega)]
/-- the entries before the rank have lesser keys, those behind it none -/
theorem rank_iff : ∀ {l : List En} (k : Int), Up l → ∀ {j : Nat} {e : En}, l[j]? = some e → (e.key < k ↔ j < rankE l k)
  | [], k, h, j, e, he => by simp at he
  | x :: t, k, h, j, e, he => by
    unfold Up at h
    rw [List.pairwise_cons] at h
    rw [rankE_cons]
    match j, he with
    | 0, he =>
      simp at he
      subst he
      by_cases hx : x.key < k
      · rw [if_pos hx]; exact ⟨fun _ => by omega, fun _ => hx⟩
      · rw [if_neg hx, rankE_zero (fun y hy => by have := h.1 y hy; omega)]
        exact ⟨fun h => absurd h hx, fun h => absurd h (by omega)⟩
    | j + 1, he =>
      simp at he
      have hm := List.mem_of_getElem? he
      have hlt := h.1 e hm
      have ih := rank_iff k h.2 he
      by_cases hx : x.key < k
      · rw [if_pos hx]
        exact ⟨fun h => by have := ih.1 h; omega, fun h => ih.2 (by omega)⟩
      · rw [if_neg hx, rankE_zero (fun y hy => by have := h.1 y hy; omega)]
        exact ⟨fun h => by omega, fun h => by omega⟩
theorem rank_of {l : List En} (h : Up l) {j : Nat} {e : En} (he : l[j]? = some e) : rankE l e.key = j := by
  have h1 := rank_iff e.key h he
  have hj := (List.getElem?_eq_some_iff.1 he).1
  rcases Nat.lt_trichotomy (rankE l e.key) j with h2 | h2 | h2
  · have h3 : l[rankE l e.key]? = some l[rankE l e.key] := List.getElem?_eq_getElem (by omega)
    have h4 := rank_iff e.key h h3
    have h5 : l[rankE l e.key].key < e.key := by
      have := List.pairwise_iff_getElem.1 h (rankE l e.key) j (by omega) hj h2
      rw [List.getElem?_eq_getElem hj] at he
      have e2 : l[j].key = e.key := by rw [Option.some.inj he]
      omega
    have := h4.1 h5
    omega
  · exact h2
  · have := h1.2 h2; omega
theorem get_of {l : List En} (h : Up l) {e : En} (he : e ∈ l) : getE l e.key = some e := by
  obtain ⟨j, hj, hje⟩ := List.mem_iff_getElem.1 he
  cases hg : getE l e.key with
  | none =>
    unfold getE at hg
    have := List.find?_eq_none.1 hg e he
    simp at this
  | some e' =>
    unfold getE at hg
    have h1 := List.mem_of_find?_eq_some hg
    have h2 := List.find?_some hg
    have h3 : e'.key = e.key := of_decide_eq_true h2
    obtain ⟨i, hi, hie⟩ := List.mem_iff_getElem.1 h1
    have r1 := rank_of h (j := j) (e := e) (by rw [List.getElem?_eq_getElem hj, hje])
    have r2 := rank_of h (j := i) (e := e') (by rw [List.getElem?_eq_getElem hi, hie])
    rw [h3] at r2
    have hij : i = j := by omega
    subst hij
    rw [← hje, ← hie]
theorem get_some {l : List En} {k : Int} {e : En} (h : getE l k = some e) : e ∈ l ∧ e.key = k := by
  unfold getE at h
  have h2 := List.find?_some h
  exact ⟨List.mem_of_find?_eq_some h, of_decide_eq_true h2⟩
theorem get_none {l : List En} {k : Int} (h : getE l k = none) : ∀ e ∈ l, e.key ≠ k := fun e he => by
  unfold getE at h
  have := List.find?_eq_none.1 h e he
  simpa using this
theorem selE_nat (l : List En) (j : Nat) : selE l (j : Int) = l[j]? := by unfold selE; rw [if_pos (by omega), Int.toNat_natCast]
theorem selE_pred (l : List En) (j : Nat) : selE l ((j : Int) - 1) = if j = 0 then none else l[j - 1]? := by
  unfold selE
  by_cases h : j = 0
  · rw [if_pos h, if_neg (by omega)]
  · rw [if_neg h, if_pos (by omega), show ((j : Int) - 1).toNat = j - 1 by omega]
/-- the key is there -/
theorem near_in {l : List En} (h : Up l) {k : Int} {e : En} (hg : getE l k = some e) : e.key = k ∧ floorE l k = some e ∧ ceilE l k = some e ∧
    ((belowE l k = none ∧ l.head? = some e) ∨ ∃ b, belowE l k = some b ∧ b.key < k ∧ b ∈ l ∧ aboveE l b.key = some e) := by
  obtain ⟨hm, rfl⟩ := get_some hg
  obtain ⟨j, hj, hje⟩ := List.mem_iff_getElem.1 hm
  have hje' : l[j]? = some e := by rw [List.getElem?_eq_getElem hj, hje]
  have hr := rank_of h hje'
  refine ⟨rfl, ?_, ?_, ?_⟩
  · unfold floorE; rw [hg, hr, selE_nat, hje']; rfl
  · unfold ceilE; rw [hr, selE_nat, hje']
  · unfold belowE
    rw [hr, selE_pred]
    by_cases h0 : j = 0
    · subst h0
      refine .inl ⟨if_pos rfl, ?_⟩
      rw [List.head?_eq_getElem?, hje']
    · rw [if_neg h0]
      have hb : l[j - 1]? = some l[j - 1] := List.getElem?_eq_getElem (by omega)
      have hrb := rank_of h hb
      refine .inr ⟨l[j - 1], hb, ?_, List.mem_of_getElem? hb, ?_⟩
      · have := List.pairwise_iff_getElem.1 h (j - 1) j (by omega) hj (by omega)
        rw [hje] at this; exact this
      · unfold aboveE
        rw [get_of h (List.mem_of_getElem? hb), hrb]
        show selE l (((j - 1 : Nat) : Int) + 1) = _
        rw [show ((j - 1 : Nat) : Int) + 1 = ((j : Nat) : Int) by omega, selE_nat, hje']
/-- the key isn't there -/
theorem near_out {l : List En} (h : Up l) {k : Int} (hg : getE l k = none) : (∀ x, floorE l k = some x → x.key < k ∧ x ∈ l) ∧ (∀ y, ceilE l k = some y → k < y.key) ∧
    (∀ x y, floorE l k = some x → ceilE l k = some y → aboveE l x.key = some y) ∧ (floorE l k = none → ceilE l k = none → l = []) := by
  have hf : floorE l k = selE l ((rankE l k : Int) - 1) := by unfold floorE; rw [hg]; rfl
  have hle := rankE_le l k
  rw [hf, selE_pred]
  unfold ceilE
  rw [selE_nat]
  have hx : ∀ x, (if rankE l k = 0 then none else l[rankE l k - 1]?) = some x → rankE l k ≠ 0 ∧ l[rankE l k - 1]? = some x := fun x hx => by
    split at hx
    · cases hx
    · next h0 => exact ⟨h0, hx⟩
  refine ⟨fun x h1 => ?_, fun y h1 => ?_, fun x y h1 h2 => ?_, fun h1 h2 => ?_⟩
  · obtain ⟨h0, h3⟩ := hx x h1
    exact ⟨(rank_iff k h h3).2 (by omega), List.mem_of_getElem? h3⟩
  · have h2 := rank_iff k h h1
    have h3 := get_none hg y (List.mem_of_getElem? h1)
    have h4 : ¬ y.key < k := fun h => Nat.lt_irrefl _ (h2.1 h)
    omega
  · obtain ⟨h0, h3⟩ := hx x h1
    unfold aboveE
    rw [get_of h (List.mem_of_getElem? h3), rank_of h h3]
    show selE l (((rankE l k - 1 : Nat) : Int) + 1) = _
    rw [show ((rankE l k - 1 : Nat) : Int) + 1 = ((rankE l k : Nat) : Int) by omega, selE_nat, h2]
  · have h3 : l.length ≤ rankE l k := List.getElem?_eq_none_iff.1 h2
    split at h1
    · next h0 => exact List.eq_nil_of_length_eq_zero (by omega)
    · next h0 =>
      have := List.getElem?_eq_none_iff.1 h1
      exact List.eq_nil_of_length_eq_zero (by omega)
end Go.Proofs.Ytbjmblfifnjafaa
