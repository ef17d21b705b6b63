/- The references that a caller holds, as a list; sizes in an arena are bounded by the number of its slots; without held references nothing is left. No program is spoken of. -/
import Derived.Test.YtkhfofpbmnapjaaArenaCon
set_option linter.unusedVariables false
namespace Go.Proofs.Ytkhfofpbmnapjaa

/-- how often each slot is held -/
def hof (l : List Nat) (i : Nat) : Nat := if i = 0 then 0 else l.count i
theorem hof_zero (l : List Nat) : hof (l ++ [0]) = hof l := by
  funext i
  unfold hof
  split
  · rfl
  · rename_i h
    rw [List.count_append]
    have : List.count i [0] = 0 := by rw [List.count_eq_zero]; simp; exact h
    omega
theorem hof_more (l : List Nat) {i : Nat} (hi : i ≠ 0) : hof (l ++ [i]) = more (hof l) i := by
  funext j
  show (if j = 0 then 0 else (l ++ [i]).count j) = (if j = i then (if i = 0 then 0 else l.count i) + 1 else (if j = 0 then 0 else l.count j))
  by_cases h : j = 0
  · subst h; rw [if_pos rfl, if_neg (fun e => hi e.symm), if_pos rfl]
  · rw [if_neg h, List.count_append]
    by_cases e : j = i
    · subst e; rw [if_pos rfl, if_neg h]; simp
    · rw [if_neg e, if_neg h]
      have : List.count j [i] = 0 := by rw [List.count_eq_zero]; simp; exact e
      omega
theorem count_erase {l : List Nat} {k : Nat} (h : k < l.length) (j : Nat) : l.count j = (l.take k ++ l.drop (k + 1)).count j + if l.getD k 0 = j then 1 else 0 := by
  have e : l = l.take k ++ l.getD k 0 :: l.drop (k + 1) := by
    rw [List.getD_eq_getElem?_getD, List.getElem?_eq_getElem h]
    simp
  have e2 : l.count j = (l.take k ++ l.getD k 0 :: l.drop (k + 1)).count j := congrArg (List.count j) e
  rw [e2, List.count_append, List.count_append, List.count_cons]
  by_cases e3 : l.getD k 0 = j
  · rw [if_pos e3, if_pos (by simpa using e3)]; omega
  · rw [if_neg e3, if_neg (by simpa using e3)]; omega
theorem hof_erase0 {l : List Nat} {k : Nat} (h : k < l.length) (h0 : l.getD k 0 = 0) : hof (l.take k ++ l.drop (k + 1)) = hof l := by
  funext j
  unfold hof
  split
  · rfl
  · rename_i hj
    rw [count_erase h j, h0, if_neg (fun e => hj e.symm)]
    rfl
theorem hof_erase {l : List Nat} {k i : Nat} (h : k < l.length) (hi : l.getD k 0 = i) (h0 : i ≠ 0) : hof (l.take k ++ l.drop (k + 1)) = less (hof l) i := by
  funext j
  show (if j = 0 then 0 else (l.take k ++ l.drop (k + 1)).count j) = (if j = i then (if i = 0 then 0 else l.count i) - 1 else (if j = 0 then 0 else l.count j))
  have hc := count_erase h j
  rw [hi] at hc
  by_cases hj : j = 0
  · subst hj; rw [if_pos rfl, if_neg (fun e => h0 e.symm), if_pos rfl]
  · rw [if_neg hj]
    by_cases e : j = i
    · subst e; rw [if_pos rfl] at hc; rw [if_pos rfl, if_neg hj]; omega
    · rw [if_neg (fun e2 => e e2.symm)] at hc; rw [if_neg e, if_neg hj]; omega
theorem getD_in {l : List Nat} {k : Nat} (h : k < l.length) : l.getD k 0 ∈ l := by
  rw [List.getD_eq_getElem?_getD, List.getElem?_eq_getElem h]; exact List.getElem_mem _
theorem hof_pos {l : List Nat} {i : Nat} (h : i ∈ l) (h0 : i ≠ 0) : 0 < hof l i := by
  unfold hof
  rw [if_neg h0]
  exact List.count_pos_iff.2 h
theorem edge_le (A : Ar) (k i : Nat) : A.edge k i ≤ 2 := by
  unfold Ar.edge hit
  split
  · split <;> split <;> omega
  · omega
theorem refs_le (A : Ar) (i : Nat) : A.refs i ≤ 2 * A.σ.cap := by
  unfold Ar.refs
  have key : ∀ l : List Nat, (l.map fun k => A.edge k i).sum ≤ 2 * l.length := fun l => by
    induction l with
    | nil => simp
    | cons a t ih => rw [List.map_cons, List.sum_cons, List.length_cons]; have := edge_le A a i; omega
  have := key (List.range' 1 A.σ.cap)
  rwa [List.length_range'] at this
/-- the number of references to a slot is small -/
theorem cnt_small {A : Ar} {l : List Nat} (h : A.Inv [] (hof l)) (hl : l.length ≤ 1000000) {i : Nat} (hi : A.σ.on i = true) : A.cnt i < 4611686018427387904 := by
  have h1 := h.cnt i hi
  have h2 := refs_le A i
  have h3 := h.ok.cap2
  have h4 : hof l i ≤ l.length := by unfold hof; split; omega; exact List.count_le_length
  simp at h1
  omega
/-- a held index is 0 or allocated -/
theorem held_idx {A : Ar} {l : List Nat} (h : A.Inv [] (hof l)) {i : Nat} (hi : i = 0 ∨ i ∈ l) : A.Idx i := by
  by_cases h0 : i = 0
  · exact .inl h0
  · rcases hi with hi | hi
    · exact .inl hi
    · exact .inr (h.held i (hof_pos hi h0))
/-- the slots whose Size is at most s -/
def Ar.few (A : Ar) (s : Int) : List Nat := (List.range' 1 A.σ.cap).filter fun j => A.σ.on j && decide ((A.nd j).size ≤ s)
theorem few_sub {A : Ar} {s u : Int} (h : s ≤ u) {k : Nat} (hk : k ∈ A.few u) (hk2 : ¬ (A.nd k).size ≤ s) : (A.few s).length + 1 ≤ (A.few u).length := by
  unfold Ar.few at *
  have key : ∀ l : List Nat, k ∈ l.filter (fun j => A.σ.on j && decide ((A.nd j).size ≤ u)) → (l.filter fun j => A.σ.on j && decide ((A.nd j).size ≤ s)).length + 1 ≤ (l.filter fun j => A.σ.on j && decide ((A.nd j).size ≤ u)).length := fun l => by
    have mono : ∀ l : List Nat, (l.filter fun j => A.σ.on j && decide ((A.nd j).size ≤ s)).length ≤ (l.filter fun j => A.σ.on j && decide ((A.nd j).size ≤ u)).length := fun l => by
      induction l with
      | nil => simp
      | cons a t ih =>
        rw [List.filter_cons, List.filter_cons]
        by_cases h1 : (A.σ.on a && decide ((A.nd a).size ≤ s)) = true
        · have h2 : (A.σ.on a && decide ((A.nd a).size ≤ u)) = true := by
            simp at h1 ⊢; exact ⟨h1.1, by omega⟩
          rw [if_pos h1, if_pos h2]; simp; omega
        · rw [if_neg h1]; split
          · simp; omega
          · exact ih
    induction l with
    | nil => intro h; simp at h
    | cons a t ih =>
      intro h3
      rw [List.filter_cons] at h3
      rw [List.filter_cons, List.filter_cons]
      by_cases e : a = k
      · subst e
        have h5 : (A.σ.on a && decide ((A.nd a).size ≤ u)) = true := by
          have := (List.mem_filter.1 hk).2; exact this
        have h6 : ¬ (A.σ.on a && decide ((A.nd a).size ≤ s)) = true := by simp; intro _; omega
        rw [if_neg h6, if_pos h5]
        have := mono t
        simp; omega
      · have h4 : k ∈ t.filter (fun j => A.σ.on j && decide ((A.nd j).size ≤ u)) := by
          split at h3
          · rcases List.mem_cons.1 h3 with h5 | h5
            · exact absurd h5.symm e
            · exact h5
          · exact h3
        have h5 := ih h4
        by_cases h1 : (A.σ.on a && decide ((A.nd a).size ≤ s)) = true
        · have h2 : (A.σ.on a && decide ((A.nd a).size ≤ u)) = true := by
            simp at h1 ⊢; exact ⟨h1.1, by omega⟩
          rw [if_pos h1, if_pos h2]; simp; omega
        · rw [if_neg h1]; split
          · simp; omega
          · exact h5
  exact key _ hk
theorem few_le (A : Ar) (s : Int) : (A.few s).length ≤ A.σ.cap := by
  unfold Ar.few
  have := List.length_filter_le (fun j => A.σ.on j && decide ((A.nd j).size ≤ s)) (List.range' 1 A.σ.cap)
  rwa [List.length_range'] at this
theorem mem_few {A : Ar} (h : A.σ.Ok) {k : Nat} (hk : A.σ.on k = true) {s : Int} (hs : (A.nd k).size ≤ s) : k ∈ A.few s := by
  unfold Ar.few
  rw [List.mem_filter, List.mem_range'_1]
  have := h.on k hk
  exact ⟨by omega, by simp [hk, hs]⟩
theorem size_pow {A : Ar} {st : List Nat} {held : Nat → Nat} (h : A.Inv st held) (ha : A.Agg) : ∀ (N : Nat) (k : Nat), A.σ.on k = true → (A.nd k).size ≤ (N : Int) → (A.nd k).size ≤ ((2 ^ (A.few (A.nd k).size).length : Nat) : Int) - 1
  | 0, k, hk, hN => by have := (ha.size k hk).1; omega
  | N + 1, k, hk, hN => by
    have hn := ha.node k hk
    have h1 := congrArg Nd.size hn
    have h2 : (A.node (A.nd k).key (A.nd k).val (A.nd k).left (A.nd k).right).size = 1 + A.sz (A.nd k).left + A.sz (A.nd k).right := rfl
    rw [h2] at h1
    have hch := h.child k hk
    have hz : ∀ y, (y = 0 ∨ A.σ.on y = true) → 0 ≤ A.sz y ∧ (A.sz y ≠ 0 → A.σ.on y = true ∧ A.sz y = (A.nd y).size) := fun y hy => by
      unfold Ar.sz
      by_cases e : y = 0
      · rw [if_pos e]; exact ⟨Int.le_refl 0, fun h => absurd rfl h⟩
      · rw [if_neg e]
        rcases hy with hy | hy
        · exact absurd hy e
        · exact ⟨by have := (ha.size y hy).1; omega, fun _ => ⟨hy, rfl⟩⟩
    obtain ⟨hl0, hl1⟩ := hz _ hch.1
    obtain ⟨hr0, hr1⟩ := hz _ hch.2
    have step : ∀ y, A.σ.on y = true → A.sz y = (A.nd y).size → (A.nd y).size < (A.nd k).size → 2 * A.sz y + 1 ≤ ((2 ^ (A.few (A.nd k).size).length : Nat) : Int) - 1 := fun y hy hys hlt => by
      have ih := size_pow h ha N y hy (by omega)
      have hf := few_sub (s := (A.nd y).size) (u := (A.nd k).size) (by omega) (mem_few h.ok hk (Int.le_refl _)) (by omega)
      have hp : 2 ^ (A.few (A.nd y).size).length * 2 ≤ 2 ^ (A.few (A.nd k).size).length := by
        rw [← Nat.pow_succ]
        exact Nat.pow_le_pow_right (by decide) hf
      rw [hys]
      omega
    have one : (1 : Int) ≤ ((2 ^ (A.few (A.nd k).size).length : Nat) : Int) - 1 := by
      have hm := mem_few h.ok hk (Int.le_refl (A.nd k).size)
      have hpos : 1 ≤ (A.few (A.nd k).size).length := List.length_pos_of_mem hm
      have : 2 ^ 1 ≤ 2 ^ (A.few (A.nd k).size).length := Nat.pow_le_pow_right (by decide) hpos
      omega
    by_cases e1 : A.sz (A.nd k).left = 0
    · by_cases e2 : A.sz (A.nd k).right = 0
      · omega
      · obtain ⟨h3, h4⟩ := hr1 e2
        have := step _ h3 h4 (by omega)
        omega
    · obtain ⟨h3, h4⟩ := hl1 e1
      by_cases e2 : A.sz (A.nd k).right = 0
      · have := step _ h3 h4 (by omega)
        omega
      · obtain ⟨h5, h6⟩ := hr1 e2
        have h7 := step _ h3 h4 (by omega)
        have h8 := step _ h5 h6 (by omega)
        omega
/-- with at most 30 slots no Size is too great -/
theorem size_fits {A : Ar} {st : List Nat} {held : Nat → Nat} (h : A.Inv st held) (ha : A.Agg) (hc : A.σ.cap ≤ 30) (key val : Int) {l r : Nat} (hl : A.Idx l) (hr : A.Idx r) : (A.node key val l r).size ≤ 2147483647 := by
  have hz : ∀ y, A.Idx y → A.sz y ≤ 1073741823 := fun y hy => by
    unfold Ar.sz
    by_cases e : y = 0
    · rw [if_pos e]; decide
    · rw [if_neg e]
      rcases hy with hy | hy
      · exact absurd hy e
      · have h1 := size_pow h ha 2147483647 y hy (by have := (ha.size y hy).2; omega)
        have h2 := few_le A (A.nd y).size
        have h3 : 2 ^ (A.few (A.nd y).size).length ≤ 2 ^ 30 := Nat.pow_le_pow_right (by decide) (by omega)
        omega
  show 1 + A.sz l + A.sz r ≤ _
  have := hz l hl
  have := hz r hr
  omega
/-- where nothing is held, nothing is allocated -/
theorem none_held {A : Ar} (h : A.Inv [] (fun _ => 0)) (ha : A.Agg) (k : Nat) : A.σ.on k = false := by
  cases hk : A.σ.on k with
  | false => rfl
  | true =>
    have h1 := Ar.reach_all h ha 2147483648 k hk (by have := (ha.size k hk).1; omega)
    have key : ∀ k, A.Reach (fun _ => 0) k → False := fun k hr => by
      induction hr with
      | root i hi => omega
      | left k _ _ ih => exact ih
      | right k _ _ ih => exact ih
    exact (key k h1).elim
theorem all_free {σ : St} (h : σ.Ok) (ho : ∀ k, σ.on k = false) : σ.free.length = σ.cap := by
  have h1 : σ.free.Perm (List.range' 1 σ.cap) := (List.perm_ext_iff_of_nodup h.nodup List.nodup_range').2 fun i => by
    rw [h.free i, List.mem_range'_1, ho i]
    simp
    omega
  rw [h1.length_eq, List.length_range']
end Go.Proofs.Ytkhfofpbmnapjaa
