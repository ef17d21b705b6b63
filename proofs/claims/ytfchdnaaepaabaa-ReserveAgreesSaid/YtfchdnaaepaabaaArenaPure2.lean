/- An arena as a plain state: a node is made, aggregates of nodes, every allocated slot is reached from one that is held. No program is spoken of. -/
import Derived.Test.YtfchdnaaepaabaaArenaPure
import Derived.Laws.BitsLemmas
set_option linter.unusedVariables false
namespace Go.Proofs.Ytfchdnaaepaabaa

def Ar.sz (A : Ar) (i : Nat) : Int := if i = 0 then 0 else (A.nd i).size
def Ar.sm (A : Ar) (i : Nat) : Int := if i = 0 then 0 else (A.nd i).sum
def Ar.low (A : Ar) (v : Int) (i : Nat) : Int := if i = 0 then v else min v (A.nd i).mn
def Ar.high (A : Ar) (v : Int) (i : Nat) : Int := if i = 0 then v else max v (A.nd i).mx
/-- the node with these children -/
def Ar.node (A : Ar) (key val : Int) (l r : Nat) : Nd :=
  ⟨key, val, l, r, 1 + A.sz l + A.sz r, IntKind.i64.wrap (IntKind.i64.wrap (val + A.sm l) + A.sm r), A.low (A.low val l) r, A.high (A.high val l) r⟩
/-- the aggregates of every node are those of its children -/
structure Ar.Agg (A : Ar) : Prop where
  node : ∀ k, A.σ.on k = true → A.nd k = A.node (A.nd k).key (A.nd k).val (A.nd k).left (A.nd k).right
  size : ∀ k, A.σ.on k = true → 1 ≤ (A.nd k).size ∧ (A.nd k).size ≤ 2147483647
theorem node_same {A B : Ar} {key val : Int} {l r : Nat} (hl : l = 0 ∨ A.nd l = B.nd l) (hr : r = 0 ∨ A.nd r = B.nd r) : A.node key val l r = B.node key val l r := by
  have h : ∀ x, (x = 0 ∨ A.nd x = B.nd x) → A.sz x = B.sz x ∧ A.sm x = B.sm x ∧ (∀ v, A.low v x = B.low v x) ∧ ∀ v, A.high v x = B.high v x := fun x hx => by
    rcases hx with rfl | hx
    · exact ⟨rfl, rfl, fun _ => rfl, fun _ => rfl⟩
    · unfold Ar.sz Ar.sm Ar.low Ar.high
      rw [hx]
      exact ⟨rfl, rfl, fun _ => rfl, fun _ => rfl⟩
  obtain ⟨h1, h2, h3, h4⟩ := h l hl
  obtain ⟨h5, h6, h7, h8⟩ := h r hr
  unfold Ar.node
  rw [h1, h2, h3, h4, h5, h6, h7, h8]
theorem Ar.Agg.dec {A : Ar} (h : A.Agg) (i : Nat) : (A.dec i).Agg := ⟨h.node, h.size⟩
theorem Ar.Agg.inc {A : Ar} (h : A.Agg) (i : Nat) : (A.inc i).Agg := ⟨h.node, h.size⟩
theorem Ar.Agg.drop {A : Ar} {i : Nat} {t : List Nat} {held : Nat → Nat} (h : A.Agg) (hI : A.Inv (i :: t) held) (hi : A.σ.on i = true) (hc : A.cnt i = 1) : (A.drop i).Agg := by
  have h1 := hI.cnt i hi
  rw [List.count_cons_self] at h1
  have hr : A.refs i = 0 := by omega
  refine ⟨fun k hk => ?_, fun k hk => ?_⟩
  · obtain ⟨hne, hk2⟩ := put_is hk
    have e : (A.drop i).nd k = A.nd k := if_neg hne
    have hn := no_refs hI hr hk2
    rw [e, h.node k hk2]
    show A.node _ _ _ _ = (A.drop i).node _ _ _ _
    have e1 : (A.drop i).nd (A.nd k).left = A.nd (A.nd k).left := if_neg hn.1
    have e2 : (A.drop i).nd (A.nd k).right = A.nd (A.nd k).right := if_neg hn.2
    exact node_same (.inr e1.symm) (.inr e2.symm)
  · obtain ⟨hne, hk2⟩ := put_is hk
    have e : (A.drop i).nd k = A.nd k := if_neg hne
    rw [e]
    exact h.size k hk2
theorem Ar.Agg.run : ∀ (f : Nat) (A : Ar) (s : List Nat) (held : Nat → Nat), A.Inv s held → A.Agg → (Ar.run f A s).1.Agg
  | 0, A, s, held, h, ha => ha
  | f + 1, A, [], held, h, ha => ha
  | f + 1, A, i :: t, held, h, ha => by
    unfold Ar.run
    by_cases h0 : i = 0
    · rw [if_pos h0]; subst h0
      exact Ar.Agg.run f A t held h.pop0 ha
    · rw [if_neg h0]
      have hon : A.σ.on i = true := by rcases h.stack i (by simp) with h1 | h1; exact absurd h1 h0; exact h1
      have hp := h.pos i hon
      by_cases h1 : A.cnt i = 1
      · rw [if_pos h1]
        exact Ar.Agg.run f (A.drop i) _ held (h.popDrop hon h1) (ha.drop h hon h1)
      · rw [if_neg h1]
        exact Ar.Agg.run f (A.dec i) t held (h.popDec hon (by omega)) (ha.dec i)
/-- a node is made in slot i; its children have one reference more -/
def Ar.made (A : Ar) (i : Nat) (t : List Nat) (x : Nd) : Ar :=
  ⟨A.σ.take i t, fun j => if j = i then x else A.nd j, fun j => if j = i then 1 else if j = 0 then A.cnt 0 else A.cnt j + (hit x.left j : Int) + (hit x.right j : Int)⟩
theorem take_is {σ : St} {i j : Nat} {t : List Nat} (h : (σ.take i t).on j = true) (hne : j ≠ i) : σ.on j = true := by simpa [St.take, hne] using h
theorem take_same (σ : St) (i : Nat) (t : List Nat) : (σ.take i t).on i = true := by simp [St.take]
theorem take_other (σ : St) {i j : Nat} (t : List Nat) (h : j ≠ i) : (σ.take i t).on j = σ.on j := by simp [St.take, h]
theorem Ar.Inv.made {A : Ar} {i : Nat} {t : List Nat} {x : Nd} {held : Nat → Nat} (h : A.Inv [] held) (hf : A.σ.free = i :: t) (hl : x.left = 0 ∨ A.σ.on x.left = true) (hr : x.right = 0 ∨ A.σ.on x.right = true) :
    (A.made i t x).Inv [] (more held i) := by
  have him := (h.ok.free i).1 (by rw [hf]; simp)
  obtain ⟨hi1, hi2, hoff⟩ := him
  have hhi : held i = 0 := by
    rcases Nat.eq_zero_or_pos (held i) with h1 | h1
    · exact h1
    · have := h.held i h1; rw [hoff] at this; cases this
  have hne : ∀ y, (y = 0 ∨ A.σ.on y = true) → y ≠ i := fun y hy e => by
    rcases hy with hy | hy
    · omega
    · rw [e, hoff] at hy; cases hy
  have hch : ∀ y, (y = 0 ∨ A.σ.on y = true) → (y = 0 ∨ (A.σ.take i t).on y = true) := fun y hy => by
    rcases hy with hy | hy
    · exact .inl hy
    · exact .inr (by rw [take_other _ _ (hne y (.inr hy))]; exact hy)
  have hrefs : ∀ j, (A.made i t x).refs j = A.refs j + (hit x.left j + hit x.right j) := fun j => by
    unfold Ar.refs
    have hmem : i ∈ List.range' 1 A.σ.cap := by rw [List.mem_range'_1]; omega
    have e0 : (A.made i t x).σ.cap = A.σ.cap := rfl
    rw [e0, sum_pull (fun k => (A.made i t x).edge k j) List.nodup_range' hmem, sum_pull (fun k => A.edge k j) List.nodup_range' hmem]
    have e1 : ((List.range' 1 A.σ.cap).map fun k => if k = i then 0 else (A.made i t x).edge k j) = (List.range' 1 A.σ.cap).map fun k => if k = i then 0 else A.edge k j := by
      refine List.map_congr_left fun k hk => ?_
      by_cases e : k = i
      · rw [if_pos e, if_pos e]
      · rw [if_neg e, if_neg e]
        unfold Ar.edge
        have e3 : (A.made i t x).σ.on k = A.σ.on k := take_other _ _ e
        have e4 : (A.made i t x).nd k = A.nd k := if_neg e
        rw [e3, e4]
    have e2 : (A.made i t x).edge i j = hit x.left j + hit x.right j := by
      unfold Ar.edge
      rw [if_pos (show (A.made i t x).σ.on i = true from take_same _ _ _)]
      have e4 : (A.made i t x).nd i = x := if_pos rfl
      rw [e4]
    have e5 : A.edge i j = 0 := by unfold Ar.edge; rw [if_neg (by rw [hoff]; simp)]
    rw [e1, e2, e5]
    omega
  have hri : A.refs i = 0 := by
    have : ∀ k ∈ List.range' 1 A.σ.cap, A.edge k i = 0 := fun k hk => by
      unfold Ar.edge
      split
      · rename_i hk2
        have hc := h.child k hk2
        unfold hit
        rw [if_neg (hne _ hc.1), if_neg (hne _ hc.2)]
      · rfl
    unfold Ar.refs
    rw [List.map_congr_left this]
    generalize List.range' 1 A.σ.cap = L
    induction L with
    | nil => rfl
    | cons a t ih => simpa using ih
  refine ⟨St.take_ok h.ok hf, fun k hk => ?_, fun j hj => by simp at hj, fun j hj => ?_, fun j hj => ?_, fun j hj => ?_, fun j hj => ?_⟩
  · by_cases e : k = i
    · have e4 : (A.made i t x).nd k = x := if_pos e
      rw [e4]
      exact ⟨hch _ hl, hch _ hr⟩
    · have e4 : (A.made i t x).nd k = A.nd k := if_neg e
      have hc := h.child k (take_is hk e)
      rw [e4]
      exact ⟨hch _ hc.1, hch _ hc.2⟩
  · rw [hrefs j]
    show (if j = i then 1 else if j = 0 then A.cnt 0 else A.cnt j + (hit x.left j : Int) + (hit x.right j : Int)) = _
    unfold more
    by_cases e : j = i
    · subst e
      rw [if_pos rfl, if_pos rfl, hri, hhi]
      have e1 : hit x.left j = 0 := by unfold hit; rw [if_neg (hne _ hl)]
      have e2 : hit x.right j = 0 := by unfold hit; rw [if_neg (hne _ hr)]
      rw [e1, e2]
      simp
    · rw [if_neg e, if_neg e]
      have hj2 := take_is hj e
      have hj1 := h.ok.on j hj2
      rw [if_neg (by omega), h.cnt j hj2]
      simp
      omega
  · show 1 ≤ (if j = i then 1 else if j = 0 then A.cnt 0 else A.cnt j + (hit x.left j : Int) + (hit x.right j : Int))
    by_cases e : j = i
    · rw [if_pos e]; exact Int.le_refl 1
    · rw [if_neg e]
      have hj2 := take_is hj e
      have hj1 := h.ok.on j hj2
      have hp := h.pos j hj2
      rw [if_neg (by omega)]
      omega
  · unfold more at hj
    by_cases e : j = i
    · subst e; exact take_same _ _ _
    · rw [if_neg e] at hj
      show (A.σ.take i t).on j = true
      rw [take_other _ _ e]; exact h.held j hj
  · have hne2 : j ≠ i := fun e => by rw [e] at hj; have h9 : (A.σ.take i t).on i = false := hj; rw [take_same] at h9; cases h9
    have hj' : A.σ.on j = false := by have h9 : (A.σ.take i t).on j = false := hj; rw [take_other _ _ hne2] at h9; exact h9
    have ho := h.off j hj'
    show (if j = i then 1 else if j = 0 then A.cnt 0 else A.cnt j + (hit x.left j : Int) + (hit x.right j : Int)) = 0 ∧ (if j = i then x else A.nd j) = Nd.zero
    rw [if_neg hne2, if_neg hne2]
    refine ⟨?_, ho.2⟩
    by_cases e0 : j = 0
    · rw [if_pos e0]; subst e0; exact ho.1
    · rw [if_neg e0, ho.1]
      have hz : ∀ y, (y = 0 ∨ A.σ.on y = true) → hit y j = 0 := fun y hy => by
        unfold hit
        rw [if_neg]
        intro e
        rcases hy with hy | hy
        · omega
        · rw [e, hj'] at hy; cases hy
      rw [hz _ hl, hz _ hr]
      simp
theorem Ar.Agg.made {A : Ar} {i : Nat} {t : List Nat} {key val : Int} {l r : Nat} {held : Nat → Nat} (h : A.Agg) (hI : A.Inv [] held) (hf : A.σ.free = i :: t) (hl : l = 0 ∨ A.σ.on l = true) (hr : r = 0 ∨ A.σ.on r = true) (hs : (A.node key val l r).size ≤ 2147483647) :
    (A.made i t (A.node key val l r)).Agg := by
  have him := (hI.ok.free i).1 (by rw [hf]; simp)
  obtain ⟨hi1, hi2, hoff⟩ := him
  have hne : ∀ y, (y = 0 ∨ A.σ.on y = true) → y = 0 ∨ A.nd y = (A.made i t (A.node key val l r)).nd y := fun y hy => by
    rcases hy with hy | hy
    · exact .inl hy
    · refine .inr (Eq.symm (if_neg fun e => ?_))
      rw [e, hoff] at hy; cases hy
  refine ⟨fun k hk => ?_, fun k hk => ?_⟩
  · by_cases e : k = i
    · have e4 : (A.made i t (A.node key val l r)).nd k = A.node key val l r := if_pos e
      rw [e4]
      exact node_same (hne _ hl) (hne _ hr)
    · have e4 : (A.made i t (A.node key val l r)).nd k = A.nd k := if_neg e
      have hk2 := take_is hk e
      have hc := hI.child k hk2
      rw [e4]
      exact (h.node k hk2).trans (node_same (hne _ hc.1) (hne _ hc.2))
  · by_cases e : k = i
    · have e4 : (A.made i t (A.node key val l r)).nd k = A.node key val l r := if_pos e
      rw [e4]
      refine ⟨?_, hs⟩
      have hz : ∀ y, (y = 0 ∨ A.σ.on y = true) → 0 ≤ A.sz y := fun y hy => by
        unfold Ar.sz
        split
        · exact Int.le_refl 0
        · rcases hy with hy | hy
          · contradiction
          · have := (h.size y hy).1; omega
      show 1 ≤ 1 + A.sz l + A.sz r
      have := hz l hl
      have := hz r hr
      omega
    · have e4 : (A.made i t (A.node key val l r)).nd k = A.nd k := if_neg e
      rw [e4]
      exact h.size k (take_is hk e)
/-- reached from a slot that is held -/
inductive Ar.Reach (A : Ar) (held : Nat → Nat) : Nat → Prop where
  | root (i : Nat) : 0 < held i → Ar.Reach A held i
  | left (k : Nat) : A.σ.on k = true → Ar.Reach A held k → Ar.Reach A held (A.nd k).left
  | right (k : Nat) : A.σ.on k = true → Ar.Reach A held k → Ar.Reach A held (A.nd k).right
theorem sum_pos {l : List Nat} {f : Nat → Nat} (h : 0 < (l.map f).sum) : ∃ k ∈ l, 0 < f k := by
  induction l with
  | nil => simp at h
  | cons a t ih =>
    simp only [List.map_cons, List.sum_cons] at h
    rcases Nat.eq_zero_or_pos (f a) with h1 | h1
    · obtain ⟨k, hk, h2⟩ := ih (by omega)
      exact ⟨k, by simp [hk], h2⟩
    · exact ⟨a, by simp, h1⟩
theorem Ar.reach_all {A : Ar} {held : Nat → Nat} (h : A.Inv [] held) (ha : A.Agg) : ∀ (n : Nat) (k : Nat), A.σ.on k = true → 2147483647 - (A.nd k).size < (n : Int) → A.Reach held k
  | 0, k, hk, hn => by have := (ha.size k hk).2; omega
  | n + 1, k, hk, hn => by
    have hc := h.cnt k hk
    have hp := h.pos k hk
    simp at hc
    rcases Nat.eq_zero_or_pos (held k) with h0 | h0
    · have hr : 0 < A.refs k := by omega
      obtain ⟨m, hm, he⟩ := sum_pos hr
      unfold Ar.edge at he
      split at he
      · rename_i hon
        have hz : ∀ y, (y = 0 ∨ A.σ.on y = true) → 0 ≤ A.sz y := fun y hy => by
          unfold Ar.sz
          split
          · exact Int.le_refl 0
          · rcases hy with hy | hy
            · contradiction
            · have := (ha.size y hy).1; omega
        have hch := h.child m hon
        have h1 := congrArg Nd.size (ha.node m hon)
        have h2 : (A.node (A.nd m).key (A.nd m).val (A.nd m).left (A.nd m).right).size = 1 + A.sz (A.nd m).left + A.sz (A.nd m).right := rfl
        rw [h2] at h1
        have h3 := hz _ hch.1
        have h4 := hz _ hch.2
        have hk1 := h.ok.on k hk
        have hks : A.sz k = (A.nd k).size := by unfold Ar.sz; rw [if_neg (by omega)]
        unfold hit at he
        by_cases hl : (A.nd m).left = k
        · rw [hl] at h1 h3
          have := Ar.reach_all h ha n m hon (by omega)
          rw [← hl]
          exact .left m hon this
        · rw [if_neg hl] at he
          by_cases hr2 : (A.nd m).right = k
          · rw [hr2] at h1 h4
            have := Ar.reach_all h ha n m hon (by omega)
            rw [← hr2]
            exact .right m hon this
          · rw [if_neg hr2] at he; omega
      · omega
    · exact .root k h0
end Go.Proofs.Ytfchdnaaepaabaa
