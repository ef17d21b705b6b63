/- An arena as a plain state over an allocator's: nodes, counts of references, the cascade by a work stack; what stays true of the counts at each step. No program is spoken of. -/
import Derived.Test.YtfchdnaaepaabaaSlotsCon
set_option linter.unusedVariables false
namespace Go.Proofs.Ytfchdnaaepaabaa

structure Nd where
  key : Int
  val : Int
  left : Nat
  right : Nat
  size : Int
  sum : Int
  mn : Int
  mx : Int
def Nd.zero : Nd := ⟨0, 0, 0, 0, 0, 0, 0, 0⟩
structure Ar where
  σ : St
  nd : Nat → Nd
  cnt : Nat → Int
def hit (x i : Nat) : Nat := if x = i then 1 else 0
/-- the references to i from slot k -/
def Ar.edge (A : Ar) (k i : Nat) : Nat := if A.σ.on k = true then hit (A.nd k).left i + hit (A.nd k).right i else 0
def Ar.refs (A : Ar) (i : Nat) : Nat := ((List.range' 1 A.σ.cap).map fun k => A.edge k i).sum
structure Ar.Inv (A : Ar) (s : List Nat) (held : Nat → Nat) : Prop where
  ok : A.σ.Ok
  child : ∀ k, A.σ.on k = true → ((A.nd k).left = 0 ∨ A.σ.on (A.nd k).left = true) ∧ ((A.nd k).right = 0 ∨ A.σ.on (A.nd k).right = true)
  stack : ∀ i ∈ s, i = 0 ∨ A.σ.on i = true
  cnt : ∀ i, A.σ.on i = true → A.cnt i = ((A.refs i + s.count i + held i : Nat) : Int)
  pos : ∀ i, A.σ.on i = true → 1 ≤ A.cnt i
  held : ∀ i, 0 < held i → A.σ.on i = true
  off : ∀ i, A.σ.on i = false → A.cnt i = 0 ∧ A.nd i = Nd.zero
theorem sum_pull {l : List Nat} {i : Nat} (f : Nat → Nat) (hn : l.Nodup) (hi : i ∈ l) : (l.map f).sum = (l.map fun k => if k = i then 0 else f k).sum + f i := by
  induction l with
  | nil => simp at hi
  | cons a t ih =>
    rw [List.nodup_cons] at hn
    simp only [List.map_cons, List.sum_cons]
    rcases List.mem_cons.1 hi with rfl | h
    · rw [if_pos rfl]
      have : t.map (fun k => if k = i then 0 else f k) = t.map f := List.map_congr_left fun k hk => by
        have hne : ¬ k = i := fun e => by rw [e] at hk; exact hn.1 hk
        rw [if_neg hne]
      rw [this]; omega
    · have hne : a ≠ i := fun e => hn.1 (e ▸ h)
      rw [if_neg hne, ih hn.2 h]; omega
theorem sum_zero {l : List Nat} {f : Nat → Nat} (h : (l.map f).sum = 0) : ∀ k ∈ l, f k = 0 := by
  induction l with
  | nil => intro k hk; simp at hk
  | cons a t ih =>
    simp only [List.map_cons, List.sum_cons] at h
    intro k hk
    rcases List.mem_cons.1 hk with rfl | h2
    · omega
    · exact ih (by omega) k h2
theorem in_range {A : Ar} {s : List Nat} {held : Nat → Nat} (h : A.Inv s held) {i : Nat} (hi : A.σ.on i = true) : i ∈ List.range' 1 A.σ.cap := by
  have := h.ok.on i hi
  rw [List.mem_range'_1]; omega
/-- no slot refers to i -/
theorem no_refs {A : Ar} {s : List Nat} {held : Nat → Nat} (h : A.Inv s held) {i : Nat} (hr : A.refs i = 0) {k : Nat} (hk : A.σ.on k = true) : (A.nd k).left ≠ i ∧ (A.nd k).right ≠ i := by
  have h1 := sum_zero hr k (in_range h hk)
  unfold Ar.edge hit at h1
  rw [if_pos hk] at h1
  constructor
  · intro e; rw [if_pos e] at h1; omega
  · intro e; rw [if_pos e] at h1; omega
/-- the pending reference to the empty tree -/
theorem Ar.Inv.pop0 {A : Ar} {t : List Nat} {held : Nat → Nat} (h : A.Inv (0 :: t) held) : A.Inv t held := by
  refine ⟨h.ok, h.child, fun i hi => h.stack i (by simp [hi]), fun i hi => ?_, h.pos, h.held, h.off⟩
  have h1 := h.cnt i hi
  have h2 := h.ok.on i hi
  rw [List.count_cons, if_neg (by simp; omega)] at h1
  exact h1
def Ar.dec (A : Ar) (i : Nat) : Ar := ⟨A.σ, A.nd, fun j => if j = i then A.cnt i - 1 else A.cnt j⟩
theorem Ar.Inv.popDec {A : Ar} {i : Nat} {t : List Nat} {held : Nat → Nat} (h : A.Inv (i :: t) held) (hi : A.σ.on i = true) (hc : 2 ≤ A.cnt i) : (A.dec i).Inv t held := by
  refine ⟨h.ok, h.child, fun j hj => h.stack j (by simp [hj]), fun j hj => ?_, fun j hj => ?_, h.held, fun j hj => ?_⟩
  · have h1 := h.cnt j hj
    have e : (A.dec i).refs j = A.refs j := rfl
    show (if j = i then A.cnt i - 1 else A.cnt j) = _
    rw [e]
    rw [List.count_cons] at h1
    by_cases e2 : j = i
    · subst e2
      rw [if_pos rfl]
      simp at h1
      omega
    · rw [if_neg e2]
      rw [if_neg (by simp; exact fun e3 => e2 e3.symm)] at h1
      exact h1
  · show 1 ≤ (if j = i then A.cnt i - 1 else A.cnt j)
    split
    · omega
    · exact h.pos j hj
  · have hne : j ≠ i := fun e => by subst e; have hj' : A.σ.on j = false := hj; rw [hi] at hj'; cases hj'
    show (if j = i then A.cnt i - 1 else A.cnt j) = 0 ∧ _
    rw [if_neg hne]
    exact h.off j hj
def Ar.drop (A : Ar) (i : Nat) : Ar := ⟨A.σ.put i, fun j => if j = i then Nd.zero else A.nd j, fun j => if j = i then 0 else A.cnt j⟩
theorem put_off (σ : St) (i : Nat) : (σ.put i).on i = false := by simp [St.put]
theorem put_other (σ : St) {i j : Nat} (h : j ≠ i) : (σ.put i).on j = σ.on j := by simp [St.put, h]
theorem put_is {σ : St} {i j : Nat} (h : (σ.put i).on j = true) : j ≠ i ∧ σ.on j = true := by
  have hne : j ≠ i := fun e => by rw [e, put_off] at h; cases h
  exact ⟨hne, by rw [put_other σ hne] at h; exact h⟩
theorem Ar.Inv.popDrop {A : Ar} {i : Nat} {t : List Nat} {held : Nat → Nat} (h : A.Inv (i :: t) held) (hi : A.σ.on i = true) (hc : A.cnt i = 1) : (A.drop i).Inv ((A.nd i).left :: (A.nd i).right :: t) held := by
  have h1 := h.cnt i hi
  rw [List.count_cons_self] at h1
  have hr : A.refs i = 0 := by omega
  have ht : t.count i = 0 := by omega
  have hh : held i = 0 := by omega
  have hni : ∀ j ∈ t, j ≠ i := fun j hj e => by
    subst e
    have := List.count_pos_iff.2 hj
    omega
  have hch : ∀ x, (x = 0 ∨ A.σ.on x = true) → x ≠ i → x = 0 ∨ (A.σ.put i).on x = true := fun x hx hne => by
    rcases hx with hx | hx
    · exact .inl hx
    · exact .inr (by rw [put_other _ hne]; exact hx)
  have hci := no_refs h hr hi
  refine ⟨St.put_ok h.ok hi, fun k hk => ?_, fun j hj => ?_, fun j hj => ?_, fun j hj => ?_, fun j hj => ?_, fun j hj => ?_⟩
  · obtain ⟨hne, hk2⟩ := put_is hk
    have hn := no_refs h hr hk2
    have hc2 := h.child k hk2
    show ((if k = i then Nd.zero else A.nd k).left = 0 ∨ _) ∧ ((if k = i then Nd.zero else A.nd k).right = 0 ∨ _)
    rw [if_neg hne]
    show (_ ∨ (A.σ.put i).on (if k = i then Nd.zero else A.nd k).left = true) ∧ (_ ∨ (A.σ.put i).on (if k = i then Nd.zero else A.nd k).right = true)
    rw [if_neg hne]
    exact ⟨hch _ hc2.1 hn.1, hch _ hc2.2 hn.2⟩
  · rcases List.mem_cons.1 hj with rfl | hj
    · exact hch _ (h.child i hi).1 hci.1
    · rcases List.mem_cons.1 hj with rfl | hj
      · exact hch _ (h.child i hi).2 hci.2
      · exact hch _ (h.stack j (by simp [hj])) (hni j hj)
  · obtain ⟨hne, hj2⟩ := put_is hj
    have h2 := h.cnt j hj2
    have hrefs : A.refs j = (A.drop i).refs j + (hit (A.nd i).left j + hit (A.nd i).right j) := by
      unfold Ar.refs
      have e1 : ((List.range' 1 (A.drop i).σ.cap).map fun k => (A.drop i).edge k j) = (List.range' 1 A.σ.cap).map fun k => if k = i then 0 else A.edge k j := by
        refine List.map_congr_left fun k hk => ?_
        by_cases e : k = i
        · subst e
          rw [if_pos rfl]
          unfold Ar.edge
          rw [if_neg (by show ¬ (A.σ.put k).on k = true; rw [put_off]; simp)]
        · rw [if_neg e]
          unfold Ar.edge
          have e3 : (A.drop i).σ.on k = A.σ.on k := put_other _ e
          have e4 : (A.drop i).nd k = A.nd k := if_neg e
          rw [e3, e4]
      rw [e1, sum_pull (fun k => A.edge k j) List.nodup_range' (in_range h hi)]
      have e5 : A.edge i j = hit (A.nd i).left j + hit (A.nd i).right j := by unfold Ar.edge; rw [if_pos hi]
      omega
    show (if j = i then 0 else A.cnt j) = _
    rw [if_neg hne, h2, hrefs]
    simp only [List.count_cons]
    have e6 : ∀ x : Nat, (if (x == j) = true then 1 else 0) = hit x j := fun x => by unfold hit; simp
    rw [e6, e6, e6]
    have e7 : hit i j = 0 := by unfold hit; rw [if_neg (fun e => hne e.symm)]
    rw [e7]
    omega
  · obtain ⟨hne, hj2⟩ := put_is hj
    show 1 ≤ (if j = i then 0 else A.cnt j)
    rw [if_neg hne]
    exact h.pos j hj2
  · have h2 := h.held j hj
    have hne : j ≠ i := fun e => by rw [e] at hj; omega
    show (A.σ.put i).on j = true
    rw [put_other _ hne]; exact h2
  · show (if j = i then 0 else A.cnt j) = 0 ∧ (if j = i then Nd.zero else A.nd j) = Nd.zero
    by_cases e : j = i
    · rw [if_pos e, if_pos e]; exact ⟨rfl, rfl⟩
    · rw [if_neg e, if_neg e]
      exact h.off j (by have : (A.σ.put i).on j = false := hj; rw [put_other _ e] at this; exact this)
/-- a caller takes, or gives back, a reference -/
def Ar.inc (A : Ar) (i : Nat) : Ar := ⟨A.σ, A.nd, fun j => if j = i then A.cnt i + 1 else A.cnt j⟩
def more (held : Nat → Nat) (i : Nat) : Nat → Nat := fun j => if j = i then held i + 1 else held j
def less (held : Nat → Nat) (i : Nat) : Nat → Nat := fun j => if j = i then held i - 1 else held j
theorem Ar.Inv.inc {A : Ar} {i : Nat} {held : Nat → Nat} (h : A.Inv [] held) (hi : A.σ.on i = true) : (A.inc i).Inv [] (more held i) := by
  refine ⟨h.ok, h.child, fun j hj => by simp at hj, fun j hj => ?_, fun j hj => ?_, fun j hj => ?_, fun j hj => ?_⟩
  · have h1 := h.cnt j hj
    have e : (A.inc i).refs j = A.refs j := rfl
    show (if j = i then A.cnt i + 1 else A.cnt j) = _
    rw [e]
    unfold more
    by_cases e2 : j = i
    · subst e2; rw [if_pos rfl, if_pos rfl]; omega
    · rw [if_neg e2, if_neg e2]; exact h1
  · show 1 ≤ (if j = i then A.cnt i + 1 else A.cnt j)
    have h1 := h.pos j hj
    split
    · have := h.pos i hi; omega
    · exact h1
  · unfold more at hj
    by_cases e2 : j = i
    · subst e2; exact hi
    · rw [if_neg e2] at hj; exact h.held j hj
  · have hj' : A.σ.on j = false := hj
    have hne : j ≠ i := fun e => by subst e; rw [hi] at hj'; cases hj'
    show (if j = i then A.cnt i + 1 else A.cnt j) = 0 ∧ _
    rw [if_neg hne]
    exact h.off j hj'
/-- a held reference is to be removed: it lies on the work stack -/
theorem Ar.Inv.give {A : Ar} {i : Nat} {held : Nat → Nat} (h : A.Inv [] held) (hi : 0 < held i) : A.Inv [i] (less held i) := by
  refine ⟨h.ok, h.child, fun j hj => ?_, fun j hj => ?_, h.pos, fun j hj => ?_, h.off⟩
  · simp at hj; subst hj; exact .inr (h.held j hi)
  · have h1 := h.cnt j hj
    unfold less
    rw [List.count_cons]
    by_cases e : j = i
    · subst e
      rw [if_pos (by simp), if_pos rfl]
      simp at h1 ⊢
      omega
    · rw [if_neg (by simp; exact fun e2 => e e2.symm), if_neg e]
      exact h1
  · unfold less at hj
    by_cases e : j = i
    · subst e; exact h.held j hi
    · rw [if_neg e] at hj; exact h.held j hj
theorem Ar.Inv.give0 {A : Ar} {held : Nat → Nat} (h : A.Inv [] held) : A.Inv [0] held := by
  refine ⟨h.ok, h.child, fun j hj => by simp at hj; exact .inl hj, fun j hj => ?_, h.pos, h.held, h.off⟩
  have h1 := h.cnt j hj
  have h2 := h.ok.on j hj
  rw [List.count_cons, if_neg (by simp; omega)]
  exact h1
/-- the cascade: what is left and how many slots became free -/
def Ar.run : Nat → Ar → List Nat → Ar × Nat
  | 0, A, _ => (A, 0)
  | _ + 1, A, [] => (A, 0)
  | f + 1, A, i :: t =>
    if i = 0 then Ar.run f A t
    else if A.cnt i = 1 then ((Ar.run f (A.drop i) ((A.nd i).left :: (A.nd i).right :: t)).1, (Ar.run f (A.drop i) ((A.nd i).left :: (A.nd i).right :: t)).2 + 1)
    else Ar.run f (A.dec i) t
theorem free_len {σ : St} (h : σ.Ok) : σ.free.length ≤ σ.cap := h.len
/-- with fuel enough the stack runs empty, the counts are right, and the number is that of the slots that became free -/
theorem Ar.run_ok : ∀ (f : Nat) (A : Ar) (s : List Nat) (held : Nat → Nat), A.Inv s held → 3 * (A.σ.cap - A.σ.free.length) + s.length ≤ f →
    (Ar.run f A s).1.Inv [] held ∧ (Ar.run f A s).1.σ.cap = A.σ.cap ∧ (Ar.run f A s).1.σ.free.length = A.σ.free.length + (Ar.run f A s).2
  | 0, A, s, held, h, hf => by
    obtain rfl : s = [] := List.eq_nil_of_length_eq_zero (by omega)
    exact ⟨h, rfl, rfl⟩
  | f + 1, A, [], held, h, hf => ⟨h, rfl, rfl⟩
  | f + 1, A, i :: t, held, h, hf => by
    simp only [List.length_cons] at hf
    unfold Ar.run
    by_cases h0 : i = 0
    · rw [if_pos h0]
      subst h0
      exact Ar.run_ok f A t held h.pop0 (by omega)
    · rw [if_neg h0]
      have hon : A.σ.on i = true := by rcases h.stack i (by simp) with h1 | h1; exact absurd h1 h0; exact h1
      have hp := h.pos i hon
      by_cases h1 : A.cnt i = 1
      · rw [if_pos h1]
        have hb := h.ok.len
        have hlt : A.σ.free.length < A.σ.cap := by
          have h2 := (St.put_ok h.ok hon).len
          have h3 : (A.σ.put i).free.length = A.σ.free.length + 1 := by simp [St.put]
          have h4 : (A.σ.put i).cap = A.σ.cap := rfl
          omega
        have hl : (A.drop i).σ.free.length = A.σ.free.length + 1 := by simp [Ar.drop, St.put]
        have hcp : (A.drop i).σ.cap = A.σ.cap := rfl
        have ih := Ar.run_ok f (A.drop i) ((A.nd i).left :: (A.nd i).right :: t) held (h.popDrop hon h1) (by rw [hl, hcp]; simp only [List.length_cons]; omega)
        exact ⟨ih.1, ih.2.1, by rw [ih.2.2, hl]; omega⟩
      · rw [if_neg h1]
        exact Ar.run_ok f (A.dec i) t held (h.popDec hon (by omega)) (by show 3 * (A.σ.cap - A.σ.free.length) + t.length ≤ f; omega)
end Go.Proofs.Ytfchdnaaepaabaa
