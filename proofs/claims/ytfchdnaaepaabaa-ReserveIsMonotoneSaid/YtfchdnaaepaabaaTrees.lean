/- Trees in an arena, as plain data: what an index unfolds into, the order of the keys, the balance, the height; the least numbers of keys. No program is spoken of. -/
import Derived.Test.YtfchdnaaepaabaaArenaPure2
set_option linter.unusedVariables false
namespace Go.Proofs.Ytfchdnaaepaabaa

/-- the least weight of a balanced tree of height h -/
def wt : Nat → Nat
  | 0 => 1
  | h + 1 => wt h + (wt h + 2) / 3
theorem wt_pos : ∀ h, 1 ≤ wt h
  | 0 => Nat.le_refl 1
  | h + 1 => by have := wt_pos h; unfold wt; omega
theorem wt_succ (h : Nat) : wt (h + 1) = wt h + (wt h + 2) / 3 := rfl
theorem wt_lt (h : Nat) : wt h < wt (h + 1) := by have := wt_pos h; rw [wt_succ]; omega
theorem wt_mono {h k : Nat} (hk : h ≤ k) : wt h ≤ wt k := by
  induction k with
  | zero => obtain rfl : h = 0 := by omega
            exact Nat.le_refl _
  | succ k ih =>
    by_cases e : h = k + 1
    · rw [e]; exact Nat.le_refl _
    · exact Nat.le_trans (ih (by omega)) (Nat.le_of_lt (wt_lt k))
theorem wt_big : 2147483648 < wt 80 := by decide
theorem wt_small : wt 80 < 1000000000000 := by decide
def mkI (h : Int) : Int := if 0 ≤ h ∧ h ≤ 80 then (wt h.toNat : Int) - 1 else -1
/-- the search from height h on -/
def xhF (n : Nat) : Nat → Nat → Nat
  | 0, h => h
  | f + 1, h => if wt (h + 1) - 1 ≤ n then xhF n f (h + 1) else h
def xh (n : Nat) : Nat := xhF n 80 0
def xhI (n : Int) : Int := if 0 ≤ n ∧ n ≤ 2147483647 then (xh n.toNat : Int) else -1
theorem xhF_spec (n : Nat) : ∀ f h, wt h - 1 ≤ n → wt (xhF n f h) - 1 ≤ n ∧ h ≤ xhF n f h ∧ xhF n f h ≤ h + f ∧ (xhF n f h < h + f → n < wt (xhF n f h + 1) - 1)
  | 0, h, hw => ⟨hw, Nat.le_refl _, Nat.le_refl _, fun h1 => by unfold xhF at h1; omega⟩
  | f + 1, h, hw => by
    unfold xhF
    split
    · next h1 =>
      have := xhF_spec n f (h + 1) h1
      exact ⟨this.1, by omega, by omega, fun h2 => this.2.2.2 (by omega)⟩
    · next h1 => exact ⟨hw, Nat.le_refl _, by omega, fun _ => by omega⟩
theorem xh_spec {n : Nat} (hn : n ≤ 2147483647) : wt (xh n) - 1 ≤ n ∧ xh n < 80 ∧ n < wt (xh n + 1) - 1 := by
  have h := xhF_spec n 80 0 (by unfold wt; omega)
  have hlt : xh n < 80 := by
    rcases Nat.lt_or_ge (xh n) 80 with h1 | h1
    · exact h1
    · have h2 := wt_mono h1
      have h3 := wt_big
      have h4 : wt (xh n) - 1 ≤ n := h.1
      omega
  exact ⟨h.1, hlt, h.2.2.2 (by unfold xh at hlt; omega)⟩
theorem xh_of {n h : Nat} (hn : n ≤ 2147483647) (h1 : wt h - 1 ≤ n) (h2 : n < wt (h + 1) - 1) : xh n = h := by
  obtain ⟨a, b, c⟩ := xh_spec hn
  rcases Nat.lt_trichotomy (xh n) h with h3 | h3 | h3
  · have := wt_mono (show xh n + 1 ≤ h by omega); omega
  · exact h3
  · have := wt_mono (show h + 1 ≤ xh n by omega); omega
theorem xh_le {n h : Nat} (hn : n ≤ 2147483647) (h1 : wt h - 1 ≤ n) : h ≤ xh n := by
  obtain ⟨a, b, c⟩ := xh_spec hn
  rcases Nat.lt_or_ge (xh n) h with h3 | h3
  · have := wt_mono (show xh n + 1 ≤ h by omega); omega
  · exact h3
theorem xh_step {n : Nat} (hn : n < 2147483647) : xh n ≤ xh (n + 1) ∧ xh (n + 1) ≤ xh n + 1 := by
  obtain ⟨a, b, c⟩ := xh_spec (show n ≤ 2147483647 by omega)
  obtain ⟨a', b', c'⟩ := xh_spec (show n + 1 ≤ 2147483647 by omega)
  refine ⟨xh_le (by omega) (by omega), ?_⟩
  rcases Nat.lt_or_ge (xh n + 1) (xh (n + 1)) with h3 | h3
  · have h4 := wt_mono (show xh n + 1 + 1 ≤ xh (n + 1) by omega)
    have h5 := wt_lt (xh n + 1)
    omega
  · exact h3
/-- balanced, by numbers of keys -/
def bal (l r : Int) : Bool := decide (0 ≤ l ∧ l ≤ 2147483647 ∧ 0 ≤ r ∧ r ≤ 2147483647 ∧ l + 1 ≤ 3 * (r + 1) ∧ r + 1 ≤ 3 * (l + 1))

inductive Tr where
  | nil : Tr
  | node (i : Nat) (l r : Tr) : Tr
def Tr.size : Tr → Nat
  | .nil => 0
  | .node _ l r => l.size + r.size + 1
def Tr.ht : Tr → Nat
  | .nil => 0
  | .node _ l r => 1 + max l.ht r.ht
/-- the slots in the order of the keys -/
def Tr.idx : Tr → List Nat
  | .nil => []
  | .node i l r => l.idx ++ i :: r.idx
def Tr.keys (nd : Nat → Nd) (t : Tr) : List Int := t.idx.map fun i => (nd i).key
/-- index i of an arena unfolds into t -/
inductive Sub (A : Ar) : Nat → Tr → Prop where
  | nil : Sub A 0 .nil
  | node (i : Nat) (l r : Tr) : i ≠ 0 → A.σ.on i = true → Sub A (A.nd i).left l → Sub A (A.nd i).right r → Sub A i (.node i l r)
theorem Sub.idx {A : Ar} {i : Nat} {t : Tr} (h : Sub A i t) : (i = 0 ∨ A.σ.on i = true) := by
  cases h with
  | nil => exact .inl rfl
  | node i l r h0 h1 _ _ => exact .inr h1
theorem Sub.unique {A : Ar} {i : Nat} {t u : Tr} (h : Sub A i t) (h' : Sub A i u) : t = u := by
  induction h generalizing u with
  | nil => cases h' with
    | nil => rfl
    | node _ _ _ h0 => exact absurd rfl h0
  | node i l r h0 h1 _ _ ihl ihr => cases h' with
    | nil => exact absurd rfl h0
    | node _ l' r' _ _ hl hr => rw [ihl hl, ihr hr]
theorem Sub.size {A : Ar} {i : Nat} {t : Tr} (ha : A.Agg) (h : Sub A i t) : A.sz i = (t.size : Int) := by
  induction h with
  | nil => rfl
  | node i l r h0 h1 _ _ ihl ihr =>
    have e := congrArg Nd.size (ha.node i h1)
    unfold Ar.sz
    rw [if_neg h0, e]
    show 1 + A.sz _ + A.sz _ = _
    rw [ihl, ihr]
    show 1 + _ + _ = ((l.size + r.size + 1 : Nat) : Int)
    omega
theorem sz_child {A : Ar} (ha : A.Agg) {i : Nat} (hi : A.σ.on i = true) : (A.nd i).size = 1 + A.sz (A.nd i).left + A.sz (A.nd i).right := congrArg Nd.size (ha.node i hi)
theorem sz_nonneg {A : Ar} (ha : A.Agg) {i : Nat} (hi : (i = 0 ∨ A.σ.on i = true)) : 0 ≤ A.sz i := by
  unfold Ar.sz
  split
  · exact Int.le_refl 0
  · next h0 => have := (ha.size i (hi.resolve_left h0)).1; omega
theorem Sub.exists_ {A : Ar} {s : List Nat} {held : Nat → Nat} (hI : A.Inv s held) (ha : A.Agg) : ∀ (f i : Nat), (i = 0 ∨ A.σ.on i = true) → A.sz i ≤ (f : Int) → ∃ t, Sub A i t
  | f, i, hi, hf => by
    by_cases h0 : i = 0
    · subst h0; exact ⟨.nil, .nil⟩
    · have hon := hi.resolve_left h0
      have hc := hI.child i hon
      have h1 := sz_child ha hon
      have h2 := sz_nonneg ha hc.1
      have h3 := sz_nonneg ha hc.2
      have h4 : A.sz i = (A.nd i).size := by unfold Ar.sz; rw [if_neg h0]
      match f, hf with
      | 0, hf => omega
      | f + 1, hf =>
        obtain ⟨l, hl⟩ := Sub.exists_ hI ha f (A.nd i).left hc.1 (by omega)
        obtain ⟨r, hr⟩ := Sub.exists_ hI ha f (A.nd i).right hc.2 (by omega)
        exact ⟨.node i l r, .node i l r h0 hon hl hr⟩
theorem Sub.get {A : Ar} {s : List Nat} {held : Nat → Nat} (hI : A.Inv s held) (ha : A.Agg) {i : Nat} (hi : (i = 0 ∨ A.σ.on i = true)) : ∃ t, Sub A i t := Sub.exists_ hI ha (A.sz i).toNat i hi (by omega)

/-- the traversal: the last key behind it, or none where it stops -/
def ordT (nd : Nat → Nd) : Tr → Option Int → Option (Option Int)
  | .nil, s => some s
  | .node i l r, s => match ordT nd l s with
    | none => none
    | some none => ordT nd r (some (nd i).key)
    | some (some k) => if (nd i).key ≤ k then none else ordT nd r (some (nd i).key)
/-- strictly ascending from behind s on -/
def Asc : Option Int → List Int → Prop
  | _, [] => True
  | none, k :: t => Asc (some k) t
  | some j, k :: t => j < k ∧ Asc (some k) t
def lastOf : Option Int → List Int → Option Int
  | s, [] => s
  | _, k :: t => lastOf (some k) t
theorem asc_app : ∀ (xs ys : List Int) (s : Option Int), Asc s (xs ++ ys) ↔ Asc s xs ∧ Asc (lastOf s xs) ys
  | [], ys, s => by simp [Asc, lastOf]
  | x :: xs, ys, none => by simp only [List.cons_append, Asc, lastOf]; exact asc_app xs ys (some x)
  | x :: xs, ys, some j => by simp only [List.cons_append, Asc, lastOf]; rw [asc_app xs ys (some x)]; exact and_assoc.symm
theorem last_app : ∀ (xs ys : List Int) (s : Option Int), lastOf s (xs ++ ys) = lastOf (lastOf s xs) ys
  | [], ys, s => rfl
  | x :: xs, ys, s => last_app xs ys (some x)
theorem ordT_spec (nd : Nat → Nd) : ∀ (t : Tr) (s : Option Int), (Asc s (t.keys nd) → ordT nd t s = some (lastOf s (t.keys nd))) ∧ (¬ Asc s (t.keys nd) → ordT nd t s = none)
  | .nil, s => ⟨fun _ => rfl, fun h => absurd trivial h⟩
  | .node i l r, s => by
    have hk : (Tr.node i l r).keys nd = l.keys nd ++ (nd i).key :: r.keys nd := by simp [Tr.keys, Tr.idx]
    obtain ⟨hl1, hl2⟩ := ordT_spec nd l s
    obtain ⟨hr1, hr2⟩ := ordT_spec nd r (some (nd i).key)
    rw [hk, asc_app, last_app]
    by_cases h1 : Asc s (l.keys nd)
    · have e1 := hl1 h1
      unfold ordT
      rw [e1]
      cases h2 : lastOf s (l.keys nd) with
      | none =>
        simp only [Asc, lastOf]
        exact ⟨fun h => hr1 h.2, fun h => hr2 fun h3 => h ⟨h1, h3⟩⟩
      | some k =>
        simp only [Asc, lastOf]
        by_cases h3 : (nd i).key ≤ k
        · rw [if_pos h3]
          exact ⟨fun h => absurd h.2.1 (by omega), fun _ => rfl⟩
        · rw [if_neg h3]
          exact ⟨fun h => hr1 h.2.2, fun h => hr2 fun h4 => h ⟨h1, by omega, h4⟩⟩
    · have e1 := hl2 h1
      unfold ordT
      rw [e1]
      exact ⟨fun h => absurd h.1 h1, fun _ => rfl⟩
def balT (A : Ar) : Tr → Bool
  | .nil => true
  | .node i l r => bal (A.sz (A.nd i).left) (A.sz (A.nd i).right) && balT A l && balT A r
/-- the answer of Check: 0, or the error's number -/
noncomputable def chkT (A : Ar) (t : Tr) : Int := by
  classical exact if ¬ Asc none (t.keys A.nd) then 7 else if balT A t = false then 8 else 0
theorem balT_ht {A : Ar} (ha : A.Agg) {i : Nat} {t : Tr} (h : Sub A i t) (hb : balT A t = true) : wt t.ht ≤ t.size + 1 := by
  induction h with
  | nil => exact Nat.le_refl 1
  | node i l r h0 h1 hl hr ihl ihr =>
    unfold balT at hb
    simp only [Bool.and_eq_true] at hb
    obtain ⟨⟨h2, h3⟩, h4⟩ := hb
    have h5 := ihl h3
    have h6 := ihr h4
    rw [Sub.size ha hl, Sub.size ha hr] at h2
    unfold bal at h2
    have h7 := of_decide_eq_true h2
    show wt (1 + max l.ht r.ht) ≤ l.size + r.size + 1 + 1
    rw [Nat.add_comm 1, wt_succ]
    rcases Nat.le_total l.ht r.ht with h8 | h8
    · rw [Nat.max_eq_right h8]; omega
    · rw [Nat.max_eq_left h8]; omega
/-! ### how many slots are met -/
theorem filter_lt {α : Type} {P Q : α → Bool} : ∀ {l : List α} {x : α}, x ∈ l → (∀ y, P y = true → Q y = true) → Q x = true → P x = false → (l.filter P).length + 1 ≤ (l.filter Q).length
  | a :: l, x, hx, h, hQ, hP => by
    have hle : ∀ m : List α, (m.filter P).length ≤ (m.filter Q).length := fun m => by
      induction m with
      | nil => exact Nat.le_refl _
      | cons b m ih =>
        simp only [List.filter_cons]
        cases hb : P b
        · cases hq : Q b <;> simp <;> omega
        · rw [h b hb]; simp; omega
    simp only [List.filter_cons]
    by_cases e : x = a
    · subst e
      rw [hP, hQ]
      have := hle l
      simp
      omega
    · have h1 := filter_lt (List.mem_of_ne_of_mem e hx) h hQ hP
      cases hb : P a
      · cases hq : Q a <;> simp <;> omega
      · rw [h a hb]; simp; omega
/-- the slots whose keys stand behind s -/
def Ar.above (A : Ar) (s : Option Int) : Nat := ((List.range' 1 A.σ.cap).filter fun i => A.σ.on i && (match s with | none => true | some k => decide (k < (A.nd i).key))).length
/-- the slots of size z at most -/
def Ar.upto (A : Ar) (z : Int) : Nat := ((List.range' 1 A.σ.cap).filter fun i => A.σ.on i && decide ((A.nd i).size ≤ z)).length
theorem Ar.above_le (A : Ar) (s : Option Int) : A.above s ≤ A.σ.cap := by
  unfold Ar.above
  exact Nat.le_trans (List.length_filter_le _ _) (by simp)
theorem Ar.upto_le (A : Ar) (z : Int) : A.upto z ≤ A.σ.cap := by
  unfold Ar.upto
  exact Nat.le_trans (List.length_filter_le _ _) (by simp)
theorem on_range {A : Ar} (h : A.σ.Ok) {i : Nat} (hi : A.σ.on i = true) : i ∈ List.range' 1 A.σ.cap := by
  have := h.on i hi
  rw [List.mem_range'_1]
  omega
theorem Ar.above_step {A : Ar} (h : A.σ.Ok) {i : Nat} (hi : A.σ.on i = true) {s : Option Int} (hs : ∀ k, s = some k → k < (A.nd i).key) : A.above (some (A.nd i).key) + 1 ≤ A.above s := by
  refine filter_lt (on_range h hi) (fun y hy => ?_) ?_ ?_
  · simp only [Bool.and_eq_true, decide_eq_true_eq] at hy ⊢
    refine ⟨hy.1, ?_⟩
    cases s with
    | none => rfl
    | some k => have := hs k rfl; exact decide_eq_true (by omega)
  · rw [hi]
    cases s with
    | none => rfl
    | some k => simpa using hs k rfl
  · rw [hi]; simp
theorem Sub.ht_le {A : Ar} (h : A.σ.Ok) (ha : A.Agg) {i : Nat} {t : Tr} (hs : Sub A i t) : t.ht ≤ A.upto (A.sz i) := by
  induction hs with
  | nil => exact Nat.zero_le _
  | node i l r h0 h1 hl hr ihl ihr =>
    have hsz := sz_child ha h1
    have e : A.sz i = (A.nd i).size := by unfold Ar.sz; rw [if_neg h0]
    have hln : 0 ≤ A.sz (A.nd i).left := by rw [hl.size ha]; omega
    have hrn : 0 ≤ A.sz (A.nd i).right := by rw [hr.size ha]; omega
    have key : ∀ z : Int, z < A.sz i → A.upto z + 1 ≤ A.upto (A.sz i) := fun z hz => by
      refine filter_lt (on_range h h1) (fun y hy => ?_) ?_ ?_
      · simp only [Bool.and_eq_true, decide_eq_true_eq] at hy ⊢
        exact ⟨hy.1, by omega⟩
      · rw [h1, e]; simp
      · rw [h1]; simp; omega
    have k1 := key _ (show A.sz (A.nd i).left < A.sz i by omega)
    have k2 := key _ (show A.sz (A.nd i).right < A.sz i by omega)
    show 1 + max l.ht r.ht ≤ _
    rcases Nat.le_total l.ht r.ht with h8 | h8
    · rw [Nat.max_eq_right h8]; omega
    · rw [Nat.max_eq_left h8]; omega
theorem Sub.ht_cap {A : Ar} (h : A.σ.Ok) (ha : A.Agg) {i : Nat} {t : Tr} (hs : Sub A i t) : t.ht ≤ A.σ.cap := Nat.le_trans (hs.ht_le h ha) (A.upto_le _)
end Go.Proofs.Ytfchdnaaepaabaa
