/- A node is made over an arena, and a reference to a shared node is given back: what stays, what is counted. Plain. -/
import Derived.Test.YtkhfofpbmnapjaaRotCon
set_option linter.unusedVariables false
namespace Go.Proofs.Ytkhfofpbmnapjaa
/-- B is A with a new node x at i, to which one reference more is held -/
structure Mk (A : Ar) (held : Nat → Nat) (i : Nat) (x : Nd) (B : Ar) : Prop where
  kept : A.Kept B
  gen : ∀ j, A.σ.on j = true → B.σ.gen j = A.σ.gen j
  inv : B.Inv [] (more held i)
  agg : B.Agg
  wf : B.Wf
  free : B.σ.free.length + 1 = A.σ.free.length
  nd : B.nd i = x
  new : NewIn A B i
theorem kept_sz {A B : Ar} (hk : A.Kept B) {i : Nat} (hi : A.Idx i) : B.sz i = A.sz i := by
  unfold Ar.sz
  by_cases h0 : i = 0
  · rw [if_pos h0, if_pos h0]
  · rw [if_neg h0, if_neg h0, hk.nd i (hi.resolve_left h0)]
theorem mk {A : Ar} {held : Nat → Nat} {i : Nat} {t : List Nat} {key val : Int} {l r : Nat} (hv : A.Inv [] held) (ha : A.Agg) (hw : A.Wf) (hf : A.σ.free = i :: t) (hk : i64R key) (hx : i64R val) (hl : A.Idx l) (hr : A.Idx r) (hs : (A.node key val l r).size ≤ 2147483647) :
    Mk A held i (A.node key val l r) (A.made i t (A.node key val l r)) := by
  have hi := (hv.ok.free i).1 (by rw [hf]; simp)
  have hne : ∀ j, A.σ.on j = true → j ≠ i := fun j hj e => by subst e; rw [hi.2.2] at hj; cases hj
  refine ⟨Ar.Kept.made _ hv hf, fun j hj => ?_, hv.made hf hl hr, ha.made hv hf hl hr hs, hw.made ⟨hk, hx⟩, ?_, if_pos rfl, take_same _ _ _, hi.2.2⟩
  · show (A.σ.take i t).gen j = A.σ.gen j
    unfold St.take
    simp [hne j hj]
  · show (A.σ.take i t).free.length + 1 = _
    rw [hf]
    rfl
/-- a reference that is held to a node which another node has, too, is given back -/
theorem give {A : Ar} {held : Nat → Nat} (hv : A.Inv [] held) (ha : A.Agg) (hw : A.Wf) {i : Nat} (h1 : i ≠ 0 → 0 < held i ∧ 2 ≤ A.cnt i) :
    (A.Idx i → A.Inv [i] (mns held i)) ∧ A.Idx i ∧ (A.gone i).Inv [] (mns held i) ∧ (A.gone i).Agg ∧ (A.gone i).Wf ∧ A.Kept (A.gone i) ∧ (A.gone i).σ = A.σ ∧ (∀ j, (A.gone i).cnt j = A.cnt j - (if i ≠ 0 ∧ j = i then 1 else 0)) := by
  obtain ⟨g1, g2, g3, g4, g5, g6, g7⟩ := hv.shared h1 ha
  exact ⟨g1, g2, g3, g4, hw.gone i, g5, g6, g7⟩
theorem mns_more2 {held : Nat → Nat} {a b : Nat} (ha : a ≠ 0) (h : a ≠ b) : mns (more (more held a) b) a = more held b := by
  funext j
  rw [mns_at]
  unfold more
  by_cases e1 : j = b
  · subst e1
    rw [if_pos rfl, if_pos rfl, if_neg (Ne.symm h), if_neg (fun q => h q.2.symm)]
    omega
  · rw [if_neg e1, if_neg e1]
    by_cases e2 : j = a
    · subst e2; rw [if_pos rfl, if_pos ⟨ha, rfl⟩]; omega
    · rw [if_neg e2, if_neg (fun q => e2 q.2)]; omega
/-- two nodes, the second over the first; then the first one's reference is given back -/
theorem two_nodes {A A1 A2 : Ar} {held : Nat → Nat} {i1 i2 : Nat} {x1 x2 : Nd} (h1 : Mk A held i1 x1 A1) (h2 : Mk A1 (more held i1) i2 x2 A2) (hc : 2 ≤ A2.cnt i1) :
    (A2.Idx i1 → A2.Inv [i1] (mns (more (more held i1) i2) i1)) ∧ A2.Idx i1 ∧ Turned A held (A2.gone i1) i2 2 ∧ NewIn A (A2.gone i1) i1 ∧ NewIn A (A2.gone i1) i2 ∧ (A2.gone i1).nd i1 = x1 ∧ (A2.gone i1).nd i2 = x2 := by
  have hi0 : i1 ≠ 0 := by have := h1.inv.ok.on i1 h1.new.1; omega
  have hne : i1 ≠ i2 := fun e => by have h := h2.new.2; rw [← e, h1.new.1] at h; cases h
  have hh : 0 < more (more held i1) i2 i1 := by unfold more; rw [if_neg hne, if_pos rfl]; omega
  obtain ⟨g1, g2, g3, g4, g5, g6, g7, g8⟩ := give h2.inv h2.agg h2.wf (i := i1) (fun _ => ⟨hh, hc⟩)
  rw [mns_more2 hi0 hne] at g3
  have hk := (h1.kept.trans h2.kept).trans g6
  have n1 : (A2.gone i1).σ.on i1 = true := by rw [g7]; exact h2.kept.on i1 h1.new.1
  have n2 : (A2.gone i1).σ.on i2 = true := by rw [g7]; exact h2.new.1
  have off2 : A.σ.on i2 = false := by
    cases ho : A.σ.on i2
    · rfl
    · have := h1.kept.on i2 ho; rw [h2.new.2] at this; cases this
  refine ⟨g1, g2, ⟨hk, fun j hj => ?_, g3, g4, g5, ?_⟩, ⟨n1, h1.new.2⟩, ⟨n2, off2⟩, ?_, ?_⟩
  · rw [g7, h2.gen j (h1.kept.on j hj), h1.gen j hj]
  · rw [g7]
    have f1 := h1.free
    have f2 := h2.free
    omega
  · rw [g6.nd i1 (h2.kept.on i1 h1.new.1), h2.kept.nd i1 h1.new.1, h1.nd]
  · rw [g6.nd i2 h2.new.1, h2.nd]
theorem mns_more3 {held : Nat → Nat} {a b c : Nat} (ha : a ≠ 0) (hb : b ≠ 0) (h1 : a ≠ b) (h2 : a ≠ c) (h3 : b ≠ c) : mns (mns (more (more (more held a) b) c) a) b = more held c := by
  funext j
  rw [mns_at, mns_at]
  unfold more
  by_cases e2 : j = b
  · subst e2
    repeat' split
    all_goals omega
  by_cases e3 : j = a
  · subst e3
    repeat' split
    all_goals omega
  by_cases e1 : j = c
  · subst e1
    repeat' split
    all_goals omega
  repeat' split
  all_goals omega
theorem Mk.off {A B : Ar} {held : Nat → Nat} {i : Nat} {x : Nd} {A0 : Ar} (h : Mk A held i x B) (hk : A0.Kept A) : A0.σ.on i = false := by
  cases ho : A0.σ.on i
  · rfl
  · have := hk.on i ho; rw [h.new.2] at this; cases this
/-- three nodes, the third over the first two; then their references are given back -/
theorem three_nodes {A A1 A2 A3 : Ar} {held : Nat → Nat} {i1 i2 i3 : Nat} {x1 x2 x3 : Nd} (h1 : Mk A held i1 x1 A1) (h2 : Mk A1 (more held i1) i2 x2 A2) (h3 : Mk A2 (more (more held i1) i2) i3 x3 A3) (hc1 : 2 ≤ A3.cnt i1) (hc2 : 2 ≤ A3.cnt i2) :
    (A3.Idx i1 → A3.Inv [i1] (mns (more (more (more held i1) i2) i3) i1)) ∧ A3.Idx i1 ∧
    ((A3.gone i1).Idx i2 → (A3.gone i1).Inv [i2] (mns (mns (more (more (more held i1) i2) i3) i1) i2)) ∧ (A3.gone i1).Idx i2 ∧
    Turned A held ((A3.gone i1).gone i2) i3 3 ∧ i1 ≠ i2 ∧ NewIn A ((A3.gone i1).gone i2) i1 ∧ NewIn A ((A3.gone i1).gone i2) i2 ∧ NewIn A ((A3.gone i1).gone i2) i3 ∧
    ((A3.gone i1).gone i2).nd i1 = x1 ∧ ((A3.gone i1).gone i2).nd i2 = x2 ∧ ((A3.gone i1).gone i2).nd i3 = x3 := by
  have hi1 : i1 ≠ 0 := by have := h1.inv.ok.on i1 h1.new.1; omega
  have hi2 : i2 ≠ 0 := by have := h2.inv.ok.on i2 h2.new.1; omega
  have n12 : i1 ≠ i2 := fun e => by have h := h2.new.2; rw [← e, h1.new.1] at h; cases h
  have on1 : A2.σ.on i1 = true := h2.kept.on i1 h1.new.1
  have n13 : i1 ≠ i3 := fun e => by have h := h3.new.2; rw [← e, on1] at h; cases h
  have n23 : i2 ≠ i3 := fun e => by have h := h3.new.2; rw [← e, h2.new.1] at h; cases h
  have hh1 : 0 < more (more (more held i1) i2) i3 i1 := by unfold more; rw [if_neg n13, if_neg n12, if_pos rfl]; omega
  obtain ⟨g1, g2, g3, g4, g5, g6, g7, g8⟩ := give h3.inv h3.agg h3.wf (i := i1) (fun _ => ⟨hh1, hc1⟩)
  have hh2 : 0 < mns (more (more (more held i1) i2) i3) i1 i2 := by
    rw [mns_at, if_neg (fun q => n12 q.2.symm)]
    unfold more
    rw [if_neg n23, if_pos rfl]
    omega
  have hc2' : 2 ≤ (A3.gone i1).cnt i2 := by rw [g8, if_neg (fun q => n12 q.2.symm)]; omega
  obtain ⟨k1, k2, k3, k4, k5, k6, k7, k8⟩ := give g3 g4 g5 (i := i2) (fun _ => ⟨hh2, hc2'⟩)
  rw [mns_more3 hi1 hi2 n12 n13 n23] at k3
  have hk3 := g6.trans k6
  have hk := ((h1.kept.trans h2.kept).trans h3.kept).trans hk3
  have hσ : ((A3.gone i1).gone i2).σ = A3.σ := k7.trans g7
  have o1 : A3.σ.on i1 = true := h3.kept.on i1 on1
  have o2 : A3.σ.on i2 = true := h3.kept.on i2 h2.new.1
  refine ⟨g1, g2, k1, k2, ⟨hk, fun j hj => ?_, k3, k4, k5, ?_⟩, n12, ⟨by rw [hσ]; exact o1, h1.new.2⟩, ⟨by rw [hσ]; exact o2, h2.off h1.kept⟩, ⟨by rw [hσ]; exact h3.new.1, h3.off (h1.kept.trans h2.kept)⟩, ?_, ?_, ?_⟩
  · rw [hσ, h3.gen j (h2.kept.on j (h1.kept.on j hj)), h2.gen j (h1.kept.on j hj), h1.gen j hj]
  · rw [hσ]
    have f1 := h1.free
    have f2 := h2.free
    have f3 := h3.free
    omega
  · rw [hk3.nd i1 o1, h3.kept.nd i1 on1, h2.kept.nd i1 h1.new.1, h1.nd]
  · rw [hk3.nd i2 o2, h3.kept.nd i2 h2.new.1, h2.nd]
  · rw [hk3.nd i3 h3.new.1, h3.nd]
end Go.Proofs.Ytkhfofpbmnapjaa
