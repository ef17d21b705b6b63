/- A tree in order has no more nodes than slots are allocated, plain. -/
import Derived.Test.YtbjmblfifnjafaaArSide
set_option linter.unusedVariables false
namespace Go.Proofs.Ytbjmblfifnjafaa
/-- a tree in order has no more nodes than slots are allocated -/
theorem ord_above {A : Ar} (hok : A.σ.Ok) {i : Nat} {t : Tr} (h : Sub A i t) : ∀ {s s' : Option Int}, ordT A.nd t s = some s' → A.above s' + t.size ≤ A.above s := by
  induction h with
  | nil =>
    intro s s' h
    cases h
    simp [Tr.size]
  | node i l r h0 h1 hl hr ihl ihr =>
    intro s s' h
    unfold ordT at h
    show A.above s' + (l.size + r.size + 1) ≤ _
    cases hL : ordT A.nd l s with
    | none => rw [hL] at h; cases h
    | some s1 =>
      rw [hL] at h
      have e1 := ihl hL
      cases s1 with
      | none =>
        have e2 := ihr h
        have e3 := A.above_step (s := none) hok h1 (fun k hk => by cases hk)
        omega
      | some k =>
        by_cases hle : (A.nd i).key ≤ k
        · simp only [if_pos hle] at h; cases h
        · simp only [if_neg hle] at h
          have e2 := ihr h
          have e3 := A.above_step (s := some k) hok h1 (fun k' hk => by cases hk; omega)
          omega
theorem above_free {A : Ar} (hok : A.σ.Ok) : A.above none + A.σ.free.length ≤ A.σ.cap := by
  have h := St.nodup_le A.σ.cap (((List.range' 1 A.σ.cap).filter fun i => A.σ.on i && true) ++ A.σ.free) (by
    rw [List.nodup_append]
    refine ⟨List.Pairwise.filter _ List.nodup_range', hok.nodup, fun x hx y hy hxy => ?_⟩
    subst hxy
    have h1 := (hok.free x).1 hy
    have h2 := (List.mem_filter.1 hx).2
    rw [h1.2.2] at h2
    cases h2) (fun x hx => by
    rcases List.mem_append.1 hx with hx | hx
    · have := List.mem_range'_1.1 (List.mem_filter.1 hx).1
      omega
    · have := (hok.free x).1 hx
      omega)
  rw [List.length_append] at h
  exact h
end Go.Proofs.Ytbjmblfifnjafaa
