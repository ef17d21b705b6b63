/- Frames one after the other as plain lists: what reading them in turn gives, at whole and at torn strings. No program is spoken of. -/
import Derived.Test.YtdaenfhedepiaaaRefFrame
set_option linter.unusedVariables false
namespace Go.Proofs.Ytdaenfhedepiaaa
open Go

/-- reading frames of zs from p on gives the payloads ps and ends at q -/
inductive To (zs : List Int) : Int → List (List Int) → Int → Prop
  | nil (p : Int) : To zs p [] p
  | snoc {p : Int} {ps : List (List Int)} {q r : Int} {P : List Int} : To zs p ps q → nx zs q = (0, P, r) → To zs p (ps ++ [P]) r
def Spl (zs : List Int) (ps : List (List Int)) (q : Int) : Prop := To zs 0 ps q ∧ (nx zs q).1 ≠ 0
/-- the frames of several payloads -/
def frs : List (List Int) → List Int
  | [] => []
  | P :: ps => fr P ++ frs ps
theorem frs_app (ps qs : List (List Int)) : frs (ps ++ qs) = frs ps ++ frs qs := by
  induction ps with
  | nil => rfl
  | cons P ps ih => simp [frs, ih]
theorem frs_snoc (ps : List (List Int)) (P : List Int) : frs (ps ++ [P]) = frs ps ++ fr P := by rw [frs_app]; simp [frs]
theorem frs_byt {ps : List (List Int)} (h : ∀ P ∈ ps, Byt P ∧ P.length ≤ 1048576) : Byt (frs ps) := by
  induction ps with
  | nil => exact Byt.nil
  | cons P ps ih =>
    have h1 := h P (by simp)
    exact (fr_byt h1.1 (by omega)).app (ih fun Q hQ => h Q (by simp [hQ]))
theorem to_unique {zs : List Int} {p : Int} {ps : List (List Int)} {q : Int} (h : To zs p ps q) : ∀ {qs : List (List Int)} {r : Int}, To zs p qs r → ps.length = qs.length → ps = qs ∧ q = r := by
  induction h with
  | nil =>
    intro qs r h2 hl
    cases h2 with
    | nil => exact ⟨rfl, rfl⟩
    | snoc _ _ => simp at hl
  | snoc _ hn ih =>
    intro qs r h2 hl
    cases h2 with
    | nil => simp at hl
    | snoc h3 hn2 =>
      obtain ⟨e1, e2⟩ := ih h3 (by simpa using hl)
      subst e1 e2
      rw [hn] at hn2
      simp only [Prod.mk.injEq, true_and] at hn2
      obtain ⟨rfl, rfl⟩ := hn2
      exact ⟨rfl, rfl⟩
/-- a shorter reading of the same string goes on -/
theorem to_part {zs : List Int} {p : Int} {ps : List (List Int)} {q : Int} (h : To zs p ps q) : ∀ k, k < ps.length → ∃ r, To zs p (ps.take k) r ∧ (nx zs r).1 = 0 := by
  induction h with
  | nil => intro k hk; simp at hk
  | @snoc ps q r P h1 hn ih =>
    intro k hk
    simp only [List.length_append, List.length_cons, List.length_nil] at hk
    by_cases e : k = ps.length
    · subst e
      refine ⟨q, ?_, by rw [hn]⟩
      rw [List.take_append_of_le_length (Nat.le_refl _), List.take_length]
      exact h1
    · rw [List.take_append_of_le_length (by omega)]
      exact ih k (by omega)
theorem spl_unique {zs : List Int} {ps qs : List (List Int)} {q r : Int} (h : Spl zs ps q) (k : Spl zs qs r) : ps = qs ∧ q = r := by
  rcases Nat.lt_trichotomy ps.length qs.length with hl | hl | hl
  · exfalso
    obtain ⟨s, h1, h2⟩ := to_part k.1 _ hl
    have := to_unique h.1 h1 (by simp; omega)
    rw [← this.2] at h2
    exact h.2 h2
  · exact to_unique h.1 k.1 hl
  · exfalso
    obtain ⟨s, h1, h2⟩ := to_part h.1 _ hl
    have := to_unique k.1 h1 (by simp; omega)
    rw [← this.2] at h2
    exact k.2 h2
theorem to_frames (ps : List (List Int)) (t : List Int) (h : ∀ P ∈ ps, P.length ≤ 1048576) : ∀ k, k ≤ ps.length → To (frs ps ++ t) 0 (ps.take k) (((frs (ps.take k)).length : Nat) : Int) := by
  intro k
  induction k with
  | zero => intro _; exact To.nil 0
  | succ k ih =>
    intro hk
    have h1 := ih (by omega)
    rw [List.take_succ_eq_append_getElem (by omega), frs_snoc]
    refine To.snoc h1 ?_
    have e : frs ps ++ t = frs (ps.take k) ++ (fr ps[k] ++ (frs (ps.drop (k + 1)) ++ t)) := by
      have e1 : ps = ps.take k ++ ([ps[k]] ++ ps.drop (k + 1)) := by
        rw [List.singleton_append, ← List.drop_eq_getElem_cons (by omega), List.take_append_drop]
      have e2 : frs ps = frs (ps.take k) ++ (fr ps[k] ++ frs (ps.drop (k + 1))) := by
        have := congrArg frs e1
        rw [frs_app, frs_app] at this
        simpa [frs] using this
      rw [e2]; simp
    rw [e, nx_back _ _ _ (h _ (List.getElem_mem _))]
    simp
/-- whole frames, then a torn one -/
theorem spl_frames (ps : List (List Int)) (P : List Int) (k : Nat) (h : ∀ P ∈ ps, P.length ≤ 1048576) (hP : P.length ≤ 1048576) (hk : k < (fr P).length) :
    Spl (frs ps ++ (fr P).take k) ps (((frs ps).length : Nat) : Int) ∧ nx (frs ps ++ (fr P).take k) (((frs ps).length : Nat) : Int) = (12, [], 0) := by
  have h1 := to_frames ps ((fr P).take k) h ps.length (Nat.le_refl _)
  rw [List.take_length] at h1
  have h2 := nx_torn (frs ps) P k hP hk
  exact ⟨⟨h1, by rw [h2]; decide⟩, h2⟩
/-- whole frames alone -/
theorem spl_whole (ps : List (List Int)) (h : ∀ P ∈ ps, P.length ≤ 1048576) : Spl (frs ps) ps (((frs ps).length : Nat) : Int) := by
  have h1 := (spl_frames ps [] 0 h (by simp) (by rw [fr_len]; omega)).1
  rwa [List.take_zero, List.append_nil] at h1
theorem nx_next {zs : List Int} {p q : Int} {P : List Int} (hz : Byt zs) (h : nx zs p = (0, P, q)) : p < q ∧ q ≤ zs.length ∧ (P.length : Int) + 5 ≤ q - p := by
  obtain ⟨u, f, x, hd⟩ : ∃ u f x, uvD zs p = (u, f, x) := ⟨_, _, _, rfl⟩
  by_cases hx : x = 0
  · subst hx
    obtain ⟨h0, h1, h2, h3, h4⟩ := uvD_ok hz hd
    by_cases hb : 1048576 < u
    · rw [nx_big hd hb] at h; simp at h
    · by_cases hs : (zs.length : Int) - f < u + 4
      · rw [nx_short hd hb hs] at h; simp at h
      · by_cases hc : ob ((zs.drop (f + u).toNat).take 4) = cs 0 ((zs.drop p.toNat).take (f + u - p).toNat)
        · rw [nx_ok hd hb hs hc] at h
          simp only [Prod.mk.injEq, true_and] at h
          obtain ⟨rfl, rfl⟩ := h
          refine ⟨by omega, by omega, ?_⟩
          simp only [List.length_take, List.length_drop]
          omega
        · rw [nx_sum hd hb hs hc] at h; simp at h
  · rw [nx_uv hd hx] at h
    simp at h
    exact absurd h.1 hx
end Go.Proofs.Ytdaenfhedepiaaa
