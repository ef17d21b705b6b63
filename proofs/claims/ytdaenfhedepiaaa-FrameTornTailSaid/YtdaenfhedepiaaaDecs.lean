/- The two decodings of layer word as plain functions of a list of numbers: the varint's value, and the value of eight bytes; how one step of a loop adds to them. No program is spoken of. -/
import Derived.Test.YtdaenfhedepiaaaCodes
set_option linter.unusedVariables false
namespace Go.Proofs.Ytdaenfhedepiaaa
open Go

/-- what reading a varint gives behind k groups of value U: the value, the number of bytes, the error's number -/
def dec (k : Nat) (U : Int) : List Int → Int × Nat × Int
  | [] => (0, 0, 12)
  | c :: t => if k = 9 ∧ 1 < c then (0, 0, 13) else if 128 ≤ c then dec (k + 1) (U + c % 128 * 128 ^ k) t else if c = 0 ∧ 0 < k then (0, 0, 13) else (U + c * 128 ^ k, k + 1, 0)
theorem dec_over {k : Nat} {U c : Int} {t : List Int} (hk : k = 9) (hc : 1 < c) : dec k U (c :: t) = (0, 0, 13) := by simp [dec, hk, hc]
theorem dec_more {k : Nat} {U c : Int} {t : List Int} (hk : k < 9) (hc : 128 ≤ c) : dec k U (c :: t) = dec (k + 1) (U + c % 128 * 128 ^ k) t := by
  have : ¬ k = 9 := by omega
  simp [dec, this, hc]
theorem dec_zero {k : Nat} {U c : Int} {t : List Int} (hk : 0 < k) (hc : c = 0) : dec k U (c :: t) = (0, 0, 13) := by
  subst hc; simp [dec, hk]
theorem dec_last {k : Nat} {U c : Int} {t : List Int} (h1 : ¬ (k = 9 ∧ 1 < c)) (h2 : c < 128) (h3 : ¬ (c = 0 ∧ 0 < k)) : dec k U (c :: t) = (U + c * 128 ^ k, k + 1, 0) := by
  have : ¬ 128 ≤ c := by omega
  simp only [dec, h1, this, h3, if_false]

theorem pow128_two (k : Nat) : (128 : Int) ^ k = 2 ^ (7 * k) := by rw [Int.pow_mul]; rfl
theorem pow128_le (k : Nat) (hk : k ≤ 9) : (128 : Int) ^ k ≤ 9223372036854775808 := by
  have : (128 : Nat) ^ k ≤ 128 ^ 9 := Nat.pow_le_pow_right (by decide) hk
  have h6 : ((128 ^ k : Nat) : Int) ≤ ((128 ^ 9 : Nat) : Int) := by omega
  rw [Int.natCast_pow] at h6
  simpa using h6
theorem pow128_le8 (k : Nat) (hk : k ≤ 8) : (128 : Int) ^ k ≤ 72057594037927936 := by
  have : (128 : Nat) ^ k ≤ 128 ^ 8 := Nat.pow_le_pow_right (by decide) hk
  have h6 : ((128 ^ k : Nat) : Int) ≤ ((128 ^ 8 : Nat) : Int) := by omega
  rw [Int.natCast_pow] at h6
  simpa using h6
/-- the new group fits beside the old ones -/
theorem group_fits {k : Nat} {U c : Int} (hk : k ≤ 9) (hU0 : 0 ≤ U) (hU1 : U < 128 ^ k) (hc0 : 0 ≤ c) (hc1 : c < 128) (h9 : k = 9 → c ≤ 1) :
    0 ≤ c * 128 ^ k ∧ c * 128 ^ k < 18446744073709551616 ∧ U + c * 128 ^ k < 18446744073709551616 := by
  have hp := pow128 k
  have h0 := Int.mul_nonneg hc0 (show (0 : Int) ≤ 128 ^ k by omega)
  by_cases h : k = 9
  · have h1 := h9 h
    subst h
    have e : (128 : Int) ^ 9 = 9223372036854775808 := by decide
    rw [e] at hU1 ⊢
    omega
  · have h8 := pow128_le8 k (by omega)
    have h2 := Int.mul_le_mul_of_nonneg_right (show c ≤ 127 by omega) (show (0 : Int) ≤ 128 ^ k by omega)
    omega
theorem group_next {k : Nat} {U c : Int} (hU0 : 0 ≤ U) (hU1 : U < 128 ^ k) (hc0 : 0 ≤ c) (hc1 : c < 128) : 0 ≤ U + c * 128 ^ k ∧ U + c * 128 ^ k < 128 ^ (k + 1) := by
  have hp := pow128 k
  have h0 := Int.mul_nonneg hc0 (show (0 : Int) ≤ 128 ^ k by omega)
  have h2 := Int.mul_le_mul_of_nonneg_right (show c ≤ 127 by omega) (show (0 : Int) ≤ 128 ^ k by omega)
  rw [Int.pow_succ]
  omega
/-- the program's way: an or of a shifted group -/
theorem group_or {k : Nat} {U c : Int} (hk : k ≤ 9) (hU0 : 0 ≤ U) (hU1 : U < 128 ^ k) (hc0 : 0 ≤ c) (hc1 : c < 128) (h9 : k = 9 → c ≤ 1) :
    bits .or .u64 U (IntKind.u64.wrap (c * 2 ^ (7 * k))) = U + c * 128 ^ k := by
  obtain ⟨h0, h1, h2⟩ := group_fits hk hU0 hU1 hc0 hc1 h9
  have h8 := pow128_le k hk
  rw [← pow128_two, IntKind.wrap_u64, Int.emod_eq_of_lt h0 h1, or64_comm _ _ hU0 (by omega) h0 h1, or64_join (7 * k) _ _ h0 h1 (by rw [pow128_two]; exact Int.mul_emod_left _ _) hU0 (by rw [← pow128_two]; exact hU1) (by omega), Int.add_comm]
/-- the reference's way: a sum of products -/
theorem group_sum {k : Nat} {U c : Int} (hk : k ≤ 9) (hU0 : 0 ≤ U) (hU1 : U < 128 ^ k) (hc0 : 0 ≤ c) (hc1 : c < 128) (h9 : k = 9 → c ≤ 1) :
    IntKind.u64.wrap (U + IntKind.u64.wrap (128 ^ k * c)) = U + c * 128 ^ k := by
  obtain ⟨h0, h1, h2⟩ := group_fits hk hU0 hU1 hc0 hc1 h9
  rw [Int.mul_comm (128 ^ k) c, IntKind.wrap_u64, IntKind.wrap_u64, Int.emod_eq_of_lt h0 h1, Int.emod_eq_of_lt (by omega) h2]

/-- the value of a list of bytes, the most significant first -/
def ob : List Int → Int := List.foldl (fun u c => 256 * u + c) 0
theorem ob_snoc (l : List Int) (c : Int) : ob (l ++ [c]) = 256 * ob l + c := by simp [ob]
theorem ob_bd (l : List Int) (h : Byt l) : ∀ k, k ≤ l.length → 0 ≤ ob (l.take k) ∧ ob (l.take k) < 256 ^ k := by
  intro k
  induction k with
  | zero => intro _; exact ⟨by simp [ob], by simp [ob]⟩
  | succ k ih =>
    intro hk
    obtain ⟨h0, h1⟩ := ih (by omega)
    have hb := h (l[k]'(by omega)) (List.getElem_mem _)
    rw [List.take_succ_eq_append_getElem (by omega), ob_snoc, Int.pow_succ]
    omega
theorem ob_step {l : List Int} {k : Nat} (hk : k < l.length) : ob (l.take (k + 1)) = 256 * ob (l.take k) + l[k]?.getD 0 := by
  rw [List.take_succ_eq_append_getElem hk, ob_snoc, List.getElem?_eq_getElem hk]; rfl
theorem ob_be8 (u : Int) (h0 : 0 ≤ u) (h1 : u < 18446744073709551616) : ob (be 8 u) = u := by
  rw [be8]
  simp only [ob, List.foldl]
  omega

/-! ### reading what was written -/
theorem dec_vs (f : Nat) : ∀ (k : Nat) (U X : Int) (t : List Int), k + f = 9 → Rest k X → (0 < k → 1 ≤ X) → dec k U (vs f X ++ t) = (U + X * 128 ^ k, k + (vs f X).length, 0) := by
  induction f with
  | zero =>
    intro k U X t hk hR h1
    have hs : ¬ 127 < X := fun hu => by have := hR.big hu; omega
    have h0 := hR.1
    have h9 : k = 9 := by omega
    have h91 : X ≤ 1 := by
      obtain ⟨_, h2⟩ := hR
      subst h9
      have e : (128 : Int) ^ 9 = 9223372036854775808 := by decide
      rw [e] at h2
      omega
    rw [vs_small _ _ (by omega)]
    simp only [List.cons_append, List.nil_append]
    rw [dec_last (by omega) (by omega) (by omega)]
    rfl
  | succ f ih =>
    intro k U X t hk hR h1
    have h0 := hR.1
    by_cases hX : X ≤ 127
    · rw [vs_small _ _ hX]
      simp only [List.cons_append, List.nil_append]
      rw [dec_last (by omega) (by omega) (by omega)]
      rfl
    · rw [vs_big _ _ (by omega)]
      simp only [List.cons_append]
      rw [dec_more (by omega) (by omega), ih (k + 1) _ _ t (by omega) hR.step (by omega)]
      have e : (X % 128 + 128) % 128 = X % 128 := by omega
      rw [e]
      have e2 : U + X % 128 * 128 ^ k + X / 128 * 128 ^ (k + 1) = U + X * 128 ^ k := by
        rw [Int.pow_succ]
        have e3 : X / 128 * (128 ^ k * 128) = (X / 128 * 128) * 128 ^ k := by rw [Int.mul_assoc, Int.mul_comm 128 (128 ^ k)]
        rw [e3, Int.add_assoc, ← Int.add_mul]
        have e4 : X % 128 + X / 128 * 128 = X := by omega
        rw [e4]
      rw [e2]
      simp only [List.length_cons, Prod.mk.injEq, and_true, true_and]
      omega
theorem dec_vs9 (u : Int) (t : List Int) (h0 : 0 ≤ u) (h1 : u < 18446744073709551616) : dec 0 0 (vs 9 u ++ t) = (u, (vs 9 u).length, 0) := by
  have h := dec_vs 9 0 0 u t rfl (Rest.zero h0 h1) (by omega)
  simpa using h
theorem dec_cut (f : Nat) : ∀ (k : Nat) (U X : Int) (j : Nat), k + f = 9 → Rest k X → j < (vs f X).length → dec k U ((vs f X).take j) = (0, 0, 12) := by
  induction f with
  | zero =>
    intro k U X j hk hR hj
    simp [vs] at hj
    subst hj
    simp [dec]
  | succ f ih =>
    intro k U X j hk hR hj
    have h0 := hR.1
    cases j with
    | zero => simp [dec]
    | succ j =>
      by_cases hX : X ≤ 127
      · rw [vs_small _ _ hX] at hj; simp at hj
      · rw [vs_big _ _ (by omega)] at hj ⊢
        simp only [List.take_succ_cons]
        rw [dec_more (by omega) (by omega)]
        exact ih (k + 1) _ _ j (by omega) hR.step (by simpa using hj)
/-- what is accepted is the varint of its result -/
theorem dec_canon (f : Nat) : ∀ (k : Nat) (U : Int) (l : List Int), k + f = 9 → Byt l → (dec k U l).2.2 = 0 →
    ∃ X m, 0 ≤ X ∧ (0 < k → 1 ≤ X) ∧ dec k U l = (U + X * 128 ^ k, k + m, 0) ∧ 1 ≤ m ∧ m ≤ l.length ∧ l.take m = vs f X := by
  induction f with
  | zero =>
    intro k U l hk hb he
    cases l with
    | nil => simp [dec] at he
    | cons c t =>
      have hc := hb c (by simp)
      by_cases h1 : k = 9 ∧ 1 < c
      · rw [dec_over h1.1 h1.2] at he; simp at he
      · have h2 : c < 128 := by omega
        by_cases h3 : c = 0 ∧ 0 < k
        · rw [dec_zero h3.2 h3.1] at he; simp at he
        · refine ⟨c, 1, hc.1, by omega, dec_last h1 h2 h3, by omega, by simp, by simp [vs]⟩
  | succ f ih =>
    intro k U l hk hb he
    cases l with
    | nil => simp [dec] at he
    | cons c t =>
      have hc := hb c (by simp)
      have h1 : ¬ (k = 9 ∧ 1 < c) := by omega
      by_cases h2 : c < 128
      · by_cases h3 : c = 0 ∧ 0 < k
        · rw [dec_zero h3.2 h3.1] at he; simp at he
        · refine ⟨c, 1, hc.1, by omega, dec_last h1 h2 h3, by omega, by simp, by simp [vs_small _ _ (show c ≤ 127 by omega)]⟩
      · rw [dec_more (by omega) (by omega)] at he ⊢
        obtain ⟨X, m, hX0, hX1, hd, hm0, hm1, ht⟩ := ih (k + 1) _ t (by omega) (fun z hz => hb z (by simp [hz])) he
        have hX2 := hX1 (by omega)
        refine ⟨c % 128 + 128 * X, m + 1, by omega, by omega, ?_, by omega, by simp; omega, ?_⟩
        · rw [hd, Int.pow_succ]
          have e : U + c % 128 * 128 ^ k + X * (128 ^ k * 128) = U + (c % 128 + 128 * X) * 128 ^ k := by
            rw [Int.add_assoc, Int.add_mul, Int.mul_comm (128 ^ k) 128, ← Int.mul_assoc, Int.mul_comm X 128]
          rw [e]
          simp only [Prod.mk.injEq, and_true, true_and]
          omega
        · rw [List.take_succ_cons, ht, vs_big _ _ (by omega)]
          have e1 : (c % 128 + 128 * X) % 128 + 128 = c := by omega
          have e2 : (c % 128 + 128 * X) / 128 = X := by omega
          rw [e1, e2]
theorem dec_bd (f : Nat) : ∀ (k : Nat) (U : Int) (l : List Int), k + f = 9 → Byt l → 0 ≤ U → U < 128 ^ k → 0 ≤ (dec k U l).1 ∧ (dec k U l).1 < 18446744073709551616 ∧ (dec k U l).2.1 ≤ k + l.length := by
  induction f with
  | zero =>
    intro k U l hk hb hU0 hU1
    cases l with
    | nil => simp [dec]
    | cons c t =>
      have hc := hb c (by simp)
      by_cases h1 : k = 9 ∧ 1 < c
      · rw [dec_over h1.1 h1.2]; simp
      · have h2 : c < 128 := by omega
        by_cases h3 : c = 0 ∧ 0 < k
        · rw [dec_zero h3.2 h3.1]; simp
        · rw [dec_last h1 h2 h3]
          have hg := group_fits (c := c) (by omega) hU0 hU1 hc.1 h2 (by omega)
          refine ⟨?_, hg.2.2, ?_⟩
          · show 0 ≤ U + c * 128 ^ k
            omega
          · simp
  | succ f ih =>
    intro k U l hk hb hU0 hU1
    cases l with
    | nil => simp [dec]
    | cons c t =>
      have hc := hb c (by simp)
      have h1 : ¬ (k = 9 ∧ 1 < c) := by omega
      by_cases h2 : c < 128
      · by_cases h3 : c = 0 ∧ 0 < k
        · rw [dec_zero h3.2 h3.1]; simp
        · rw [dec_last h1 h2 h3]
          have hg := group_fits (c := c) (by omega) hU0 hU1 hc.1 h2 (by omega)
          refine ⟨?_, hg.2.2, ?_⟩
          · show 0 ≤ U + c * 128 ^ k
            omega
          · simp
      · rw [dec_more (by omega) (by omega)]
        have hn := group_next hU0 hU1 (c := c % 128) (by omega) (by omega)
        have h := ih (k + 1) _ t (by omega) (fun z hz => hb z (by simp [hz])) hn.1 hn.2
        refine ⟨h.1, h.2.1, ?_⟩
        have := h.2.2
        simp only [List.length_cons]
        omega
end Go.Proofs.Ytdaenfhedepiaaa
