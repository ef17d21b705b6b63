/- The two encodings of layer word as plain lists of numbers: the varint's groups and a word's bytes, most significant first; their lengths, their bounds, and how one step of a loop adds to them. No program is spoken of. -/
import Derived.Test.YtdaenfhedepiaaaBytes
set_option linter.unusedVariables false
namespace Go.Proofs.Ytdaenfhedepiaaa
open Go

/-! ### the varint -/
def vs : Nat → Int → List Int
  | 0, u => [u]
  | f + 1, u => if u ≤ 127 then [u] else (u % 128 + 128) :: vs f (u / 128)
/-- what is left after k groups: u times 128^k fits 64 bits -/
def Rest (k : Nat) (u : Int) : Prop := 0 ≤ u ∧ u * 128 ^ k ≤ 18446744073709551615
theorem pow128 (k : Nat) : (1 : Int) ≤ 128 ^ k := by have := Int.pow_pos (n := 128) (m := k) (by decide); omega
theorem Rest.zero {u : Int} (h0 : 0 ≤ u) (h1 : u < 18446744073709551616) : Rest 0 u := ⟨h0, by simp; omega⟩
theorem Rest.le {k : Nat} {u : Int} (h : Rest k u) : 0 ≤ u ∧ u < 18446744073709551616 := by
  obtain ⟨h0, h1⟩ := h
  have hp := pow128 k
  have := Int.mul_le_mul_of_nonneg_left hp h0
  omega
theorem Rest.step {k : Nat} {u : Int} (h : Rest k u) : Rest (k + 1) (u / 128) := by
  obtain ⟨h0, h1⟩ := h
  refine ⟨by omega, ?_⟩
  have hp := pow128 k
  rw [Int.pow_succ]
  have e : u / 128 * (128 ^ k * 128) = (u / 128 * 128) * 128 ^ k := by rw [Int.mul_assoc, Int.mul_comm 128 (128 ^ k)]
  rw [e]
  have := Int.mul_le_mul_of_nonneg_right (show u / 128 * 128 ≤ u by omega) (show (0 : Int) ≤ 128 ^ k by omega)
  omega
theorem Rest.big {k : Nat} {u : Int} (h : Rest k u) (hu : 127 < u) : k < 9 := by
  rcases Nat.lt_or_ge k 9 with hk | hk
  · exact hk
  · exfalso
    obtain ⟨h0, h1⟩ := h
    have hp : (9223372036854775808 : Int) ≤ 128 ^ k := by
      have : (128 : Nat) ^ 9 ≤ 128 ^ k := Nat.pow_le_pow_right (by decide) hk
      have h6 : ((128 ^ 9 : Nat) : Int) ≤ ((128 ^ k : Nat) : Int) := by omega
      rw [Int.natCast_pow] at h6
      simpa using h6
    have h2 := Int.mul_le_mul_of_nonneg_left hp h0
    omega
theorem vs_small (f : Nat) (u : Int) (h : u ≤ 127) : vs f u = [u] := by
  cases f with
  | zero => rfl
  | succ f => simp [vs, h]
theorem vs_big (f : Nat) (u : Int) (h : 127 < u) : vs (f + 1) u = (u % 128 + 128) :: vs f (u / 128) := by
  have : ¬ u ≤ 127 := by omega
  simp [vs, this]
theorem vs_len (f : Nat) : ∀ u, 1 ≤ (vs f u).length ∧ (vs f u).length ≤ f + 1 := by
  induction f with
  | zero => intro u; simp [vs]
  | succ f ih =>
    intro u
    have := ih (u / 128)
    by_cases h : u ≤ 127
    · rw [vs_small _ _ h]; simp
    · rw [vs_big _ _ (by omega)]; simp only [List.length_cons]; omega
theorem vs_byt (k : Nat) : ∀ (f : Nat) (u : Int), k + f = 9 → Rest k u → Byt (vs f u) := by
  intro f
  induction f generalizing k with
  | zero =>
    intro u hk h
    have hs : ¬ 127 < u := fun hu => by have := h.big hu; omega
    have := h.1
    exact Byt.one (by omega) (by omega)
  | succ f ih =>
    intro u hk h
    have := h.1
    by_cases hu : u ≤ 127
    · rw [vs_small _ _ hu]; exact Byt.one (by omega) (by omega)
    · rw [vs_big _ _ (by omega)]
      have h2 := ih (k + 1) (u / 128) (by omega) h.step
      intro z hz
      rcases List.mem_cons.1 hz with rfl | hz
      · omega
      · exact h2 z hz
theorem vs9_byt (u : Int) (h0 : 0 ≤ u) (h1 : u < 18446744073709551616) : Byt (vs 9 u) := vs_byt 0 9 u rfl (Rest.zero h0 h1)

/-! ### a word's bytes -/
def be : Nat → Int → List Int
  | 0, _ => []
  | n + 1, u => be n (u / 256) ++ [u % 256]
theorem be_len (n : Nat) : ∀ u, (be n u).length = n := by
  induction n with
  | zero => intro u; rfl
  | succ n ih => intro u; simp [be, ih]
theorem be_byt (n : Nat) : ∀ u, Byt (be n u) := by
  induction n with
  | zero => intro u; exact Byt.nil
  | succ n ih => intro u; exact (ih _).app (Byt.one (by omega) (by omega))
theorem be8 (u : Int) : be 8 u = [u / 72057594037927936 % 256, u / 281474976710656 % 256, u / 1099511627776 % 256, u / 4294967296 % 256, u / 16777216 % 256, u / 65536 % 256, u / 256 % 256, u % 256] := by
  have e2 : u / 256 / 256 = u / 65536 := by omega
  have e3 : u / 65536 / 256 = u / 16777216 := by omega
  have e4 : u / 16777216 / 256 = u / 4294967296 := by omega
  have e5 : u / 4294967296 / 256 = u / 1099511627776 := by omega
  have e6 : u / 1099511627776 / 256 = u / 281474976710656 := by omega
  have e7 : u / 281474976710656 / 256 = u / 72057594037927936 := by omega
  simp [be, e2, e3, e4, e5, e6, e7]
theorem be8_at (u : Int) (k : Nat) (hk : k < 8) : (be 8 u)[k]? = some (u / 2 ^ (56 - 8 * k) % 256) := by
  rw [be8]
  match k, hk with
  | 0, _ => rfl
  | 1, _ => rfl
  | 2, _ => rfl
  | 3, _ => rfl
  | 4, _ => rfl
  | 5, _ => rfl
  | 6, _ => rfl
  | 7, _ => simp
theorem be8_take (u : Int) (k : Nat) (hk : k < 8) : (be 8 u).take (k + 1) = (be 8 u).take k ++ [u / 2 ^ (56 - 8 * k) % 256] := by
  have h := be8_at u k hk
  have hl := be_len 8 u
  rw [List.take_succ_eq_append_getElem (by omega)]
  rw [List.getElem?_eq_getElem (by omega)] at h
  injection h with h
  rw [h]
/-- the number of a key: half the range added -/
def kw (k : Int) : Int := k + 9223372036854775808
theorem kw_bd (k : Int) (h0 : -9223372036854775808 ≤ k) (h1 : k ≤ 9223372036854775807) : 0 ≤ kw k ∧ kw k < 18446744073709551616 := by unfold kw; omega
theorem kw_xor (k : Int) (h0 : -9223372036854775808 ≤ k) (h1 : k ≤ 9223372036854775807) : bits .xor .u64 (IntKind.u64.wrap k) 9223372036854775808 = kw k := by
  rw [IntKind.wrap_u64, xor64_top _ (by omega) (by omega)]
  unfold kw; omega
theorem kw_add (k : Int) (h0 : -9223372036854775808 ≤ k) (h1 : k ≤ 9223372036854775807) : IntKind.u64.wrap (IntKind.u64.wrap k + 9223372036854775808) = kw k := by
  rw [IntKind.wrap_u64, IntKind.wrap_u64]
  unfold kw; omega
/-- one store of the loop that writes a word's bytes from its end -/
theorem be_set (m : Nat) (x : Int) (T : List Int) : (List.replicate (m + 1) (0 : Int) ++ T).set m x = List.replicate m 0 ++ ([x] ++ T) := by
  rw [List.replicate_succ', List.append_assoc]
  rw [List.set_append_right _ _ (by simp)]
  simp

/-! ### the order of words by their bytes -/
theorem lex_zero (X : Int) (h0 : 0 ≤ X) (h1 : X < 18446744073709551616) : X / 2 ^ (64 - 8 * 0) = 0 := Int.ediv_eq_zero_of_lt h0 (by simpa using h1)
theorem lex_div (X : Int) (k : Nat) (hk : k < 8) : X / 2 ^ (64 - 8 * k) = X / 2 ^ (56 - 8 * k) / 256 := by
  have e : 64 - 8 * k = (56 - 8 * k) + 8 := by omega
  rw [e, Int.pow_add, ← Int.ediv_ediv_of_nonneg (by have := Int.pow_pos (n := 2) (m := 56 - 8 * k) (by decide); omega)]
  rfl
theorem lex_same (X Y : Int) (k : Nat) (hk : k < 8) (h : X / 2 ^ (64 - 8 * k) = Y / 2 ^ (64 - 8 * k)) (e : X / 2 ^ (56 - 8 * k) % 256 = Y / 2 ^ (56 - 8 * k) % 256) : X / 2 ^ (64 - 8 * (k + 1)) = Y / 2 ^ (64 - 8 * (k + 1)) := by
  rw [lex_div X k hk, lex_div Y k hk] at h
  have e1 : 64 - 8 * (k + 1) = 56 - 8 * k := by omega
  rw [e1]
  omega
theorem lex_lt (X Y : Int) (k : Nat) (hk : k < 8) (h : X / 2 ^ (64 - 8 * k) = Y / 2 ^ (64 - 8 * k)) (e : X / 2 ^ (56 - 8 * k) % 256 ≠ Y / 2 ^ (56 - 8 * k) % 256) : (X / 2 ^ (56 - 8 * k) % 256 < Y / 2 ^ (56 - 8 * k) % 256) ↔ X < Y := by
  rw [lex_div X k hk, lex_div Y k hk] at h
  have hp := Int.pow_pos (n := 2) (m := 56 - 8 * k) (by decide)
  constructor
  · intro hl
    by_cases hxy : X < Y
    · exact hxy
    · have := Int.ediv_le_ediv hp (show Y ≤ X by omega)
      omega
  · intro hl
    have := Int.ediv_le_ediv hp (Int.le_of_lt hl)
    omega
theorem be8_get (X : Int) (k : Nat) (hk : k < 8) : (be 8 X)[k]?.getD 0 = X / 2 ^ (56 - 8 * k) % 256 := by rw [be8_at X k hk]; rfl
end Go.Proofs.Ytdaenfhedepiaaa
