/- Plain arithmetic on words and bytes for the proofs of layer word: what shifts, masks and exclusive ors give on numbers in range. No program is spoken of. -/
import Derived.Lib.Zigzag
import Derived.Laws.BitsAllLaws
import Derived.Laws.Bits128
import Derived.RowKit
set_option linter.unusedVariables false
namespace Go.Proofs.Ytfchdnaaepaabaa
open Go

theorem ret_int {k : IntKind} {a b : Int} (h : a = b) : Ending.returned (.int k a) = .returned (.int k b) := by rw [h]

/-! ### exclusive or -/
theorem xor64_ones (a : Int) (h0 : 0 ≤ a) (h1 : a < 18446744073709551616) : bits .xor .u64 a 18446744073709551615 = 18446744073709551615 - a := by
  obtain ⟨A, rfl⟩ := Int.eq_ofNat_of_zero_le h0
  have h := u64_xor_nat A 18446744073709551615 (by omega) (by omega)
  have e : A ^^^ 18446744073709551615 = 18446744073709551615 - A := by
    rw [Nat.xor_comm]; exact Lib.xor_ones64 A (by omega)
  rw [e] at h
  refine h.trans ?_
  omega

theorem xor64_zero (a : Int) (h0 : 0 ≤ a) (h1 : a < 18446744073709551616) : bits .xor .u64 a 0 = a := by
  obtain ⟨A, rfl⟩ := Int.eq_ofNat_of_zero_le h0
  have h := u64_xor_nat A 0 (by omega) (by omega)
  rw [Nat.xor_zero] at h
  exact h

theorem nat_xor_top_low (A : Nat) (h : A < 9223372036854775808) : A ^^^ 9223372036854775808 = A + 9223372036854775808 := by
  have ht : A.testBit 63 = false := Nat.testBit_lt_two_pow (by omega)
  have h1 : A ^^^ 2 ^ 63 = 2 ^ 63 ||| A := by
    apply Nat.eq_of_testBit_eq
    intro i
    rw [Nat.testBit_xor, Nat.testBit_or, Nat.testBit_two_pow]
    by_cases hi : 63 = i
    · subst hi; simp [ht]
    · simp [hi]
  have h2 : 2 ^ 63 ||| A = 2 ^ 63 + A := nat_join 63 (2 ^ 63) A (by decide) (by omega)
  have e : (2 : Nat) ^ 63 = 9223372036854775808 := by decide
  rw [e] at h1 h2
  omega
theorem nat_xor_top (A : Nat) (h : A < 18446744073709551616) : A ^^^ 9223372036854775808 = (A + 9223372036854775808) % 18446744073709551616 := by
  rcases Nat.lt_or_ge A 9223372036854775808 with hl | hl
  · rw [nat_xor_top_low A hl]; omega
  · obtain ⟨r, rfl⟩ : ∃ r, A = r + 9223372036854775808 := ⟨A - 9223372036854775808, by omega⟩
    rw [← nat_xor_top_low r (by omega), Nat.xor_assoc, Nat.xor_self, Nat.xor_zero, nat_xor_top_low r (by omega)]
    omega

/-- The sign bit inverted: half the range added, around. -/
theorem xor64_top (a : Int) (h0 : 0 ≤ a) (h1 : a < 18446744073709551616) : bits .xor .u64 a 9223372036854775808 = (a + 9223372036854775808) % 18446744073709551616 := by
  obtain ⟨A, rfl⟩ := Int.eq_ofNat_of_zero_le h0
  have h := u64_xor_nat A 9223372036854775808 (by omega) (by omega)
  rw [nat_xor_top A (by omega)] at h
  refine h.trans ?_
  omega

theorem xori64_zero (a : Int) (h0 : 0 ≤ a) (h1 : a < 9223372036854775808) : bits .xor .i64 a 0 = a := by
  obtain ⟨A, rfl⟩ := Int.eq_ofNat_of_zero_le h0
  show IntKind.i64.wrap ((BitVec.ofInt 64 (A : Int) ^^^ BitVec.ofInt 64 0).toNat : Int) = _
  have h2 : (BitVec.ofInt 64 (A : Int)).toNat = A := by
    rw [BitVec.ofInt_natCast, BitVec.toNat_ofNat]; exact Nat.mod_eq_of_lt (by omega)
  have h3 : (BitVec.ofInt 64 0).toNat = 0 := by decide
  rw [BitVec.toNat_xor, h2, h3, Nat.xor_zero, IntKind.wrap_i64]
  omega
theorem xori64_ones (a : Int) (h0 : 0 ≤ a) (h1 : a < 9223372036854775808) : bits .xor .i64 a (-1) = -a - 1 := by
  obtain ⟨A, rfl⟩ := Int.eq_ofNat_of_zero_le h0
  show IntKind.i64.wrap ((BitVec.ofInt 64 (A : Int) ^^^ BitVec.ofInt 64 (-1)).toNat : Int) = _
  have h2 : (BitVec.ofInt 64 (A : Int)).toNat = A := by
    rw [BitVec.ofInt_natCast, BitVec.toNat_ofNat]; exact Nat.mod_eq_of_lt (by omega)
  have h3 : (BitVec.ofInt 64 (-1)).toNat = 2 ^ 64 - 1 := by decide
  rw [BitVec.toNat_xor, h2, h3, Nat.xor_comm, Lib.xor_ones64 A (by omega), IntKind.wrap_i64]
  omega

/-! ### masks and joins -/
theorem or64_join (k : Nat) (a b : Int) (h0 : 0 ≤ a) (h1 : a < 18446744073709551616) (ha : a % 2 ^ k = 0) (hb0 : 0 ≤ b) (hb : b < 2 ^ k) (hb1 : b < 18446744073709551616) : bits .or .u64 a b = a + b := by
  obtain ⟨A, rfl⟩ := Int.eq_ofNat_of_zero_le h0
  obtain ⟨B, rfl⟩ := Int.eq_ofNat_of_zero_le hb0
  have h := u64_or_nat A B (by omega) (by omega)
  have e : A ||| B = A + B := by
    refine nat_join k A B ?_ ?_
    · have : ((A % 2 ^ k : Nat) : Int) = 0 := by rw [Int.natCast_emod, Int.natCast_pow]; exact ha
      omega
    · have : (B : Int) < ((2 ^ k : Nat) : Int) := by rw [Int.natCast_pow]; exact hb
      omega
  rw [e] at h
  refine h.trans ?_
  omega
theorem or64_comm (a b : Int) (h0 : 0 ≤ a) (h1 : a < 18446744073709551616) (h2 : 0 ≤ b) (h3 : b < 18446744073709551616) : bits .or .u64 a b = bits .or .u64 b a := by
  rw [u64_or a b h0 h1 h2 h3, u64_or b a h2 h3 h0 h1, Nat.or_comm]

theorem and8_127 (c : Int) (h0 : 0 ≤ c) (h1 : c < 256) : bits .and .u8 c 127 = c % 128 := bits_mask .u8 8 (by decide) wraps_u8 7 (by decide) c h0 (by omega)
theorem and8_128 (c : Int) (h0 : 0 ≤ c) (h1 : c < 256) : bits .and .u8 c 128 = if c < 128 then 0 else 128 := by
  obtain ⟨C, rfl⟩ := Int.eq_ofNat_of_zero_le h0
  have h := u8_and_nat C 128 (by omega) (by omega)
  have e : C &&& 128 = C / 128 % 2 * 128 := nat_bit 7 C
  rw [e] at h
  refine h.trans ?_
  split <;> omega
theorem or8_128 (c : Int) (h0 : 0 ≤ c) (h1 : c < 256) : bits .or .u8 c 128 = c % 128 + 128 := by
  obtain ⟨C, rfl⟩ := Int.eq_ofNat_of_zero_le h0
  have h := u8_or_nat C 128 (by omega) (by omega)
  have e : C ||| 128 = C % 128 + 128 := by
    apply Nat.eq_of_testBit_eq
    intro i
    have hc : C < 2 ^ 8 := by omega
    rw [Nat.testBit_or, show C % 128 + 128 = 2 ^ 7 ||| C % 128 by rw [nat_join 7 (2 ^ 7) (C % 128) (by decide) (by omega)]; omega, Nat.testBit_or]
    rw [show C % 128 = C % 2 ^ 7 from rfl, show (128 : Nat) = 2 ^ 7 from rfl, Nat.testBit_mod_two_pow, Nat.testBit_two_pow]
    by_cases h7 : 7 = i
    · subst h7; simp
    · by_cases hi : i < 7
      · simp [hi, h7]
      · have : C.testBit i = false := Nat.testBit_lt_two_pow (Nat.lt_of_lt_of_le hc (Nat.pow_le_pow_right (by decide) (by omega)))
        simp [this, h7]
  rw [e] at h
  refine h.trans ?_
  omega

/-! ### the zigzag code -/
def zz (n : Int) : Int := if 0 ≤ n then 2 * n else -2 * n - 1
def uz (u : Int) : Int := if u % 2 = 0 then u / 2 else -(u / 2) - 1
theorem zz_bd (n : Int) (h0 : -9223372036854775808 ≤ n) (h1 : n ≤ 9223372036854775807) : 0 ≤ zz n ∧ zz n < 18446744073709551616 := by unfold zz; split <;> omega
theorem uz_bd (u : Int) (h0 : 0 ≤ u) (h1 : u < 18446744073709551616) : -9223372036854775808 ≤ uz u ∧ uz u ≤ 9223372036854775807 := by unfold uz; split <;> omega
theorem uz_zz (n : Int) : uz (zz n) = n := by unfold uz zz; split <;> split <;> omega
theorem zz_uz (u : Int) (h0 : 0 ≤ u) : zz (uz u) = u := by unfold uz zz; split <;> split <;> omega

theorem zz_code (n : Int) (h0 : -9223372036854775808 ≤ n) (h1 : n ≤ 9223372036854775807) :
    bits .xor .u64 (IntKind.u64.wrap (IntKind.u64.wrap n * 2)) (IntKind.u64.wrap (n / 9223372036854775808)) = zz n := by
  unfold zz
  split
  · have e1 : IntKind.u64.wrap (IntKind.u64.wrap n * 2) = 2 * n := by rw [IntKind.wrap_u64, IntKind.wrap_u64]; omega
    have e2 : IntKind.u64.wrap (n / 9223372036854775808) = 0 := by rw [IntKind.wrap_u64]; omega
    rw [e1, e2, xor64_zero _ (by omega) (by omega)]
  · have e1 : IntKind.u64.wrap (IntKind.u64.wrap n * 2) = 2 * n + 18446744073709551616 := by rw [IntKind.wrap_u64, IntKind.wrap_u64]; omega
    have e2 : IntKind.u64.wrap (n / 9223372036854775808) = 18446744073709551615 := by rw [IntKind.wrap_u64]; omega
    rw [e1, e2, xor64_ones _ (by omega) (by omega)]
    omega
theorem wrap64_eq (n : Int) : RowKit.wrap64 n = IntKind.i64.wrap n := by unfold RowKit.wrap64; rw [IntKind.wrap_i64]
theorem uz_code (n : Int) (h0 : 0 ≤ n) (h1 : n < 18446744073709551616) :
    bits .xor .i64 (n / 2) (RowKit.wrap64 (-RowKit.wrap64 (bits .and .u64 n 1))) = uz n := by
  rw [Lib.u64_and1 n h0 h1, wrap64_eq, wrap64_eq]
  unfold uz
  split
  · rename_i h
    rw [h, show IntKind.i64.wrap (-IntKind.i64.wrap 0) = 0 by decide, xori64_zero _ (by omega) (by omega)]
  · have h : n % 2 = 1 := by omega
    rw [h, show IntKind.i64.wrap (-IntKind.i64.wrap 1) = -1 by decide, xori64_ones _ (by omega) (by omega)]

/-! ### the greatest power of two -/
def LogOf (u n : Int) : Prop := (u = 0 → n = -1) ∧ (u ≠ 0 → 0 ≤ n ∧ n ≤ 63 ∧ u / 2 ^ n.toNat = 1)
theorem log_eight {n : Int} (h : LogOf 8 n) : n = 3 := by
  obtain ⟨h0, h1, h2⟩ := h.2 (by decide)
  obtain ⟨m, rfl⟩ := Int.eq_ofNat_of_zero_le h0
  have hm : m ≤ 63 := by omega
  have : ∀ m : Nat, m ≤ 63 → (8 : Int) / 2 ^ m = 1 → m = 3 := by decide
  have := this m hm (by simpa using h2)
  omega

theorem log_step (u : Int) (k : Nat) (h0 : 0 ≤ u) : u / 2 ^ k / 2 = u / 2 ^ (k + 1) := by
  rw [Int.pow_succ, Int.ediv_ediv_of_nonneg (by have := Int.pow_pos (n := 2) (m := k) (by decide); omega)]
theorem log_end (u : Int) (k : Nat) (h0 : 0 ≤ u) (h1 : u < 18446744073709551616) (hk : 0 < k → 1 ≤ u / 2 ^ (k - 1)) (he : u / 2 ^ k = 0) : LogOf u ((k : Int) - 1) := by
  refine ⟨fun e => ?_, fun e => ?_⟩
  · subst e
    rcases Nat.eq_zero_or_pos k with h | h
    · subst h; rfl
    · have := hk h; simp at this
  · have hk0 : 0 < k := by
      rcases Nat.eq_zero_or_pos k with h | h
      · subst h; simp at he; omega
      · exact h
    obtain ⟨j, rfl⟩ : ∃ j, k = j + 1 := ⟨k - 1, by omega⟩
    have h2 := hk hk0
    simp only [Nat.add_sub_cancel] at h2
    have h3 := log_step u j h0
    have hj : j < 64 := by
      rcases Nat.lt_or_ge j 64 with h | h
      · exact h
      · have hp : (18446744073709551616 : Int) ≤ 2 ^ j := by
          have : (2 : Nat) ^ 64 ≤ 2 ^ j := Nat.pow_le_pow_right (by decide) h
          have h6 : ((2 ^ 64 : Nat) : Int) ≤ ((2 ^ j : Nat) : Int) := by omega
          rw [Int.natCast_pow] at h6
          simpa using h6
        have := Int.ediv_eq_zero_of_lt h0 (show u < 2 ^ j by omega)
        omega
    have e1 : (((j + 1 : Nat) : Int) - 1) = (j : Int) := by omega
    rw [e1]
    refine ⟨by omega, by omega, ?_⟩
    rw [Int.toNat_natCast]
    omega
theorem log_le (u : Int) (k : Nat) (h0 : 0 ≤ u) (h1 : u < 18446744073709551616) (hX : u / 2 ^ k ≠ 0) : k < 64 := by
  rcases Nat.lt_or_ge k 64 with h | h
  · exact h
  · exfalso
    have hp : (18446744073709551616 : Int) ≤ 2 ^ k := by
      have : (2 : Nat) ^ 64 ≤ 2 ^ k := Nat.pow_le_pow_right (by decide) h
      have h6 : ((2 ^ 64 : Nat) : Int) ≤ ((2 ^ k : Nat) : Int) := by omega
      rw [Int.natCast_pow] at h6
      simpa using h6
    exact hX (Int.ediv_eq_zero_of_lt h0 (by omega))

/-! ### the remainder -/
theorem tmod_neg (n m : Int) (h : n < 0) (hm : 1 ≤ m) : n.tmod m = -((-n) % m) := by
  have : n = -(-n) := by omega
  rw [this, Int.neg_tmod, Int.tmod_eq_emod_of_nonneg (by omega)]
  simp
theorem mod_of_tmod (n m : Int) (h : n < 0) (hm : 1 ≤ m) : n % m = if n.tmod m < 0 then n.tmod m + m else n.tmod m := by
  have e := tmod_neg n m h hm
  have h1 := Int.emod_nonneg (-n) (b := m) (by omega)
  have h2 := Int.emod_lt_of_pos (-n) (b := m) (by omega)
  have h3 := Int.mul_ediv_add_emod (-n) m
  split
  · have : n = (m - (-n) % m) + m * (-((-n) / m) - 1) := by rw [Int.mul_sub, Int.mul_neg]; omega
    rw [e]
    rw [this, Int.add_mul_emod_self_left, Int.emod_eq_of_lt (by omega) (by omega), ← this]
    omega
  · have h0 : (-n) % m = 0 := by omega
    rw [e, h0]
    exact Int.emod_eq_zero_of_dvd ((Int.dvd_neg).1 (Int.dvd_of_emod_eq_zero h0))

/-! ### the handle word -/
theorem pack_or (i g : Int) (h0 : 0 ≤ i) (h1 : i < 4294967296) (h2 : 0 ≤ g) (h3 : g < 4294967296) : bits .or .u64 (g * 4294967296) i = g * 4294967296 + i :=
  or64_join 32 _ _ (by omega) (by omega) (by omega) h0 (by omega) (by omega)
end Go.Proofs.Ytfchdnaaepaabaa
