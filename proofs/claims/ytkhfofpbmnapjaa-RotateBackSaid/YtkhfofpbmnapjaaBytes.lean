/- Plain arithmetic on words and bytes for the proofs of layer word: what shifts, masks and exclusive ors give on numbers in range. No program is spoken of. Slices of bytes as the proofs of layer word speak of them: a slice reads as a list of numbers from 0 to 255; what is kept when the call makes memory; a slice of the call's own read as such; a part of a slice. No program is spoken of, but for the number of the type byte. -/
import Derived.Lib.Zigzag
import Derived.Laws.BitsAllLaws
import Derived.Laws.Bits128
import Derived.RowKit
import Derived.Below
import Derived.Laws.OwnMore
import Derived.OwnWalk
import Derived.Deep.Draws
set_option linter.unusedVariables false
namespace Go.Proofs.Ytkhfofpbmnapjaa
open Go

theorem ret_int {k : IntKind} {a b : Int} (h : a = b) : Ending.returned (.int k a) = .returned (.int k b) := by rw [h]

/-! ### exclusive or -/
theorem xor64_ones (a : Int) (h0 : 0 ≤ a) (h1 : a < 18446744073709551616) : bits .xor .u64 a 18446744073709551615 = 18446744073709551615 - a := by
  obtain ⟨A, rfl⟩ := Int.eq_ofNat_of_zero_le h0
  have h := u64_xor_nat A 18446744073709551615 (by omega) (by omega)
  have e : A ^^^ 18446744073709551615 = 18446744073709551615 - A := by
    rw [Nat.xor_comm]; exact Lib.xor_ones64 A (by omega)
  rw [e] at h
  refine h.trans ?_
  omega

theorem xor64_zero (a : Int) (h0 : 0 ≤ a) (h1 : a < 18446744073709551616) : bits .xor .u64 a 0 = a := by
  obtain ⟨A, rfl⟩ := Int.eq_ofNat_of_zero_le h0
  have h := u64_xor_nat A 0 (by omega) (by omega)
  rw [Nat.xor_zero] at h
  exact h

theorem nat_xor_top_low (A : Nat) (h : A < 9223372036854775808) : A ^^^ 9223372036854775808 = A + 9223372036854775808 := by
  have ht : A.testBit 63 = false := Nat.testBit_lt_two_pow (by omega)
  have h1 : A ^^^ 2 ^ 63 = 2 ^ 63 ||| A := by
    apply Nat.eq_of_testBit_eq
    intro i
    rw [Nat.testBit_xor, Nat.testBit_or, Nat.testBit_two_pow]
    by_cases hi : 63 = i
    · subst hi; simp [ht]
    · simp [hi]
  have h2 : 2 ^ 63 ||| A = 2 ^ 63 + A := nat_join 63 (2 ^ 63) A (by decide) (by omega)
  have e : (2 : Nat) ^ 63 = 9223372036854775808 := by decide
  rw [e] at h1 h2
  omega
theorem nat_xor_top (A : Nat) (h : A < 18446744073709551616) : A ^^^ 9223372036854775808 = (A + 9223372036854775808) % 18446744073709551616 := by
  rcases Nat.lt_or_ge A 9223372036854775808 with hl | hl
  · rw [nat_xor_top_low A hl]; omega
  · obtain ⟨r, rfl⟩ : ∃ r, A = r + 9223372036854775808 := ⟨A - 9223372036854775808, by omega⟩
    rw [← nat_xor_top_low r (by omega), Nat.xor_assoc, Nat.xor_self, Nat.xor_zero, nat_xor_top_low r (by omega)]
    omega

/-- The sign bit inverted: half the range added, around. -/
theorem xor64_top (a : Int) (h0 : 0 ≤ a) (h1 : a < 18446744073709551616) : bits .xor .u64 a 9223372036854775808 = (a + 9223372036854775808) % 18446744073709551616 := by
  obtain ⟨A, rfl⟩ := Int.eq_ofNat_of_zero_le h0
  have h := u64_xor_nat A 9223372036854775808 (by omega) (by omega)
  rw [nat_xor_top A (by omega)] at h
  refine h.trans ?_
  omega

theorem xori64_zero (a : Int) (h0 : 0 ≤ a) (h1 : a < 9223372036854775808) : bits .xor .i64 a 0 = a := by
  obtain ⟨A, rfl⟩ := Int.eq_ofNat_of_zero_le h0
  show IntKind.i64.wrap ((BitVec.ofInt 64 (A : Int) ^^^ BitVec.ofInt 64 0).toNat : Int) = _
  have h2 : (BitVec.ofInt 64 (A : Int)).toNat = A := by
    rw [BitVec.ofInt_natCast, BitVec.toNat_ofNat]; exact Nat.mod_eq_of_lt (by omega)
  have h3 : (BitVec.ofInt 64 0).toNat = 0 := by decide
  rw [BitVec.toNat_xor, h2, h3, Nat.xor_zero, IntKind.wrap_i64]
  omega
theorem xori64_ones (a : Int) (h0 : 0 ≤ a) (h1 : a < 9223372036854775808) : bits .xor .i64 a (-1) = -a - 1 := by
  obtain ⟨A, rfl⟩ := Int.eq_ofNat_of_zero_le h0
  show IntKind.i64.wrap ((BitVec.ofInt 64 (A : Int) ^^^ BitVec.ofInt 64 (-1)).toNat : Int) = _
  have h2 : (BitVec.ofInt 64 (A : Int)).toNat = A := by
    rw [BitVec.ofInt_natCast, BitVec.toNat_ofNat]; exact Nat.mod_eq_of_lt (by omega)
  have h3 : (BitVec.ofInt 64 (-1)).toNat = 2 ^ 64 - 1 := by decide
  rw [BitVec.toNat_xor, h2, h3, Nat.xor_comm, Lib.xor_ones64 A (by omega), IntKind.wrap_i64]
  omega

/-! ### masks and joins -/
theorem or64_join (k : Nat) (a b : Int) (h0 : 0 ≤ a) (h1 : a < 18446744073709551616) (ha : a % 2 ^ k = 0) (hb0 : 0 ≤ b) (hb : b < 2 ^ k) (hb1 : b < 18446744073709551616) : bits .or .u64 a b = a + b := by
  obtain ⟨A, rfl⟩ := Int.eq_ofNat_of_zero_le h0
  obtain ⟨B, rfl⟩ := Int.eq_ofNat_of_zero_le hb0
  have h := u64_or_nat A B (by omega) (by omega)
  have e : A ||| B = A + B := by
    refine nat_join k A B ?_ ?_
    · have : ((A % 2 ^ k : Nat) : Int) = 0 := by rw [Int.natCast_emod, Int.natCast_pow]; exact ha
      omega
    · have : (B : Int) < ((2 ^ k : Nat) : Int) := by rw [Int.natCast_pow]; exact hb
      omega
  rw [e] at h
  refine h.trans ?_
  omega
theorem or64_comm (a b : Int) (h0 : 0 ≤ a) (h1 : a < 18446744073709551616) (h2 : 0 ≤ b) (h3 : b < 18446744073709551616) : bits .or .u64 a b = bits .or .u64 b a := by
  rw [u64_or a b h0 h1 h2 h3, u64_or b a h2 h3 h0 h1, Nat.or_comm]

theorem and8_127 (c : Int) (h0 : 0 ≤ c) (h1 : c < 256) : bits .and .u8 c 127 = c % 128 := bits_mask .u8 8 (by decide) wraps_u8 7 (by decide) c h0 (by omega)
theorem and8_128 (c : Int) (h0 : 0 ≤ c) (h1 : c < 256) : bits .and .u8 c 128 = if c < 128 then 0 else 128 := by
  obtain ⟨C, rfl⟩ := Int.eq_ofNat_of_zero_le h0
  have h := u8_and_nat C 128 (by omega) (by omega)
  have e : C &&& 128 = C / 128 % 2 * 128 := nat_bit 7 C
  rw [e] at h
  refine h.trans ?_
  split <;> omega
theorem or8_128 (c : Int) (h0 : 0 ≤ c) (h1 : c < 256) : bits .or .u8 c 128 = c % 128 + 128 := by
  obtain ⟨C, rfl⟩ := Int.eq_ofNat_of_zero_le h0
  have h := u8_or_nat C 128 (by omega) (by omega)
  have e : C ||| 128 = C % 128 + 128 := by
    apply Nat.eq_of_testBit_eq
    intro i
    have hc : C < 2 ^ 8 := by omega
    rw [Nat.testBit_or, show C % 128 + 128 = 2 ^ 7 ||| C % 128 by rw [nat_join 7 (2 ^ 7) (C % 128) (by decide) (by omega)]; omega, Nat.testBit_or]
    rw [show C % 128 = C % 2 ^ 7 from rfl, show (128 : Nat) = 2 ^ 7 from rfl, Nat.testBit_mod_two_pow, Nat.testBit_two_pow]
    by_cases h7 : 7 = i
    · subst h7; simp
    · by_cases hi : i < 7
      · simp [hi, h7]
      · have : C.testBit i = false := Nat.testBit_lt_two_pow (Nat.lt_of_lt_of_le hc (Nat.pow_le_pow_right (by decide) (by omega)))
        simp [this, h7]
  rw [e] at h
  refine h.trans ?_
  omega

/-! ### the zigzag code -/
def zz (n : Int) : Int := if 0 ≤ n then 2 * n else -2 * n - 1
def uz (u : Int) : Int := if u % 2 = 0 then u / 2 else -(u / 2) - 1
theorem zz_bd (n : Int) (h0 : -9223372036854775808 ≤ n) (h1 : n ≤ 9223372036854775807) : 0 ≤ zz n ∧ zz n < 18446744073709551616 := by unfold zz; split <;> omega
theorem uz_bd (u : Int) (h0 : 0 ≤ u) (h1 : u < 18446744073709551616) : -9223372036854775808 ≤ uz u ∧ uz u ≤ 9223372036854775807 := by unfold uz; split <;> omega
theorem uz_zz (n : Int) : uz (zz n) = n := by unfold uz zz; split <;> split <;> omega
theorem zz_uz (u : Int) (h0 : 0 ≤ u) : zz (uz u) = u := by unfold uz zz; split <;> split <;> omega

theorem zz_code (n : Int) (h0 : -9223372036854775808 ≤ n) (h1 : n ≤ 9223372036854775807) :
    bits .xor .u64 (IntKind.u64.wrap (IntKind.u64.wrap n * 2)) (IntKind.u64.wrap (n / 9223372036854775808)) = zz n := by
  unfold zz
  split
  · have e1 : IntKind.u64.wrap (IntKind.u64.wrap n * 2) = 2 * n := by rw [IntKind.wrap_u64, IntKind.wrap_u64]; omega
    have e2 : IntKind.u64.wrap (n / 9223372036854775808) = 0 := by rw [IntKind.wrap_u64]; omega
    rw [e1, e2, xor64_zero _ (by omega) (by omega)]
  · have e1 : IntKind.u64.wrap (IntKind.u64.wrap n * 2) = 2 * n + 18446744073709551616 := by rw [IntKind.wrap_u64, IntKind.wrap_u64]; omega
    have e2 : IntKind.u64.wrap (n / 9223372036854775808) = 18446744073709551615 := by rw [IntKind.wrap_u64]; omega
    rw [e1, e2, xor64_ones _ (by omega) (by omega)]
    omega
theorem wrap64_eq (n : Int) : RowKit.wrap64 n = IntKind.i64.wrap n := by unfold RowKit.wrap64; rw [IntKind.wrap_i64]
theorem uz_code (n : Int) (h0 : 0 ≤ n) (h1 : n < 18446744073709551616) :
    bits .xor .i64 (n / 2) (RowKit.wrap64 (-RowKit.wrap64 (bits .and .u64 n 1))) = uz n := by
  rw [Lib.u64_and1 n h0 h1, wrap64_eq, wrap64_eq]
  unfold uz
  split
  · rename_i h
    rw [h, show IntKind.i64.wrap (-IntKind.i64.wrap 0) = 0 by decide, xori64_zero _ (by omega) (by omega)]
  · have h : n % 2 = 1 := by omega
    rw [h, show IntKind.i64.wrap (-IntKind.i64.wrap 1) = -1 by decide, xori64_ones _ (by omega) (by omega)]

/-! ### the greatest power of two -/
def LogOf (u n : Int) : Prop := (u = 0 → n = -1) ∧ (u ≠ 0 → 0 ≤ n ∧ n ≤ 63 ∧ u / 2 ^ n.toNat = 1)
theorem log_eight {n : Int} (h : LogOf 8 n) : n = 3 := by
  obtain ⟨h0, h1, h2⟩ := h.2 (by decide)
  obtain ⟨m, rfl⟩ := Int.eq_ofNat_of_zero_le h0
  have hm : m ≤ 63 := by omega
  have : ∀ m : Nat, m ≤ 63 → (8 : Int) / 2 ^ m = 1 → m = 3 := by decide
  have := this m hm (by simpa using h2)
  omega

theorem log_step (u : Int) (k : Nat) (h0 : 0 ≤ u) : u / 2 ^ k / 2 = u / 2 ^ (k + 1) := by
  rw [Int.pow_succ, Int.ediv_ediv_of_nonneg (by have := Int.pow_pos (n := 2) (m := k) (by decide); omega)]
theorem log_end (u : Int) (k : Nat) (h0 : 0 ≤ u) (h1 : u < 18446744073709551616) (hk : 0 < k → 1 ≤ u / 2 ^ (k - 1)) (he : u / 2 ^ k = 0) : LogOf u ((k : Int) - 1) := by
  refine ⟨fun e => ?_, fun e => ?_⟩
  · subst e
    rcases Nat.eq_zero_or_pos k with h | h
    · subst h; rfl
    · have := hk h; simp at this
  · have hk0 : 0 < k := by
      rcases Nat.eq_zero_or_pos k with h | h
      · subst h; simp at he; omega
      · exact h
    obtain ⟨j, rfl⟩ : ∃ j, k = j + 1 := ⟨k - 1, by omega⟩
    have h2 := hk hk0
    simp only [Nat.add_sub_cancel] at h2
    have h3 := log_step u j h0
    have hj : j < 64 := by
      rcases Nat.lt_or_ge j 64 with h | h
      · exact h
      · have hp : (18446744073709551616 : Int) ≤ 2 ^ j := by
          have : (2 : Nat) ^ 64 ≤ 2 ^ j := Nat.pow_le_pow_right (by decide) h
          have h6 : ((2 ^ 64 : Nat) : Int) ≤ ((2 ^ j : Nat) : Int) := by omega
          rw [Int.natCast_pow] at h6
          simpa using h6
        have := Int.ediv_eq_zero_of_lt h0 (show u < 2 ^ j by omega)
        omega
    have e1 : (((j + 1 : Nat) : Int) - 1) = (j : Int) := by omega
    rw [e1]
    refine ⟨by omega, by omega, ?_⟩
    rw [Int.toNat_natCast]
    omega
theorem log_le (u : Int) (k : Nat) (h0 : 0 ≤ u) (h1 : u < 18446744073709551616) (hX : u / 2 ^ k ≠ 0) : k < 64 := by
  rcases Nat.lt_or_ge k 64 with h | h
  · exact h
  · exfalso
    have hp : (18446744073709551616 : Int) ≤ 2 ^ k := by
      have : (2 : Nat) ^ 64 ≤ 2 ^ k := Nat.pow_le_pow_right (by decide) h
      have h6 : ((2 ^ 64 : Nat) : Int) ≤ ((2 ^ k : Nat) : Int) := by omega
      rw [Int.natCast_pow] at h6
      simpa using h6
    exact hX (Int.ediv_eq_zero_of_lt h0 (by omega))

/-! ### the remainder -/
theorem tmod_neg (n m : Int) (h : n < 0) (hm : 1 ≤ m) : n.tmod m = -((-n) % m) := by
  have : n = -(-n) := by omega
  rw [this, Int.neg_tmod, Int.tmod_eq_emod_of_nonneg (by omega)]
  simp
theorem mod_of_tmod (n m : Int) (h : n < 0) (hm : 1 ≤ m) : n % m = if n.tmod m < 0 then n.tmod m + m else n.tmod m := by
  have e := tmod_neg n m h hm
  have h1 := Int.emod_nonneg (-n) (b := m) (by omega)
  have h2 := Int.emod_lt_of_pos (-n) (b := m) (by omega)
  have h3 := Int.mul_ediv_add_emod (-n) m
  split
  · have : n = (m - (-n) % m) + m * (-((-n) / m) - 1) := by rw [Int.mul_sub, Int.mul_neg]; omega
    rw [e]
    rw [this, Int.add_mul_emod_self_left, Int.emod_eq_of_lt (by omega) (by omega), ← this]
    omega
  · have h0 : (-n) % m = 0 := by omega
    rw [e, h0]
    exact Int.emod_eq_zero_of_dvd ((Int.dvd_neg).1 (Int.dvd_of_emod_eq_zero h0))

/-! ### the handle word -/
theorem pack_or (i g : Int) (h0 : 0 ≤ i) (h1 : i < 4294967296) (h2 : 0 ≤ g) (h3 : g < 4294967296) : bits .or .u64 (g * 4294967296) i = g * 4294967296 + i :=
  or64_join 32 _ _ (by omega) (by omega) (by omega) h0 (by omega) (by omega)
end Go.Proofs.Ytkhfofpbmnapjaa
set_option linter.unusedVariables false
namespace Go.Proofs.Ytkhfofpbmnapjaa
open Go Go.RowKit

def U8 (zs : List Int) : List Value := zs.map (Value.int .u8)
/-- each number is a byte's -/
def Byt (zs : List Int) : Prop := ∀ z ∈ zs, 0 ≤ z ∧ z ≤ 255
theorem Byt.nil : Byt [] := fun _ h => by cases h
theorem Byt.app {xs ys : List Int} (h : Byt xs) (k : Byt ys) : Byt (xs ++ ys) := fun z hz => by
  rcases List.mem_append.1 hz with hz | hz
  · exact h z hz
  · exact k z hz
theorem Byt.one {x : Int} (h0 : 0 ≤ x) (h1 : x ≤ 255) : Byt [x] := fun z hz => by
  simp at hz; subst hz; exact ⟨h0, h1⟩
theorem Byt.take {xs : List Int} (h : Byt xs) (n : Nat) : Byt (xs.take n) := fun z hz => h z (List.mem_of_mem_take hz)
theorem Byt.drop {xs : List Int} (h : Byt xs) (n : Nat) : Byt (xs.drop n) := fun z hz => h z (List.mem_of_mem_drop hz)
theorem Byt.get {xs : List Int} (h : Byt xs) (j : Nat) : 0 ≤ xs.getD j 0 ∧ xs.getD j 0 ≤ 255 := by
  rw [List.getD_eq_getElem?_getD]
  rcases Nat.lt_or_ge j xs.length with hj | hj
  · rw [List.getElem?_eq_getElem hj]; exact h _ (List.getElem_mem hj)
  · rw [List.getElem?_eq_none hj]; simp

/-- the slice value (a, n, cap) reads as the bytes zs -/
def Bs (w : World) (a : Option Addr) (n cap : Nat) (zs : List Int) : Prop :=
  zs.length = n ∧ n ≤ cap ∧ (a = none → n = 0 ∧ cap = 0) ∧ Byt zs ∧
  (0 < n → ∃ b off, a = some ⟨b, off, none⟩ ∧ b < w.heap.size ∧ ∀ j, j < n → w.cell? ⟨b, off + j, none⟩ = some (.int .u8 (zs.getD j 0)))

theorem add_at (b off j : Nat) : (⟨b, off, none⟩ : Addr).add j = ⟨b, off + j, none⟩ := by
  unfold Addr.add; split <;> simp_all
section
variable {w w' : World} {a : Option Addr} {n cap : Nat} {zs : List Int}
theorem Bs.keep (h : Bs w a n cap zs) (hs : w.heap.size ≤ w'.heap.size) (hk : ∀ p : Addr, p.block < w.heap.size → w'.cell? p = w.cell? p) : Bs w' a n cap zs := by
  obtain ⟨h1, h2, h3, h4, h5⟩ := h
  refine ⟨h1, h2, h3, h4, fun hn => ?_⟩
  obtain ⟨b, off, ha, hb, hc⟩ := h5 hn
  exact ⟨b, off, ha, Nat.lt_of_lt_of_le hb hs, fun j hj => (hk ⟨b, off + j, none⟩ hb).trans (hc j hj)⟩
theorem Bs.below (h : Bs w a n cap zs) (hb : Below w.heap.size w w') : Bs w' a n cap zs := h.keep hb.size fun _ hp => hb.cell hp
theorem Bs.nil_ (w : World) : Bs w none 0 0 [] := ⟨rfl, Nat.le_refl _, fun _ => ⟨rfl, rfl⟩, Byt.nil, fun h => absurd h (by omega)⟩
theorem Bs.drew (h : Bs w a n cap zs) : Bs w.drew a n cap zs := h
theorem Bs.drewN (h : Bs w a n cap zs) (k : Nat) : Bs (w.drewN k) a n cap zs := h
theorem Bs.len (h : Bs w a n cap zs) : zs.length = n := h.1
theorem Bs.byt (h : Bs w a n cap zs) : Byt zs := h.2.2.2.1
theorem Bs.at_ (h : Bs w a n cap zs) (hn : 0 < n) : ∃ b off, a = some ⟨b, off, none⟩ ∧ b < w.heap.size ∧ ∀ j, j < n → w.cell? ⟨b, off + j, none⟩ = some (.int .u8 (zs.getD j 0)) := h.2.2.2.2 hn
/-- as the source of an append -/
theorem Bs.news (h : Bs w a n cap zs) : ∀ ad, a = some ad → ∀ j u, (U8 zs)[j]? = some u → w.cell? (ad.add j) = some u := by
  intro ad ha j u hu
  unfold U8 at hu
  rw [List.getElem?_map] at hu
  rcases Nat.lt_or_ge j zs.length with hj | hj
  · obtain ⟨b, off, ha', hb, hc⟩ := h.at_ (by have := h.len; omega)
    rw [ha] at ha'
    injection ha' with ha'
    subst ha'
    have := hc j (by have := h.len; omega)
    rw [List.getElem?_eq_getElem hj] at hu
    simp only [Option.map_some, Option.some.injEq] at hu
    subst hu
    rw [add_at]
    simpa [List.getD_eq_getElem?_getD, List.getElem?_eq_getElem hj] using this
  · rw [List.getElem?_eq_none hj] at hu; cases hu
theorem u8_len (zs : List Int) : (U8 zs).length = zs.length := by simp [U8]
theorem u8_one (zs : List Int) : ∀ u ∈ U8 zs, u.oneCell' = true := by
  intro u hu
  unfold U8 at hu
  obtain ⟨z, _, rfl⟩ := List.mem_map.1 hu
  rfl
theorem u8_app (xs ys : List Int) : U8 (xs ++ ys) = U8 xs ++ U8 ys := by simp [U8]
theorem u8_set (zs : List Int) (j : Nat) (x : Int) : (U8 zs).set j (Value.int .u8 x) = U8 (zs.set j x) := by unfold U8; rw [List.map_set]
theorem u8_snoc {zs : List Int} {k : Nat} (hk : k < zs.length) : U8 (zs.take k) ++ [Value.int .u8 (zs[k]?.getD 0)] = U8 (zs.take (k + 1)) := by
  rw [List.take_succ_eq_append_getElem hk, u8_app, List.getElem?_eq_getElem hk]; rfl
/-- a slice of the call's own -/
theorem Bs.own {B g : Nat} (h : w.ownsRow B 5 1 (.slice (some ⟨g, 0, none⟩) n cap) n (U8 zs)) (hz : Byt zs) : Bs w (some ⟨g, 0, none⟩) n cap zs := by
  have hl : zs.length = n := by have := h.1; rw [u8_len] at this; omega
  have hf := h.2
  rcases hf with ⟨h', _⟩ | ⟨g', cap', cur, h', hb, hg, hnc, hcm, hcs, htake⟩
  · simp at h'
  · simp only [Value.slice.injEq, Option.some.injEq, Addr.mk.injEq, and_true, true_and] at h'
    obtain ⟨rfl, rfl⟩ := h'
    have hlt : g < w.heap.size := by
      rcases Nat.lt_or_ge g w.heap.size with hlt | hge
      · exact hlt
      · rw [Array.getElem?_eq_none hge] at hg; cases hg
    refine ⟨hl, hnc, (fun e => by cases e), hz, fun hn => ⟨g, 0, rfl, hlt, fun j hj => ?_⟩⟩
    rw [Nat.zero_add, h.cellAt j (by omega)]
    unfold U8
    rw [List.getElem?_map, List.getElem?_eq_getElem (by omega), List.getD_eq_getElem?_getD, List.getElem?_eq_getElem (by omega)]
    rfl
/-- the part x[i:j] -/
theorem Bs.part {b off i j c : Nat} (h : Bs w (some ⟨b, off, none⟩) n cap zs) (hij : i ≤ j) (hj : j ≤ n) (hc : j - i ≤ c) : Bs w (some ⟨b, off + i, none⟩) (j - i) c ((zs.drop i).take (j - i)) := by
  have hl := h.len
  refine ⟨by simp; omega, hc, (fun e => by cases e), (h.byt.drop i).take _, fun hn => ?_⟩
  obtain ⟨b', off', ha, hb, hcell⟩ := h.at_ (by omega)
  simp only [Option.some.injEq, Addr.mk.injEq, and_true] at ha
  obtain ⟨rfl, rfl⟩ := ha
  refine ⟨b, off + i, rfl, hb, fun k hk => ?_⟩
  rw [Nat.add_assoc, hcell (i + k) (by omega)]
  simp only [List.getD_eq_getElem?_getD]
  rw [List.getElem?_take, if_pos hk, List.getElem?_drop]
end
theorem bs_empty (w : World) (x : Addr) (n c : Nat) (zs : List Int) (hn : n = 0) (hz : zs = []) : Bs w (some x) n c zs := by
  subst hn hz
  exact ⟨rfl, Nat.zero_le _, (fun e => by cases e), Byt.nil, fun h => absurd h (by omega)⟩
theorem own_mono {w : World} {B B' : Nat} {v : Value} {n : Nat} {xs : List Value} (h : w.ownsRow B 5 1 v n xs) (hB : B' ≤ B) : w.ownsRow B' 5 1 v n xs := by
  obtain ⟨h1, h2⟩ := h
  refine ⟨h1, ?_⟩
  rcases h2 with h2 | ⟨g, cap, cur, hv, hg, r⟩
  · exact .inl h2
  · exact .inr ⟨g, cap, cur, hv, Nat.le_trans hB hg, r⟩
theorem own_below {w w' : World} {B g n cap : Nat} {xs : List Value} (h : w.ownsRow B 5 1 (.slice (some ⟨g, 0, none⟩) n cap) n xs) (hb : Below w.heap.size w w') : w'.ownsRow B 5 1 (.slice (some ⟨g, 0, none⟩) n cap) n xs := by
  obtain ⟨h1, h2⟩ := h
  refine ⟨h1, ?_⟩
  rcases h2 with ⟨h', _⟩ | ⟨g', cap', cur, h', hB, hg, r⟩
  · simp at h'
  · have hlt : g' < w.heap.size := by
      rcases Nat.lt_or_ge g' w.heap.size with hlt | hge
      · exact hlt
      · rw [Array.getElem?_eq_none hge] at hg; cases hg
    exact .inr ⟨g', cap', cur, h', hB, (hb.block g' hlt).trans hg, r⟩
theorem own_base {w : World} {B : Nat} {v : Value} {n : Nat} {xs : List Value} (h : w.ownsRow B 5 1 v n xs) : ∀ k, v.ownBlock = some k → B ≤ k := by
  intro k hk
  rcases h.2 with ⟨rfl, _⟩ | ⟨g, cap, cur, rfl, hg, _⟩
  · simp [Value.ownBlock] at hk
  · simp [Value.ownBlock] at hk; omega
theorem own_form {w : World} {B : Nat} {v : Value} {n : Nat} {xs : List Value} (h : w.ownsRow B 5 1 v n xs) (hn : 0 < n) : ∃ g cap, v = .slice (some ⟨g, 0, none⟩) n cap := by
  rcases h.2 with ⟨_, h0⟩ | ⟨g, cap, cur, rfl, _⟩
  · omega
  · exact ⟨g, cap, rfl⟩
/-- the new element of an append, in the block that was made for it -/
theorem cell_new1 (w : World) (x : Value) (t : TypeId) : ∀ j u, [x][j]? = some u → (w.alloc (.cells #[x] t)).cell? ((⟨w.heap.size, 0, none⟩ : Addr).add j) = some u := by
  intro j u hu
  match j, hu with
  | 0, hu => simp at hu; subst hu; simp [Addr.add]
theorem one_cell1 (k : IntKind) (x : Int) : ∀ u ∈ [Value.int k x], u.oneCell' = true := by
  intro u hu; simp at hu; subst hu; rfl
end Go.Proofs.Ytkhfofpbmnapjaa
