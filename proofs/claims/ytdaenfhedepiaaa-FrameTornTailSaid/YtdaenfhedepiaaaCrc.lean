/- The cyclic redundancy check as plain numbers: one bit's step, one byte's step, a string's; it is linear, it loses nothing, and a table of 256 words gives a byte's step. No program is spoken of. -/
import Derived.Laws.BitsAllLaws
import Derived.Lib.Zigzag
set_option linter.unusedVariables false
namespace Go.Proofs.Ytdaenfhedepiaaa
open Go

def poly : Nat := 2197175160
def st1 (x : Nat) : Nat := if x % 2 = 1 then x / 2 ^^^ poly else x / 2
def stN : Nat → Nat → Nat
  | 0, x => x
  | k + 1, x => stN k (st1 x)
def st8 (x : Nat) : Nat := stN 8 x
/-- the register behind a string -/
def crun (x : Nat) : List Nat → Nat
  | [] => x
  | b :: t => crun (st8 (x ^^^ b)) t
theorem crun_app (l m : List Nat) : ∀ x, crun x (l ++ m) = crun (crun x l) m := by
  induction l with
  | nil => intro x; rfl
  | cons b t ih => intro x; exact ih _
theorem crun_snoc (l : List Nat) (b x : Nat) : crun x (l ++ [b]) = st8 (crun x l ^^^ b) := by rw [crun_app]; rfl

theorem half_xor (x y : Nat) : (x ^^^ y) / 2 = x / 2 ^^^ y / 2 := by
  have h := Nat.shiftRight_xor_distrib (a := x) (b := y) (i := 1)
  simpa [Nat.shiftRight_eq_div_pow] using h
theorem odd_xor (x y : Nat) : (x ^^^ y) % 2 = (x % 2 + y % 2) % 2 := by
  have h := Nat.testBit_xor x y 0
  simp only [Nat.testBit_zero] at h
  have hx : x % 2 = 0 ∨ x % 2 = 1 := by omega
  have hy : y % 2 = 0 ∨ y % 2 = 1 := by omega
  have hz : (x ^^^ y) % 2 = 0 ∨ (x ^^^ y) % 2 = 1 := by omega
  rcases hx with hx | hx <;> rcases hy with hy | hy <;> rcases hz with hz | hz <;> simp [hx, hy, hz] at h ⊢
theorem xor3 (a b c : Nat) : a ^^^ b ^^^ c = a ^^^ c ^^^ b := by rw [Nat.xor_assoc, Nat.xor_comm b c, ← Nat.xor_assoc]
theorem xor_cancel (a b : Nat) : a ^^^ b ^^^ b = a := by rw [Nat.xor_assoc, Nat.xor_self, Nat.xor_zero]
theorem xor_inj {a b c : Nat} (h : a ^^^ c = b ^^^ c) : a = b := by
  have := congrArg (· ^^^ c) h
  simpa [xor_cancel] using this
theorem st1_xor (x y : Nat) : st1 (x ^^^ y) = st1 x ^^^ st1 y := by
  unfold st1
  rw [half_xor, odd_xor]
  have hx : x % 2 = 0 ∨ x % 2 = 1 := by omega
  have hy : y % 2 = 0 ∨ y % 2 = 1 := by omega
  rcases hx with hx | hx <;> rcases hy with hy | hy <;> simp only [hx, hy]
  · rfl
  · show x / 2 ^^^ y / 2 ^^^ poly = x / 2 ^^^ (y / 2 ^^^ poly)
    rw [Nat.xor_assoc]
  · show x / 2 ^^^ y / 2 ^^^ poly = x / 2 ^^^ poly ^^^ y / 2
    rw [xor3]
  · show x / 2 ^^^ y / 2 = x / 2 ^^^ poly ^^^ (y / 2 ^^^ poly)
    rw [← Nat.xor_assoc, xor3 (x / 2) poly (y / 2), xor_cancel]
theorem stN_xor (k : Nat) : ∀ x y, stN k (x ^^^ y) = stN k x ^^^ stN k y := by
  induction k with
  | zero => intro x y; rfl
  | succ k ih => intro x y; rw [stN, st1_xor, ih]; rfl
theorem st8_xor (x y : Nat) : st8 (x ^^^ y) = st8 x ^^^ st8 y := stN_xor 8 x y
theorem st1_lt {x : Nat} (h : x < 4294967296) : st1 x < 4294967296 := by
  unfold st1
  split
  · exact Nat.xor_lt_two_pow (n := 32) (by omega) (by decide)
  · omega
theorem stN_lt (k : Nat) : ∀ {x : Nat}, x < 4294967296 → stN k x < 4294967296 := by
  induction k with
  | zero => intro x h; exact h
  | succ k ih => intro x h; exact ih (st1_lt h)
theorem st8_lt {x : Nat} (h : x < 4294967296) : st8 x < 4294967296 := stN_lt 8 h
theorem crun_lt (l : List Nat) : ∀ {x : Nat}, x < 4294967296 → (∀ b ∈ l, b < 256) → crun x l < 4294967296 := by
  induction l with
  | nil => intro x h _; exact h
  | cons b t ih =>
    intro x h hb
    have hb0 := hb b (by simp)
    exact ih (st8_lt (Nat.xor_lt_two_pow (n := 32) (by omega) (by omega))) (fun c hc => hb c (by simp [hc]))

/-! ### a byte's step by a table -/
theorem stN_high (k : Nat) : ∀ h, stN k (h * 2 ^ k) = h := by
  induction k with
  | zero => intro h; simp [stN]
  | succ k ih =>
    intro h
    have e : h * 2 ^ (k + 1) = 2 * (h * 2 ^ k) := by rw [Nat.pow_succ]; ac_rfl
    have e1 : st1 (h * 2 ^ (k + 1)) = h * 2 ^ k := by
      unfold st1
      rw [e, if_neg (by omega)]
      omega
    rw [stN, e1, ih]
theorem low_high (x : Nat) : x = (x % 256) ^^^ (x / 256 * 256) := by
  have h := nat_join 8 (x / 256 * 256) (x % 256) (by omega) (by omega)
  have e : (x % 256) ^^^ (x / 256 * 256) = x / 256 * 256 ||| x % 256 := by
    rw [Nat.xor_comm]
    apply Nat.eq_of_testBit_eq
    intro i
    rw [Nat.testBit_xor, Nat.testBit_or]
    by_cases hi : i < 8
    · have : (x / 256 * 256).testBit i = false := by
        rw [show x / 256 * 256 = 2 ^ 8 * (x / 256) by omega, Nat.testBit_two_pow_mul]
        simp; omega
      simp [this]
    · have : (x % 256).testBit i = false := Nat.testBit_lt_two_pow (Nat.lt_of_lt_of_le (show x % 256 < 2 ^ 8 by omega) (Nat.pow_le_pow_right (by decide) (by omega)))
      simp [this]
  rw [e, h]
  omega
theorem st8_table (x : Nat) : st8 x = st8 (x % 256) ^^^ x / 256 := by
  have h := congrArg st8 (low_high x)
  rw [st8_xor] at h
  have e : st8 (x / 256 * 256) = x / 256 := stN_high 8 (x / 256)
  rw [e] at h
  exact h
theorem low_xor (x b : Nat) (hb : b < 256) : (x ^^^ b) % 256 = x % 256 ^^^ b := by
  have h := Nat.xor_mod_two_pow (a := x) (b := b) (n := 8)
  have e : b % 2 ^ 8 = b := Nat.mod_eq_of_lt hb
  rw [e] at h
  exact h
theorem high_xor (x b : Nat) (hb : b < 256) : (x ^^^ b) / 256 = x / 256 := by
  have h := Nat.shiftRight_xor_distrib (a := x) (b := b) (i := 8)
  simp only [Nat.shiftRight_eq_div_pow] at h
  have e : b / 2 ^ 8 = 0 := Nat.div_eq_of_lt hb
  rw [e, Nat.xor_zero] at h
  exact h
/-- the step of a byte, as a program with a table takes it -/
theorem st8_byte (x b : Nat) (hb : b < 256) : st8 (x ^^^ b) = st8 (x % 256 ^^^ b) ^^^ x / 256 := by
  rw [st8_table, low_xor x b hb, high_xor x b hb]

/-! ### nothing is lost -/
theorem st1_inj {x y : Nat} (hx : x < 4294967296) (hy : y < 4294967296) (h : st1 x = st1 y) : x = y := by
  have top : ∀ z, z < 4294967296 → (z / 2 ^^^ poly).testBit 31 = true := by
    intro z hz
    have h1 : (z / 2).testBit 31 = false := Nat.testBit_lt_two_pow (show z / 2 < 2 ^ 31 by omega)
    rw [Nat.testBit_xor, h1]
    decide
  have low : ∀ z, z < 4294967296 → (z / 2).testBit 31 = false := fun z hz => Nat.testBit_lt_two_pow (show z / 2 < 2 ^ 31 by omega)
  unfold st1 at h
  by_cases ox : x % 2 = 1 <;> by_cases oy : y % 2 = 1
  · rw [if_pos ox, if_pos oy] at h
    have := xor_inj h
    omega
  · rw [if_pos ox, if_neg oy] at h
    have h1 := top x hx
    rw [h, low y hy] at h1
    cases h1
  · rw [if_neg ox, if_pos oy] at h
    have h1 := top y hy
    rw [← h, low x hx] at h1
    cases h1
  · rw [if_neg ox, if_neg oy] at h
    omega
theorem stN_inj (k : Nat) : ∀ {x y : Nat}, x < 4294967296 → y < 4294967296 → stN k x = stN k y → x = y := by
  induction k with
  | zero => intro x y _ _ h; exact h
  | succ k ih => intro x y hx hy h; exact st1_inj hx hy (ih (st1_lt hx) (st1_lt hy) h)
theorem st8_inj {x y : Nat} (hx : x < 4294967296) (hy : y < 4294967296) (h : st8 x = st8 y) : x = y := stN_inj 8 hx hy h
theorem crun_inj (l : List Nat) (hl : ∀ b ∈ l, b < 256) : ∀ {x y : Nat}, x < 4294967296 → y < 4294967296 → crun x l = crun y l → x = y := by
  induction l with
  | nil => intro x y _ _ h; exact h
  | cons b t ih =>
    intro x y hx hy h
    have hb := hl b (by simp)
    have h1 := ih (fun c hc => hl c (by simp [hc])) (st8_lt (Nat.xor_lt_two_pow (n := 32) (by omega) (by omega))) (st8_lt (Nat.xor_lt_two_pow (n := 32) (by omega) (by omega))) h
    exact xor_inj (st8_inj (Nat.xor_lt_two_pow (n := 32) (by omega) (by omega)) (Nat.xor_lt_two_pow (n := 32) (by omega) (by omega)) h1)

/-! ### the checksum -/
def inv (x : Nat) : Nat := 4294967295 - x
theorem inv_lt (x : Nat) : inv x < 4294967296 := by unfold inv; omega
theorem inv_inv {x : Nat} (h : x < 4294967296) : inv (inv x) = x := by unfold inv; omega
theorem inv_inj {x y : Nat} (hx : x < 4294967296) (hy : y < 4294967296) (h : inv x = inv y) : x = y := by unfold inv at h; omega
theorem inv_xor {x : Nat} (h : x < 4294967296) : inv x = 4294967295 ^^^ x := by
  have e : (4294967295 : Nat) = 2 ^ 32 - 1 := by decide
  apply Nat.eq_of_testBit_eq
  intro i
  unfold inv
  rw [e, Nat.testBit_xor, Nat.testBit_two_pow_sub_one, show 2 ^ 32 - 1 - x = 2 ^ 32 - (x + 1) by omega, Nat.testBit_two_pow_sub_succ (by omega)]
  by_cases hi : i < 32
  · simp [hi]
  · have : x.testBit i = false := Nat.testBit_lt_two_pow (Nat.lt_of_lt_of_le (show x < 2 ^ 32 by omega) (Nat.pow_le_pow_right (by decide) (by omega)))
    simp [hi, this]
/-- the checksum of a string behind one whose checksum is c -/
def ext (c : Nat) (l : List Nat) : Nat := inv (crun (inv c) l)
theorem ext_lt (c : Nat) (l : List Nat) : ext c l < 4294967296 := inv_lt _
theorem ext_app (l m : List Nat) (c : Nat) (hl : ∀ b ∈ l, b < 256) : ext (ext c l) m = ext c (l ++ m) := by
  unfold ext
  rw [inv_inv (crun_lt l (inv_lt c) hl), crun_app]
/-- one byte changed: another checksum -/
theorem ext_change (c : Nat) (l t : List Nat) (x y : Nat) (hl : ∀ b ∈ l, b < 256) (ht : ∀ b ∈ t, b < 256) (hx : x < 256) (hy : y < 256) (hxy : x ≠ y) : ext c (l ++ x :: t) ≠ ext c (l ++ y :: t) := by
  intro h
  have hA := crun_lt l (inv_lt c) hl
  have hx1 : crun (inv c) l ^^^ x < 4294967296 := Nat.xor_lt_two_pow (n := 32) (by omega) (by omega)
  have hy1 : crun (inv c) l ^^^ y < 4294967296 := Nat.xor_lt_two_pow (n := 32) (by omega) (by omega)
  have hb : ∀ z, z < 256 → ∀ b ∈ l ++ z :: t, b < 256 := fun z hz b hb => by
    rcases List.mem_append.1 hb with hb | hb
    · exact hl b hb
    · rcases List.mem_cons.1 hb with rfl | hb
      · exact hz
      · exact ht b hb
  unfold ext at h
  have h1 := inv_inj (crun_lt _ (inv_lt c) (hb x hx)) (crun_lt _ (inv_lt c) (hb y hy)) h
  rw [crun_app, crun_app] at h1
  have h2 := crun_inj t ht (st8_lt hx1) (st8_lt hy1) h1
  have h3 := st8_inj hx1 hy1 h2
  rw [Nat.xor_comm, Nat.xor_comm (crun (inv c) l) y] at h3
  exact hxy (xor_inj h3)
theorem st8_xor3 (a b c : Nat) : st8 a ^^^ st8 b ^^^ st8 c = st8 (a ^^^ b ^^^ c) := by rw [st8_xor (a ^^^ b) c, st8_xor a b]
theorem xor6 (x y z a b c : Nat) : x ^^^ a ^^^ (y ^^^ b) ^^^ (z ^^^ c) = x ^^^ y ^^^ z ^^^ (a ^^^ b ^^^ c) := by ac_rfl
theorem xor_ones3 (a b c m : Nat) : m ^^^ a ^^^ (m ^^^ b) ^^^ (m ^^^ c) = (m ^^^ m ^^^ m) ^^^ (a ^^^ b ^^^ c) := by ac_rfl
/-- three strings of one length -/
theorem crun_affine : ∀ (l m r : List Nat) (x y z : Nat), l.length = m.length → m.length = r.length →
    crun x l ^^^ crun y m ^^^ crun z r = crun (x ^^^ y ^^^ z) (List.zipWith (· ^^^ ·) (List.zipWith (· ^^^ ·) l m) r) := by
  intro l
  induction l with
  | nil =>
    intro m r x y z h1 h2
    cases m with
    | nil => cases r with
      | nil => rfl
      | cons _ _ => simp at h2
    | cons _ _ => simp at h1
  | cons a l ih =>
    intro m r x y z h1 h2
    cases m with
    | nil => simp at h1
    | cons b m => cases r with
      | nil => simp at h2
      | cons c r =>
        have h := ih m r (st8 (x ^^^ a)) (st8 (y ^^^ b)) (st8 (z ^^^ c)) (by simpa using h1) (by simpa using h2)
        rw [st8_xor3, xor6] at h
        exact h
theorem ext_affine (l m r : List Nat) (hl : ∀ b ∈ l, b < 256) (hm : ∀ b ∈ m, b < 256) (hr : ∀ b ∈ r, b < 256) (h1 : l.length = m.length) (h2 : m.length = r.length) :
    ext 0 l ^^^ ext 0 m ^^^ ext 0 r = ext 0 (List.zipWith (· ^^^ ·) (List.zipWith (· ^^^ ·) l m) r) := by
  have h0 : inv 0 = 4294967295 := rfl
  have hz : ∀ b ∈ List.zipWith (· ^^^ ·) (List.zipWith (· ^^^ ·) l m) r, b < 256 := by
    intro b hb
    obtain ⟨i, hi, rfl⟩ := List.mem_iff_getElem.1 hb
    simp only [List.getElem_zipWith]
    have ha := hl (l[i]'(by simp at hi; omega)) (List.getElem_mem _)
    have hbb := hm (m[i]'(by simp at hi; omega)) (List.getElem_mem _)
    have hc := hr (r[i]'(by simp at hi; omega)) (List.getElem_mem _)
    exact Nat.xor_lt_two_pow (n := 8) (Nat.xor_lt_two_pow (n := 8) ha hbb) hc
  unfold ext
  rw [h0, inv_xor (crun_lt l (by decide) hl), inv_xor (crun_lt m (by decide) hm), inv_xor (crun_lt r (by decide) hr), inv_xor (crun_lt _ (by decide) hz)]
  have ha := crun_affine l m r 4294967295 4294967295 4294967295 h1 h2
  have e : (4294967295 : Nat) ^^^ 4294967295 ^^^ 4294967295 = 4294967295 := by decide
  rw [e] at ha
  rw [← ha]
  rw [xor_ones3, e]
end Go.Proofs.Ytdaenfhedepiaaa
