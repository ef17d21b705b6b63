/- What the functions of layer word that only compute with numbers return, for every input: Zigzag, Unzigzag, Pack, Unpack, Log2, the reference's forms of them, and the remainder that the statements take. Conditions: each number fits its kind. -/
import Derived.Test.YtcdajfdagdiodaaRows
import Derived.Test.YtcdajfdagdiodaaPure
import Derived.WalkKit
import Derived.WalkSpells
import Derived.WalkLawsBesides
import Derived.ProofKit
import Derived.Outline
import Derived.Lib.Hide
set_option linter.unusedVariables false
namespace Go.Proofs.Ytcdajfdagdiodaa
open Go.RowKit

theorem zigzag_any (n : Int) (w : World) (h1 : -9223372036854775808 ≤ n) (h2 : n ≤ 9223372036854775807) :
    Calls Try.prog 15 #[.int .i64 n] w fun e w' => e = .returned (.int .u64 (zz n)) ∧ w = w' := by
  go_enter Try.func15, Try.ntmps15
  go_wp2
  go_ret
  exact ⟨ret_int (zz_code n h1 h2), rfl⟩
theorem refzigzag_any (n : Int) (w : World) (h1 : -9223372036854775808 ≤ n) (h2 : n ≤ 9223372036854775807) :
    Calls Try.prog 16 #[.int .i64 n] w fun e w' => e = .returned (.int .u64 (zz n)) ∧ w = w' := by
  by_cases h : 0 ≤ n
  · go_enter Try.func16, Try.ntmps16
    go_wp2
    go_ret
    exact ⟨ret_int (by unfold zz; rw [if_pos h]), rfl⟩
  · go_enter Try.func16, Try.ntmps16
    go_wp2
    go_ret
    exact ⟨ret_int (by unfold zz; rw [if_neg (by omega)]; omega), rfl⟩
theorem unzigzag_any (n : Int) (w : World) (h1 : 0 ≤ n) (h2 : n < 18446744073709551616) :
    Calls Try.prog 17 #[.int .u64 n] w fun e w' => e = .returned (.int .i64 (uz n)) ∧ w = w' := by
  go_enter Try.func17, Try.ntmps17
  go_wp2
  go_ret
  exact ⟨ret_int (uz_code n h1 h2), rfl⟩
theorem pack_any (n m : Int) (w : World) (h1 : 0 ≤ n) (h2 : n < 4294967296) (h3 : 0 ≤ m) (h4 : m < 4294967296) :
    Calls Try.prog 32 #[.int .u32 n, .int .u32 m] w fun e w' => e = .returned (.int .u64 (m * 4294967296 + n)) ∧ w = w' := by
  go_enter Try.func32, Try.ntmps32
  go_wp2
  go_ret
  exact ⟨ret_int (pack_or n m h1 h2 h3 h4), rfl⟩
theorem refpack_any (n m : Int) (w : World) (h1 : 0 ≤ n) (h2 : n < 4294967296) (h3 : 0 ≤ m) (h4 : m < 4294967296) :
    Calls Try.prog 33 #[.int .u32 n, .int .u32 m] w fun e w' => e = .returned (.int .u64 (m * 4294967296 + n)) ∧ w = w' := by
  go_enter Try.func33, Try.ntmps33
  go_wp2
  go_ret
  exact ⟨rfl, rfl⟩
theorem unpack_any (n : Int) (w : World) (h1 : 0 ≤ n) (h2 : n < 18446744073709551616) :
    Calls Try.prog 31 #[.int .u64 n] w fun e w' => e = .returned (.tuple #[.int .u32 (n % 4294967296), .int .u32 (n / 4294967296)]) ∧ w = w' := by
  go_enter Try.func31, Try.ntmps31
  go_wp2
  go_ret2
  exact ⟨rfl, rfl⟩

/-- the magnitude of a number, as the statements take it -/
def mag (n : Int) : Int := if 0 ≤ n then n else -n
theorem mag_any (n : Int) (w : World) (h1 : -9223372036854775808 ≤ n) (h2 : n ≤ 9223372036854775807) :
    Calls Try.prog 18 #[.int .i64 n] w fun e w' => e = .returned (.int .u64 (mag n)) ∧ w = w' := by
  by_cases h : 0 ≤ n
  · go_enter Try.func18, Try.ntmps18
    go_wp2
    go_ret
    exact ⟨ret_int (by unfold mag; rw [if_pos h]), rfl⟩
  · go_enter Try.func18, Try.ntmps18
    go_wp2
    go_ret
    exact ⟨ret_int (by unfold mag; rw [if_neg (by omega)]; omega), rfl⟩

/-- the remainder that is never negative -/
theorem mod_any (n m : Int) (w : World) (h1 : -9223372036854775808 ≤ n) (h2 : n ≤ 9223372036854775807) (h3 : 1 ≤ m) (h4 : m ≤ 9223372036854775807) :
    Calls Try.prog 25 #[.int .i64 n, .int .i64 m] w fun e w' => e = .returned (.int .i64 (n % m)) ∧ w = w' := by
  by_cases h : 0 ≤ n
  · have hb := Int.emod_nonneg n (b := m) (by omega)
    have hc := Int.emod_lt_of_pos n (b := m) (by omega)
    go_enter Try.func25, Try.ntmps25
    go_wp2
    go_ret
    exact ⟨rfl, rfl⟩
  · have e := mod_of_tmod n m (by omega) h3
    have hb : -m < n.tmod m ∧ n.tmod m ≤ 0 := by
      rw [tmod_neg n m (by omega) h3]
      have h5 := Int.emod_nonneg (-n) (b := m) (by omega)
      have h6 := Int.emod_lt_of_pos (-n) (b := m) (by omega)
      omega
    obtain ⟨hb1, hb2⟩ := hb
    have H := Lib.hid e
    clear e
    go_enter Try.func25, Try.ntmps25
    go_wp2
    · have hlt : n.tmod m < 0 := by assumption
      go_ret
      exact ⟨ret_int (by rw [H.out, if_pos hlt]), rfl⟩
    · have hlt : 0 ≤ n.tmod m := by assumption
      go_ret
      exact ⟨ret_int (by rw [H.out, if_neg (by omega)]), rfl⟩

def LogPost (u : Int) (w : World) (e : Ending) (w' : World) : Prop := ∃ n : Int, LogOf u n ∧ e = .returned (.int .i64 n) ∧ w = w'
theorem log2_any (u : Int) (w : World) (h1 : 0 ≤ u) (h2 : u < 18446744073709551616) :
    Calls Try.prog 34 #[.int .u64 u] w (LogPost u w) := by
  go_enter Try.func34, Try.ntmps34
  go_wp2
  go_loop [0, 3] (fun x n => ∃ (k : Nat) (X : Int), k ≤ 64 ∧ x = .int .u64 X ∧ 0 ≤ X ∧ X < 18446744073709551616 ∧ n = .int .i64 ((k : Int) - 1) ∧ X = u / 2 ^ k ∧ (0 < k → 1 ≤ u / 2 ^ (k - 1))) (fun x _ => (intOf x).toNat)
  case atStart => exact ⟨0, u, by omega, rfl, h1, h2, rfl, by simp, by omega⟩
  case round =>
    obtain ⟨k, X, hk, rfl, hX0, hX1, rfl, hX, hp⟩ := hrel
    have HX := Lib.hid hX
    have HP := Lib.hid hp
    clear hX hp
    by_cases h0 : X = 0
    · subst h0
      go_wp2
      go_ret
      exact ⟨_, log_end u k h1 h2 HP.out HX.out.symm, rfl, rfl⟩
    · have hk4 := log_le u k h1 h2 (by rw [← HX.out]; exact h0)
      have hne : (X != 0) = true := by simpa using h0
      have hX2 : 1 ≤ X := by omega
      clear h0
      go_wp2
      go_round
      case rel => exact ⟨k + 1, X / 2, by omega, rfl, by omega, by omega, by go_num, by rw [HX.out, log_step u k h1], fun _ => by rw [Nat.add_sub_cancel, ← HX.out]; exact hX2⟩
      case measure => simp [intOf]; omega
end Go.Proofs.Ytcdajfdagdiodaa
