/- The least of three lengths and 300, as the program's built-in min gives it. -/
import Derived.Test.YtdaenfhedepiaaaAwake2
set_option linter.unusedVariables false
namespace Go.Proofs.Ytdaenfhedepiaaa
open Go.RowKit

def xor3z (L T V : List Int) (j : Nat) : Int := bits .xor .u8 (bits .xor .u8 (L.getD j 0) (T.getD j 0)) (V.getD j 0)
theorem xor8_bd {x y : Int} (hx : 0 ≤ x ∧ x ≤ 255) (hy : 0 ≤ y ∧ y ≤ 255) : 0 ≤ bits .xor .u8 x y ∧ bits .xor .u8 x y ≤ 255 := by
  rw [u8_xor _ _ hx.1 (by omega) hy.1 (by omega)]
  have := Nat.xor_lt_two_pow (x := x.toNat) (y := y.toNat) (n := 8) (by omega) (by omega)
  omega
theorem Bs.pre {w : World} {a : Option Addr} {n cap k : Nat} {zs : List Int} (h : Bs w a n cap zs) (hk : k ≤ n) : Bs w a k cap (zs.take k) := by
  refine ⟨by have := h.len; simp; omega, Nat.le_trans hk h.2.1, fun e => ?_, h.byt.take k, fun h0 => ?_⟩
  · have := h.2.2.1 e; omega
  · obtain ⟨b, off, ha, hb, hc⟩ := h.at_ (by omega)
    refine ⟨b, off, ha, hb, fun j hj => ?_⟩
    rw [hc j (by omega)]
    simp only [List.getD_eq_getElem?_getD]
    rw [List.getElem?_take, if_pos hj]
theorem take_getD {zs : List Int} {j k : Nat} (h : j < k) : (zs.take k).getD j 0 = zs.getD j 0 := by
  simp only [List.getD_eq_getElem?_getD]
  rw [List.getElem?_take, if_pos h]
theorem xor8_nat {x y : Int} (hx : 0 ≤ x ∧ x ≤ 255) (hy : 0 ≤ y ∧ y ≤ 255) : (bits .xor .u8 x y).toNat = x.toNat ^^^ y.toNat := by
  rw [u8_xor _ _ hx.1 (by omega) hy.1 (by omega), Int.toNat_natCast]
theorem cs_affine {A B C P : List Int} {N : Nat} (hA : Byt A) (hB : Byt B) (hC : Byt C) (lA : A.length = N) (lB : B.length = N) (lC : C.length = N) (lP : P.length = N)
    (hP : ∀ j, j < N → P[j]? = some (xor3z A B C j)) : bits .xor .u32 (bits .xor .u32 (cs 0 A) (cs 0 B)) (cs 0 C) = cs 0 P := by
  have hn : nb P = List.zipWith (· ^^^ ·) (List.zipWith (· ^^^ ·) (nb A) (nb B)) (nb C) := by
    apply List.ext_getElem?
    intro j
    by_cases hj : j < N
    · have e := hP j hj
      unfold nb
      rw [List.getElem?_map, e]
      rw [List.getElem?_eq_getElem (by simp; omega)]
      simp only [List.getElem_zipWith, List.getElem_map, Option.map_some]
      unfold xor3z
      have g : ∀ X : List Int, (hx : X.length = N) → X.getD j 0 = X[j]'(by omega) := fun X hx => by
        rw [List.getD_eq_getElem?_getD, List.getElem?_eq_getElem (by omega)]; rfl
      rw [xor8_nat (xor8_bd (hA.get j) (hB.get j)) (hC.get j), xor8_nat (hA.get j) (hB.get j), g A lA, g B lB, g C lC]
    · rw [List.getElem?_eq_none (by rw [nb_len]; omega), List.getElem?_eq_none (by simp [nb]; omega)]
  have hx : ∀ X Y : Nat, X < 4294967296 → Y < 4294967296 → bits .xor .u32 (X : Int) (Y : Int) = ((X ^^^ Y : Nat) : Int) := fun X Y h1 h2 => u32_xor_nat X Y h1 h2
  unfold cs
  rw [hx _ _ (ext_lt _ _) (ext_lt _ _), hx _ _ (Nat.xor_lt_two_pow (n := 32) (ext_lt _ _) (ext_lt _ _)) (ext_lt _ _), hn]
  have h := ext_affine (nb A) (nb B) (nb C) (nb_byt hA) (nb_byt hB) (nb_byt hC) (by rw [nb_len, nb_len]; omega) (by rw [nb_len, nb_len]; omega)
  have e0 : (0 : Int).toNat = 0 := rfl
  rw [e0, h]
theorem min4 (a b c : Nat) : ∃ N : Nat, N ≤ a ∧ N ≤ b ∧ N ≤ c ∧ N ≤ 300 ∧
    ∀ (w : World) (ts : Array TypeId) (t : TypeId), (Builtin.min_ ts t #[.int .i64 (a : Int), .int .i64 (b : Int), .int .i64 (c : Int), .int .i64 300]).run Try.prog w = .ok (.int .i64 (N : Int)) w := by
  obtain ⟨x, hx⟩ : ∃ x : Int, x = if (b : Int) < (a : Int) then (b : Int) else (a : Int) := ⟨_, rfl⟩
  obtain ⟨y, hy⟩ : ∃ y : Int, y = if (c : Int) < x then (c : Int) else x := ⟨_, rfl⟩
  obtain ⟨z, hz⟩ : ∃ z : Int, z = if (300 : Int) < y then 300 else y := ⟨_, rfl⟩
  have hx1 : 0 ≤ x ∧ x ≤ a ∧ x ≤ b := by rw [hx]; split <;> omega
  have hy1 : 0 ≤ y ∧ y ≤ x ∧ y ≤ c := by rw [hy]; split <;> omega
  have hz1 : 0 ≤ z ∧ z ≤ y ∧ z ≤ 300 := by rw [hz]; split <;> omega
  obtain ⟨N, hN⟩ := Int.eq_ofNat_of_zero_le hz1.1
  refine ⟨N, by omega, by omega, by omega, by omega, fun w ts t => ?_⟩
  rw [← hN, hz, hy, hx]
  simp [Builtin.min_, Builtin.min2]
end Go.Proofs.Ytdaenfhedepiaaa
