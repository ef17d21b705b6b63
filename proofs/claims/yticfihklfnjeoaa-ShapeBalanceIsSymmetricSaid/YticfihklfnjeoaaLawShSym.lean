/- The walk of ShapeBalanceIsSymmetric over the program's contracts. -/
import Derived.Test.YticfihklfnjeoaaShCon
set_option linter.unusedVariables false
set_option linter.unusedSimpArgs false
namespace Go.Proofs.Yticfihklfnjeoaa
open Go.RowKit
theorem bal_sym (l r : Int) : bal l r = bal r l := by
  unfold bal
  exact decide_eq_decide.2 ⟨fun h => ⟨h.2.2.1, h.2.2.2.1, h.1, h.2.1, h.2.2.2.2.2, h.2.2.2.2.1⟩, fun h => ⟨h.2.2.1, h.2.2.2.1, h.1, h.2.1, h.2.2.2.2.2, h.2.2.2.2.1⟩⟩
theorem bal_grow {l m r : Int} (h : bal l r = true) (h1 : l ≤ m) (h2 : m ≤ r) : bal m r = true := by
  unfold bal at h ⊢
  have := of_decide_eq_true h
  exact decide_eq_true (by omega)
theorem bal_self {r : Int} (h0 : 0 ≤ r) (h1 : r ≤ 2147483647) : bal r r = true := decide_eq_true (by omega)
set_option maxHeartbeats 2000000 in
set_option maxRecDepth 100000 in
theorem sym_walk (K : ShNum) (a b x : Int) (w : World) (ha : -9223372036854775808 ≤ a ∧ a ≤ 9223372036854775807) (hb : -9223372036854775808 ≤ b ∧ b ≤ 9223372036854775807) (hx : -9223372036854775808 ≤ x ∧ x ≤ 9223372036854775807) :
    Calls Try.prog 5 #[.int .i64 a, .int .i64 b, .int .i64 x] w (Calm w (.bool true)) := by
  have HK := Lib.hid K
  have HA := Lib.hid ha
  have HB := Lib.hid hb
  have HX := Lib.hid hx
  have m1 := Int.emod_nonneg a (b := 100000) (by decide)
  have m2 := Int.emod_lt_of_pos a (b := 100000) (by decide)
  have m3 := Int.emod_nonneg b (b := 100000) (by decide)
  have m4 := Int.emod_lt_of_pos b (b := 100000) (by decide)
  clear K ha hb hx
  go_enter Try.func5, Try.ntmps5
  go_wp2_with fail
  refine (mod_any a 100000 w HA.out.1 HA.out.2 (by decide) (by decide)).mono ?_
  rintro e w7 ⟨rfl, rfl⟩
  generalize a % 100000 = l at m1 m2 ⊢
  go_wp2_with fail
  refine (mod_any b 100000 w HB.out.1 HB.out.2 (by decide) (by decide)).mono ?_
  rintro e w7 ⟨rfl, rfl⟩
  generalize b % 100000 = r at m3 m4 ⊢
  clear HA HB
  rcases Int.lt_or_le r l with hlr | hlr
  · go_upto_region 4 with fail
    have hw1 : IntKind.i64.wrap (l - r) = l - r := by rw [IntKind.wrap_i64]; omega
    have hw2 : IntKind.i64.wrap (l - r + 1) = l - r + 1 := by rw [IntKind.wrap_i64]; omega
    have k1 := Int.emod_nonneg x (b := l - r + 1) (by omega)
    have k2 := Int.emod_lt_of_pos x (b := l - r + 1) (by omega)
    have hw3 : IntKind.i64.wrap (r + x % (l - r + 1)) = r + x % (l - r + 1) := by rw [IntKind.wrap_i64]; omega
    have HR : Hid ((0 ≤ r ∧ r ≤ l) ∧ l < 100000 ∧ 0 ≤ x % (l - r + 1) ∧ x % (l - r + 1) ≤ l - r) := ⟨⟨by omega, by omega⟩, by omega, by omega, by omega⟩
    clear k1 k2
    go_wp2_with fail
    refine (mod_any x (l - r + 1) w HX.out.1 HX.out.2 (by omega) (by omega)).mono ?_
    rintro e w7 ⟨rfl, rfl⟩
    generalize x % (l - r + 1) = y at hw3 HR ⊢
    clear hlr m1 m2 m3 m4
    go_wp2_with fail
    obtain ⟨M, hM⟩ : ∃ M, r + y = M := ⟨_, rfl⟩
    rw [hM]
    have HR2 : Hid ((0 ≤ r ∧ r ≤ M) ∧ M ≤ l ∧ l < 100000) := (by have := HR.out; exact ⟨⟨by omega, by omega⟩, by omega, by omega⟩)
    clear hM hw1 hw2 hw3 HR
    refine (awake7_any HK.out w).mono ?_
    rintro e w1 ⟨rfl, hb1⟩
    have HB1 := Lib.hid hb1
    clear hb1
    go_wp2_with fail
    refine (HK.out.balanced r l w1 (by have := HR2.out; omega) (by have := HR2.out; omega) (by have := HR2.out; omega) (by have := HR2.out; omega)).mono ?_
    rintro e w2 ⟨rfl, hb1⟩
    have HB2 := Lib.hid (calm_trans HB1.out hb1)
    clear hb1
    go_wp2_with fail
    refine (HK.out.balanced l r w2 (by have := HR2.out; omega) (by have := HR2.out; omega) (by have := HR2.out; omega) (by have := HR2.out; omega)).mono ?_
    rintro e w3 ⟨rfl, hb1⟩
    have HB3 := Lib.hid (calm_trans HB2.out hb1)
    rw [bal_sym l r]
    clear hb1
    have hG : bal r l = true → bal M l = true := fun h => bal_grow h HR2.out.1.2 HR2.out.2.1
    have HG := Lib.hid hG
    have HS : Hid (bal l l = true) := bal_self (by have := HR2.out; omega) (by have := HR2.out; omega)
    generalize hZ : bal r l = Z at HG ⊢
    have HZ := Lib.hid hZ
    clear hG hZ
    cases Z
    · go_wp2_with fail
      refine (HK.out.balanced r l w3 (by have := HR2.out; omega) (by have := HR2.out; omega) (by have := HR2.out; omega) (by have := HR2.out; omega)).mono ?_
      rintro e w4 ⟨rfl, hb1⟩
      have HB4 := Lib.hid (calm_trans HB3.out hb1)
      rw [HZ.out]
      clear hb1
      go_wp2_with fail
      refine (HK.out.balanced l l w4 (by have := HR2.out; omega) (by have := HR2.out; omega) (by have := HR2.out; omega) (by have := HR2.out; omega)).mono ?_
      rintro e w5 ⟨rfl, hb1⟩
      have HB5 := Lib.hid (calm_trans HB4.out hb1)
      rw [HS.out]
      clear hb1
      go_wp2_with fail
      go_ret
      exact ⟨rfl, HB5.out⟩
    · go_wp2_with fail
      refine (HK.out.balanced r l w3 (by have := HR2.out; omega) (by have := HR2.out; omega) (by have := HR2.out; omega) (by have := HR2.out; omega)).mono ?_
      rintro e w4 ⟨rfl, hb1⟩
      have HB4 := Lib.hid (calm_trans HB3.out hb1)
      rw [HZ.out]
      clear hb1
      go_wp2_with fail
      refine (HK.out.balanced M l w4 (by have := HR2.out; omega) (by have := HR2.out; omega) (by have := HR2.out; omega) (by have := HR2.out; omega)).mono ?_
      rintro e w5 ⟨rfl, hb1⟩
      have HB5 := Lib.hid (calm_trans HB4.out hb1)
      have hg : bal M l = true := by first | exact HG.out rfl | exact HG.out trivial
      rw [hg]
      clear hg
      clear hb1
      go_wp2_with fail
      refine (HK.out.balanced l l w5 (by have := HR2.out; omega) (by have := HR2.out; omega) (by have := HR2.out; omega) (by have := HR2.out; omega)).mono ?_
      rintro e w6 ⟨rfl, hb1⟩
      have HB6 := Lib.hid (calm_trans HB5.out hb1)
      rw [HS.out]
      clear hb1
      go_wp2_with fail
      go_ret
      exact ⟨rfl, HB6.out⟩
  · go_upto_region 4 with fail
    have hw1 : IntKind.i64.wrap (r - l) = r - l := by rw [IntKind.wrap_i64]; omega
    have hw2 : IntKind.i64.wrap (r - l + 1) = r - l + 1 := by rw [IntKind.wrap_i64]; omega
    have k1 := Int.emod_nonneg x (b := r - l + 1) (by omega)
    have k2 := Int.emod_lt_of_pos x (b := r - l + 1) (by omega)
    have hw3 : IntKind.i64.wrap (l + x % (r - l + 1)) = l + x % (r - l + 1) := by rw [IntKind.wrap_i64]; omega
    have HR : Hid ((0 ≤ l ∧ l ≤ r) ∧ r < 100000 ∧ 0 ≤ x % (r - l + 1) ∧ x % (r - l + 1) ≤ r - l) := ⟨⟨by omega, by omega⟩, by omega, by omega, by omega⟩
    clear k1 k2
    go_wp2_with fail
    refine (mod_any x (r - l + 1) w HX.out.1 HX.out.2 (by omega) (by omega)).mono ?_
    rintro e w7 ⟨rfl, rfl⟩
    generalize x % (r - l + 1) = y at hw3 HR ⊢
    clear hlr m1 m2 m3 m4
    go_wp2_with fail
    obtain ⟨M, hM⟩ : ∃ M, l + y = M := ⟨_, rfl⟩
    rw [hM]
    have HR2 : Hid ((0 ≤ l ∧ l ≤ M) ∧ M ≤ r ∧ r < 100000) := (by have := HR.out; exact ⟨⟨by omega, by omega⟩, by omega, by omega⟩)
    clear hM hw1 hw2 hw3 HR
    refine (awake7_any HK.out w).mono ?_
    rintro e w1 ⟨rfl, hb1⟩
    have HB1 := Lib.hid hb1
    clear hb1
    go_wp2_with fail
    refine (HK.out.balanced l r w1 (by have := HR2.out; omega) (by have := HR2.out; omega) (by have := HR2.out; omega) (by have := HR2.out; omega)).mono ?_
    rintro e w2 ⟨rfl, hb1⟩
    have HB2 := Lib.hid (calm_trans HB1.out hb1)
    clear hb1
    go_wp2_with fail
    refine (HK.out.balanced r l w2 (by have := HR2.out; omega) (by have := HR2.out; omega) (by have := HR2.out; omega) (by have := HR2.out; omega)).mono ?_
    rintro e w3 ⟨rfl, hb1⟩
    have HB3 := Lib.hid (calm_trans HB2.out hb1)
    rw [bal_sym r l]
    clear hb1
    have hG : bal l r = true → bal M r = true := fun h => bal_grow h HR2.out.1.2 HR2.out.2.1
    have HG := Lib.hid hG
    have HS : Hid (bal r r = true) := bal_self (by have := HR2.out; omega) (by have := HR2.out; omega)
    generalize hZ : bal l r = Z at HG ⊢
    have HZ := Lib.hid hZ
    clear hG hZ
    cases Z
    · go_wp2_with fail
      refine (HK.out.balanced l r w3 (by have := HR2.out; omega) (by have := HR2.out; omega) (by have := HR2.out; omega) (by have := HR2.out; omega)).mono ?_
      rintro e w4 ⟨rfl, hb1⟩
      have HB4 := Lib.hid (calm_trans HB3.out hb1)
      rw [HZ.out]
      clear hb1
      go_wp2_with fail
      refine (HK.out.balanced r r w4 (by have := HR2.out; omega) (by have := HR2.out; omega) (by have := HR2.out; omega) (by have := HR2.out; omega)).mono ?_
      rintro e w5 ⟨rfl, hb1⟩
      have HB5 := Lib.hid (calm_trans HB4.out hb1)
      rw [HS.out]
      clear hb1
      go_wp2_with fail
      go_ret
      exact ⟨rfl, HB5.out⟩
    · go_wp2_with fail
      refine (HK.out.balanced l r w3 (by have := HR2.out; omega) (by have := HR2.out; omega) (by have := HR2.out; omega) (by have := HR2.out; omega)).mono ?_
      rintro e w4 ⟨rfl, hb1⟩
      have HB4 := Lib.hid (calm_trans HB3.out hb1)
      rw [HZ.out]
      clear hb1
      go_wp2_with fail
      refine (HK.out.balanced M r w4 (by have := HR2.out; omega) (by have := HR2.out; omega) (by have := HR2.out; omega) (by have := HR2.out; omega)).mono ?_
      rintro e w5 ⟨rfl, hb1⟩
      have HB5 := Lib.hid (calm_trans HB4.out hb1)
      have hg : bal M r = true := by first | exact HG.out rfl | exact HG.out trivial
      rw [hg]
      clear hg
      clear hb1
      go_wp2_with fail
      refine (HK.out.balanced r r w5 (by have := HR2.out; omega) (by have := HR2.out; omega) (by have := HR2.out; omega) (by have := HR2.out; omega)).mono ?_
      rintro e w6 ⟨rfl, hb1⟩
      have HB6 := Lib.hid (calm_trans HB5.out hb1)
      rw [HS.out]
      clear hb1
      go_wp2_with fail
      go_ret
      exact ⟨rfl, HB6.out⟩
end Go.Proofs.Yticfihklfnjeoaa
