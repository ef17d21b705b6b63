/- What is asked of the program's numbers of weights and heights, stated, not proved here; the laws about them alone, over that. -/
import Derived.Test.YticfihklfnjeoaaTrees
import Derived.Test.YticfihklfnjeoaaRefNum
import Derived.Test.YticfihklfnjeoaaKitMod
import Derived.Deep.DeepCutAuto
set_option linter.unusedVariables false
set_option linter.unusedSimpArgs false
namespace Go.Proofs.Yticfihklfnjeoaa
open Go.RowKit
structure ShNum : Prop where
  minKeys : ∀ (h : Int) (w : World), -9223372036854775808 ≤ h → h ≤ 9223372036854775807 → Calls Try.prog 10 #[.int .i64 h] w (Calm w (.int .i64 (mkI h)))
  maxHeight : ∀ (n : Int) (w : World), -9223372036854775808 ≤ n → n ≤ 9223372036854775807 → Calls Try.prog 12 #[.int .i64 n] w (Calm w (.int .i64 (xhI n)))
  balanced : ∀ (l r : Int) (w : World), -9223372036854775808 ≤ l → l ≤ 9223372036854775807 → -9223372036854775808 ≤ r → r ≤ 9223372036854775807 → Calls Try.prog 14 #[.int .i64 l, .int .i64 r] w (Calm w (.bool (bal l r)))
theorem calm_trans {a b c : World} (h : Below a.heap.size a b) (h1 : Below b.heap.size b c) : Below a.heap.size a c := h.trans (h1.mono h.size)
theorem awake7_any (K : ShNum) (w : World) : Calls Try.prog 17 #[] w (Calm w (.bool true)) := by
  have HK := Lib.hid K
  have h1 : mkI 6 = 10 := by decide
  have h2 : xhI 9 = 5 := by decide
  have h3 : bal 0 2 = true := by decide
  have h4 : bal 0 3 = false := by decide
  have H1 := Lib.hid h1
  have H2 := Lib.hid h2
  have H3 := Lib.hid h3
  have H4 := Lib.hid h4
  clear K h1 h2 h3 h4
  go_enter Try.func17, Try.ntmps17
  go_wp2_with fail
  refine (HK.out.minKeys 6 w (by decide) (by decide)).mono ?_
  rintro e w1 ⟨rfl, hb1⟩
  have HB1 := Lib.hid hb1
  rw [H1.out]
  clear hb1
  go_wp2_with fail
  refine (HK.out.maxHeight 9 w1 (by decide) (by decide)).mono ?_
  rintro e w2 ⟨rfl, hb2⟩
  have HB2 := Lib.hid (calm_trans HB1.out hb2)
  rw [H2.out]
  clear hb2
  go_wp2_with fail
  refine (HK.out.balanced 0 2 w2 (by decide) (by decide) (by decide) (by decide)).mono ?_
  rintro e w3 ⟨rfl, hb3⟩
  have HB3 := Lib.hid (calm_trans HB2.out hb3)
  rw [H3.out]
  clear hb3
  go_wp2_with fail
  refine (HK.out.balanced 0 3 w3 (by decide) (by decide) (by decide) (by decide)).mono ?_
  rintro e w4 ⟨rfl, hb4⟩
  have HB4 := Lib.hid (calm_trans HB3.out hb4)
  rw [H4.out]
  clear hb4
  go_wp2_with fail
  go_ret
  exact ⟨rfl, HB4.out⟩
def Tbl (h0 k0 l0 r0 : Value) (w : World) (h k l r i : Value) (wr : World) : Prop :=
  ∃ (a b c d : Int) (j : Nat), h = .int .i64 a ∧ k = .int .i64 b ∧ l = .int .i64 c ∧ r = .int .i64 d ∧ i = .int .i64 (j : Int) ∧ j ≤ 2 ∧ Below w.heap.size w wr ∧
    (-9223372036854775808 ≤ a ∧ a ≤ 9223372036854775807) ∧ (-9223372036854775808 ≤ b ∧ b ≤ 9223372036854775807) ∧ (-9223372036854775808 ≤ c ∧ c ≤ 9223372036854775807) ∧ (-9223372036854775808 ≤ d ∧ d ≤ 9223372036854775807)
set_option maxHeartbeats 2000000 in
set_option maxRecDepth 100000 in
theorem tables_walk (K : ShNum) (a b c d : Int) (w : World) (ha : -9223372036854775808 ≤ a ∧ a ≤ 9223372036854775807) (hb : -9223372036854775808 ≤ b ∧ b ≤ 9223372036854775807) (hc : -9223372036854775808 ≤ c ∧ c ≤ 9223372036854775807) (hd : -9223372036854775808 ≤ d ∧ d ≤ 9223372036854775807) :
    Calls Try.prog 3 #[.int .i64 a, .int .i64 b, .int .i64 c, .int .i64 d] w (Calm w (.bool true)) := by
  have HK := Lib.hid K
  have HT : Hid (Tbl (.int .i64 a) (.int .i64 b) (.int .i64 c) (.int .i64 d) w (.int .i64 a) (.int .i64 b) (.int .i64 c) (.int .i64 d) (.int .i64 0) w) := ⟨a, b, c, d, 0, rfl, rfl, rfl, rfl, rfl, by omega, Below.refl _ _, ha, hb, hc, hd⟩
  clear K ha hb hc hd
  go_enter Try.func3, Try.ntmps3
  go_wp2_with fail
  go_loopw [0, 1, 2, 3, 9] (fun h k l r i wr => Tbl (.int .i64 a) (.int .i64 b) (.int .i64 c) (.int .i64 d) w h k l r i wr) (fun _ _ _ _ i _ => 2 - (intOf i).toNat)
  case atStart => exact HT.out
  case round =>
    clear HT
    obtain ⟨a, b, c, d, j, rfl, rfl, rfl, rfl, rfl, hj, hB, ha, hb, hc, hd⟩ := hrel
    have HB := Lib.hid hB
    have HA := Lib.hid ha
    have HBB := Lib.hid hb
    have HC := Lib.hid hc
    have HD := Lib.hid hd
    by_cases hlt : j < 2
    · have hji : (j : Int) < 2 := by omega
      have HJ : Hid (j < 2) := hlt
      clear ha hb hc hd hB hj hlt
      go_wp2_with fail
      refine (HK.out.minKeys a wr HA.out.1 HA.out.2).mono ?_
      rintro e w1 ⟨rfl, hb1⟩
      have HB1 := Lib.hid (calm_trans HB.out hb1)
      clear hb1
      go_wp2_with fail
      refine (refMinKeys_any a w1 HA.out.1 HA.out.2).mono ?_
      rintro e w2 ⟨rfl, hb1⟩
      have HB2 := Lib.hid (calm_trans HB1.out hb1)
      clear hb1
      generalize mkI a = X
      go_wp2_with fail
      refine (HK.out.maxHeight b w2 HBB.out.1 HBB.out.2).mono ?_
      rintro e w3 ⟨rfl, hb1⟩
      have HB3 := Lib.hid (calm_trans HB2.out hb1)
      clear hb1
      go_wp2_with fail
      refine (refMaxHeight_any b w3 HBB.out.1 HBB.out.2).mono ?_
      rintro e w4 ⟨rfl, hb1⟩
      have HB4 := Lib.hid (calm_trans HB3.out hb1)
      clear hb1
      generalize xhI b = Y
      go_wp2_with fail
      refine (HK.out.balanced c d w4 HC.out.1 HC.out.2 HD.out.1 HD.out.2).mono ?_
      rintro e w5 ⟨rfl, hb1⟩
      have HB5 := Lib.hid (calm_trans HB4.out hb1)
      clear hb1
      go_wp2_with fail
      refine (refBalanced_any c d w5 HC.out.1 HC.out.2 HD.out.1 HD.out.2).mono ?_
      rintro e w6 ⟨rfl, hb1⟩
      subst hb1
      generalize bal c d = Z
      cases Z
      all_goals
        have m1 := Int.emod_nonneg a (b := 84) (by decide)
        have m2 := Int.emod_lt_of_pos a (b := 84) (by decide)
        have m3 := Int.emod_nonneg b (b := 5000) (by decide)
        have m4 := Int.emod_lt_of_pos b (b := 5000) (by decide)
        have m5 := Int.emod_nonneg c (b := 50) (by decide)
        have m6 := Int.emod_lt_of_pos c (b := 50) (by decide)
        have m7 := Int.emod_nonneg d (b := 50) (by decide)
        have m8 := Int.emod_lt_of_pos d (b := 50) (by decide)
        have hw1 : IntKind.i64.wrap (a % 84 - 2) = a % 84 - 2 := by rw [IntKind.wrap_i64]; omega
        have HN : Hid (Tbl (.int .i64 0) (.int .i64 0) (.int .i64 0) (.int .i64 0) w (.int .i64 (a % 84 - 2)) (.int .i64 (b % 5000)) (.int .i64 (c % 50)) (.int .i64 (d % 50)) (.int .i64 ((j : Int) + 1)) w6) := ⟨_, _, _, _, j + 1, rfl, rfl, rfl, rfl, rfl, by have := HJ.out; omega, HB5.out, by omega, by omega, by omega, by omega⟩
        clear m3 m4 m5 m6 m7 m8
        go_wp2_with fail
        refine (mod_any a 84 w6 HA.out.1 HA.out.2 (by decide) (by decide)).mono ?_
        rintro e w7 ⟨rfl, rfl⟩
        generalize a % 84 = A1 at m1 m2 hw1 HN
        go_wp2_with fail
        refine (mod_any b 5000 w6 HBB.out.1 HBB.out.2 (by decide) (by decide)).mono ?_
        rintro e w7 ⟨rfl, rfl⟩
        generalize b % 5000 = B1 at HN
        go_wp2_with fail
        refine (mod_any c 50 w6 HC.out.1 HC.out.2 (by decide) (by decide)).mono ?_
        rintro e w7 ⟨rfl, rfl⟩
        generalize c % 50 = C1 at HN
        go_wp2_with fail
        refine (mod_any d 50 w6 HD.out.1 HD.out.2 (by decide) (by decide)).mono ?_
        rintro e w7 ⟨rfl, rfl⟩
        generalize d % 50 = D1 at HN
        clear m1 m2
        go_wp2_with fail
        exact ⟨HN.out, by have := HJ.out; simp [intOf]; omega⟩
    · obtain rfl : j = 2 := by omega
      clear ha hb hc hd hB hj hlt
      go_wp2_with fail
      refine (awake7_any HK.out wr).mono ?_
      rintro e w1 ⟨rfl, hb1⟩
      have HB1 := Lib.hid (calm_trans HB.out hb1)
      clear hb1
      go_wp2_with fail
      go_ret
      exact ⟨rfl, HB1.out⟩
set_option maxHeartbeats 2000000 in
set_option maxRecDepth 100000 in
theorem heights_walk (K : ShNum) (n : Int) (w : World) (hn : -9223372036854775808 ≤ n ∧ n ≤ 9223372036854775807) :
    Calls Try.prog 4 #[.int .i64 n] w (Calm w (.bool true)) := by
  have HK := Lib.hid K
  have HNN := Lib.hid hn
  have m1 := Int.emod_nonneg n (b := 2147483647) (by decide)
  have m2 := Int.emod_lt_of_pos n (b := 2147483647) (by decide)
  clear K hn
  go_enter Try.func4, Try.ntmps4
  go_wp2_with fail
  refine (mod_any n 2147483647 w HNN.out.1 HNN.out.2 (by decide) (by decide)).mono ?_
  rintro e w7 ⟨rfl, rfl⟩
  obtain ⟨k, hk⟩ := Int.eq_ofNat_of_zero_le m1
  rw [hk] at m2 ⊢
  clear hk m1 HNN
  have hs := xh_spec (show k ≤ 2147483647 by omega)
  have hst := xh_step (show k < 2147483647 by omega)
  have e1 : xhI (k : Int) = (xh k : Int) := by unfold xhI; rw [if_pos (by omega), Int.toNat_natCast]
  have e2 : xhI ((k : Int) + 1) = (xh (k + 1) : Int) := by unfold xhI; rw [if_pos (by omega), show ((k : Int) + 1).toNat = k + 1 by omega]
  have e3 : mkI (xh k : Int) = (wt (xh k) : Int) - 1 := by unfold mkI; rw [if_pos (by omega), Int.toNat_natCast]
  have e4 : mkI ((xh k : Int) + 1) = (wt (xh k + 1) : Int) - 1 := by unfold mkI; rw [if_pos (by omega), show ((xh k : Int) + 1).toNat = xh k + 1 by omega]
  have hp1 := wt_pos (xh k)
  have hp2 := wt_pos (xh k + 1)
  have E1 := Lib.hid e1
  have E2 := Lib.hid e2
  have E3 := Lib.hid e3
  have E4 := Lib.hid e4
  generalize wt (xh k) = W1 at E3 hs hp1
  generalize wt (xh k + 1) = W2 at E4 hs hp2
  generalize xh (k + 1) = H2 at E2 hst
  generalize xh k = H1 at E1 E3 E4 hs hst
  clear e1 e2 e3 e4
  obtain ⟨h1, hh1⟩ : ∃ Y : Int, (H1 : Int) = Y := ⟨_, rfl⟩
  obtain ⟨h2, hh2⟩ : ∃ Y : Int, (H2 : Int) = Y := ⟨_, rfl⟩
  rw [hh1] at E1 E3 E4
  rw [hh2] at E2
  have g1 : decide ((0 : Int) ≤ h1) = true := decide_eq_true (by omega)
  have g2 : decide (h1 < 80) = true := decide_eq_true (by omega)
  have g3 : decide ((W1 : Int) - 1 ≤ (k : Int)) = true := decide_eq_true (by omega)
  have g4 : decide ((k : Int) < (W2 : Int) - 1) = true := decide_eq_true (by omega)
  have g5 : decide (h1 ≤ h2) = true := decide_eq_true (by omega)
  have g6 : decide (h2 ≤ h1 + 1) = true := decide_eq_true (by omega)
  have hw1 : IntKind.i64.wrap (h1 + 1) = h1 + 1 := by rw [IntKind.wrap_i64]; omega
  have hw2 : IntKind.i64.wrap ((k : Int) + 1) = (k : Int) + 1 := by rw [IntKind.wrap_i64]; omega
  have HBD : Hid ((k : Int) < 2147483647 ∧ h1 < 80) := ⟨m2, by omega⟩
  have HH0 : Hid (0 ≤ h1) := (by show 0 ≤ h1; omega)
  clear hs hst hp1 hp2 m2 hh1 hh2
  go_wp2_with fail
  refine (HK.out.maxHeight (k : Int) w (by omega) (by have := HBD.out; omega)).mono ?_
  rintro e w1 ⟨rfl, hb1⟩
  have HB1 := Lib.hid hb1
  rw [E1.out]
  clear hb1
  go_wp2_with fail
  refine (awake7_any HK.out w1).mono ?_
  rintro e w2 ⟨rfl, hb1⟩
  have HB2 := Lib.hid (calm_trans HB1.out hb1)
  clear hb1
  go_wp2_with fail
  refine (HK.out.minKeys h1 w2 (by have := HH0.out; omega) (by have := HBD.out; omega)).mono ?_
  rintro e w3 ⟨rfl, hb1⟩
  have HB3 := Lib.hid (calm_trans HB2.out hb1)
  rw [E3.out]
  clear hb1
  go_wp2_with fail
  refine (HK.out.minKeys (h1 + 1) w3 (by have := HH0.out; omega) (by have := HBD.out; omega)).mono ?_
  rintro e w4 ⟨rfl, hb1⟩
  have HB4 := Lib.hid (calm_trans HB3.out hb1)
  rw [E4.out]
  clear hb1
  go_wp2_with fail
  refine (HK.out.maxHeight ((k : Int) + 1) w4 (by omega) (by have := HBD.out; omega)).mono ?_
  rintro e w5 ⟨rfl, hb1⟩
  have HB5 := Lib.hid (calm_trans HB4.out hb1)
  rw [E2.out]
  clear hb1
  go_wp2_with fail
  refine (HK.out.maxHeight ((k : Int) + 1) w5 (by omega) (by have := HBD.out; omega)).mono ?_
  rintro e w6 ⟨rfl, hb1⟩
  have HB6 := Lib.hid (calm_trans HB5.out hb1)
  rw [E2.out]
  clear hb1
  go_wp2_with fail
  go_ret
  exact ⟨by first | rfl | simp [*], HB6.out⟩
end Go.Proofs.Yticfihklfnjeoaa
