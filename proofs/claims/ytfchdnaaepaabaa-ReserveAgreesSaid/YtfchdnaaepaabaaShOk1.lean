/- The program's numbers of weights and heights keep their contracts. -/
import Derived.Test.YtfchdnaaepaabaaShCon
import Derived.Deep.DeepCutAuto
set_option linter.unusedVariables false
set_option linter.unusedSimpArgs false
namespace Go.Proofs.Ytfchdnaaepaabaa
open Go.RowKit
theorem mkI_in {n : Nat} (h : n ≤ 80) : mkI (n : Int) = (wt n : Int) - 1 := by
  unfold mkI
  rw [if_pos ⟨by omega, by omega⟩, Int.toNat_natCast]
theorem wt_80 {n : Nat} (h : n ≤ 80) : wt n < 1000000000000 := Nat.lt_of_le_of_lt (wt_mono h) wt_small
theorem leastAbove_any {j : Nat} (h : wt (j + 1) < 1000000000000) (w : World) : Calls Try.prog 30 #[.int .i64 (wt j : Int)] w fun e w' => e = .returned (.int .i64 (wt (j + 1) : Int)) ∧ w' = w := by
  have h1 := wt_succ j
  have h2 : wrap64 ((wt j : Int) + 3) = (wt j : Int) + 3 := by unfold wrap64; omega
  have h3 : wrap64 ((wt j : Int) + 3 - 1) = (wt j : Int) + 2 := by unfold wrap64; omega
  have h4 : wrap64 ((wt j : Int) + wrap64 (((wt j : Int) + 2).tdiv 3)) = (wt (j + 1) : Int) := by
    rw [Int.tdiv_eq_ediv_of_nonneg (by omega)]
    unfold wrap64
    omega
  have H2 := Lib.hid h2
  have H3 := Lib.hid h3
  have H4 := Lib.hid h4
  clear h1 h2 h3 h4 h
  generalize (wt (j + 1) : Int) = Y at H4 ⊢
  generalize (wt j : Int) = X at H2 H3 H4 ⊢
  go_enter Try.func30, Try.ntmps30
  go_wp2_with fail
  go_ret
  exact ⟨by show Ending.returned (Value.int IntKind.i64 (wrap64 (X + wrap64 ((wrap64 (wrap64 (X + 3) - 1)).tdiv 3)))) = _; rw [H2.out, H3.out, H4.out], rfl⟩
theorem weight_any {n : Int} (h0 : 0 ≤ n) (h1 : n ≤ 2147483647) (w : World) : Calls Try.prog 31 #[.int .i64 n] w fun e w' => e = .returned (.int .i64 (n + 1)) ∧ w' = w := by
  have h2 : wrap64 (n + 1) = n + 1 := by unfold wrap64; omega
  have H2 := Lib.hid h2
  clear h0 h1 h2
  go_enter Try.func31, Try.ntmps31
  go_wp2_with fail
  go_ret
  exact ⟨by show Ending.returned (Value.int IntKind.i64 (wrap64 (n + 1))) = _; rw [H2.out], rfl⟩
theorem isSize_any (n : Int) (w : World) : Calls Try.prog 29 #[.int .i64 n] w fun e w' => e = .returned (.bool (decide (0 ≤ n ∧ n ≤ 2147483647))) ∧ w' = w := by
  by_cases h1 : 0 ≤ n
  · have hd : decide (n ≥ 0) = true := decide_eq_true h1
    have hd2 : decide (0 ≤ n) = true := decide_eq_true h1
    by_cases h2 : n ≤ 2147483647
    · have hd3 : decide (n ≤ 2147483647) = true := decide_eq_true h2
      have HE : Hid (decide (0 ≤ n ∧ n ≤ 2147483647) = true) := decide_eq_true ⟨h1, h2⟩
      clear h1 h2
      go_enter Try.func29, Try.ntmps29
      go_wp2_with fail
      go_ret
      exact ⟨by rw [HE.out]; rfl, rfl⟩
    · have hd3 : decide (n ≤ 2147483647) = false := decide_eq_false h2
      have HE : Hid (decide (0 ≤ n ∧ n ≤ 2147483647) = false) := decide_eq_false (fun h => h2 h.2)
      clear h1 h2
      go_enter Try.func29, Try.ntmps29
      go_wp2_with fail
      go_ret
      exact ⟨by rw [HE.out]; rfl, rfl⟩
  · have hd : decide (n ≥ 0) = false := decide_eq_false h1
    have hd2 : decide (0 ≤ n) = false := decide_eq_false h1
    have HE : Hid (decide (0 ≤ n ∧ n ≤ 2147483647) = false) := decide_eq_false (fun h => h1 h.1)
    clear h1
    go_enter Try.func29, Try.ntmps29
    go_wp2_with fail
    go_ret
    exact ⟨by rw [HE.out]; rfl, rfl⟩
set_option maxHeartbeats 1000000 in
set_option maxRecDepth 100000 in
theorem maxHeight_any (n : Int) (w : World) (h0 : -9223372036854775808 ≤ n) (h1 : n ≤ 9223372036854775807) : Calls Try.prog 27 #[.int .i64 n] w (Calm w (.int .i64 (xhI n))) := by
  by_cases hr : 0 ≤ n ∧ n ≤ 2147483647
  · obtain ⟨m, rfl⟩ := Int.eq_ofNat_of_zero_le hr.1
    have hm : m ≤ 2147483647 := by omega
    have HM := Lib.hid hm
    have HD : Hid (decide (0 ≤ (m : Int) ∧ (m : Int) ≤ 2147483647) = true) := decide_eq_true hr
    have HX : Hid (xhI (m : Int) = (xh m : Int)) := by
      show xhI (m : Int) = _
      unfold xhI
      rw [if_pos hr, Int.toNat_natCast]
    clear hr h0 h1 hm
    go_enter Try.func27, Try.ntmps27
    go_wp2_with fail
    refine (isSize_any (m : Int) w).mono ?_
    rintro e w1 ⟨rfl, rfl⟩
    rw [HD.out]
    go_wp2_with fail
    refine (leastAbove_any (j := 0) (by decide) w1).mono ?_
    rintro e w2 ⟨rfl, rfl⟩
    go_wp2_with fail
    go_loopw [3, 4] (fun x y wr => ∃ j : Nat, x = .int .i64 (j : Int) ∧ y = .int .i64 (wt (j + 1) : Int) ∧ j < 80 ∧ wt j - 1 ≤ m ∧ wr = w2) (fun x _ _ => 80 - (intOf x).toNat)
    case atStart => exact ⟨0, rfl, rfl, by omega, by unfold wt; omega, rfl⟩
    case round =>
      obtain ⟨j, rfl, rfl, hj, hwj, rfl⟩ := hrel
      have HJ : Hid (j < 80 ∧ wt j - 1 ≤ m) := ⟨hj, hwj⟩
      have hwp := wt_pos (j + 1)
      obtain ⟨V, hV⟩ : ∃ V, wt (j + 1) = V := ⟨_, rfl⟩
      have HV := Lib.hid hV
      have HM1 : Hid ((0 : Int) ≤ (m : Int) ∧ (m : Int) ≤ 2147483647) := ⟨by omega, by have := HM.out; omega⟩
      rw [hV]
      by_cases hle : V ≤ m + 1
      · have hj1 : j + 1 < 80 := by
          rcases Nat.lt_or_ge (j + 1) 80 with h | h
          · exact h
          · have h1 := wt_mono h
            have h2 := wt_big
            have h3 := HM.out
            omega
        have hw82 := wt_80 (show j + 1 + 1 ≤ 80 by omega)
        have hlei : decide ((V : Int) ≤ (m : Int) + 1) = true := decide_eq_true (by omega)
        have hleN : decide (V ≤ m + 1) = true := decide_eq_true hle
        have hw1 : IntKind.i64.wrap ((j : Int) + 1) = (j : Int) + 1 := by rw [IntKind.wrap_i64]; omega
        have HN : Hid (∃ k : Nat, ((j : Int) + 1 : Int) = (k : Int) ∧ (wt (j + 1 + 1) : Int) = (wt (k + 1) : Int) ∧ k < 80 ∧ wt k - 1 ≤ m) := ⟨j + 1, by omega, rfl, hj1, by omega⟩
        have HLA : Hid (∀ w : World, Calls Try.prog 30 #[.int .i64 (V : Int)] w fun e w' => e = .returned (.int .i64 (wt (j + 1 + 1) : Int)) ∧ w' = w) := fun w => by
          rw [← hV]; exact leastAbove_any hw82 w
        have HLE : Hid (V ≤ m + 1) := hle
        clear hj hwj hwp hV hj1 hw82 hle
        generalize wt (j + 1 + 1) = U at HN HLA
        go_wp2_with fail
        refine (weight_any HM1.out.1 HM1.out.2 wr).mono ?_
        rintro e w3 ⟨rfl, rfl⟩
        go_wp2_with fail
        refine (HLA.out w3).mono ?_
        rintro e w4 ⟨rfl, rfl⟩
        go_wp2_with fail
        obtain ⟨k, h1, h2, h3, h4⟩ := HN.out
        exact ⟨⟨k, by rw [h1], by rw [h2], h3, h4, trivial⟩, by have := HJ.out; simp [intOf]; omega⟩
      · have hlei : decide ((V : Int) ≤ (m : Int) + 1) = false := decide_eq_false (by omega)
        have hleN : decide (V ≤ m + 1) = false := decide_eq_false hle
        have hleM : ¬ V ≤ m + 1 := hle
        have HE : Hid (xhI (m : Int) = (j : Int)) := by
          show xhI (m : Int) = _
          rw [HX.out, xh_of HM.out HJ.out.2 (by omega)]
        clear hj hwj hwp hV hle
        go_wp2_with fail
        refine (weight_any HM1.out.1 HM1.out.2 wr).mono ?_
        rintro e w3 ⟨rfl, rfl⟩
        go_wp2_with fail
        go_ret
        exact ⟨by rw [HE.out]; rfl, Below.refl _ _⟩
  · have HE : Hid (xhI n = -1) := if_neg hr
    have HD : Hid (decide (0 ≤ n ∧ n ≤ 2147483647) = false) := decide_eq_false hr
    clear hr h0 h1
    go_enter Try.func27, Try.ntmps27
    go_wp2_with fail
    refine (isSize_any n w).mono ?_
    rintro e w1 ⟨rfl, rfl⟩
    rw [HD.out]
    go_wp2_with fail
    go_ret
    exact ⟨by rw [HE.out]; rfl, Below.refl _ _⟩
end Go.Proofs.Ytfchdnaaepaabaa
