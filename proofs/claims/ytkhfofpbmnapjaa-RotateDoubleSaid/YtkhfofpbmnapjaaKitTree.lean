/- The kit's pivot, Plant and Grow: a tree of given entries in an arena, over contracts. -/
import Derived.Test.YtkhfofpbmnapjaaRefNum
import Derived.Deep.DeepCutAuto
import Derived.Test.YtkhfofpbmnapjaaWf
import Derived.Test.YtkhfofpbmnapjaaArenaCon
import Derived.Deep.RegionHeld3
import Derived.OwnWalk
set_option linter.unusedVariables false
set_option linter.unusedSimpArgs false
namespace Go.Proofs.Ytkhfofpbmnapjaa
open Go.RowKit
theorem least_any (n : Nat) (w : World) (hn : n ≤ 2147483647) : Calls Try.prog 63 #[.int .i64 (n : Int)] w fun e w' => e = .returned (.int .i64 ((n / 4 : Nat) : Int)) ∧ w = w' := by
  have hm : max (0 : Int) (n : Int) = (n : Int) := by omega
  have hq : (n : Int).tdiv 4 = ((n / 4 : Nat) : Int) := by rw [Int.tdiv_eq_ediv_of_nonneg (by omega)]; omega
  have hw : wrap64 ((n : Int).tdiv 4) = ((n / 4 : Nat) : Int) := by rw [hq]; unfold wrap64; omega
  have hni : (n : Int) ≤ 2147483647 := by omega
  have hn0 : (0 : Int) ≤ (n : Int) := by omega
  have HW := Lib.hid hw
  clear hq hw
  go_enter Try.func63, Try.ntmps63
  go_wp2_with fail
  all_goals
    go_ret
    exact ⟨by first | rfl | (simp; omega), rfl⟩
theorem bal_between {lo n p : Int} (h : bal lo (n - 1 - lo) = true) (h1 : lo ≤ p) (h2 : p ≤ n - 1 - lo) (hn : n ≤ 2147483647) : bal p (n - 1 - p) = true := by
  unfold bal at h ⊢
  have := of_decide_eq_true h
  exact decide_eq_true (by omega)
set_option maxHeartbeats 2000000 in
set_option maxRecDepth 100000 in
theorem pivot_any (n : Nat) (tilt : Int) (w : World) (h1 : 1 ≤ n) (hn : n ≤ 2147483647) (ht0 : 0 ≤ tilt) (ht1 : tilt < 18446744073709551616) :
    Calls Try.prog 53 #[.int .i64 (n : Int), .int .u64 tilt] w fun e w' => (∃ p : Nat, e = .returned (.int .i64 (p : Int)) ∧ p < n ∧ bal (p : Int) ((n : Int) - 1 - (p : Int)) = true) ∧ w = w' := by
  have hni : (n : Int) ≤ 2147483647 := by omega
  have hn1 : (1 : Int) ≤ (n : Int) := by omega
  have HN : Hid (1 ≤ n ∧ n ≤ 2147483647) := ⟨h1, hn⟩
  have HT : Hid (0 ≤ tilt ∧ tilt < 18446744073709551616) := ⟨ht0, ht1⟩
  have hw1 : IntKind.i64.wrap ((n : Int) - 1) = (n : Int) - 1 := by rw [IntKind.wrap_i64]; omega
  have HW1 := Lib.hid hw1
  clear h1 hn ht0 ht1 hw1
  go_enter Try.func53, Try.ntmps53
  go_wp2_with fail
  refine (least_any n w HN.out.2).mono ?_
  rintro e w7 ⟨rfl, rfl⟩
  go_wp2_with fail
  go_loopw [5] (fun x wr => ∃ lo : Nat, x = .int .i64 (lo : Int) ∧ 2 * lo ≤ n - 1 ∧ w = wr) (fun x _ => (intOf x).toNat)
  case atStart => exact ⟨n / 4, rfl, by have := HN.out; omega, rfl⟩
  case round =>
    obtain ⟨lo, rfl, hlo, rfl⟩ := hrel
    have HLO := Lib.hid hlo
    by_cases h0 : lo = 0
    · have hlt1 : decide ((0 : Int) < (lo : Int)) = false := decide_eq_false (by omega)
      have hlt0 : ¬ (0 : Int) < (lo : Int) := by omega
      clear hlo h0
      go_wp2_with fail
      go_loopw [5] (fun x wr => ∃ lo : Nat, x = .int .i64 (lo : Int) ∧ 2 * lo ≤ n - 1 ∧ w = wr) (fun x _ => n - (intOf x).toNat)
      case atStart => exact ⟨lo, rfl, HLO.out, rfl⟩
      case round =>
        clear HLO
        obtain ⟨lo, rfl, hlo, rfl⟩ := hrel
        have HLO := Lib.hid hlo
        have hw1 := HW1.out
        by_cases hl : lo < n - 1
        · obtain ⟨li, hli⟩ : ∃ Y : Int, (lo : Int) = Y := ⟨_, rfl⟩
          have HLI := Lib.hid hli
          rw [hli]
          have hw2 : IntKind.i64.wrap ((n : Int) - 1 - li) = (n : Int) - 1 - li := by rw [IntKind.wrap_i64]; omega
          have hlt1 : decide (li < (n : Int) - 1) = true := decide_eq_true (by omega)
          have HL2 : Hid (lo < n - 1) := hl
          clear hli hl hlo
          go_wp2_with fail
          refine (refBalanced_any li ((n : Int) - 1 - li) w (by have := HLI.out; omega) (by have := HLI.out; have := HLO.out; have := HN.out; omega) (by have := HLI.out; have := HLO.out; have := HN.out; omega) (by have := HLI.out; have := HLO.out; have := HN.out; omega)).mono ?_
          rintro e w8 ⟨rfl, h8⟩
          have h9 := h8.symm
          clear h8
          subst h9
          cases hb : bal li ((n : Int) - 1 - li)
          · have hw5 : IntKind.i64.wrap (li + 1) = li + 1 := by have := HLI.out; have := HLO.out; have := HN.out; rw [IntKind.wrap_i64]; omega
            have HST : Hid (2 * (lo + 1) ≤ n - 1) := by
              show 2 * (lo + 1) ≤ n - 1
              have h3 := HLI.out; have h4 := HLO.out; have h5 := HN.out
              unfold bal at hb
              have h6 := of_decide_eq_false hb
              omega
            clear hb
            go_wp2_with fail
            exact ⟨⟨lo + 1, by have := HLI.out; congr 1; omega, HST.out, by first | rfl | trivial⟩, by have := HLI.out; have := HL2.out; simp [intOf]; omega⟩
          · have HBL : Hid (bal (lo : Int) ((n : Int) - 1 - (lo : Int)) = true) := by
              show bal (lo : Int) ((n : Int) - 1 - (lo : Int)) = true
              rw [HLI.out]; exact hb
            rw [← HLI.out] at hw2 hlt1 ⊢
            clear hb hw2 hlt1 HLI HL2
            obtain ⟨li, hli⟩ : ∃ Y : Int, (lo : Int) = Y := ⟨_, rfl⟩
            rw [hli] at HBL ⊢
            try (rw [hli] at hlt1 hlt0)
            have HLI := Lib.hid hli
            have hh1 : 2 * li ≤ (n : Int) - 1 := by have := HLO.out; have := HN.out; omega
            have hl0 : 0 ≤ li := by omega
            have hw2 : IntKind.i64.wrap ((n : Int) - 1 - li) = (n : Int) - 1 - li := by rw [IntKind.wrap_i64]; omega
            have hw3 : IntKind.i64.wrap ((n : Int) - 1 - li - li) = (n : Int) - 1 - li - li := by rw [IntKind.wrap_i64]; omega
            have hw4 : IntKind.i64.wrap ((n : Int) - 1 - li - li + 1) = (n : Int) - 1 - li - li + 1 := by rw [IntKind.wrap_i64]; omega
            have hw5 : IntKind.u64.wrap ((n : Int) - 1 - li - li + 1) = (n : Int) - 1 - li - li + 1 := by rw [IntKind.wrap_u64]; omega
            have hlt2 : decide ((n : Int) - 1 - li < li) = false := decide_eq_false (by omega)
            have hlt3 : ¬ (n : Int) - 1 - li < li := by omega
            have hw1 := HW1.out
            have k1 := Int.emod_nonneg tilt (b := (n : Int) - 1 - li - li + 1) (by omega)
            have k2 := Int.emod_lt_of_pos tilt (b := (n : Int) - 1 - li - li + 1) (by omega)
            have hmt : tilt.tmod ((n : Int) - 1 - li - li + 1) = tilt % ((n : Int) - 1 - li - li + 1) := Int.tmod_eq_emod_of_nonneg HT.out.1
            have hdne : ¬ (n : Int) - 1 - li - li + 1 = 0 := by omega
            have hd0 : (0 : Int) < (n : Int) - 1 - li - li + 1 := by omega
            generalize hD : (n : Int) - 1 - li - li + 1 = D at hw4 hw5 k1 k2 hmt hdne hd0
            have HD := Lib.hid hD
            have HK2 := Lib.hid (And.intro k1 k2)
            have HMT := Lib.hid hmt
            have hw6 : IntKind.i64.wrap (tilt.tmod D) = tilt % D := by rw [hmt, IntKind.wrap_i64]; omega
            have hw7 : IntKind.i64.wrap (li + tilt % D) = li + tilt % D := by rw [IntKind.wrap_i64]; omega
            have hw8 : IntKind.i64.wrap (tilt % D) = tilt % D := by rw [IntKind.wrap_i64]; omega
            have hw9 : IntKind.u64.wrap (tilt % D) = tilt % D := by rw [IntKind.wrap_u64]; omega
            have hh2 : li < 4294967296 := by omega
            clear hli hh1 k1 k2 hD
            go_wp2_with fail
            go_ret
            refine ⟨⟨(li + tilt % D).toNat, ?_, ?_, ?_⟩, rfl⟩
            · have h3 := HK2.out
              rw [show (((li + tilt % D).toNat : Nat) : Int) = li + tilt % D by omega]
              refine congrArg (fun x => Ending.returned (Value.int .i64 x)) ?_
              have h4 := HD.out; have h5 := HLI.out; have h6 := HN.out
              rw [HD.out, HMT.out]
              unfold wrap64
              omega
            · have h3 := HK2.out; have h4 := HD.out; have h5 := HLI.out; omega
            · have h3 := HK2.out; have h4 := HD.out; have h5 := HLI.out; have h6 := HN.out
              rw [show (((li + tilt % D).toNat : Nat) : Int) = li + tilt % D by omega]
              exact bal_between HBL.out (by omega) (by omega) (by omega)
        · have HBL : Hid (bal (lo : Int) ((n : Int) - 1 - (lo : Int)) = true) := by
            show bal (lo : Int) ((n : Int) - 1 - (lo : Int)) = true
            have h3 := HN.out
            exact decide_eq_true (by omega)
          have hlt1 : decide ((lo : Int) < (n : Int) - 1) = false := decide_eq_false (by omega)
          have hlt0 : ¬ (lo : Int) < (n : Int) - 1 := by omega
          clear hl hlo
          obtain ⟨li, hli⟩ : ∃ Y : Int, (lo : Int) = Y := ⟨_, rfl⟩
          rw [hli] at HBL ⊢
          try (rw [hli] at hlt1 hlt0)
          have HLI := Lib.hid hli
          have hh1 : 2 * li ≤ (n : Int) - 1 := by have := HLO.out; have := HN.out; omega
          have hl0 : 0 ≤ li := by omega
          have hw2 : IntKind.i64.wrap ((n : Int) - 1 - li) = (n : Int) - 1 - li := by rw [IntKind.wrap_i64]; omega
          have hw3 : IntKind.i64.wrap ((n : Int) - 1 - li - li) = (n : Int) - 1 - li - li := by rw [IntKind.wrap_i64]; omega
          have hw4 : IntKind.i64.wrap ((n : Int) - 1 - li - li + 1) = (n : Int) - 1 - li - li + 1 := by rw [IntKind.wrap_i64]; omega
          have hw5 : IntKind.u64.wrap ((n : Int) - 1 - li - li + 1) = (n : Int) - 1 - li - li + 1 := by rw [IntKind.wrap_u64]; omega
          have hlt2 : decide ((n : Int) - 1 - li < li) = false := decide_eq_false (by omega)
          have hlt3 : ¬ (n : Int) - 1 - li < li := by omega
          have hw1 := HW1.out
          have k1 := Int.emod_nonneg tilt (b := (n : Int) - 1 - li - li + 1) (by omega)
          have k2 := Int.emod_lt_of_pos tilt (b := (n : Int) - 1 - li - li + 1) (by omega)
          have hmt : tilt.tmod ((n : Int) - 1 - li - li + 1) = tilt % ((n : Int) - 1 - li - li + 1) := Int.tmod_eq_emod_of_nonneg HT.out.1
          have hdne : ¬ (n : Int) - 1 - li - li + 1 = 0 := by omega
          have hd0 : (0 : Int) < (n : Int) - 1 - li - li + 1 := by omega
          generalize hD : (n : Int) - 1 - li - li + 1 = D at hw4 hw5 k1 k2 hmt hdne hd0
          have HD := Lib.hid hD
          have HK2 := Lib.hid (And.intro k1 k2)
          have HMT := Lib.hid hmt
          have hw6 : IntKind.i64.wrap (tilt.tmod D) = tilt % D := by rw [hmt, IntKind.wrap_i64]; omega
          have hw7 : IntKind.i64.wrap (li + tilt % D) = li + tilt % D := by rw [IntKind.wrap_i64]; omega
          have hw8 : IntKind.i64.wrap (tilt % D) = tilt % D := by rw [IntKind.wrap_i64]; omega
          have hw9 : IntKind.u64.wrap (tilt % D) = tilt % D := by rw [IntKind.wrap_u64]; omega
          have hh2 : li < 4294967296 := by omega
          clear hli hh1 k1 k2 hD
          go_wp2_with fail
          go_ret
          refine ⟨⟨(li + tilt % D).toNat, ?_, ?_, ?_⟩, rfl⟩
          · have h3 := HK2.out
            rw [show (((li + tilt % D).toNat : Nat) : Int) = li + tilt % D by omega]
            refine congrArg (fun x => Ending.returned (Value.int .i64 x)) ?_
            have h4 := HD.out; have h5 := HLI.out; have h6 := HN.out
            rw [HD.out, HMT.out]
            unfold wrap64
            omega
          · have h3 := HK2.out; have h4 := HD.out; have h5 := HLI.out; omega
          · have h3 := HK2.out; have h4 := HD.out; have h5 := HLI.out; have h6 := HN.out
            rw [show (((li + tilt % D).toNat : Nat) : Int) = li + tilt % D by omega]
            exact bal_between HBL.out (by omega) (by omega) (by omega)
    · obtain ⟨li, hli⟩ : ∃ Y : Int, (lo : Int) = Y := ⟨_, rfl⟩
      have HLI := Lib.hid hli
      rw [hli]
      have hw2 : IntKind.i64.wrap (li - 1) = li - 1 := by have := HN.out; rw [IntKind.wrap_i64]; omega
      have hw3 : IntKind.i64.wrap ((n : Int) - li) = (n : Int) - li := by have := HN.out; rw [IntKind.wrap_i64]; omega
      have hlt1 : decide ((0 : Int) < li) = true := decide_eq_true (by omega)
      have HL0 : Hid (lo ≠ 0) := h0
      clear hli hlo h0
      go_wp2_with fail
      refine (refBalanced_any (li - 1) ((n : Int) - li) w (by have := HLI.out; omega) (by have := HLI.out; have := HLO.out; have := HN.out; omega) (by have := HLI.out; have := HLO.out; have := HN.out; omega) (by have := HLI.out; have := HLO.out; have := HN.out; omega)).mono ?_
      rintro e w8 ⟨rfl, h8⟩
      have h9 := h8.symm
      clear h8
      subst h9
      cases hb : bal (li - 1) ((n : Int) - li)
      · clear hb hw2 hw3 hlt1
        rw [← HLI.out]
        clear HLI
        go_wp2_with fail
        go_loopw [5] (fun x wr => ∃ lo : Nat, x = .int .i64 (lo : Int) ∧ 2 * lo ≤ n - 1 ∧ w = wr) (fun x _ => n - (intOf x).toNat)
        case atStart => exact ⟨lo, rfl, HLO.out, rfl⟩
        case round =>
          clear HLO
          obtain ⟨lo, rfl, hlo, rfl⟩ := hrel
          have HLO := Lib.hid hlo
          have hw1 := HW1.out
          by_cases hl : lo < n - 1
          · obtain ⟨li, hli⟩ : ∃ Y : Int, (lo : Int) = Y := ⟨_, rfl⟩
            have HLI := Lib.hid hli
            rw [hli]
            have hw2 : IntKind.i64.wrap ((n : Int) - 1 - li) = (n : Int) - 1 - li := by rw [IntKind.wrap_i64]; omega
            have hlt1 : decide (li < (n : Int) - 1) = true := decide_eq_true (by omega)
            have HL2 : Hid (lo < n - 1) := hl
            clear hli hl hlo
            go_wp2_with fail
            refine (refBalanced_any li ((n : Int) - 1 - li) w (by have := HLI.out; omega) (by have := HLI.out; have := HLO.out; have := HN.out; omega) (by have := HLI.out; have := HLO.out; have := HN.out; omega) (by have := HLI.out; have := HLO.out; have := HN.out; omega)).mono ?_
            rintro e w8 ⟨rfl, h8⟩
            have h9 := h8.symm
            clear h8
            subst h9
            cases hb : bal li ((n : Int) - 1 - li)
            · have hw5 : IntKind.i64.wrap (li + 1) = li + 1 := by have := HLI.out; have := HLO.out; have := HN.out; rw [IntKind.wrap_i64]; omega
              have HST : Hid (2 * (lo + 1) ≤ n - 1) := by
                show 2 * (lo + 1) ≤ n - 1
                have h3 := HLI.out; have h4 := HLO.out; have h5 := HN.out
                unfold bal at hb
                have h6 := of_decide_eq_false hb
                omega
              clear hb
              go_wp2_with fail
              exact ⟨⟨lo + 1, by have := HLI.out; congr 1; omega, HST.out, by first | rfl | trivial⟩, by have := HLI.out; have := HL2.out; simp [intOf]; omega⟩
            · have HBL : Hid (bal (lo : Int) ((n : Int) - 1 - (lo : Int)) = true) := by
                show bal (lo : Int) ((n : Int) - 1 - (lo : Int)) = true
                rw [HLI.out]; exact hb
              rw [← HLI.out] at hw2 hlt1 ⊢
              clear hb hw2 hlt1 HLI HL2
              obtain ⟨li, hli⟩ : ∃ Y : Int, (lo : Int) = Y := ⟨_, rfl⟩
              rw [hli] at HBL ⊢
              try (rw [hli] at hlt1 hlt0)
              have HLI := Lib.hid hli
              have hh1 : 2 * li ≤ (n : Int) - 1 := by have := HLO.out; have := HN.out; omega
              have hl0 : 0 ≤ li := by omega
              have hw2 : IntKind.i64.wrap ((n : Int) - 1 - li) = (n : Int) - 1 - li := by rw [IntKind.wrap_i64]; omega
              have hw3 : IntKind.i64.wrap ((n : Int) - 1 - li - li) = (n : Int) - 1 - li - li := by rw [IntKind.wrap_i64]; omega
              have hw4 : IntKind.i64.wrap ((n : Int) - 1 - li - li + 1) = (n : Int) - 1 - li - li + 1 := by rw [IntKind.wrap_i64]; omega
              have hw5 : IntKind.u64.wrap ((n : Int) - 1 - li - li + 1) = (n : Int) - 1 - li - li + 1 := by rw [IntKind.wrap_u64]; omega
              have hlt2 : decide ((n : Int) - 1 - li < li) = false := decide_eq_false (by omega)
              have hlt3 : ¬ (n : Int) - 1 - li < li := by omega
              have hw1 := HW1.out
              have k1 := Int.emod_nonneg tilt (b := (n : Int) - 1 - li - li + 1) (by omega)
              have k2 := Int.emod_lt_of_pos tilt (b := (n : Int) - 1 - li - li + 1) (by omega)
              have hmt : tilt.tmod ((n : Int) - 1 - li - li + 1) = tilt % ((n : Int) - 1 - li - li + 1) := Int.tmod_eq_emod_of_nonneg HT.out.1
              have hdne : ¬ (n : Int) - 1 - li - li + 1 = 0 := by omega
              have hd0 : (0 : Int) < (n : Int) - 1 - li - li + 1 := by omega
              generalize hD : (n : Int) - 1 - li - li + 1 = D at hw4 hw5 k1 k2 hmt hdne hd0
              have HD := Lib.hid hD
              have HK2 := Lib.hid (And.intro k1 k2)
              have HMT := Lib.hid hmt
              have hw6 : IntKind.i64.wrap (tilt.tmod D) = tilt % D := by rw [hmt, IntKind.wrap_i64]; omega
              have hw7 : IntKind.i64.wrap (li + tilt % D) = li + tilt % D := by rw [IntKind.wrap_i64]; omega
              have hw8 : IntKind.i64.wrap (tilt % D) = tilt % D := by rw [IntKind.wrap_i64]; omega
              have hw9 : IntKind.u64.wrap (tilt % D) = tilt % D := by rw [IntKind.wrap_u64]; omega
              have hh2 : li < 4294967296 := by omega
              clear hli hh1 k1 k2 hD
              go_wp2_with fail
              go_ret
              refine ⟨⟨(li + tilt % D).toNat, ?_, ?_, ?_⟩, rfl⟩
              · have h3 := HK2.out
                rw [show (((li + tilt % D).toNat : Nat) : Int) = li + tilt % D by omega]
                refine congrArg (fun x => Ending.returned (Value.int .i64 x)) ?_
                have h4 := HD.out; have h5 := HLI.out; have h6 := HN.out
                rw [HD.out, HMT.out]
                unfold wrap64
                omega
              · have h3 := HK2.out; have h4 := HD.out; have h5 := HLI.out; omega
              · have h3 := HK2.out; have h4 := HD.out; have h5 := HLI.out; have h6 := HN.out
                rw [show (((li + tilt % D).toNat : Nat) : Int) = li + tilt % D by omega]
                exact bal_between HBL.out (by omega) (by omega) (by omega)
          · have HBL : Hid (bal (lo : Int) ((n : Int) - 1 - (lo : Int)) = true) := by
              show bal (lo : Int) ((n : Int) - 1 - (lo : Int)) = true
              have h3 := HN.out
              exact decide_eq_true (by omega)
            have hlt1 : decide ((lo : Int) < (n : Int) - 1) = false := decide_eq_false (by omega)
            have hlt0 : ¬ (lo : Int) < (n : Int) - 1 := by omega
            clear hl hlo
            obtain ⟨li, hli⟩ : ∃ Y : Int, (lo : Int) = Y := ⟨_, rfl⟩
            rw [hli] at HBL ⊢
            try (rw [hli] at hlt1 hlt0)
            have HLI := Lib.hid hli
            have hh1 : 2 * li ≤ (n : Int) - 1 := by have := HLO.out; have := HN.out; omega
            have hl0 : 0 ≤ li := by omega
            have hw2 : IntKind.i64.wrap ((n : Int) - 1 - li) = (n : Int) - 1 - li := by rw [IntKind.wrap_i64]; omega
            have hw3 : IntKind.i64.wrap ((n : Int) - 1 - li - li) = (n : Int) - 1 - li - li := by rw [IntKind.wrap_i64]; omega
            have hw4 : IntKind.i64.wrap ((n : Int) - 1 - li - li + 1) = (n : Int) - 1 - li - li + 1 := by rw [IntKind.wrap_i64]; omega
            have hw5 : IntKind.u64.wrap ((n : Int) - 1 - li - li + 1) = (n : Int) - 1 - li - li + 1 := by rw [IntKind.wrap_u64]; omega
            have hlt2 : decide ((n : Int) - 1 - li < li) = false := decide_eq_false (by omega)
            have hlt3 : ¬ (n : Int) - 1 - li < li := by omega
            have hw1 := HW1.out
            have k1 := Int.emod_nonneg tilt (b := (n : Int) - 1 - li - li + 1) (by omega)
            have k2 := Int.emod_lt_of_pos tilt (b := (n : Int) - 1 - li - li + 1) (by omega)
            have hmt : tilt.tmod ((n : Int) - 1 - li - li + 1) = tilt % ((n : Int) - 1 - li - li + 1) := Int.tmod_eq_emod_of_nonneg HT.out.1
            have hdne : ¬ (n : Int) - 1 - li - li + 1 = 0 := by omega
            have hd0 : (0 : Int) < (n : Int) - 1 - li - li + 1 := by omega
            generalize hD : (n : Int) - 1 - li - li + 1 = D at hw4 hw5 k1 k2 hmt hdne hd0
            have HD := Lib.hid hD
            have HK2 := Lib.hid (And.intro k1 k2)
            have HMT := Lib.hid hmt
            have hw6 : IntKind.i64.wrap (tilt.tmod D) = tilt % D := by rw [hmt, IntKind.wrap_i64]; omega
            have hw7 : IntKind.i64.wrap (li + tilt % D) = li + tilt % D := by rw [IntKind.wrap_i64]; omega
            have hw8 : IntKind.i64.wrap (tilt % D) = tilt % D := by rw [IntKind.wrap_i64]; omega
            have hw9 : IntKind.u64.wrap (tilt % D) = tilt % D := by rw [IntKind.wrap_u64]; omega
            have hh2 : li < 4294967296 := by omega
            clear hli hh1 k1 k2 hD
            go_wp2_with fail
            go_ret
            refine ⟨⟨(li + tilt % D).toNat, ?_, ?_, ?_⟩, rfl⟩
            · have h3 := HK2.out
              rw [show (((li + tilt % D).toNat : Nat) : Int) = li + tilt % D by omega]
              refine congrArg (fun x => Ending.returned (Value.int .i64 x)) ?_
              have h4 := HD.out; have h5 := HLI.out; have h6 := HN.out
              rw [HD.out, HMT.out]
              unfold wrap64
              omega
            · have h3 := HK2.out; have h4 := HD.out; have h5 := HLI.out; omega
            · have h3 := HK2.out; have h4 := HD.out; have h5 := HLI.out; have h6 := HN.out
              rw [show (((li + tilt % D).toNat : Nat) : Int) = li + tilt % D by omega]
              exact bal_between HBL.out (by omega) (by omega) (by omega)
      · clear hb
        go_wp2_with fail
        exact ⟨⟨lo - 1, by have := HLI.out; have := HL0.out; congr 1; omega, by have := HLO.out; omega, by first | rfl | trivial⟩, by have := HLI.out; have := HL0.out; simp [intOf]; omega⟩
end Go.Proofs.Ytkhfofpbmnapjaa
set_option linter.unusedVariables false
set_option linter.unusedSimpArgs false
namespace Go.Proofs.Ytkhfofpbmnapjaa
open Go.RowKit
section
variable {F F' F'' G : Nat → Prop} {w w' w'' : World} {B : Nat}
theorem EnsAt.alters {a : Option Addr} {l : List En} (h : EnsAt w a l) (ha : Alters F F' w w') (hF : ∀ b off, a = some ⟨b, off, none⟩ → ¬ F b) : EnsAt w' a l := by
  refine ⟨fun j e he => ?_, h.wf⟩
  obtain ⟨b, off, hab, hlt, h1, h2⟩ := h.cell j e he
  have hb := ha.block b hlt (hF b off hab)
  exact ⟨b, off, hab, Nat.lt_of_lt_of_le hlt ha.size, by rw [← h1]; exact World.cell?_of_block (a := ⟨b, off + j * 2, none⟩) hb, by rw [← h2]; exact World.cell?_of_block (a := ⟨b, off + j * 2 + 1, none⟩) hb⟩
theorem EnsAt.two {b off k : Nat} {key val : Int} {l : List En} (h : EnsAt w (some ⟨b, off, none⟩) l) (he : l[k]? = some ⟨key, val⟩) : w.cell? ⟨b, off + k * 2, none⟩ = some (.int .i64 key) ∧ w.cell? ⟨b, off + k * 2 + 1, none⟩ = some (.int .i64 val) := by
  obtain ⟨b', off', hab, hlt, h1, h2⟩ := h.cell k ⟨key, val⟩ he
  simp at hab
  obtain ⟨rfl, rfl⟩ := hab
  exact ⟨h1, h2⟩
theorem EnsAt.take {a : Option Addr} {l : List En} (h : EnsAt w a l) (p : Nat) : EnsAt w a (l.take p) :=
  ⟨fun j e he => h.cell j e (by rw [List.getElem?_take] at he; split at he; exact he; cases he), fun e he => h.wf e (List.mem_of_mem_take he)⟩
theorem EnsAt.drop {b off : Nat} {l : List En} (h : EnsAt w (some ⟨b, off, none⟩) l) (p : Nat) : EnsAt w (some ⟨b, off + p * 2, none⟩) (l.drop p) :=
  ⟨fun j e he => by
    rw [List.getElem?_drop] at he
    obtain ⟨b', off', hab, hlt, h1, h2⟩ := h.cell (p + j) e he
    simp at hab
    obtain ⟨rfl, rfl⟩ := hab
    refine ⟨_, _, rfl, hlt, ?_, ?_⟩
    · rw [show off + p * 2 + j * 2 = off + (p + j) * 2 by omega]; exact h1
    · rw [show off + p * 2 + j * 2 + 1 = off + (p + j) * 2 + 1 by omega]; exact h2, fun e he => h.wf e (List.mem_of_mem_drop he)⟩
end
def PlantRes (I : AImpl) (A : Ar) (rd : Int) (F : Nat → Prop) (held : Nat → Nat) (l : List En) (p : Value) (w : World) (e : Ending) (w' : World) : Prop :=
  ∃ (A' : Ar) (i : Nat) (t : Tr) (F' : Nat → Prop), Planted A held l A' i t ∧ e = .returned (.tuple #[.int .u32 (i : Int), .bool true]) ∧ Alters F F' w w' ∧ I.Is w' p A' rd F'
def PlantSpec (I : AImpl) (n : Nat) : Prop := ∀ (l : List En) (a : Option Addr) (c : Nat) (tilt : Int) (p : Value) (A : Ar) (rd : Int) (F : Nat → Prop) (held : Nat → Nat) (w : World),
  l.length = n → I.Is w p A rd F → A.Inv [] held → A.Agg → (∀ j, held j + 2 * n ≤ 1048576) → n ≤ A.σ.free.length → EnsAt w a l → (n ≠ 0 → ∀ b off, a = some ⟨b, off, none⟩ → ¬ F b) → n ≤ c → c ≤ maxLen → 0 ≤ tilt → tilt < 18446744073709551616 →
  Calls Try.prog 40 #[p, .slice a n c, .int .u64 tilt] w (PlantRes I A rd F held l p w)
theorem u64_in (x : Int) : 0 ≤ IntKind.u64.wrap x ∧ IntKind.u64.wrap x < 18446744073709551616 := by rw [IntKind.wrap_u64]; omega
theorem split_at {l : List En} {k : Nat} {en : En} (h : l[k]? = some en) : l = l.take k ++ en :: l.drop (k + 1) := by
  obtain ⟨hk, he⟩ := List.getElem?_eq_some_iff.1 h
  rw [← he, ← List.drop_eq_getElem_cons hk, List.take_append_drop]
theorem make_call (I : AImpl) {p : Value} {A : Ar} {rd : Int} {F : Nat → Prop} {key val : Int} {il ir i : Nat} {fr : List Nat} {held : Nat → Nat} {w : World} (hI : I.Is w p A rd F) (hv : A.Inv [] held) (ha : A.Agg) (hh : ∀ j, held j ≤ 1048576) (hk : i64R key ∧ i64R val) (hl : A.Idx il) (hr : A.Idx ir) (hs : (A.node key val il ir).size ≤ 2147483647) (hf : A.σ.free = i :: fr) :
    Calls Try.prog 25 #[p, .int .i64 key, .int .i64 val, .int .u32 (il : Int), .int .u32 (ir : Int)] w fun e w' => e = .returned (.tuple #[.int .u32 (i : Int), .int .i64 0]) ∧ ∃ F', Alters F F' w w' ∧ I.Is w' p (A.made i fr (A.node key val il ir)) rd F' := by
  have h4 : ∀ x, A.Idx x → x < 4294967296 := fun x hx => by
    rcases hx with h | h
    · omega
    · have := hv.ok.on x h; have := hv.ok.cap2; omega
  refine (I.make p A rd F key val il ir held w hI hv ha hh hk.1.1 hk.1.2 hk.2.1 hk.2.2 (h4 il hl) (h4 ir hr)).mono ?_
  rintro e w1 ⟨F', hal, _, _, h6⟩
  obtain ⟨rfl, h7⟩ := h6 ⟨hl, hr, hs⟩ i fr hf
  exact ⟨rfl, F', hal, h7⟩
theorem release_call (I : AImpl) {p : Value} {A : Ar} {rd : Int} {F : Nat → Prop} {i : Nat} {held : Nat → Nat} {w : World} (hI : I.Is w p A rd F) (hok : A.σ.Ok) (hv : A.Idx i → A.Inv [i] held) (hi : A.Idx i) :
    Calls Try.prog 47 #[p, .int .u32 (i : Int)] w fun e w' => (∃ m : Nat, e = .returned (.tuple #[.int .i64 (m : Int), .int .i64 0])) ∧ ∃ F', Alters F F' w w' ∧ I.Is w' p (A.gone i) rd F' := by
  have h4 : i < 4294967296 := by
    rcases hi with h | h
    · omega
    · have := hok.on i h; have := hok.cap2; omega
  refine (I.release p A rd F i held w hI h4 hv).mono ?_
  rintro e w1 ⟨F', hal, _, h6⟩
  obtain ⟨rfl, h7⟩ := h6 hi
  exact ⟨⟨_, rfl⟩, F', hal, h7⟩
set_option maxHeartbeats 8000000 in
set_option maxRecDepth 100000 in
theorem plant_step (I : AImpl) (n : Nat) (ih : ∀ m, m < n → PlantSpec I m) : PlantSpec I n := by
  intro l a c tilt p A rd F held w hn hI hInv hAg hh hf hE hd hc hcm ht0 ht1
  obtain ⟨pa, rfl⟩ := I.ptr hI
  have HIH := Lib.hid ih
  have HI := Lib.hid hI
  have HINV := Lib.hid hInv
  have HAG := Lib.hid hAg
  have HH := Lib.hid hh
  have HF := Lib.hid hf
  have HE := Lib.hid hE
  have HD := Lib.hid hd
  have HN := Lib.hid hn
  have hcap := hInv.ok.len
  have hcap2 := hInv.ok.cap2
  have hn6 : n ≤ 65536 := by omega
  have HC : Hid (n ≤ c ∧ c ≤ maxLen ∧ n ≤ 65536) := ⟨hc, hcm, hn6⟩
  have HT : Hid (0 ≤ tilt ∧ tilt < 18446744073709551616) := ⟨ht0, ht1⟩
  clear ih hI hInv hAg hh hf hE hd hn hcap hcap2
  by_cases h0 : n = 0
  · subst h0
    have hl : l = [] := List.eq_nil_of_length_eq_zero HN.out
    have HP : Hid (PlantRes I A rd F held l (.pointer (some pa)) w (.returned (.tuple #[.int .u32 ((0 : Nat) : Int), .bool true])) w) := ⟨A, 0, .nil, F, by rw [hl]; exact .nil HINV.out HAG.out, rfl, .refl w F, HI.out⟩
    clear hl HIH hc hcm hn6 ht0 ht1
    go_enter Try.func40, Try.ntmps40
    go_wp2_with fail
    go_ret2
    exact HP.out
  · have hne : ((n : Int) == 0) = false := by simp; exact h0
    have hni : (n : Int) ≤ 65536 := by omega
    have hn1 : (1 : Int) ≤ (n : Int) := by omega
    have hn0 : 1 ≤ n := by omega
    have HN0 := Lib.hid hn0
    have hci : (n : Int) ≤ (c : Int) := by omega
    have hcx : (c : Int) ≤ 9223372036854775807 := by unfold maxLen at hcm; omega
    obtain ⟨b, off, rfl⟩ : ∃ b off, a = some ⟨b, off, none⟩ := by
      obtain ⟨b, off, h1, _⟩ := HE.out.cell 0 (l[0]'(by have := HN.out; omega)) (List.getElem?_eq_getElem _)
      exact ⟨b, off, h1⟩
    have hFb := HD.out h0 b off rfl
    have HFB := Lib.hid hFb
    have hwc : IntKind.i64.wrap (n : Int) = (n : Int) := by rw [IntKind.wrap_i64]; omega
    clear h0 hn0 hc hcm hn6 hFb HD hwc
    go_enter Try.func40, Try.ntmps40
    go_wp2_with fail
    refine (pivot_any n tilt w HN0.out (by have := HC.out; omega) HT.out.1 HT.out.2).mono ?_
    rintro e w1 ⟨⟨k, rfl, hk, hbal⟩, rfl⟩
    have HK := Lib.hid hk
    have HBAL := Lib.hid hbal
    have hki : (k : Int) < (n : Int) := by omega
    have hk0 : (0 : Int) ≤ (k : Int) := by omega
    have hkw : IntKind.i64.wrap ((k : Int) + 1) = ((k + 1 : Nat) : Int) := by rw [IntKind.wrap_i64]; omega
    have hk1 : ((k + 1 : Nat) : Int) ≤ (n : Int) := by omega
    have hkt : (((k + 1 : Nat) : Int)).toNat = k + 1 := Int.toNat_natCast _
    have hk10 : (0 : Int) ≤ (k : Int) + 1 := by omega
    clear hk hbal
    go_wp2_with fail
    have hlk : (l.take k).length = k := by rw [List.length_take]; have := HN.out; have := HK.out; omega
    refine (HIH.out k HK.out (l.take k) _ c _ _ A rd F held w hlk HI.out HINV.out HAG.out (fun j => by have := HH.out j; have := HK.out; omega) (by have := HF.out; have := HK.out; omega) (HE.out.take k) (fun _ b' off' h => by simp at h; rw [← h.1]; exact HFB.out) (by have := HC.out; have := HK.out; omega) HC.out.2.1 (u64_in _).1 (u64_in _).2).mono ?_
    rintro e w2 ⟨A1, il, tl, F1, hP1, rfl, hal1, hI1⟩
    have HP1 := Lib.hid hP1
    have HAL1 := Lib.hid hal1
    have HI1 := Lib.hid hI1
    clear hP1 hal1 hI1 hlk ht0 ht1
    have hE2 := HE.out.alters HAL1.out (fun b' off' h => by simp at h; rw [← h.1]; exact HFB.out)
    have HE2 := Lib.hid hE2
    have hFB1 : ∀ k, k < w.heap.size → k = b → k < w2.heap.size ∧ ¬ F1 k := fun k hk e => HAL1.out.apart (G := fun j => j = b ∧ j < w.heap.size) (fun j hj => ⟨hj.2, by rw [hj.1]; exact HFB.out⟩) k ⟨e, hk⟩
    have hlb : b < w.heap.size := by
      obtain ⟨b', off', h1, h2, _⟩ := HE.out.cell 0 (l[0]'(by have := HN.out; have := HN0.out; omega)) (List.getElem?_eq_getElem _)
      simp at h1
      rw [h1.1]; exact h2
    have HFB1 := Lib.hid (hFB1 b hlb rfl)
    have hld : (l.drop (k + 1)).length = n - (k + 1) := by rw [List.length_drop]; have := HN.out; omega
    have HLD := Lib.hid hld
    clear hE2 hFB1 hlb hld
    go_wp2_with fail
    all_goals (
      refine (HIH.out (n - (k + 1)) (by have := HN0.out; omega) (l.drop (k + 1)) _ _ _ _ A1 rd F1 (pls held il) w2 HLD.out HI1.out HP1.out.inv HP1.out.agg (fun j => by rw [pls_at]; have := HH.out j; have := HK.out; split <;> omega) (by have h1 := HP1.out.free; have h2 := HF.out; have h3 := HK.out; rw [List.length_take, HN.out] at h1; omega) ?_ (fun _ b' off' h => by cases h; exact HFB1.out.2) (by have := HC.out; omega) (by have := HC.out; unfold maxLen at *; omega) (u64_in _).1 (u64_in _).2).mono ?_
      first
        | exact HE2.out.drop (k + 1)
        | (have e : l.drop (k + 1) = [] := List.eq_nil_of_length_eq_zero (by have := HC.out; have := HLD.out; omega); rw [e]; exact EnsAt.nil _ _)
      rintro e w3 ⟨A2, ir, tr, F2, hP2, rfl, hal2, hI2⟩
      have HP2 := Lib.hid hP2
      have HAL2 := Lib.hid hal2
      have HI2 := Lib.hid hI2
      clear hP2 hal2 hI2
      obtain ⟨fr0, hfr0⟩ : ∃ x, A2.σ.free = x := ⟨_, rfl⟩
      cases fr0 with
      | nil => exact absurd (congrArg List.length hfr0) (by have h1 := HP2.out.free; have h2 := HP1.out.free; have h3 := HF.out; have h4 := HLD.out; have h5 := HK.out; rw [List.length_take, HN.out] at h2; simp only [List.length_nil]; omega)
      | cons i fr =>
        have HFR := Lib.hid hfr0
        clear hfr0
        have hE3 := HE2.out.alters HAL2.out (fun b' off' h => by simp at h; rw [← h.1]; exact HFB1.out.2)
        have hkl : k < l.length := by have := HN.out; have := HK.out; omega
        obtain ⟨en, hen⟩ : ∃ en, l[k]? = some en := ⟨_, List.getElem?_eq_getElem hkl⟩
        have hspl := split_at hen
        obtain ⟨b', off', hbb, hbl, c0, c1⟩ := hE3.cell k en hen
        simp only [Option.some.injEq, Addr.mk.injEq, and_true] at hbb
        obtain ⟨rfl, rfl⟩ := hbb
        have hwf := hE3.wf en (List.mem_of_getElem? hen)
        have HE3 := Lib.hid hE3
        have HKL := Lib.hid hkl
        have HSPL := Lib.hid hspl
        have HWF := Lib.hid hwf
        have HEN := Lib.hid hen
        have hF2b := (HAL2.out.apart (G := fun j => j = b) (fun j hj => by rw [hj]; exact HFB1.out) b rfl)
        have HF2B := Lib.hid hF2b
        have hlt := HLD.out
        have hb2 : bal ((l.take k).length : Int) ((l.drop (k + 1)).length : Int) = true := by
          rw [HLD.out, List.length_take, HN.out, Nat.min_eq_left (Nat.le_of_lt HK.out)]
          have := HBAL.out
          rw [show ((n - (k + 1) : Nat) : Int) = (n : Int) - 1 - (k : Int) by have := HK.out; omega]
          exact this
        have hnode := Planted.node (e := en) HP1.out HP2.out HFR.out rfl hb2 (by rw [HLD.out, List.length_take, HN.out]; have := HC.out; omega)
        have HNODE := Lib.hid hnode
        have hsl := HP1.out.sub.kept HP2.out.kept
        have hov := over_ok rfl HP2.out.inv HP2.out.agg HFR.out hsl.idx HP2.out.sub.idx hnode.2
        have HOV := Lib.hid hov
        have HIL : Hid (A2.Idx il ∧ A2.Idx ir) := ⟨hsl.idx, HP2.out.sub.idx⟩
        clear hE3 hkl hen hspl hwf hF2b hlt hb2 hnode hsl hov
        obtain ⟨key, val⟩ := en
        have hH : ∀ j, pls (pls held il) ir j ≤ 1048576 := fun j => by rw [pls_at, pls_at]; have := HH.out j; have := HN0.out; split <;> split <;> omega
        have HHH := Lib.hid hH
        clear hH
        go_upto_region 10 with fail
        go_cut [13, 14] (fun s13 s14 wx => s13 = .int .u32 (i : Int) ∧ s14 = .int .i64 0 ∧ ∃ F3, Alters F2 F3 w3 wx ∧ I.Is wx (.pointer (some pa)) (A2.made i fr (A2.node key val il ir)) rd F3)
        case first =>
          go_region_held3 (fun w' => w'.cell? ⟨b, off + k * 2, none⟩ = some (.int .i64 key) ∧ w'.cell? ⟨b, off + k * 2 + 1, none⟩ = some (.int .i64 val)) (go_keep) ((go_at_call 25; refine (make_call I (I.below HI2.out (Below.refl _ _).drew) HP2.out.inv HP2.out.agg HHH.out HWF.out HIL.out.1 HIL.out.2 HNODE.out.2 HFR.out).mono ?_; rintro e wx ⟨rfl, F3, hal3, hI3⟩; have t1x := (EnsAt.alters (HE3.out.below (Below.refl _ _).drew) hal3 (fun b' off' h => by simp at h; rw [← h.1]; exact HF2B.out.2)).two HEN.out; obtain ⟨t1, t2⟩ := t1x))
          all_goals (go_wp2_with fail; go_meet; exact ⟨rfl, rfl, F3, (Alters.of_below (Below.refl _ _).drew).trans hal3, hI3⟩)
        case' rest =>
          rename World => w4
          obtain ⟨rfl, rfl, F3, hal3, hI3⟩ := hcut
          obtain ⟨o1, o2, o3, o4, o5, o6, o7, o8, o9, o10⟩ := HOV.out
          have HOK4 := Lib.hid (o7 o8).ok
          have HOK5 := Lib.hid (o9 o10).ok
          have HO7 := Lib.hid o7
          have HO8 := Lib.hid o8
          have HO9 := Lib.hid o9
          have HO10 := Lib.hid o10
          have HI3 := Lib.hid hI3
          have HA3 : Hid (Alters F F3 w w4) := (HAL1.out.trans HAL2.out).trans hal3
          have hi0 : ((i : Int) == 0) = false := by simp; exact o6
          have HI2 : Hid (((i : Int) != 0) = true) := by
            show ((i : Int) != 0) = true
            simp; exact o6
          clear o1 o2 o3 o4 o5 o6 o7 o8 o9 o10 hal3 hI3 c0 c1
          go_wp2_with fail
          refine (release_call I HI3.out HOK4.out HO7.out HO8.out).mono ?_
          rintro e w5 ⟨⟨m, rfl⟩, F4, hal4, hI4⟩
          have HI4 := Lib.hid hI4
          have HA4 : Hid (Alters F F4 w w5) := HA3.out.trans hal4
          clear hal4 hI4
          go_wp2_with fail
          refine (release_call I HI4.out HOK5.out HO9.out HO10.out).mono ?_
          rintro e w6 ⟨⟨m', rfl⟩, F5, hal5, hI5⟩
          have HR : Hid (PlantRes I A rd F held l (.pointer (some pa)) w (.returned (.tuple #[.int .u32 (i : Int), .bool ((i : Int) != 0)])) w6) := ⟨_, i, _, F5, (by rw [HSPL.out]; exact HNODE.out.1), (by rw [HI2.out]), HA4.out.trans hal5, hI5⟩
          clear hal5 hI5
          go_wp2_with fail
          go_ret2
          exact HR.out)
theorem plant_any (I : AImpl) (n : Nat) : PlantSpec I n := Nat.strongRecOn n fun n ih => plant_step I n ih
end Go.Proofs.Ytkhfofpbmnapjaa
set_option linter.unusedVariables false
set_option linter.unusedSimpArgs false
namespace Go.Proofs.Ytkhfofpbmnapjaa
open Go.RowKit
structure Grown (I : AImpl) (m : Nat) (l : List En) (w : World) (p : Value) (A : Ar) (i : Nat) (t : Tr) (F : Nat → Prop) (w' : World) : Prop where
  planted : Planted (Ar.init m) (fun _ => 0) l A i t
  is : I.Is w' p A 0 F
  foot : ∀ k, F k → w.heap.size ≤ k
  below : Below w.heap.size w w'
def GrowRes (I : AImpl) (m : Nat) (l : List En) (w : World) (e : Ending) (w' : World) : Prop :=
  ∃ (p : Value) (A : Ar) (i : Nat) (t : Tr) (F : Nat → Prop), e = .returned (.tuple #[p, .int .u32 (i : Int), .bool true]) ∧ Grown I m l w p A i t F w'
set_option maxHeartbeats 2000000 in
set_option maxRecDepth 100000 in
theorem grow_any (I : AImpl) {l : List En} {a : Option Addr} {n c sp m : Nat} {tilt : Int} {w : World} (hE : EnsAt w a l) (hn : l.length = n) (hc : n ≤ c) (hcm : c ≤ maxLen) (hm : n + sp = m) (h1 : 1 ≤ m) (h2 : m ≤ 65536) (ht0 : 0 ≤ tilt) (ht1 : tilt < 18446744073709551616) :
    Calls Try.prog 21 #[.slice a n c, .int .u64 tilt, .int .i64 (sp : Int)] w (GrowRes I m l w) := by
  have hw : IntKind.i64.wrap ((n : Int) + (sp : Int)) = (m : Int) := by rw [IntKind.wrap_i64]; omega
  have HW := Lib.hid hw
  have HE := Lib.hid hE
  have HN := Lib.hid hn
  have HT : Hid (0 ≤ tilt ∧ tilt < 18446744073709551616) := ⟨ht0, ht1⟩
  have HM : Hid (1 ≤ m ∧ m ≤ 65536 ∧ n ≤ m ∧ n ≤ c ∧ c ≤ maxLen ∧ n + sp = m) := ⟨h1, h2, by omega, hc, hcm, hm⟩
  have hni : (n : Int) ≤ 65536 := by omega
  have hsi : (sp : Int) ≤ 65536 := by omega
  clear hw hE hn hc hcm hm h1 h2 ht0 ht1
  go_enter Try.func21, Try.ntmps21
  go_wp2_with fail
  rw [show (n : Int) + (sp : Int) = (m : Int) by have := HM.out; omega]
  refine (I.new_ok m w HM.out.1 HM.out.2.1).mono ?_
  rintro e w1 ⟨p, F, rfl, hI, hF, hb1⟩
  obtain ⟨pa, rfl⟩ := I.ptr hI
  have HI := Lib.hid hI
  have HF := Lib.hid hF
  have HB1 := Lib.hid hb1
  have HE1 : Hid (EnsAt w1 a l) := HE.out.below hb1
  have HFB : Hid (∀ b off, a = some ⟨b, off, none⟩ → n ≠ 0 → ¬ F b) := fun b off e h0 hFb => by
    obtain ⟨b', off', h1, h2, _⟩ := HE.out.cell 0 (l[0]'(by have := HN.out; omega)) (List.getElem?_eq_getElem _)
    rw [e] at h1
    simp at h1
    have := HF.out b hFb
    omega
  clear hI hF hb1
  go_wp2_with fail
  refine (plant_any I n l a c tilt (.pointer (some pa)) (Ar.init m) 0 F (fun _ => 0) w1 HN.out HI.out (Ar.init_inv HM.out.1 HM.out.2.1) (Ar.init_agg m) (fun j => by have := HM.out; show 0 + _ ≤ _; omega) (by have := HM.out; show n ≤ (St.init m).free.length; simp [St.init]; omega) HE1.out (fun h0 b off e => HFB.out b off e h0) HM.out.2.2.2.1 HM.out.2.2.2.2.1 HT.out.1 HT.out.2).mono ?_
  rintro e w2 ⟨A, i, t, F', hP, rfl, hal, hI2⟩
  have HR : Hid (GrowRes I m l w (.returned (.tuple #[.pointer (some pa), .int .u32 (i : Int), .bool true])) w2) := ⟨_, A, i, t, F', rfl, hP, hI2, hal.from HB1.out.size HF.out, hal.below HB1.out HB1.out.size HF.out⟩
  clear hP hal hI2
  go_wp2_with fail
  go_ret3
  exact HR.out
end Go.Proofs.Ytkhfofpbmnapjaa
