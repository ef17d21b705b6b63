/- Of the proofs of SetopsUnion, SetopsIntersect, SetopsSubtract: KitTree, SlotsAt, RefNode, ArSide, KitMod, KitList, LkCon, Scene, ChkS. -/
import Derived.Test.YtfihklpofmcfgaaGreatA165
import Derived.Deep.DeepCutAuto
import Derived.Deep.RegionHeld3
import Derived.OwnWalk
import Derived.Laws.NewBlocks
set_option linter.unusedVariables false
set_option linter.unusedSimpArgs false
namespace Go.Proofs.YtfihklpofmcfgaaGreat
open Go.RowKit
theorem least_any (n : Nat) (w : World) (hn : n ≤ 2147483647) : Calls Tryz.prog 90 #[.int .i64 (n : Int)] w fun e w' => e = .returned (.int .i64 ((n / 4 : Nat) : Int)) ∧ w = w' := by
  have hm : max (0 : Int) (n : Int) = (n : Int) := by omega
  have hq : (n : Int).tdiv 4 = ((n / 4 : Nat) : Int) := by rw [Int.tdiv_eq_ediv_of_nonneg (by omega)]; omega
  have hw : wrap64 ((n : Int).tdiv 4) = ((n / 4 : Nat) : Int) := by rw [hq]; unfold wrap64; omega
  have hni : (n : Int) ≤ 2147483647 := by omega
  have hn0 : (0 : Int) ≤ (n : Int) := by omega
  have HW := Lib.hid hw
  clear hq hw
  go_enter Tryz.func90, Tryz.ntmps90
  go_wp2_with fail
  all_goals
    go_ret
    exact ⟨by first | rfl | (simp; omega), rfl⟩
theorem bal_between {lo n p : Int} (h : bal lo (n - 1 - lo) = true) (h1 : lo ≤ p) (h2 : p ≤ n - 1 - lo) (hn : n ≤ 2147483647) : bal p (n - 1 - p) = true := by
  unfold bal at h ⊢
  have := of_decide_eq_true h
  exact decide_eq_true (by omega)
set_option maxHeartbeats 2000000 in
set_option maxRecDepth 100000 in
theorem pivot_any (n : Nat) (tilt : Int) (w : World) (h1 : 1 ≤ n) (hn : n ≤ 2147483647) (ht0 : 0 ≤ tilt) (ht1 : tilt < 18446744073709551616) :
    Calls Tryz.prog 64 #[.int .i64 (n : Int), .int .u64 tilt] w fun e w' => (∃ p : Nat, e = .returned (.int .i64 (p : Int)) ∧ p < n ∧ bal (p : Int) ((n : Int) - 1 - (p : Int)) = true) ∧ w = w' := by
  have hni : (n : Int) ≤ 2147483647 := by omega
  have hn1 : (1 : Int) ≤ (n : Int) := by omega
  have HN : Hid (1 ≤ n ∧ n ≤ 2147483647) := ⟨h1, hn⟩
  have HT : Hid (0 ≤ tilt ∧ tilt < 18446744073709551616) := ⟨ht0, ht1⟩
  have hw1 : IntKind.i64.wrap ((n : Int) - 1) = (n : Int) - 1 := by rw [IntKind.wrap_i64]; omega
  have HW1 := Lib.hid hw1
  clear h1 hn ht0 ht1 hw1
  go_enter Tryz.func64, Tryz.ntmps64
  go_wp2_with fail
  refine (least_any n w HN.out.2).mono ?_
  rintro e w7 ⟨rfl, rfl⟩
  go_wp2_with fail
  go_loopw [5] (fun x wr => ∃ lo : Nat, x = .int .i64 (lo : Int) ∧ 2 * lo ≤ n - 1 ∧ w = wr) (fun x _ => (intOf x).toNat)
  case atStart => exact ⟨n / 4, rfl, by have := HN.out; omega, rfl⟩
  case round =>
    obtain ⟨lo, rfl, hlo, rfl⟩ := hrel
    have HLO := Lib.hid hlo
    by_cases h0 : lo = 0
    · have hlt1 : decide ((0 : Int) < (lo : Int)) = false := decide_eq_false (by omega)
      have hlt0 : ¬ (0 : Int) < (lo : Int) := by omega
      clear hlo h0
      go_wp2_with fail
      go_loopw [5] (fun x wr => ∃ lo : Nat, x = .int .i64 (lo : Int) ∧ 2 * lo ≤ n - 1 ∧ w = wr) (fun x _ => n - (intOf x).toNat)
      case atStart => exact ⟨lo, rfl, HLO.out, rfl⟩
      case round =>
        clear HLO
        obtain ⟨lo, rfl, hlo, rfl⟩ := hrel
        have HLO := Lib.hid hlo
        have hw1 := HW1.out
        by_cases hl : lo < n - 1
        · obtain ⟨li, hli⟩ : ∃ Y : Int, (lo : Int) = Y := ⟨_, rfl⟩
          have HLI := Lib.hid hli
          rw [hli]
          have hw2 : IntKind.i64.wrap ((n : Int) - 1 - li) = (n : Int) - 1 - li := by rw [IntKind.wrap_i64]; omega
          have hlt1 : decide (li < (n : Int) - 1) = true := decide_eq_true (by omega)
          have HL2 : Hid (lo < n - 1) := hl
          clear hli hl hlo
          go_wp2_with fail
          refine (refBalanced_any li ((n : Int) - 1 - li) w (by have := HLI.out; omega) (by have := HLI.out; have := HLO.out; have := HN.out; omega) (by have := HLI.out; have := HLO.out; have := HN.out; omega) (by have := HLI.out; have := HLO.out; have := HN.out; omega)).mono ?_
          rintro e w8 ⟨rfl, h8⟩
          have h9 := h8.symm
          clear h8
          subst h9
          cases hb : bal li ((n : Int) - 1 - li)
          · have hw5 : IntKind.i64.wrap (li + 1) = li + 1 := by have := HLI.out; have := HLO.out; have := HN.out; rw [IntKind.wrap_i64]; omega
            have HST : Hid (2 * (lo + 1) ≤ n - 1) := by
              show 2 * (lo + 1) ≤ n - 1
              have h3 := HLI.out; have h4 := HLO.out; have h5 := HN.out
              unfold bal at hb
              have h6 := of_decide_eq_false hb
              omega
            clear hb
            go_wp2_with fail
            exact ⟨⟨lo + 1, by have := HLI.out; congr 1; omega, HST.out, by first | rfl | trivial⟩, by have := HLI.out; have := HL2.out; simp [intOf]; omega⟩
          · have HBL : Hid (bal (lo : Int) ((n : Int) - 1 - (lo : Int)) = true) := by
              show bal (lo : Int) ((n : Int) - 1 - (lo : Int)) = true
              rw [HLI.out]; exact hb
            rw [← HLI.out] at hw2 hlt1 ⊢
            clear hb hw2 hlt1 HLI HL2
            obtain ⟨li, hli⟩ : ∃ Y : Int, (lo : Int) = Y := ⟨_, rfl⟩
            rw [hli] at HBL ⊢
            try (rw [hli] at hlt1 hlt0)
            have HLI := Lib.hid hli
            have hh1 : 2 * li ≤ (n : Int) - 1 := by have := HLO.out; have := HN.out; omega
            have hl0 : 0 ≤ li := by omega
            have hw2 : IntKind.i64.wrap ((n : Int) - 1 - li) = (n : Int) - 1 - li := by rw [IntKind.wrap_i64]; omega
            have hw3 : IntKind.i64.wrap ((n : Int) - 1 - li - li) = (n : Int) - 1 - li - li := by rw [IntKind.wrap_i64]; omega
            have hw4 : IntKind.i64.wrap ((n : Int) - 1 - li - li + 1) = (n : Int) - 1 - li - li + 1 := by rw [IntKind.wrap_i64]; omega
            have hw5 : IntKind.u64.wrap ((n : Int) - 1 - li - li + 1) = (n : Int) - 1 - li - li + 1 := by rw [IntKind.wrap_u64]; omega
            have hlt2 : decide ((n : Int) - 1 - li < li) = false := decide_eq_false (by omega)
            have hlt3 : ¬ (n : Int) - 1 - li < li := by omega
            have hw1 := HW1.out
            have k1 := Int.emod_nonneg tilt (b := (n : Int) - 1 - li - li + 1) (by omega)
            have k2 := Int.emod_lt_of_pos tilt (b := (n : Int) - 1 - li - li + 1) (by omega)
            have hmt : tilt.tmod ((n : Int) - 1 - li - li + 1) = tilt % ((n : Int) - 1 - li - li + 1) := Int.tmod_eq_emod_of_nonneg HT.out.1
            have hdne : ¬ (n : Int) - 1 - li - li + 1 = 0 := by omega
            have hd0 : (0 : Int) < (n : Int) - 1 - li - li + 1 := by omega
            generalize hD : (n : Int) - 1 - li - li + 1 = D at hw4 hw5 k1 k2 hmt hdne hd0
            have HD := Lib.hid hD
            have HK2 := Lib.hid (And.intro k1 k2)
            have HMT := Lib.hid hmt
            have hw6 : IntKind.i64.wrap (tilt.tmod D) = tilt % D := by rw [hmt, IntKind.wrap_i64]; omega
            have hw7 : IntKind.i64.wrap (li + tilt % D) = li + tilt % D := by rw [IntKind.wrap_i64]; omega
            have hw8 : IntKind.i64.wrap (tilt % D) = tilt % D := by rw [IntKind.wrap_i64]; omega
            have hw9 : IntKind.u64.wrap (tilt % D) = tilt % D := by rw [IntKind.wrap_u64]; omega
            have hh2 : li < 4294967296 := by omega
            clear hli hh1 k1 k2 hD
            go_wp2_with fail
            go_ret
            refine ⟨⟨(li + tilt % D).toNat, ?_, ?_, ?_⟩, rfl⟩
            · have h3 := HK2.out
              rw [show (((li + tilt % D).toNat : Nat) : Int) = li + tilt % D by omega]
              refine congrArg (fun x => Ending.returned (Value.int .i64 x)) ?_
              have h4 := HD.out; have h5 := HLI.out; have h6 := HN.out
              rw [HD.out, HMT.out]
              unfold wrap64
              omega
            · have h3 := HK2.out; have h4 := HD.out; have h5 := HLI.out; omega
            · have h3 := HK2.out; have h4 := HD.out; have h5 := HLI.out; have h6 := HN.out
              rw [show (((li + tilt % D).toNat : Nat) : Int) = li + tilt % D by omega]
              exact bal_between HBL.out (by omega) (by omega) (by omega)
        · have HBL : Hid (bal (lo : Int) ((n : Int) - 1 - (lo : Int)) = true) := by
            show bal (lo : Int) ((n : Int) - 1 - (lo : Int)) = true
            have h3 := HN.out
            exact decide_eq_true (by omega)
          have hlt1 : decide ((lo : Int) < (n : Int) - 1) = false := decide_eq_false (by omega)
          have hlt0 : ¬ (lo : Int) < (n : Int) - 1 := by omega
          clear hl hlo
          obtain ⟨li, hli⟩ : ∃ Y : Int, (lo : Int) = Y := ⟨_, rfl⟩
          rw [hli] at HBL ⊢
          try (rw [hli] at hlt1 hlt0)
          have HLI := Lib.hid hli
          have hh1 : 2 * li ≤ (n : Int) - 1 := by have := HLO.out; have := HN.out; omega
          have hl0 : 0 ≤ li := by omega
          have hw2 : IntKind.i64.wrap ((n : Int) - 1 - li) = (n : Int) - 1 - li := by rw [IntKind.wrap_i64]; omega
          have hw3 : IntKind.i64.wrap ((n : Int) - 1 - li - li) = (n : Int) - 1 - li - li := by rw [IntKind.wrap_i64]; omega
          have hw4 : IntKind.i64.wrap ((n : Int) - 1 - li - li + 1) = (n : Int) - 1 - li - li + 1 := by rw [IntKind.wrap_i64]; omega
          have hw5 : IntKind.u64.wrap ((n : Int) - 1 - li - li + 1) = (n : Int) - 1 - li - li + 1 := by rw [IntKind.wrap_u64]; omega
          have hlt2 : decide ((n : Int) - 1 - li < li) = false := decide_eq_false (by omega)
          have hlt3 : ¬ (n : Int) - 1 - li < li := by omega
          have hw1 := HW1.out
          have k1 := Int.emod_nonneg tilt (b := (n : Int) - 1 - li - li + 1) (by omega)
          have k2 := Int.emod_lt_of_pos tilt (b := (n : Int) - 1 - li - li + 1) (by omega)
          have hmt : tilt.tmod ((n : Int) - 1 - li - li + 1) = tilt % ((n : Int) - 1 - li - li + 1) := Int.tmod_eq_emod_of_nonneg HT.out.1
          have hdne : ¬ (n : Int) - 1 - li - li + 1 = 0 := by omega
          have hd0 : (0 : Int) < (n : Int) - 1 - li - li + 1 := by omega
          generalize hD : (n : Int) - 1 - li - li + 1 = D at hw4 hw5 k1 k2 hmt hdne hd0
          have HD := Lib.hid hD
          have HK2 := Lib.hid (And.intro k1 k2)
          have HMT := Lib.hid hmt
          have hw6 : IntKind.i64.wrap (tilt.tmod D) = tilt % D := by rw [hmt, IntKind.wrap_i64]; omega
          have hw7 : IntKind.i64.wrap (li + tilt % D) = li + tilt % D := by rw [IntKind.wrap_i64]; omega
          have hw8 : IntKind.i64.wrap (tilt % D) = tilt % D := by rw [IntKind.wrap_i64]; omega
          have hw9 : IntKind.u64.wrap (tilt % D) = tilt % D := by rw [IntKind.wrap_u64]; omega
          have hh2 : li < 4294967296 := by omega
          clear hli hh1 k1 k2 hD
          go_wp2_with fail
          go_ret
          refine ⟨⟨(li + tilt % D).toNat, ?_, ?_, ?_⟩, rfl⟩
          · have h3 := HK2.out
            rw [show (((li + tilt % D).toNat : Nat) : Int) = li + tilt % D by omega]
            refine congrArg (fun x => Ending.returned (Value.int .i64 x)) ?_
            have h4 := HD.out; have h5 := HLI.out; have h6 := HN.out
            rw [HD.out, HMT.out]
            unfold wrap64
            omega
          · have h3 := HK2.out; have h4 := HD.out; have h5 := HLI.out; omega
          · have h3 := HK2.out; have h4 := HD.out; have h5 := HLI.out; have h6 := HN.out
            rw [show (((li + tilt % D).toNat : Nat) : Int) = li + tilt % D by omega]
            exact bal_between HBL.out (by omega) (by omega) (by omega)
    · obtain ⟨li, hli⟩ : ∃ Y : Int, (lo : Int) = Y := ⟨_, rfl⟩
      have HLI := Lib.hid hli
      rw [hli]
      have hw2 : IntKind.i64.wrap (li - 1) = li - 1 := by have := HN.out; rw [IntKind.wrap_i64]; omega
      have hw3 : IntKind.i64.wrap ((n : Int) - li) = (n : Int) - li := by have := HN.out; rw [IntKind.wrap_i64]; omega
      have hlt1 : decide ((0 : Int) < li) = true := decide_eq_true (by omega)
      have HL0 : Hid (lo ≠ 0) := h0
      clear hli hlo h0
      go_wp2_with fail
      refine (refBalanced_any (li - 1) ((n : Int) - li) w (by have := HLI.out; omega) (by have := HLI.out; have := HLO.out; have := HN.out; omega) (by have := HLI.out; have := HLO.out; have := HN.out; omega) (by have := HLI.out; have := HLO.out; have := HN.out; omega)).mono ?_
      rintro e w8 ⟨rfl, h8⟩
      have h9 := h8.symm
      clear h8
      subst h9
      cases hb : bal (li - 1) ((n : Int) - li)
      · clear hb hw2 hw3 hlt1
        rw [← HLI.out]
        clear HLI
        go_wp2_with fail
        go_loopw [5] (fun x wr => ∃ lo : Nat, x = .int .i64 (lo : Int) ∧ 2 * lo ≤ n - 1 ∧ w = wr) (fun x _ => n - (intOf x).toNat)
        case atStart => exact ⟨lo, rfl, HLO.out, rfl⟩
        case round =>
          clear HLO
          obtain ⟨lo, rfl, hlo, rfl⟩ := hrel
          have HLO := Lib.hid hlo
          have hw1 := HW1.out
          by_cases hl : lo < n - 1
          · obtain ⟨li, hli⟩ : ∃ Y : Int, (lo : Int) = Y := ⟨_, rfl⟩
            have HLI := Lib.hid hli
            rw [hli]
            have hw2 : IntKind.i64.wrap ((n : Int) - 1 - li) = (n : Int) - 1 - li := by rw [IntKind.wrap_i64]; omega
            have hlt1 : decide (li < (n : Int) - 1) = true := decide_eq_true (by omega)
            have HL2 : Hid (lo < n - 1) := hl
            clear hli hl hlo
            go_wp2_with fail
            refine (refBalanced_any li ((n : Int) - 1 - li) w (by have := HLI.out; omega) (by have := HLI.out; have := HLO.out; have := HN.out; omega) (by have := HLI.out; have := HLO.out; have := HN.out; omega) (by have := HLI.out; have := HLO.out; have := HN.out; omega)).mono ?_
            rintro e w8 ⟨rfl, h8⟩
            have h9 := h8.symm
            clear h8
            subst h9
            cases hb : bal li ((n : Int) - 1 - li)
            · have hw5 : IntKind.i64.wrap (li + 1) = li + 1 := by have := HLI.out; have := HLO.out; have := HN.out; rw [IntKind.wrap_i64]; omega
              have HST : Hid (2 * (lo + 1) ≤ n - 1) := by
                show 2 * (lo + 1) ≤ n - 1
                have h3 := HLI.out; have h4 := HLO.out; have h5 := HN.out
                unfold bal at hb
                have h6 := of_decide_eq_false hb
                omega
              clear hb
              go_wp2_with fail
              exact ⟨⟨lo + 1, by have := HLI.out; congr 1; omega, HST.out, by first | rfl | trivial⟩, by have := HLI.out; have := HL2.out; simp [intOf]; omega⟩
            · have HBL : Hid (bal (lo : Int) ((n : Int) - 1 - (lo : Int)) = true) := by
                show bal (lo : Int) ((n : Int) - 1 - (lo : Int)) = true
                rw [HLI.out]; exact hb
              rw [← HLI.out] at hw2 hlt1 ⊢
              clear hb hw2 hlt1 HLI HL2
              obtain ⟨li, hli⟩ : ∃ Y : Int, (lo : Int) = Y := ⟨_, rfl⟩
              rw [hli] at HBL ⊢
              try (rw [hli] at hlt1 hlt0)
              have HLI := Lib.hid hli
              have hh1 : 2 * li ≤ (n : Int) - 1 := by have := HLO.out; have := HN.out; omega
              have hl0 : 0 ≤ li := by omega
              have hw2 : IntKind.i64.wrap ((n : Int) - 1 - li) = (n : Int) - 1 - li := by rw [IntKind.wrap_i64]; omega
              have hw3 : IntKind.i64.wrap ((n : Int) - 1 - li - li) = (n : Int) - 1 - li - li := by rw [IntKind.wrap_i64]; omega
              have hw4 : IntKind.i64.wrap ((n : Int) - 1 - li - li + 1) = (n : Int) - 1 - li - li + 1 := by rw [IntKind.wrap_i64]; omega
              have hw5 : IntKind.u64.wrap ((n : Int) - 1 - li - li + 1) = (n : Int) - 1 - li - li + 1 := by rw [IntKind.wrap_u64]; omega
              have hlt2 : decide ((n : Int) - 1 - li < li) = false := decide_eq_false (by omega)
              have hlt3 : ¬ (n : Int) - 1 - li < li := by omega
              have hw1 := HW1.out
              have k1 := Int.emod_nonneg tilt (b := (n : Int) - 1 - li - li + 1) (by omega)
              have k2 := Int.emod_lt_of_pos tilt (b := (n : Int) - 1 - li - li + 1) (by omega)
              have hmt : tilt.tmod ((n : Int) - 1 - li - li + 1) = tilt % ((n : Int) - 1 - li - li + 1) := Int.tmod_eq_emod_of_nonneg HT.out.1
              have hdne : ¬ (n : Int) - 1 - li - li + 1 = 0 := by omega
              have hd0 : (0 : Int) < (n : Int) - 1 - li - li + 1 := by omega
              generalize hD : (n : Int) - 1 - li - li + 1 = D at hw4 hw5 k1 k2 hmt hdne hd0
              have HD := Lib.hid hD
              have HK2 := Lib.hid (And.intro k1 k2)
              have HMT := Lib.hid hmt
              have hw6 : IntKind.i64.wrap (tilt.tmod D) = tilt % D := by rw [hmt, IntKind.wrap_i64]; omega
              have hw7 : IntKind.i64.wrap (li + tilt % D) = li + tilt % D := by rw [IntKind.wrap_i64]; omega
              have hw8 : IntKind.i64.wrap (tilt % D) = tilt % D := by rw [IntKind.wrap_i64]; omega
              have hw9 : IntKind.u64.wrap (tilt % D) = tilt % D := by rw [IntKind.wrap_u64]; omega
              have hh2 : li < 4294967296 := by omega
              clear hli hh1 k1 k2 hD
              go_wp2_with fail
              go_ret
              refine ⟨⟨(li + tilt % D).toNat, ?_, ?_, ?_⟩, rfl⟩
              · have h3 := HK2.out
                rw [show (((li + tilt % D).toNat : Nat) : Int) = li + tilt % D by omega]
                refine congrArg (fun x => Ending.returned (Value.int .i64 x)) ?_
                have h4 := HD.out; have h5 := HLI.out; have h6 := HN.out
                rw [HD.out, HMT.out]
                unfold wrap64
                omega
              · have h3 := HK2.out; have h4 := HD.out; have h5 := HLI.out; omega
              · have h3 := HK2.out; have h4 := HD.out; have h5 := HLI.out; have h6 := HN.out
                rw [show (((li + tilt % D).toNat : Nat) : Int) = li + tilt % D by omega]
                exact bal_between HBL.out (by omega) (by omega) (by omega)
          · have HBL : Hid (bal (lo : Int) ((n : Int) - 1 - (lo : Int)) = true) := by
              show bal (lo : Int) ((n : Int) - 1 - (lo : Int)) = true
              have h3 := HN.out
              exact decide_eq_true (by omega)
            have hlt1 : decide ((lo : Int) < (n : Int) - 1) = false := decide_eq_false (by omega)
            have hlt0 : ¬ (lo : Int) < (n : Int) - 1 := by omega
            clear hl hlo
            obtain ⟨li, hli⟩ : ∃ Y : Int, (lo : Int) = Y := ⟨_, rfl⟩
            rw [hli] at HBL ⊢
            try (rw [hli] at hlt1 hlt0)
            have HLI := Lib.hid hli
            have hh1 : 2 * li ≤ (n : Int) - 1 := by have := HLO.out; have := HN.out; omega
            have hl0 : 0 ≤ li := by omega
            have hw2 : IntKind.i64.wrap ((n : Int) - 1 - li) = (n : Int) - 1 - li := by rw [IntKind.wrap_i64]; omega
            have hw3 : IntKind.i64.wrap ((n : Int) - 1 - li - li) = (n : Int) - 1 - li - li := by rw [IntKind.wrap_i64]; omega
            have hw4 : IntKind.i64.wrap ((n : Int) - 1 - li - li + 1) = (n : Int) - 1 - li - li + 1 := by rw [IntKind.wrap_i64]; omega
            have hw5 : IntKind.u64.wrap ((n : Int) - 1 - li - li + 1) = (n : Int) - 1 - li - li + 1 := by rw [IntKind.wrap_u64]; omega
            have hlt2 : decide ((n : Int) - 1 - li < li) = false := decide_eq_false (by omega)
            have hlt3 : ¬ (n : Int) - 1 - li < li := by omega
            have hw1 := HW1.out
            have k1 := Int.emod_nonneg tilt (b := (n : Int) - 1 - li - li + 1) (by omega)
            have k2 := Int.emod_lt_of_pos tilt (b := (n : Int) - 1 - li - li + 1) (by omega)
            have hmt : tilt.tmod ((n : Int) - 1 - li - li + 1) = tilt % ((n : Int) - 1 - li - li + 1) := Int.tmod_eq_emod_of_nonneg HT.out.1
            have hdne : ¬ (n : Int) - 1 - li - li + 1 = 0 := by omega
            have hd0 : (0 : Int) < (n : Int) - 1 - li - li + 1 := by omega
            generalize hD : (n : Int) - 1 - li - li + 1 = D at hw4 hw5 k1 k2 hmt hdne hd0
            have HD := Lib.hid hD
            have HK2 := Lib.hid (And.intro k1 k2)
            have HMT := Lib.hid hmt
            have hw6 : IntKind.i64.wrap (tilt.tmod D) = tilt % D := by rw [hmt, IntKind.wrap_i64]; omega
            have hw7 : IntKind.i64.wrap (li + tilt % D) = li + tilt % D := by rw [IntKind.wrap_i64]; omega
            have hw8 : IntKind.i64.wrap (tilt % D) = tilt % D := by rw [IntKind.wrap_i64]; omega
            have hw9 : IntKind.u64.wrap (tilt % D) = tilt % D := by rw [IntKind.wrap_u64]; omega
            have hh2 : li < 4294967296 := by omega
            clear hli hh1 k1 k2 hD
            go_wp2_with fail
            go_ret
            refine ⟨⟨(li + tilt % D).toNat, ?_, ?_, ?_⟩, rfl⟩
            · have h3 := HK2.out
              rw [show (((li + tilt % D).toNat : Nat) : Int) = li + tilt % D by omega]
              refine congrArg (fun x => Ending.returned (Value.int .i64 x)) ?_
              have h4 := HD.out; have h5 := HLI.out; have h6 := HN.out
              rw [HD.out, HMT.out]
              unfold wrap64
              omega
            · have h3 := HK2.out; have h4 := HD.out; have h5 := HLI.out; omega
            · have h3 := HK2.out; have h4 := HD.out; have h5 := HLI.out; have h6 := HN.out
              rw [show (((li + tilt % D).toNat : Nat) : Int) = li + tilt % D by omega]
              exact bal_between HBL.out (by omega) (by omega) (by omega)
      · clear hb
        go_wp2_with fail
        exact ⟨⟨lo - 1, by have := HLI.out; have := HL0.out; congr 1; omega, by have := HLO.out; omega, by first | rfl | trivial⟩, by have := HLI.out; have := HL0.out; simp [intOf]; omega⟩
section
variable {F F' F'' G : Nat → Prop} {w w' w'' : World} {B : Nat}
theorem EnsAt.alters {a : Option Addr} {l : List En} (h : EnsAt w a l) (ha : Alters F F' w w') (hF : ∀ b off, a = some ⟨b, off, none⟩ → ¬ F b) : EnsAt w' a l := by
  refine ⟨fun j e he => ?_, h.wf⟩
  obtain ⟨b, off, hab, hlt, h1, h2⟩ := h.cell j e he
  have hb := ha.block b hlt (hF b off hab)
  exact ⟨b, off, hab, Nat.lt_of_lt_of_le hlt ha.size, by rw [← h1]; exact World.cell?_of_block (a := ⟨b, off + j * 2, none⟩) hb, by rw [← h2]; exact World.cell?_of_block (a := ⟨b, off + j * 2 + 1, none⟩) hb⟩
theorem EnsAt.two {b off k : Nat} {key val : Int} {l : List En} (h : EnsAt w (some ⟨b, off, none⟩) l) (he : l[k]? = some ⟨key, val⟩) : w.cell? ⟨b, off + k * 2, none⟩ = some (.int .i64 key) ∧ w.cell? ⟨b, off + k * 2 + 1, none⟩ = some (.int .i64 val) := by
  obtain ⟨b', off', hab, hlt, h1, h2⟩ := h.cell k ⟨key, val⟩ he
  simp at hab
  obtain ⟨rfl, rfl⟩ := hab
  exact ⟨h1, h2⟩
theorem EnsAt.take {a : Option Addr} {l : List En} (h : EnsAt w a l) (p : Nat) : EnsAt w a (l.take p) :=
  ⟨fun j e he => h.cell j e (by rw [List.getElem?_take] at he; split at he; exact he; cases he), fun e he => h.wf e (List.mem_of_mem_take he)⟩
theorem EnsAt.drop {b off : Nat} {l : List En} (h : EnsAt w (some ⟨b, off, none⟩) l) (p : Nat) : EnsAt w (some ⟨b, off + p * 2, none⟩) (l.drop p) :=
  ⟨fun j e he => by
    rw [List.getElem?_drop] at he
    obtain ⟨b', off', hab, hlt, h1, h2⟩ := h.cell (p + j) e he
    simp at hab
    obtain ⟨rfl, rfl⟩ := hab
    refine ⟨_, _, rfl, hlt, ?_, ?_⟩
    · rw [show off + p * 2 + j * 2 = off + (p + j) * 2 by omega]; exact h1
    · rw [show off + p * 2 + j * 2 + 1 = off + (p + j) * 2 + 1 by omega]; exact h2, fun e he => h.wf e (List.mem_of_mem_drop he)⟩
end
def PlantRes (I : AImpl) (A : Ar) (rd : Int) (F : Nat → Prop) (held : Nat → Nat) (l : List En) (p : Value) (w : World) (e : Ending) (w' : World) : Prop :=
  ∃ (A' : Ar) (i : Nat) (t : Tr) (F' : Nat → Prop), Planted A held l A' i t ∧ e = .returned (.tuple #[.int .u32 (i : Int), .bool true]) ∧ Alters F F' w w' ∧ I.Is w' p A' rd F'
def PlantSpec (I : AImpl) (n : Nat) : Prop := ∀ (l : List En) (a : Option Addr) (c : Nat) (tilt : Int) (p : Value) (A : Ar) (rd : Int) (F : Nat → Prop) (held : Nat → Nat) (w : World),
  l.length = n → I.Is w p A rd F → A.Inv [] held → A.Agg → (∀ j, held j + 2 * n ≤ 1048576) → n ≤ A.σ.free.length → EnsAt w a l → (n ≠ 0 → ∀ b off, a = some ⟨b, off, none⟩ → ¬ F b) → n ≤ c → c ≤ maxLen → 0 ≤ tilt → tilt < 18446744073709551616 →
  Calls Tryz.prog 36 #[p, .slice a n c, .int .u64 tilt] w (PlantRes I A rd F held l p w)
theorem u64_in (x : Int) : 0 ≤ IntKind.u64.wrap x ∧ IntKind.u64.wrap x < 18446744073709551616 := by rw [IntKind.wrap_u64]; omega
theorem split_at {l : List En} {k : Nat} {en : En} (h : l[k]? = some en) : l = l.take k ++ en :: l.drop (k + 1) := by
  obtain ⟨hk, he⟩ := List.getElem?_eq_some_iff.1 h
  rw [← he, ← List.drop_eq_getElem_cons hk, List.take_append_drop]
theorem make_call (I : AImpl) {p : Value} {A : Ar} {rd : Int} {F : Nat → Prop} {key val : Int} {il ir i : Nat} {fr : List Nat} {held : Nat → Nat} {w : World} (hI : I.Is w p A rd F) (hv : A.Inv [] held) (ha : A.Agg) (hh : ∀ j, held j ≤ 1048576) (hk : i64R key ∧ i64R val) (hl : A.Idx il) (hr : A.Idx ir) (hs : (A.node key val il ir).size ≤ 2147483647) (hf : A.σ.free = i :: fr) :
    Calls Tryz.prog 65 #[p, .int .i64 key, .int .i64 val, .int .u32 (il : Int), .int .u32 (ir : Int)] w fun e w' => e = .returned (.tuple #[.int .u32 (i : Int), .int .i64 0]) ∧ ∃ F', Alters F F' w w' ∧ I.Is w' p (A.made i fr (A.node key val il ir)) rd F' := by
  have h4 : ∀ x, A.Idx x → x < 4294967296 := fun x hx => by
    rcases hx with h | h
    · omega
    · have := hv.ok.on x h; have := hv.ok.cap2; omega
  refine (I.make p A rd F key val il ir held w hI hv ha hh hk.1.1 hk.1.2 hk.2.1 hk.2.2 (h4 il hl) (h4 ir hr)).mono ?_
  rintro e w1 ⟨F', hal, _, _, h6⟩
  obtain ⟨rfl, h7⟩ := h6 ⟨hl, hr, hs⟩ i fr hf
  exact ⟨rfl, F', hal, h7⟩
theorem release_call (I : AImpl) {p : Value} {A : Ar} {rd : Int} {F : Nat → Prop} {i : Nat} {held : Nat → Nat} {w : World} (hI : I.Is w p A rd F) (hok : A.σ.Ok) (hv : A.Idx i → A.Inv [i] held) (hi : A.Idx i) :
    Calls Tryz.prog 14 #[p, .int .u32 (i : Int)] w fun e w' => (∃ m : Nat, e = .returned (.tuple #[.int .i64 (m : Int), .int .i64 0])) ∧ ∃ F', Alters F F' w w' ∧ I.Is w' p (A.gone i) rd F' := by
  have h4 : i < 4294967296 := by
    rcases hi with h | h
    · omega
    · have := hok.on i h; have := hok.cap2; omega
  refine (I.release p A rd F i held w hI h4 hv).mono ?_
  rintro e w1 ⟨F', hal, _, h6⟩
  obtain ⟨rfl, h7⟩ := h6 hi
  exact ⟨⟨_, rfl⟩, F', hal, h7⟩
set_option maxHeartbeats 8000000 in
set_option maxRecDepth 100000 in
theorem plant_step (I : AImpl) (n : Nat) (ih : ∀ m, m < n → PlantSpec I m) : PlantSpec I n := by
  intro l a c tilt p A rd F held w hn hI hInv hAg hh hf hE hd hc hcm ht0 ht1
  obtain ⟨pa, rfl⟩ := I.ptr hI
  have HIH := Lib.hid ih
  have HI := Lib.hid hI
  have HINV := Lib.hid hInv
  have HAG := Lib.hid hAg
  have HH := Lib.hid hh
  have HF := Lib.hid hf
  have HE := Lib.hid hE
  have HD := Lib.hid hd
  have HN := Lib.hid hn
  have hcap := hInv.ok.len
  have hcap2 := hInv.ok.cap2
  have hn6 : n ≤ 65536 := by omega
  have HC : Hid (n ≤ c ∧ c ≤ maxLen ∧ n ≤ 65536) := ⟨hc, hcm, hn6⟩
  have HT : Hid (0 ≤ tilt ∧ tilt < 18446744073709551616) := ⟨ht0, ht1⟩
  clear ih hI hInv hAg hh hf hE hd hn hcap hcap2
  by_cases h0 : n = 0
  · subst h0
    have hl : l = [] := List.eq_nil_of_length_eq_zero HN.out
    have HP : Hid (PlantRes I A rd F held l (.pointer (some pa)) w (.returned (.tuple #[.int .u32 ((0 : Nat) : Int), .bool true])) w) := ⟨A, 0, .nil, F, by rw [hl]; exact .nil HINV.out HAG.out, rfl, .refl w F, HI.out⟩
    clear hl HIH hc hcm hn6 ht0 ht1
    go_enter Tryz.func36, Tryz.ntmps36
    go_wp2_with fail
    go_ret2
    exact HP.out
  · have hne : ((n : Int) == 0) = false := by simp; exact h0
    have hni : (n : Int) ≤ 65536 := by omega
    have hn1 : (1 : Int) ≤ (n : Int) := by omega
    have hn0 : 1 ≤ n := by omega
    have HN0 := Lib.hid hn0
    have hci : (n : Int) ≤ (c : Int) := by omega
    have hcx : (c : Int) ≤ 9223372036854775807 := by unfold maxLen at hcm; omega
    obtain ⟨b, off, rfl⟩ : ∃ b off, a = some ⟨b, off, none⟩ := by
      obtain ⟨b, off, h1, _⟩ := HE.out.cell 0 (l[0]'(by have := HN.out; omega)) (List.getElem?_eq_getElem _)
      exact ⟨b, off, h1⟩
    have hFb := HD.out h0 b off rfl
    have HFB := Lib.hid hFb
    have hwc : IntKind.i64.wrap (n : Int) = (n : Int) := by rw [IntKind.wrap_i64]; omega
    clear h0 hn0 hc hcm hn6 hFb HD hwc
    go_enter Tryz.func36, Tryz.ntmps36
    go_wp2_with fail
    refine (pivot_any n tilt w HN0.out (by have := HC.out; omega) HT.out.1 HT.out.2).mono ?_
    rintro e w1 ⟨⟨k, rfl, hk, hbal⟩, rfl⟩
    have HK := Lib.hid hk
    have HBAL := Lib.hid hbal
    have hki : (k : Int) < (n : Int) := by omega
    have hk0 : (0 : Int) ≤ (k : Int) := by omega
    have hkw : IntKind.i64.wrap ((k : Int) + 1) = ((k + 1 : Nat) : Int) := by rw [IntKind.wrap_i64]; omega
    have hk1 : ((k + 1 : Nat) : Int) ≤ (n : Int) := by omega
    have hkt : (((k + 1 : Nat) : Int)).toNat = k + 1 := Int.toNat_natCast _
    have hk10 : (0 : Int) ≤ (k : Int) + 1 := by omega
    clear hk hbal
    go_wp2_with fail
    have hlk : (l.take k).length = k := by rw [List.length_take]; have := HN.out; have := HK.out; omega
    refine (HIH.out k HK.out (l.take k) _ c _ _ A rd F held w hlk HI.out HINV.out HAG.out (fun j => by have := HH.out j; have := HK.out; omega) (by have := HF.out; have := HK.out; omega) (HE.out.take k) (fun _ b' off' h => by simp at h; rw [← h.1]; exact HFB.out) (by have := HC.out; have := HK.out; omega) HC.out.2.1 (u64_in _).1 (u64_in _).2).mono ?_
    rintro e w2 ⟨A1, il, tl, F1, hP1, rfl, hal1, hI1⟩
    have HP1 := Lib.hid hP1
    have HAL1 := Lib.hid hal1
    have HI1 := Lib.hid hI1
    clear hP1 hal1 hI1 hlk ht0 ht1
    have hE2 := HE.out.alters HAL1.out (fun b' off' h => by simp at h; rw [← h.1]; exact HFB.out)
    have HE2 := Lib.hid hE2
    have hFB1 : ∀ k, k < w.heap.size → k = b → k < w2.heap.size ∧ ¬ F1 k := fun k hk e => HAL1.out.apart (G := fun j => j = b ∧ j < w.heap.size) (fun j hj => ⟨hj.2, by rw [hj.1]; exact HFB.out⟩) k ⟨e, hk⟩
    have hlb : b < w.heap.size := by
      obtain ⟨b', off', h1, h2, _⟩ := HE.out.cell 0 (l[0]'(by have := HN.out; have := HN0.out; omega)) (List.getElem?_eq_getElem _)
      simp at h1
      rw [h1.1]; exact h2
    have HFB1 := Lib.hid (hFB1 b hlb rfl)
    have hld : (l.drop (k + 1)).length = n - (k + 1) := by rw [List.length_drop]; have := HN.out; omega
    have HLD := Lib.hid hld
    clear hE2 hFB1 hlb hld
    go_wp2_with fail
    all_goals (
      refine (HIH.out (n - (k + 1)) (by have := HN0.out; omega) (l.drop (k + 1)) _ _ _ _ A1 rd F1 (pls held il) w2 HLD.out HI1.out HP1.out.inv HP1.out.agg (fun j => by rw [pls_at]; have := HH.out j; have := HK.out; split <;> omega) (by have h1 := HP1.out.free; have h2 := HF.out; have h3 := HK.out; rw [List.length_take, HN.out] at h1; omega) ?_ (fun _ b' off' h => by cases h; exact HFB1.out.2) (by have := HC.out; omega) (by have := HC.out; unfold maxLen at *; omega) (u64_in _).1 (u64_in _).2).mono ?_
      first
        | exact HE2.out.drop (k + 1)
        | (have e : l.drop (k + 1) = [] := List.eq_nil_of_length_eq_zero (by have := HC.out; have := HLD.out; omega); rw [e]; exact EnsAt.nil _ _)
      rintro e w3 ⟨A2, ir, tr, F2, hP2, rfl, hal2, hI2⟩
      have HP2 := Lib.hid hP2
      have HAL2 := Lib.hid hal2
      have HI2 := Lib.hid hI2
      clear hP2 hal2 hI2
      obtain ⟨fr0, hfr0⟩ : ∃ x, A2.σ.free = x := ⟨_, rfl⟩
      cases fr0 with
      | nil => exact absurd (congrArg List.length hfr0) (by have h1 := HP2.out.free; have h2 := HP1.out.free; have h3 := HF.out; have h4 := HLD.out; have h5 := HK.out; rw [List.length_take, HN.out] at h2; simp only [List.length_nil]; omega)
      | cons i fr =>
        have HFR := Lib.hid hfr0
        clear hfr0
        have hE3 := HE2.out.alters HAL2.out (fun b' off' h => by simp at h; rw [← h.1]; exact HFB1.out.2)
        have hkl : k < l.length := by have := HN.out; have := HK.out; omega
        obtain ⟨en, hen⟩ : ∃ en, l[k]? = some en := ⟨_, List.getElem?_eq_getElem hkl⟩
        have hspl := split_at hen
        obtain ⟨b', off', hbb, hbl, c0, c1⟩ := hE3.cell k en hen
        simp only [Option.some.injEq, Addr.mk.injEq, and_true] at hbb
        obtain ⟨rfl, rfl⟩ := hbb
        have hwf := hE3.wf en (List.mem_of_getElem? hen)
        have HE3 := Lib.hid hE3
        have HKL := Lib.hid hkl
        have HSPL := Lib.hid hspl
        have HWF := Lib.hid hwf
        have HEN := Lib.hid hen
        have hF2b := (HAL2.out.apart (G := fun j => j = b) (fun j hj => by rw [hj]; exact HFB1.out) b rfl)
        have HF2B := Lib.hid hF2b
        have hlt := HLD.out
        have hb2 : bal ((l.take k).length : Int) ((l.drop (k + 1)).length : Int) = true := by
          rw [HLD.out, List.length_take, HN.out, Nat.min_eq_left (Nat.le_of_lt HK.out)]
          have := HBAL.out
          rw [show ((n - (k + 1) : Nat) : Int) = (n : Int) - 1 - (k : Int) by have := HK.out; omega]
          exact this
        have hnode := Planted.node (e := en) HP1.out HP2.out HFR.out rfl hb2 (by rw [HLD.out, List.length_take, HN.out]; have := HC.out; omega)
        have HNODE := Lib.hid hnode
        have hsl := HP1.out.sub.kept HP2.out.kept
        have hov := over_ok rfl HP2.out.inv HP2.out.agg HFR.out hsl.idx HP2.out.sub.idx hnode.2
        have HOV := Lib.hid hov
        have HIL : Hid (A2.Idx il ∧ A2.Idx ir) := ⟨hsl.idx, HP2.out.sub.idx⟩
        clear hE3 hkl hen hspl hwf hF2b hlt hb2 hnode hsl hov
        obtain ⟨key, val⟩ := en
        have hH : ∀ j, pls (pls held il) ir j ≤ 1048576 := fun j => by rw [pls_at, pls_at]; have := HH.out j; have := HN0.out; split <;> split <;> omega
        have HHH := Lib.hid hH
        clear hH
        go_upto_region 10 with fail
        go_cut [13, 14] (fun s13 s14 wx => s13 = .int .u32 (i : Int) ∧ s14 = .int .i64 0 ∧ ∃ F3, Alters F2 F3 w3 wx ∧ I.Is wx (.pointer (some pa)) (A2.made i fr (A2.node key val il ir)) rd F3)
        case first =>
          go_region_held3 (fun w' => w'.cell? ⟨b, off + k * 2, none⟩ = some (.int .i64 key) ∧ w'.cell? ⟨b, off + k * 2 + 1, none⟩ = some (.int .i64 val)) (go_keep) ((go_at_call 65; refine (make_call I (I.below HI2.out (Below.refl _ _).drew) HP2.out.inv HP2.out.agg HHH.out HWF.out HIL.out.1 HIL.out.2 HNODE.out.2 HFR.out).mono ?_; rintro e wx ⟨rfl, F3, hal3, hI3⟩; have t1x := (EnsAt.alters (HE3.out.below (Below.refl _ _).drew) hal3 (fun b' off' h => by simp at h; rw [← h.1]; exact HF2B.out.2)).two HEN.out; obtain ⟨t1, t2⟩ := t1x))
          all_goals (go_wp2_with fail; go_meet; exact ⟨rfl, rfl, F3, (Alters.of_below (Below.refl _ _).drew).trans hal3, hI3⟩)
        case' rest =>
          rename World => w4
          obtain ⟨rfl, rfl, F3, hal3, hI3⟩ := hcut
          obtain ⟨o1, o2, o3, o4, o5, o6, o7, o8, o9, o10⟩ := HOV.out
          have HOK4 := Lib.hid (o7 o8).ok
          have HOK5 := Lib.hid (o9 o10).ok
          have HO7 := Lib.hid o7
          have HO8 := Lib.hid o8
          have HO9 := Lib.hid o9
          have HO10 := Lib.hid o10
          have HI3 := Lib.hid hI3
          have HA3 : Hid (Alters F F3 w w4) := (HAL1.out.trans HAL2.out).trans hal3
          have hi0 : ((i : Int) == 0) = false := by simp; exact o6
          have HI2 : Hid (((i : Int) != 0) = true) := by
            show ((i : Int) != 0) = true
            simp; exact o6
          clear o1 o2 o3 o4 o5 o6 o7 o8 o9 o10 hal3 hI3 c0 c1
          go_wp2_with fail
          refine (release_call I HI3.out HOK4.out HO7.out HO8.out).mono ?_
          rintro e w5 ⟨⟨m, rfl⟩, F4, hal4, hI4⟩
          have HI4 := Lib.hid hI4
          have HA4 : Hid (Alters F F4 w w5) := HA3.out.trans hal4
          clear hal4 hI4
          go_wp2_with fail
          refine (release_call I HI4.out HOK5.out HO9.out HO10.out).mono ?_
          rintro e w6 ⟨⟨m', rfl⟩, F5, hal5, hI5⟩
          have HR : Hid (PlantRes I A rd F held l (.pointer (some pa)) w (.returned (.tuple #[.int .u32 (i : Int), .bool ((i : Int) != 0)])) w6) := ⟨_, i, _, F5, (by rw [HSPL.out]; exact HNODE.out.1), (by rw [HI2.out]), HA4.out.trans hal5, hI5⟩
          clear hal5 hI5
          go_wp2_with fail
          go_ret2
          exact HR.out)
theorem plant_any (I : AImpl) (n : Nat) : PlantSpec I n := Nat.strongRecOn n fun n ih => plant_step I n ih
theorem flat_at {α : Type} {f : α → List Value} {m : Nat} (hm : ∀ x, (f x).length = m) : ∀ (l : List α) (i j : Nat) (x : α), l[i]? = some x → j < m → (l.flatMap f)[i * m + j]? = (f x)[j]?
  | [], i, j, x, h, hj => by simp at h
  | a :: t, 0, j, x, h, hj => by
    simp at h
    subst h
    rw [List.flatMap_cons, Nat.zero_mul, Nat.zero_add, List.getElem?_append_left (by rw [hm]; exact hj)]
  | a :: t, i + 1, j, x, h, hj => by
    simp at h
    rw [List.flatMap_cons, List.getElem?_append_right (by rw [hm, Nat.succ_mul]; omega), hm, show (i + 1) * m + j - m = i * m + j by rw [Nat.succ_mul]; omega]
    exact flat_at hm t i j x h hj
/-- a dump's row of slots, read -/
theorem slots_at {w : World} {B c : Nat} {a : Option Addr} {A : Ar} {st : List Nat} {held : Nat → Nat} (hI : A.Inv st held) (h : w.ownsRow B 87 11 (.slice a A.σ.cap c) A.σ.cap (slotsV A)) : SlotsAt w a A.σ.cap A.sl := by
  have hcap := hI.ok.cap2
  refine ⟨fun i hi => ?_, fun i hi => ?_⟩
  · rcases h.2 with ⟨hv, hn⟩ | ⟨g, cap, cur, hv, hB, hc, hn, hcm, hs, ht⟩
    · omega
    · simp only [Value.slice.injEq] at hv
      obtain ⟨rfl, _, _⟩ := hv
      refine ⟨g, 0, rfl, (Array.getElem?_eq_some_iff.1 hc).1, fun j v hv => ?_⟩
      have hj : j < 11 := by have := (List.getElem?_eq_some_iff.1 hv).1; simpa [slV] using this
      rw [Nat.zero_add, h.cellAt (i * 11 + j) (by omega)]
      have h1 := flat_at (f := slotV A) (m := 11) (fun x => rfl) (List.range' 1 A.σ.cap) i j (i + 1) (by rw [List.getElem?_range' hi]; simp; omega) hj
      show ((List.range' 1 A.σ.cap).flatMap (slotV A))[i * 11 + j]? = some v
      rw [h1]
      exact hv
  · show (A.nd (i + 1)).left < _ ∧ (A.nd (i + 1)).right < _
    by_cases ho : A.σ.on (i + 1) = true
    · have hc := hI.child (i + 1) ho
      have key : ∀ y, (y = 0 ∨ A.σ.on y = true) → y < 4294967296 := fun y hy => by
        rcases hy with hy | hy
        · omega
        · have := hI.ok.on y hy; omega
      exact ⟨key _ hc.1, key _ hc.2⟩
    · rw [(hI.off (i + 1) (by simpa using ho)).2]
      exact ⟨by decide, by decide⟩
theorem row_u32 {w : World} {B c : Nat} {a : Option Addr} {l : List Nat} (h : w.ownsRow B 26 1 (.slice a l.length c) l.length (u32s l)) (hl : ∀ y ∈ l, y < 4294967296) : U32At w a l := by
  refine ⟨fun j hj => ?_, hl⟩
  obtain ⟨g, rfl, hg, hc⟩ := row_cell h hj
  refine ⟨g, 0, rfl, hg, ?_⟩
  rw [Nat.zero_add, hc]
  simp [u32s, List.getD_eq_getElem?_getD, hj]
/-- the node at an index; a zero node where there is none -/
def Ar.nz (A : Ar) (i : Nat) : Nd := if A.σ.on i = true then A.nd i else Nd.zero
def ndRow (x : Nd) : Array Value := #[.int .i64 x.key, .int .i64 x.val, .int .u32 (x.left : Int), .int .u32 (x.right : Int), .int .i64 x.size, .int .i64 x.sum, .int .i64 x.mn, .int .i64 x.mx]
theorem ndRow_one (x : Nd) : (ndRow x).all (·.oneCell') = true := by simp [ndRow, Value.oneCell']
set_option maxHeartbeats 1000000 in
set_option maxRecDepth 100000 in
theorem refNode_any {w : World} {a b : Option Addr} {N c m d i : Nat} {A : Ar} (h : SlotsAt w a N A.sl) (hok : A.σ.Ok) (hN : A.σ.cap = N) (hi : i < 4294967296) :
    Calls Tryz.prog 85 #[.agg #[.slice a N c, .slice b m d], .int .u32 (i : Int)] w (Calm w (.agg (ndRow (A.nz i)))) := by
  have hcap := hok.cap2
  have hz : ∀ w, (zeroValue 81).run Tryz.prog w = .ok (.agg (ndRow Nd.zero)) w := by
    have h : (Tryz.prog.info? 81).map (·.zero) = some (some (.agg (ndRow Nd.zero))) := by kernel_rfl
    intro w
    cases hi : Tryz.prog.info? 81 with
    | none => simp [hi] at h
    | some i =>
      have hz : i.zero = some (.agg (ndRow Nd.zero)) := by simpa [hi] using h
      simp [zeroValue, typeInfo, hi, hz]
  have hin : (Tryz.prog.info? 81).map (·.size) = some 8 := by kernel_rfl
  have HI := Lib.hid hin
  have hal := al_on hok i
  obtain ⟨w1, hw1⟩ : ∃ w1, w1 = (w.alloc (Obj.cells #[Value.slice a N c, Value.slice b m d] 33)).alloc (Obj.cells (ndRow Nd.zero) 81) := ⟨_, rfl⟩
  have hb1 : Below w.heap.size w w1 := by rw [hw1]; exact ((Below.refl _ _).alloc (Nat.le_refl _) _).alloc (by simp) _
  have HB1 := Lib.hid hb1
  have hrow1 : w1.heap[w.heap.size + 1]? = some (.cells (ndRow Nd.zero) 81 (0, 0)) := by rw [hw1]; exact heap_alloc2_new w _ _
  have HR1 := Lib.hid hrow1
  have hbox : w1.heap[w.heap.size]? = some (.cells #[Value.slice a N c, Value.slice b m d] 33 (0, 0)) := by rw [hw1]; exact heap_alloc2_old w _ _
  obtain ⟨hc0, hc1⟩ := two_cells hbox
  have hs1 := h.below hb1
  have HS1 := Lib.hid hs1
  have HBOX := Lib.hid hbox
  have hcall := dallocated_any (b := b) (m := m) (d := d) (c := c) hs1 (by omega) hi
  have HC : Hid (Calls Tryz.prog 105 #[.agg #[.slice a N c, .slice b m d], .int .u32 (i : Int)] w1 (Calm w1 (.bool (A.σ.on i)))) := by
    have e : decide (1 ≤ i ∧ i ≤ N ∧ (A.sl (i - 1)).on = true) = A.σ.on i := by
      rw [← hN]
      have h2 : (1 ≤ i ∧ i ≤ A.σ.cap ∧ (A.sl (i - 1)).on = true) ↔ A.σ.on i = true := hal
      cases ho : A.σ.on i
      · exact decide_eq_false fun h3 => by rw [h2, ho] at h3; cases h3
      · exact decide_eq_true (h2.2 ho)
    rw [e] at hcall
    exact hcall
  clear hcall hal hs1 hrow1 hb1 hbox hin
  go_enter Tryz.func85, Tryz.ntmps85
  go_upto_region 1 with fail
  rw [← hw1]
  have HU : Hid _ := Lib.hid Tryz.underlying81
  have hq : w.heap.size + 1 < w1.heap.size := (Array.getElem?_eq_some_iff.1 HR1.out).1
  have hsz1 : w.heap.size ≤ w1.heap.size := by omega
  clear hw1 hz h
  go_wp2_with fail
  refine HC.out.mono ?_
  rintro e w2 ⟨rfl, hb2⟩
  have HR2 : Hid (w2.heap[w.heap.size + 1]? = some (.cells (ndRow Nd.zero) 81 (0, 0))) := (hb2.block _ hq).trans HR1.out
  have HB2 : Hid (Below w.heap.size w w2) := HB1.out.trans (hb2.mono hsz1)
  have hbox2 := (hb2.block w.heap.size (by omega)).trans HBOX.out
  obtain ⟨hc0, hc1⟩ := two_cells hbox2
  have hS2 := HS1.out.below hb2
  clear hbox2 hb2 hsz1 hq
  cases ho : A.σ.on i
  · have hnz : A.nz i = Nd.zero := by unfold Ar.nz; rw [ho]; rfl
    have HNZ := Lib.hid hnz
    clear hnz hS2 ho
    go_wp2_with (refine wpList_store_row rfl 81 (.tmp 4) (.tmp 9) rfl (w.heap.size + 1) (ndRow Nd.zero) rfl rfl 81 _ HR2.out HI.out rfl (ndRow_one _) ?_)
    exact bodyPost_ret (v := .agg (ndRow Nd.zero)) (results_cell_row rfl _ _ (w.heap.size + 1) 81 (ndRow Nd.zero) (0, 0) _ rfl (setRow_heap _ _ _ _ _ _ HR2.out) HU.out rfl HI.out) rfl ⟨by rw [HNZ.out], below_setRow HB2.out (Nat.le_succ _) _⟩
  · have hnz : A.nz i = A.nd i := by unfold Ar.nz; rw [ho]; rfl
    have h1 := hok.on i ho
    rw [hN] at h1
    obtain ⟨j, rfl⟩ : ∃ j, i = j + 1 := ⟨i - 1, by omega⟩
    obtain ⟨b', off, rfl, hlb, _, _, _, d3, d4, d5, d6, d7, d8, d9, d10⟩ := hS2.all (show j < N by omega)
    have e : (A.sl j).nd = A.nd (j + 1) := rfl
    rw [e] at d3 d4 d5 d6 d7 d8 d9 d10
    generalize A.nd (j + 1) = x at d3 d4 d5 d6 d7 d8 d9 d10 hnz
    have HNZ := Lib.hid hnz
    have hX1 : (1 : Int) ≤ ((j + 1 : Nat) : Int) := by omega
    obtain ⟨Xi, hXi⟩ : ∃ Y : Int, ((j + 1 : Nat) : Int) = Y := ⟨_, rfl⟩
    have hXw : IntKind.u32.wrap (Xi - 1) = Xi - 1 := by rw [IntKind.wrap_u32']; omega
    have hX2 : (Xi - 1).toNat = j := by omega
    have hX4 : Xi - 1 < (N : Int) := by omega
    have hX5 : (0 : Int) ≤ Xi - 1 := by omega
    rw [hXi] at hX1 ⊢
    clear hXi hnz hS2 ho h1 e hi
    go_wp2_with (refine wpList_store_row rfl 81 (.tmp 4) (.tmp 16) rfl (w.heap.size + 1) (ndRow x) rfl rfl 81 _ HR2.out HI.out rfl (ndRow_one _) ?_)
    exact bodyPost_ret (v := .agg (ndRow x)) (results_cell_row rfl _ _ (w.heap.size + 1) 81 (ndRow x) (0, 0) _ rfl (setRow_heap _ _ _ _ _ _ HR2.out) HU.out rfl HI.out) rfl ⟨by rw [HNZ.out], below_setRow HB2.out (Nat.le_succ _) _⟩
/-- keys ascending, plain -/
theorem up_asc : ∀ (l : List En) (s : Option Int), Up l → (∀ k, s = some k → ∀ y ∈ l, k < y.key) → Asc s (l.map (·.key))
  | [], s, h, hs => by cases s <;> trivial
  | x :: t, s, h, hs => by
    unfold Up at h
    rw [List.pairwise_cons] at h
    have ih := up_asc t (some x.key) h.2 (fun k hk y hy => by cases hk; exact h.1 y hy)
    cases s with
    | none => exact ih
    | some k => exact ⟨hs k rfl x (by simp), ih⟩
def Keeps (G : Nat → Prop) (w w' : World) : Prop := ∀ k, G k → w'.heap[k]? = w.heap[k]?
/-- the remainder that is never negative -/
theorem mod_any (n m : Int) (w : World) (h1 : -9223372036854775808 ≤ n) (h2 : n ≤ 9223372036854775807) (h3 : 1 ≤ m) (h4 : m ≤ 9223372036854775807) :
    Calls Tryz.prog 15 #[.int .i64 n, .int .i64 m] w fun e w' => e = .returned (.int .i64 (n % m)) ∧ w = w' := by
  by_cases h : 0 ≤ n
  · have hb := Int.emod_nonneg n (b := m) (by omega)
    have hc := Int.emod_lt_of_pos n (b := m) (by omega)
    go_enter Tryz.func15, Tryz.ntmps15
    go_wp2
    go_ret
    exact ⟨rfl, rfl⟩
  · have e := mod_of_tmod n m (by omega) h3
    have hb : -m < n.tmod m ∧ n.tmod m ≤ 0 := by
      rw [tmod_neg n m (by omega) h3]
      have h5 := Int.emod_nonneg (-n) (b := m) (by omega)
      have h6 := Int.emod_lt_of_pos (-n) (b := m) (by omega)
      omega
    obtain ⟨hb1, hb2⟩ := hb
    have H := Lib.hid e
    clear e
    go_enter Tryz.func15, Tryz.ntmps15
    go_wp2
    · have hlt : n.tmod m < 0 := by assumption
      go_ret
      exact ⟨ret_int (by rw [H.out, if_pos hlt]), rfl⟩
    · have hlt : 0 ≤ n.tmod m := by assumption
      go_ret
      exact ⟨ret_int (by rw [H.out, if_neg (by omega)]), rfl⟩
def InsRel (Z : Nat) (w2 : World) (l : List En) (e : En) (x d i : Value) (wr : World) : Prop :=
  ∃ (o : List En) (db : Bool) (j : Nat), i = .int .i64 (j : Int) ∧ d = .bool db ∧ j ≤ l.length ∧ ESt Z w2 o x wr ∧ o ++ insF e (l.drop j) db = insE l e
theorem below_new7e (w : World) (o : Obj) : Below w.heap.size w (w.alloc o) := (Below.refl _ _).alloc (Nat.le_refl _) _
theorem insF_cons (e x : En) (t : List En) (d : Bool) : insF e (x :: t) d = (if (!d && decide (e.key ≤ x.key)) = true then [e] else []) ++ (if x.key ≠ e.key then [x] else []) ++ insF e t (d || (!d && decide (e.key ≤ x.key))) := rfl
set_option maxHeartbeats 4000000 in
set_option maxRecDepth 100000 in
theorem insert_any {w : World} {a : Option Addr} {c : Nat} {l : List En} (e : En) (h : EnsAt w a l) (he : i64R e.key ∧ i64R e.val) (hl : l.length ≤ 1000000) :
    Calls Tryz.prog 41 #[.slice a l.length c, .agg #[.int .i64 e.key, .int .i64 e.val]] w (MadeEns w (insE l e)) := by
  obtain ⟨n, hn⟩ : ∃ n, l.length = n := ⟨_, rfl⟩
  have hb1 : Below w.heap.size w (w.alloc (Obj.cells #[Value.int .i64 e.key, Value.int .i64 e.val] 69)) := (Below.refl _ _).alloc (Nat.le_refl _) _
  have hbox := heap_alloc_new w (Obj.cells #[Value.int .i64 e.key, Value.int .i64 e.val] 69)
  have HB := Lib.hid hb1
  have HBOX := Lib.hid hbox
  have HE := Lib.hid (h.below hb1)
  have HN := Lib.hid hn
  have hni : (n : Int) ≤ 1000000 := by omega
  rw [hn]
  clear hb1 hbox hl hn h
  go_enter Tryz.func41, Tryz.ntmps41
  go_upto_region 1 with fail
  generalize w.alloc (Obj.cells #[Value.int .i64 e.key, Value.int .i64 e.val] 69) = w2 at HB HBOX HE ⊢
  obtain ⟨q, hq⟩ : ∃ q, w.heap.size = q := ⟨_, rfl⟩
  rw [hq] at HBOX HB ⊢
  have HQ := Lib.hid hq
  clear hq
  obtain ⟨Z, hZ⟩ : ∃ Z, w2.heap.size = Z := ⟨_, rfl⟩
  have HZ := Lib.hid hZ
  have hqz : q < Z := by rw [← hZ]; exact (Array.getElem?_eq_some_iff.1 HBOX.out).1
  have HQZ := Lib.hid hqz
  have HI0 : Hid (InsRel Z w2 l e (.slice none 0 0) (.bool false) (.int .i64 0) w2) := ⟨[], false, 0, rfl, rfl, Nat.zero_le _, ESt.start w2 hZ, rfl⟩
  clear hZ hqz
  go_wp2_with fail
  go_loopw [5, 6, 7] (fun x d i wr => InsRel Z w2 l e x d i wr) (fun _ _ i _ => n - (intOf i).toNat)
  case atStart => exact HI0.out
  case round =>
    clear HI0
    obtain ⟨o, db, j, rfl, rfl, hj, hst, hinv⟩ := hrel
    have HST := Lib.hid hst
    have HINV := Lib.hid hinv
    have hol : o.length ≤ n + 1 := by
      have h1 := congrArg List.length hinv
      have h2 := insE_len l e
      have h3 := HN.out
      rw [List.length_append] at h1
      omega
    have HOL := Lib.hid hol
    rw [HN.out] at hj
    obtain ⟨xa, xc, hx⟩ := hst.val
    subst hx
    have hbz : w2.heap.size ≤ wr.heap.size := hst.below.size
    have hbox2 := (hst.below.block q HQZ.out).trans HBOX.out
    have hkc : wr.cell? ⟨q, 0, none⟩ = some (.int .i64 e.key) := by rw [cell_of_row _ _ _ _ _ _ hbox2]; rfl
    have hvc : wr.cell? ⟨q, 1, none⟩ = some (.int .i64 e.val) := by rw [cell_of_row _ _ _ _ _ _ hbox2]; rfl
    have HBX := Lib.hid hbox2
    by_cases hlt : j < n
    · have hji : (j : Int) < (n : Int) := by omega
      have hj0 : (0 : Int) ≤ (j : Int) := by omega
      have HJ : Hid (j < n) := hlt
      have hjl : j < l.length := by rw [HN.out]; exact hlt
      have HEC := HE.out.cell j l[j] (List.getElem?_eq_getElem hjl)
      obtain ⟨b, off, rfl, hlb, d0, d1⟩ := HEC
      rw [HZ.out] at hlb
      have HF : Hid (∀ wx, Below Z w2 wx → wx.cell? ⟨b, off + j * 2, none⟩ = some (.int .i64 (l[j]).key) ∧ wx.cell? ⟨b, off + j * 2 + 1, none⟩ = some (.int .i64 (l[j]).val) ∧ wx.cell? ⟨q, 0, none⟩ = some (.int .i64 e.key) ∧ wx.cell? ⟨q, 1, none⟩ = some (.int .i64 e.val)) := fun wx hb => by
        have h1 := (hb.block q HQZ.out).trans HBOX.out
        exact ⟨by rw [← d0]; exact hb.cell (p := ⟨b, off + j * 2, none⟩) hlb, by rw [← d1]; exact hb.cell (p := ⟨b, off + j * 2 + 1, none⟩) hlb, by rw [cell_of_row _ _ _ _ _ _ h1]; rfl, by rw [cell_of_row _ _ _ _ _ _ h1]; rfl⟩
      have hdrop : l.drop j = l[j] :: l.drop (j + 1) := List.drop_eq_getElem_cons hjl
      have HD : Hid (o ++ ((if (!db && decide (e.key ≤ (l[j]).key)) = true then [e] else []) ++ (if (l[j]).key ≠ e.key then [l[j]] else []) ++ insF e (l.drop (j + 1)) (db || (!db && decide (e.key ≤ (l[j]).key)))) = insE l e) := by
        have h1 := HINV.out
        rw [hdrop, insF_cons] at h1
        exact h1
      generalize l[j] = x at HF HD d0 d1
      clear d0 d1
      have HOL2 : Hid (o.length ≤ n + 1 ∧ (o ++ [e]).length ≤ n + 2 ∧ n ≤ 1000000) := ⟨hol, by simp; omega, by omega⟩
      clear hst hinv hbox2 hjl hdrop hlt hj hol HINV hkc hvc HBX
      have HOLD : Hid (o.length ≤ 100000000) := by
        have := HOL2.out
        show o.length ≤ 100000000
        omega
      obtain ⟨c0, c1, hkc, hvc⟩ := HF.out wr HST.out.below
      cases db
      · by_cases hge : e.key ≤ x.key
        · by_cases hne : x.key ≠ e.key
          · skip
            have HFIN : Hid ((o ++ [e]) ++ [x] ++ insF e (l.drop (j + 1)) true = insE l e) := by
              have h1 := HD.out
              simp [hge, hne] at h1
              show (o ++ [e]) ++ [x] ++ insF e (l.drop (j + 1)) true = insE l e
              try simp
              exact h1
            have hn1 : (x.key == e.key) = false := by simp; exact hne
            have hn2 : ¬ x.key = e.key := hne
            have hg : decide (e.key ≤ x.key) = true := decide_eq_true hge
            go_upto_region 6 with fail
            go_quiet (fail)
            rename Nat => d1
            clear c0 c1 hkc hvc
            have HS3 : Hid (ESt Z w2 o _ (wr.drewN d1)) := HST.out.from (below_drewN (Below.refl _ _) d1) HZ.out
            generalize wr.drewN d1 = w3 at HS3 ⊢
            clear HST
            obtain ⟨c0, c1, hkc, hvc⟩ := HF.out w3 HS3.out.below
            go_upto_region 9 with (at_builtin; refine wpList_append_en rfl (.tmp 26) (.tmp 28) rfl (HS3.out.from (below_new7e _ _) HZ.out) HZ.out rfl e w3.heap.size rfl (cell_newE _ _ _) (by have := HOL.out; omega) ?_; intro v5 w5 hc5)
            obtain ⟨xa5, xc5, hx5⟩ := hc5.val
            subst hx5
            have HS5 := Lib.hid hc5
            clear c0 c1 hkc hvc hc5 HS3
            generalize w5 = w3 at HS5 ⊢
            have HS3 := HS5
            clear HS5
            obtain ⟨c0, c1, hkc, hvc⟩ := HF.out w3 HS3.out.below
            go_quiet (fail)
            rename Nat => d2
            clear c0 c1 hkc hvc
            have HS4 : Hid (ESt Z w2 (o ++ [e]) _ (w3.drewN d2)) := HS3.out.from (below_drewN (Below.refl _ _) d2) HZ.out
            generalize w3.drewN d2 = w4 at HS4 ⊢
            clear HS3
            obtain ⟨c0, c1, hkc, hvc⟩ := HF.out w4 HS4.out.below
            go_wp2_with (at_builtin; refine wpList_append_en rfl (.tmp 38) (.tmp 43) rfl (HS4.out.from (below_new7e _ _) HZ.out) HZ.out rfl x w4.heap.size rfl (cell_newE _ _ _) (by have := HOL2.out; omega) ?_; intro v5 w5 hc5)
            exact ⟨⟨(o ++ [e]) ++ [x], true, j + 1, by go_num, rfl, by have := HJ.out; have := HN.out; omega, hc5, HFIN.out⟩, by have := HJ.out; simp [intOf]; omega⟩
          · skip
            have HFIN : Hid ((o ++ [e]) ++ insF e (l.drop (j + 1)) true = insE l e) := by
              have h1 := HD.out
              simp [hge, hne] at h1
              show (o ++ [e]) ++ insF e (l.drop (j + 1)) true = insE l e
              try simp
              exact h1
            have hn2 : x.key = e.key := Classical.not_not.1 hne
            have hn1 : (x.key == e.key) = true := by simp; exact hn2
            have hg : decide (e.key ≤ x.key) = true := decide_eq_true hge
            go_upto_region 6 with fail
            go_quiet (fail)
            rename Nat => d1
            clear c0 c1 hkc hvc
            have HS3 : Hid (ESt Z w2 o _ (wr.drewN d1)) := HST.out.from (below_drewN (Below.refl _ _) d1) HZ.out
            generalize wr.drewN d1 = w3 at HS3 ⊢
            clear HST
            obtain ⟨c0, c1, hkc, hvc⟩ := HF.out w3 HS3.out.below
            go_upto_region 9 with (at_builtin; refine wpList_append_en rfl (.tmp 26) (.tmp 28) rfl (HS3.out.from (below_new7e _ _) HZ.out) HZ.out rfl e w3.heap.size rfl (cell_newE _ _ _) (by have := HOL.out; omega) ?_; intro v5 w5 hc5)
            obtain ⟨xa5, xc5, hx5⟩ := hc5.val
            subst hx5
            have HS5 := Lib.hid hc5
            clear c0 c1 hkc hvc hc5 HS3
            generalize w5 = w3 at HS5 ⊢
            have HS3 := HS5
            clear HS5
            obtain ⟨c0, c1, hkc, hvc⟩ := HF.out w3 HS3.out.below
            go_quiet (fail)
            rename Nat => d2
            clear c0 c1 hkc hvc
            have HS4 : Hid (ESt Z w2 (o ++ [e]) _ (w3.drewN d2)) := HS3.out.from (below_drewN (Below.refl _ _) d2) HZ.out
            generalize w3.drewN d2 = w4 at HS4 ⊢
            clear HS3
            obtain ⟨c0, c1, hkc, hvc⟩ := HF.out w4 HS4.out.below
            go_wp2_with fail
            exact ⟨⟨o ++ [e], true, j + 1, by go_num, rfl, by have := HJ.out; have := HN.out; omega, HS4.out, HFIN.out⟩, by have := HJ.out; simp [intOf]; omega⟩
        · have hne : x.key ≠ e.key := by omega
          have HFIN : Hid ((o) ++ [x] ++ insF e (l.drop (j + 1)) false = insE l e) := by
            have h1 := HD.out
            simp [hge, hne] at h1
            show (o) ++ [x] ++ insF e (l.drop (j + 1)) false = insE l e
            try simp
            exact h1
          have hn1 : (x.key == e.key) = false := by simp; exact hne
          have hn2 : ¬ x.key = e.key := hne
          have hg : decide (e.key ≤ x.key) = false := decide_eq_false hge
          go_upto_region 6 with fail
          go_quiet (fail)
          rename Nat => d1
          clear c0 c1 hkc hvc
          have HS3 : Hid (ESt Z w2 o _ (wr.drewN d1)) := HST.out.from (below_drewN (Below.refl _ _) d1) HZ.out
          generalize wr.drewN d1 = w3 at HS3 ⊢
          clear HST
          go_upto_region 9 with fail
          obtain ⟨c0, c1, hkc, hvc⟩ := HF.out w3 HS3.out.below
          go_quiet (fail)
          rename Nat => d2
          clear c0 c1 hkc hvc
          have HS4 : Hid (ESt Z w2 (o) _ (w3.drewN d2)) := HS3.out.from (below_drewN (Below.refl _ _) d2) HZ.out
          generalize w3.drewN d2 = w4 at HS4 ⊢
          clear HS3
          obtain ⟨c0, c1, hkc, hvc⟩ := HF.out w4 HS4.out.below
          go_wp2_with (at_builtin; refine wpList_append_en rfl (.tmp 38) (.tmp 43) rfl (HS4.out.from (below_new7e _ _) HZ.out) HZ.out rfl x w4.heap.size rfl (cell_newE _ _ _) (by have := HOL2.out; omega) ?_; intro v5 w5 hc5)
          exact ⟨⟨(o) ++ [x], false, j + 1, by go_num, rfl, by have := HJ.out; have := HN.out; omega, hc5, HFIN.out⟩, by have := HJ.out; simp [intOf]; omega⟩
      · by_cases hne : x.key ≠ e.key
        · skip
          have HFIN : Hid ((o) ++ [x] ++ insF e (l.drop (j + 1)) true = insE l e) := by
            have h1 := HD.out
            simp [hne] at h1
            show (o) ++ [x] ++ insF e (l.drop (j + 1)) true = insE l e
            try simp
            exact h1
          have hn1 : (x.key == e.key) = false := by simp; exact hne
          have hn2 : ¬ x.key = e.key := hne
          go_upto_region 6 with fail
          go_quiet (fail)
          rename Nat => d1
          clear c0 c1 hkc hvc
          have HS3 : Hid (ESt Z w2 o _ (wr.drewN d1)) := HST.out.from (below_drewN (Below.refl _ _) d1) HZ.out
          generalize wr.drewN d1 = w3 at HS3 ⊢
          clear HST
          go_upto_region 9 with fail
          obtain ⟨c0, c1, hkc, hvc⟩ := HF.out w3 HS3.out.below
          go_quiet (fail)
          rename Nat => d2
          clear c0 c1 hkc hvc
          have HS4 : Hid (ESt Z w2 (o) _ (w3.drewN d2)) := HS3.out.from (below_drewN (Below.refl _ _) d2) HZ.out
          generalize w3.drewN d2 = w4 at HS4 ⊢
          clear HS3
          obtain ⟨c0, c1, hkc, hvc⟩ := HF.out w4 HS4.out.below
          go_wp2_with (at_builtin; refine wpList_append_en rfl (.tmp 38) (.tmp 43) rfl (HS4.out.from (below_new7e _ _) HZ.out) HZ.out rfl x w4.heap.size rfl (cell_newE _ _ _) (by have := HOL2.out; omega) ?_; intro v5 w5 hc5)
          exact ⟨⟨(o) ++ [x], true, j + 1, by go_num, rfl, by have := HJ.out; have := HN.out; omega, hc5, HFIN.out⟩, by have := HJ.out; simp [intOf]; omega⟩
        · skip
          have HFIN : Hid ((o) ++ insF e (l.drop (j + 1)) true = insE l e) := by
            have h1 := HD.out
            simp [hne] at h1
            show (o) ++ insF e (l.drop (j + 1)) true = insE l e
            try simp
            exact h1
          have hn2 : x.key = e.key := Classical.not_not.1 hne
          have hn1 : (x.key == e.key) = true := by simp; exact hn2
          go_upto_region 6 with fail
          go_quiet (fail)
          rename Nat => d1
          clear c0 c1 hkc hvc
          have HS3 : Hid (ESt Z w2 o _ (wr.drewN d1)) := HST.out.from (below_drewN (Below.refl _ _) d1) HZ.out
          generalize wr.drewN d1 = w3 at HS3 ⊢
          clear HST
          go_upto_region 9 with fail
          obtain ⟨c0, c1, hkc, hvc⟩ := HF.out w3 HS3.out.below
          go_quiet (fail)
          rename Nat => d2
          clear c0 c1 hkc hvc
          have HS4 : Hid (ESt Z w2 (o) _ (w3.drewN d2)) := HS3.out.from (below_drewN (Below.refl _ _) d2) HZ.out
          generalize w3.drewN d2 = w4 at HS4 ⊢
          clear HS3
          obtain ⟨c0, c1, hkc, hvc⟩ := HF.out w4 HS4.out.below
          go_wp2_with fail
          exact ⟨⟨o, true, j + 1, by go_num, rfl, by have := HJ.out; have := HN.out; omega, HS4.out, HFIN.out⟩, by have := HJ.out; simp [intOf]; omega⟩
    · have hjn : j = n := by omega
      have hdr : l.drop j = [] := List.drop_eq_nil_of_le (by rw [HN.out]; omega)
      rw [hdr] at hinv
      have hlt0 : ¬ (j : Int) < (n : Int) := by omega
      have HBW : Hid (∀ wx, Below Z w2 wx → Below w.heap.size w wx) := fun wx hb => by rw [HQ.out]; exact HB.out.trans (hb.mono (Nat.le_of_lt HQZ.out))
      have HOLD : Hid (o.length ≤ 100000000) := by
        show o.length ≤ 100000000
        omega
      clear hst hbox2 HBX HINV hdr hjn hlt hj hol
      cases db
      · have HF : Hid (o ++ [e] = insE l e) := hinv
        clear hinv
        go_wp2_with (at_builtin; refine wpList_append_en rfl (.tmp 47) (.tmp 49) rfl (HST.out.from (below_new7e _ _) HZ.out) HZ.out rfl e wr.heap.size rfl (cell_newE _ _ _) HOLD.out ?_; intro v5 w5 hc5)
        go_ret
        obtain ⟨xa5, xc5, hx5⟩ := hc5.val
        subst hx5
        have hrow := hc5.row
        have hbl := HBW.out _ hc5.below
        rw [HF.out] at hrow ⊢
        exact ⟨xa5, xc5, rfl, row_mono hrow (by rw [HQ.out]; exact Nat.le_of_lt HQZ.out), hbl⟩
      · have HF : Hid (o = insE l e) := by
          have h1 := hinv
          unfold insF at h1
          show o = insE l e
          simpa using h1
        clear hinv
        go_wp2_with fail
        go_ret
        have hrow := HST.out.row
        have hbl := HBW.out _ HST.out.below
        rw [HF.out] at hrow ⊢
        exact ⟨xa, xc, rfl, row_mono hrow (by rw [HQ.out]; exact Nat.le_of_lt HQZ.out), hbl⟩
def LRel (w : World) (raw : List En) (k : Nat) (x i : Value) (wr : World) : Prop :=
  ∃ (j : Nat) (a : Option Addr) (c : Nat), i = .int .i64 (j : Int) ∧ j ≤ k ∧ j ≤ raw.length ∧ x = .slice a (listE raw j).length c ∧ wr.ownsRow w.heap.size 69 2 (.slice a (listE raw j).length c) (listE raw j).length (ensV (listE raw j)) ∧ Below w.heap.size w wr
set_option maxHeartbeats 2000000 in
set_option maxRecDepth 100000 in
theorem list_any {w : World} {a : Option Addr} {n c k : Nat} {raw : List En} (h : EnsAt w a raw) (hn : raw.length = n) (hnm : n ≤ 9223372036854775807) (hk : k ≤ 100000) :
    Calls Tryz.prog 32 #[.slice a n c, .int .i64 (k : Int)] w (MadeEns w (listE raw k)) := by
  have HE := Lib.hid h
  have HN := Lib.hid hn
  have hni : (n : Int) ≤ 9223372036854775807 := by omega
  have hki : (k : Int) ≤ 100000 := by omega
  have HKK : Hid (k ≤ 100000) := hk
  have HR0 : Hid (LRel w raw k (.slice none 0 0) (.int .i64 0) w) := ⟨0, none, 0, rfl, Nat.zero_le _, Nat.zero_le _, rfl, World.ownsRow_nil _ _ _ _, Below.refl _ _⟩
  clear h hn hnm hk
  go_enter Tryz.func32, Tryz.ntmps32
  go_wp2_with fail
  go_loopw [5, 6] (fun x i wr => LRel w raw k x i wr) (fun _ i _ => k - (intOf i).toNat)
  case atStart => exact HR0.out
  case round =>
    clear HR0
    obtain ⟨j, xa, xc, rfl, hjk, hjl, rfl, hrow, hb⟩ := hrel
    have HROW := Lib.hid hrow
    have HB := Lib.hid hb
    have hlen := listE_len raw j
    have HLEN : Hid ((listE raw j).length ≤ 1000000) := (by show (listE raw j).length ≤ 1000000; omega)
    have HWF : Hid (∀ y ∈ listE raw j, i64R y.key ∧ i64R y.val) := fun y hy => HE.out.wf y (listE_mem hy)
    by_cases hlt : j < n
    · have hji : (j : Int) < (n : Int) := by omega
      have hj0 : (0 : Int) ≤ (j : Int) := by omega
      by_cases hlk : j < k
      · have hji2 : (j : Int) < (k : Int) := by omega
        have hjr : j < raw.length := by rw [HN.out]; exact hlt
        have HS : Hid (listE raw (j + 1) = insE (listE raw j) raw[j]) := listE_succ hjr
        have HX : Hid (i64R (raw[j]).key ∧ i64R (raw[j]).val) := HE.out.wf _ (List.getElem_mem hjr)
        obtain ⟨b, off, rfl, hlb, c0, c1⟩ := (HE.out.below hb).cell j raw[j] (List.getElem?_eq_getElem hjr)
        generalize raw[j] = e at c0 c1 HS HX
        have HJ : Hid (j < k ∧ j + 1 ≤ raw.length) := ⟨hlk, hjr⟩
        have HSL : Hid (EnsAt wr xa (listE raw j)) := ens_at hrow HWF.out
        clear hrow hb hlen hjr hlt hlk hjk hjl
        generalize hL : listE raw j = L at HROW HLEN HWF HS HSL ⊢
        clear hL
        go_wp2_with fail
        refine (insert_any e HSL.out HX.out HLEN.out).mono ?_
        rintro ee w3 ⟨a3, c3, rfl, hrow3, hb3⟩
        rw [← HS.out] at hrow3 ⊢
        have HR : Hid (LRel w raw k (.slice a3 (listE raw (j + 1)).length c3) (.int .i64 ((j : Int) + 1)) w3) := ⟨j + 1, a3, c3, by congr 1, HJ.out.1, HJ.out.2, rfl, row_mono hrow3 HB.out.size, HB.out.trans (hb3.mono HB.out.size)⟩
        clear hrow3 hb3
        generalize (listE raw (j + 1)).length = LL at HR ⊢
        go_wp2_with fail
        exact ⟨HR.out, by have := HJ.out; simp [intOf]; omega⟩
      · have hlk0 : ¬ (j : Int) < (k : Int) := by omega
        obtain rfl : j = k := by omega
        clear hrow hb hlen hlt hlk hjk hjl hlk0
        go_wp2_with fail
        go_ret
        exact ⟨xa, xc, rfl, HROW.out, HB.out⟩
    · have hlt0 : ¬ (j : Int) < (n : Int) := by omega
      have HF : Hid (listE raw j = listE raw k) := by
        show listE raw j = listE raw k
        unfold listE
        rw [List.take_of_length_le (show raw.length ≤ j by rw [HN.out]; omega), List.take_of_length_le (show raw.length ≤ k by rw [HN.out]; omega)]
      clear hrow hb hlen hlt hjk hjl
      go_wp2_with fail
      go_ret
      have hr := HROW.out
      rw [HF.out] at hr ⊢
      exact ⟨xa, xc, rfl, hr, HB.out⟩
/-- index i of the arena is the tree t with the entries l -/
structure TreeAt (A : Ar) (i : Nat) (t : Tr) (l : List En) : Prop where
  inv : ∃ held, A.Inv [] held
  agg : A.Agg
  sub : Sub A i t
  bal : t.bal = true
  ents : t.ents A.nd = l
  up : Up l
theorem Planted.tree {A A' : Ar} {held : Nat → Nat} {l : List En} {i : Nat} {t : Tr} (h : Planted A held l A' i t) (hu : Up l) : TreeAt A' i t l := ⟨⟨_, h.inv⟩, h.agg, h.sub, h.bal, h.ents, hu⟩
theorem TreeAt.size {A : Ar} {i : Nat} {t : Tr} {l : List En} (h : TreeAt A i t l) : t.size = l.length := by rw [← h.ents, Tr.ents_len]
theorem TreeAt.ht {A : Ar} {i : Nat} {t : Tr} {l : List En} (h : TreeAt A i t l) (hl : l.length ≤ 2147483647) : t.ht ≤ xh l.length := by
  have h1 := balT_ht h.agg h.sub (by rw [balT_bal h.agg h.sub]; exact h.bal)
  rw [h.size] at h1
  exact xh_le hl (by omega)
theorem TreeAt.idx {A : Ar} {i : Nat} {t : Tr} {l : List En} (h : TreeAt A i t l) : i < 4294967296 := by
  obtain ⟨held, hv⟩ := h.inv
  rcases h.sub.idx with h1 | h1
  · omega
  · have := hv.ok.on i h1; have := hv.ok.cap2; omega
/-- how often may be read -/
def mostI (n : Nat) : Int := 4 * ((xh n : Int) + 2)
/-- a call that reads: what it returns, what it leaves -/
def ReadsTo (I : AImpl) (p : Value) (A : Ar) (rd : Int) (F : Nat → Prop) (bd : Int) (v : Value) (w : World) (e : Ending) (w' : World) : Prop :=
  ∃ F' rd', e = .returned v ∧ Alters F F' w w' ∧ I.Is w' p A rd' F' ∧ rd ≤ rd' ∧ rd' ≤ rd + bd
/-- an entry, or none, as a result -/
def enR (o : Option En) : Value := .tuple #[.agg (enA o), .bool o.isSome]
/-- the indexes of the search -/
def pathT (nd : Nat → Nd) (k : Int) : Tr → List Nat
  | .nil => []
  | .node i l r => i :: (if k = (nd i).key then [] else if k < (nd i).key then pathT nd k l else pathT nd k r)
/-- a call that reads and returns a new row of numbers -/
def PathRes (I : AImpl) (p : Value) (A : Ar) (rd : Int) (F : Nat → Prop) (bd : Int) (P : List Nat) (w : World) (e : Ending) (w' : World) : Prop :=
  ∃ F' rd' a c, e = .returned (.slice a P.length c) ∧ Alters F F' w w' ∧ I.Is w' p A rd' F' ∧ rd ≤ rd' ∧ rd' ≤ rd + bd ∧ w'.ownsRow w.heap.size 26 1 (.slice a P.length c) P.length (u32s P) ∧ ∀ g, Value.ownBlock (.slice a P.length c) = some g → ¬ F' g
theorem pathT_ht (nd : Nat → Nd) (k : Int) : ∀ t : Tr, (pathT nd k t).length ≤ t.ht
  | .nil => Nat.le_refl _
  | .node i l r => by
    have h1 := pathT_ht nd k l
    have h2 := pathT_ht nd k r
    unfold pathT
    show _ ≤ 1 + max l.ht r.ht
    rw [List.length_cons]
    split
    · simp
    · split <;> omega
structure LkImpl (I : AImpl) : Prop where
  get : ∀ {p : Value} {A : Ar} {rd : Int} {F : Nat → Prop} {i : Nat} {t : Tr} {l : List En} (k : Int) (w : World), I.Is w p A rd F → TreeAt A i t l → 0 ≤ rd → rd ≤ 1099511627776 → i64R k →
    Calls Tryz.prog 67 #[p, .int .u32 (i : Int), .int .i64 k] w (ReadsTo I p A rd F (mostI l.length) (.tuple #[.int .i64 ((getE l k).elim 0 (·.val)), .bool (getE l k).isSome]) w)
  first : ∀ {p : Value} {A : Ar} {rd : Int} {F : Nat → Prop} {i : Nat} {t : Tr} {l : List En} (w : World), I.Is w p A rd F → TreeAt A i t l → 0 ≤ rd → rd ≤ 1099511627776 → (∀ e ∈ l, i64R e.key) →
    Calls Tryz.prog 120 #[p, .int .u32 (i : Int)] w (ReadsTo I p A rd F (mostI l.length) (enR l.head?) w)
  last : ∀ {p : Value} {A : Ar} {rd : Int} {F : Nat → Prop} {i : Nat} {t : Tr} {l : List En} (w : World), I.Is w p A rd F → TreeAt A i t l → 0 ≤ rd → rd ≤ 1099511627776 → (∀ e ∈ l, i64R e.key) →
    Calls Tryz.prog 119 #[p, .int .u32 (i : Int)] w (ReadsTo I p A rd F (mostI l.length) (enR l.getLast?) w)
  floor : ∀ {p : Value} {A : Ar} {rd : Int} {F : Nat → Prop} {i : Nat} {t : Tr} {l : List En} (k : Int) (w : World), I.Is w p A rd F → TreeAt A i t l → 0 ≤ rd → rd ≤ 1099511627776 → i64R k →
    Calls Tryz.prog 131 #[p, .int .u32 (i : Int), .int .i64 k] w (ReadsTo I p A rd F (mostI l.length) (enR (floorE l k)) w)
  ceiling : ∀ {p : Value} {A : Ar} {rd : Int} {F : Nat → Prop} {i : Nat} {t : Tr} {l : List En} (k : Int) (w : World), I.Is w p A rd F → TreeAt A i t l → 0 ≤ rd → rd ≤ 1099511627776 → i64R k →
    Calls Tryz.prog 132 #[p, .int .u32 (i : Int), .int .i64 k] w (ReadsTo I p A rd F (mostI l.length) (enR (ceilE l k)) w)
  path : ∀ {p : Value} {A : Ar} {rd : Int} {F : Nat → Prop} {i : Nat} {t : Tr} {l : List En} (k : Int) (w : World), I.Is w p A rd F → TreeAt A i t l → 0 ≤ rd → rd ≤ 1099511627776 → i64R k →
    Calls Tryz.prog 70 #[p, .int .u32 (i : Int), .int .i64 k] w (PathRes I p A rd F (mostI l.length) (pathT A.nd k t) w)
/-- the arena with its count of reads, beside the boxes of G -/
structure MR (I : AImpl) (B : Nat) (w0 w : World) (p : Value) (A : Ar) (rd : Int) (G : Nat → Prop) : Prop where
  has : ∃ F, I.Is w p A rd F ∧ (∀ k, F k → B ≤ k) ∧ ∀ k, G k → k < w.heap.size ∧ ¬ F k
  below : Below B w0 w
  hB : B ≤ w.heap.size
section
variable {I : AImpl} {B : Nat} {w0 w w' : World} {p : Value} {A : Ar} {rd : Int} {G : Nat → Prop}
theorem MR.calm (h : MR I B w0 w p A rd G) (hb : Below w.heap.size w w') : MR I B w0 w' p A rd G := by
  obtain ⟨F, h1, h4, h5⟩ := h.has
  exact ⟨⟨F, I.below h1 hb, h4, fun k hk => ⟨Nat.lt_of_lt_of_le (h5 k hk).1 hb.size, (h5 k hk).2⟩⟩, h.below.trans (hb.mono h.hB), Nat.le_trans h.hB hb.size⟩
theorem MR.lt (h : MR I B w0 w p A rd G) {k : Nat} (hk : G k) : k < w.heap.size := by
  obtain ⟨F, h1, h4, h5⟩ := h.has
  exact (h5 k hk).1
theorem MR.keeps (h : MR I B w0 w p A rd G) (hb : Below w.heap.size w w') : Keeps G w w' := fun k hk => hb.block k (h.lt hk)
theorem MR.alloc (h : MR I B w0 w p A rd G) (o : Obj) : MR I B w0 (w.alloc o) p A rd (fun k => G k ∨ k = w.heap.size) := by
  have hb := below_new7 w o
  have h' := h.calm hb
  obtain ⟨F, h1, h4, h5⟩ := h.has
  refine ⟨⟨F, I.below h1 hb, h4, fun k hk => ?_⟩, h'.below, h'.hB⟩
  rcases hk with hk | rfl
  · exact ⟨Nat.lt_of_lt_of_le (h5 k hk).1 hb.size, (h5 k hk).2⟩
  · exact ⟨by simp, fun hF => Nat.lt_irrefl _ (I.dom h1 _ hF)⟩
theorem MR.less {G' : Nat → Prop} (h : MR I B w0 w p A rd G) (hG : ∀ k, G' k → G k) : MR I B w0 w p A rd G' := by
  obtain ⟨F, h1, h4, h5⟩ := h.has
  exact ⟨⟨F, h1, h4, fun k hk => h5 k (hG k hk)⟩, h.below, h.hB⟩
/-- a fresh block joins the boxes -/
theorem MR.fresh {G' : Nat → Prop} (h : MR I B w0 w p A rd G) (hb : Below w.heap.size w w') (hG : ∀ k, G' k → G k ∨ (w.heap.size ≤ k ∧ k < w'.heap.size)) : MR I B w0 w' p A rd G' := by
  have h' := h.calm hb
  obtain ⟨F, h1, h4, h5⟩ := h.has
  refine ⟨⟨F, I.below h1 hb, h4, fun k hk => ?_⟩, h'.below, h'.hB⟩
  rcases hG k hk with hk | ⟨h6, h7⟩
  · exact ⟨Nat.lt_of_lt_of_le (h5 k hk).1 hb.size, (h5 k hk).2⟩
  · exact ⟨h7, fun hF => by have := I.dom h1 _ hF; omega⟩
theorem MR.step {rd' : Int} {F F' : Nat → Prop} (h : MR I B w0 w p A rd G) (hF : ∀ k, F k → B ≤ k) (hG : ∀ k, G k → k < w.heap.size ∧ ¬ F k) (hal : Alters F F' w w') (hI : I.Is w' p A rd' F') : MR I B w0 w' p A rd' G ∧ Keeps G w w' :=
  ⟨⟨⟨F', hI, hal.from h.hB hF, hal.apart hG⟩, hal.below h.below h.hB hF, Nat.le_trans h.hB hal.size⟩, fun k hk => hal.block k (hG k hk).1 (hG k hk).2⟩
/-- what a call that reads leaves beside boxes -/
def MRes (I : AImpl) (B : Nat) (w0 : World) (p : Value) (A : Ar) (rd bd : Int) (G : Nat → Prop) (v : Value) (w : World) (e : Ending) (w' : World) : Prop :=
  e = .returned v ∧ ∃ rd', MR I B w0 w' p A rd' G ∧ Keeps G w w' ∧ rd ≤ rd' ∧ rd' ≤ rd + bd
theorem mr_call {bd : Int} {v : Value} {f : FuncId} {args : Array Value} (h : MR I B w0 w p A rd G) (hc : ∀ F, I.Is w p A rd F → Calls Tryz.prog f args w (ReadsTo I p A rd F bd v w)) : Calls Tryz.prog f args w (MRes I B w0 p A rd bd G v w) := by
  obtain ⟨F, h1, h4, h5⟩ := h.has
  refine (hc F h1).mono ?_
  rintro e w1 ⟨F', rd', he, hal, hI, h6, h7⟩
  have := h.step h4 h5 hal hI
  exact ⟨he, rd', this.1, this.2, h6, h7⟩
theorem mr_reads (h : MR I B w0 w p A rd G) : Calls Tryz.prog 16 #[p] w (Quiet w (.int .u64 rd)) := by
  obtain ⟨F, h1, _⟩ := h.has
  exact I.reads p A rd F w h1
end
theorem xhI_nat {n : Nat} (h : n ≤ 2147483647) : xhI (n : Int) = (xh n : Int) := by
  unfold xhI
  rw [if_pos ⟨by omega, by omega⟩, Int.toNat_natCast]
theorem within_any {I : AImpl} {B : Nat} {w0 w : World} {p : Value} {A : Ar} {rd since most : Int} {G : Nat → Prop} (h : MR I B w0 w p A rd G) (h0 : 0 ≤ since) (h1 : since ≤ rd) (h2 : rd ≤ since + most) (h3 : rd ≤ 4398046511104) (h4 : most ≤ 1000000) :
    Calls Tryz.prog 52 #[p, .int .u64 since, .int .i64 most] w (Calm w (.bool true)) := by
  obtain ⟨F, hI, _⟩ := h.has
  obtain ⟨pa, rfl⟩ := I.ptr hI
  have HMR := Lib.hid h
  have hge : decide (since ≤ rd) = true := decide_eq_true h1
  have hw1 : IntKind.u64.wrap (rd - since) = rd - since := by rw [IntKind.wrap_u64]; omega
  have hw2 : IntKind.u64.wrap most = most := by rw [IntKind.wrap_u64]; omega
  have hle : decide (rd - since ≤ most) = true := decide_eq_true (by omega)
  clear h hI h0 h1 h2 h3 h4
  go_enter Tryz.func52, Tryz.ntmps52
  go_wp2_with fail
  refine (mr_reads HMR.out).mono ?_
  rintro e w1 ⟨rfl, q1, rfl⟩
  have hb1 : Below w.heap.size w (w.drewN q1) := below_drewN (Below.refl _ _) q1
  have HM1 := Lib.hid (HMR.out.calm hb1)
  have HB1 := Lib.hid hb1
  clear hb1 HMR
  generalize w.drewN q1 = w1 at HM1 HB1 ⊢
  go_wp2_with fail
  refine (mr_reads HM1.out).mono ?_
  rintro e w2 ⟨rfl, q2, rfl⟩
  have HB2 : Hid (Below w.heap.size w (w1.drewN q2)) := HB1.out.trans ((below_drewN (Below.refl _ _) q2).mono HB1.out.size)
  generalize w1.drewN q2 = w2 at HB2 ⊢
  go_wp2_with fail
  go_ret
  exact ⟨rfl, HB2.out⟩
structure Row where
  e : TypeId
  s : Nat
  v : Value
  n : Nat
  xs : List Value
/-- the blocks of rows and boxes -/
def SG (rs : List Row) (bs : List (Nat × Obj)) (k : Nat) : Prop := (∃ r ∈ rs, r.v.ownBlock = some k) ∨ ∃ b ∈ bs, b.1 = k
structure Scn (I : AImpl) (B : Nat) (w0 w : World) (p : Value) (A : Ar) (rd : Int) (rs : List Row) (bs : List (Nat × Obj)) : Prop where
  mr : MR I B w0 w p A rd (SG rs bs)
  rows : ∀ r ∈ rs, w.ownsRow B r.e r.s r.v r.n r.xs
  boxes : ∀ b ∈ bs, B ≤ b.1 ∧ w.heap[b.1]? = some b.2
  rr : rs.Pairwise fun x y => ∀ k, x.v.ownBlock = some k → y.v.ownBlock ≠ some k
  bb : bs.Pairwise fun x y => x.1 ≠ y.1
  rb : ∀ r ∈ rs, ∀ b ∈ bs, r.v.ownBlock ≠ some b.1
section
variable {I : AImpl} {B : Nat} {w0 w w' : World} {p : Value} {A : Ar} {rd rd' : Int} {rs : List Row} {bs : List (Nat × Obj)}
theorem Scn.start (h : MR I B w0 w p A rd (fun _ => False)) : Scn I B w0 w p A rd [] [] :=
  ⟨h.less fun k hk => (by (rcases hk with ⟨r, hr, _⟩ | ⟨b, hb, _⟩); (cases hr); (cases hb)), fun r hr => (by cases hr), fun b hb => (by cases hb), List.Pairwise.nil, List.Pairwise.nil, fun r hr => (by cases hr)⟩
theorem Scn.step (h : Scn I B w0 w p A rd rs bs) (hm : MR I B w0 w' p A rd' (SG rs bs)) (hk : Keeps (SG rs bs) w w') : Scn I B w0 w' p A rd' rs bs :=
  ⟨hm, fun r hr => row_keep (h.rows r hr) fun k hk' => hk k (.inl ⟨r, hr, hk'⟩), fun b hb => ⟨(h.boxes b hb).1, (hk b.1 (.inr ⟨b, hb, rfl⟩)).trans (h.boxes b hb).2⟩, h.rr, h.bb, h.rb⟩
theorem Scn.calm (h : Scn I B w0 w p A rd rs bs) (hb : Below w.heap.size w w') : Scn I B w0 w' p A rd rs bs := h.step (h.mr.calm hb) (h.mr.keeps hb)
theorem Scn.lt (h : Scn I B w0 w p A rd rs bs) {k : Nat} (hk : SG rs bs k) : k < w.heap.size := h.mr.lt hk
/-- a new box -/
theorem Scn.box (h : Scn I B w0 w p A rd rs bs) (cs : Array Value) (t : TypeId) : Scn I B w0 (w.alloc (.cells cs t)) p A rd rs ((w.heap.size, .cells cs t (0, 0)) :: bs) := by
  have hb := below_new7 w (.cells cs t)
  have h' := h.calm hb
  refine ⟨h.mr.fresh hb fun k hk => ?_, h'.rows, fun b hb' => ?_, h.rr, List.pairwise_cons.2 ⟨fun b hb' e => ?_, h.bb⟩, fun r hr b hb' => ?_⟩
  · rcases hk with hk | ⟨b, hb', rfl⟩
    · exact .inl (.inl hk)
    · rcases List.mem_cons.1 hb' with rfl | hb'
      · exact .inr ⟨Nat.le_refl _, by simp⟩
      · exact .inl (.inr ⟨b, hb', rfl⟩)
  · rcases List.mem_cons.1 hb' with rfl | hb'
    · exact ⟨h.mr.hB, heap_alloc_new w _⟩
    · exact h'.boxes b hb'
  · have := h.lt (.inr ⟨b, hb', rfl⟩)
    have e' : w.heap.size = b.1 := e
    omega
  · rcases List.mem_cons.1 hb' with rfl | hb'
    · intro e
      have := h.lt (.inl ⟨r, hr, e⟩)
      exact Nat.lt_irrefl _ this
    · exact h.rb r hr b hb'
/-- a row that was made -/
theorem Scn.row (h : Scn I B w0 w p A rd rs bs) (hb : Below w.heap.size w w') {e : TypeId} {s n : Nat} {v : Value} {xs : List Value} (hr : w'.ownsRow w.heap.size e s v n xs) : Scn I B w0 w' p A rd (⟨e, s, v, n, xs⟩ :: rs) bs := by
  have h' := h.calm hb
  refine ⟨h.mr.fresh hb fun k hk => ?_, fun r hr' => ?_, h'.boxes, List.pairwise_cons.2 ⟨fun r hr' k hk e' => ?_, h.rr⟩, h.bb, fun r hr' b hb' => ?_⟩
  · rcases hk with ⟨r, hr', hk⟩ | hk
    · rcases List.mem_cons.1 hr' with rfl | hr'
      · exact .inr (row_lt hr k hk)
      · exact .inl (.inl ⟨r, hr', hk⟩)
    · exact .inl (.inr hk)
  · rcases List.mem_cons.1 hr' with rfl | hr'
    · exact row_mono hr h.mr.hB
    · exact h'.rows r hr'
  · have h1 := (row_lt hr k hk).1
    have h2 := h.lt (.inl ⟨r, hr', e'⟩)
    omega
  · rcases List.mem_cons.1 hr' with rfl | hr'
    · intro e'
      have h1 := (row_lt hr _ e').1
      have h2 := h.lt (.inr ⟨b, hb', rfl⟩)
      omega
    · exact h.rb r hr' b hb'
theorem Scn.less {rs' : List Row} {bs' : List (Nat × Obj)} (h : Scn I B w0 w p A rd rs bs) (h1 : rs'.Sublist rs) (h2 : bs'.Sublist bs) : Scn I B w0 w p A rd rs' bs' :=
  ⟨h.mr.less fun k hk => by (rcases hk with ⟨r, hr, hk⟩ | ⟨b, hb, hk⟩; exact .inl ⟨r, h1.subset hr, hk⟩; exact .inr ⟨b, h2.subset hb, hk⟩), fun r hr => h.rows r (h1.subset hr), fun b hb => h.boxes b (h2.subset hb), h.rr.sublist h1, h.bb.sublist h2, fun r hr b hb => h.rb r (h1.subset hr) b (h2.subset hb)⟩
theorem Scn.below (h : Scn I B w0 w p A rd rs bs) : Below B w0 w := h.mr.below
theorem Scn.reads (h : Scn I B w0 w p A rd rs bs) : Calls Tryz.prog 16 #[p] w fun e w' => e = .returned (.int .u64 rd) ∧ Scn I B w0 w' p A rd rs bs := by
  refine (mr_reads h.mr).mono ?_
  rintro e w1 ⟨he, q, rfl⟩
  exact ⟨he, h.calm (below_drewN (Below.refl _ _) q)⟩
/-- two rows that were made by one call -/
theorem Scn.row2 (h : Scn I B w0 w p A rd rs bs) (hb : Below w.heap.size w w') {e e' : TypeId} {s s' n n' : Nat} {v v' : Value} {xs xs' : List Value} (hr : w'.ownsRow w.heap.size e s v n xs) (hr2 : w'.ownsRow w.heap.size e' s' v' n' xs') (hne : ∀ k, v'.ownBlock = some k → v.ownBlock ≠ some k) :
    Scn I B w0 w' p A rd (⟨e', s', v', n', xs'⟩ :: ⟨e, s, v, n, xs⟩ :: rs) bs := by
  have h1 := h.row hb hr
  refine ⟨h.mr.fresh hb fun k hk => ?_, fun r hr' => ?_, h1.boxes, List.pairwise_cons.2 ⟨fun r hr' k hk e' => ?_, h1.rr⟩, h.bb, fun r hr' b hb' => ?_⟩
  · rcases hk with ⟨r, hr', hk⟩ | hk
    · rcases List.mem_cons.1 hr' with rfl | hr'
      · exact .inr (row_lt hr2 k hk)
      · rcases List.mem_cons.1 hr' with rfl | hr'
        · exact .inr (row_lt hr k hk)
        · exact .inl (.inl ⟨r, hr', hk⟩)
    · exact .inl (.inr hk)
  · rcases List.mem_cons.1 hr' with rfl | hr'
    · exact row_mono hr2 h.mr.hB
    · exact h1.rows r hr'
  · rcases List.mem_cons.1 hr' with rfl | hr'
    · exact hne k hk e'
    · have h2 := (row_lt hr2 k hk).1
      have h3 := h.lt (.inl ⟨r, hr', e'⟩)
      omega
  · rcases List.mem_cons.1 hr' with rfl | hr'
    · intro e'
      have h2 := (row_lt hr2 _ e').1
      have h3 := h.lt (.inr ⟨b, hb', rfl⟩)
      omega
    · exact h1.rb r hr' b hb'
theorem Scn.dump (h : Scn I B w0 w p A rd rs bs) : Calls Tryz.prog 10 #[p] w
    fun e w' => ∃ a c b d, e = .returned (.agg #[.slice a A.σ.cap c, .slice b A.σ.free.length d]) ∧ Scn I B w0 w' p A rd (⟨26, 1, .slice b A.σ.free.length d, A.σ.free.length, u32s A.σ.free⟩ :: ⟨87, 11, .slice a A.σ.cap c, A.σ.cap, slotsV A⟩ :: rs) bs ∧ Below w.heap.size w w' := by
  obtain ⟨F, h1, _⟩ := h.mr.has
  refine (I.dump p A rd F w h1).mono ?_
  rintro e w1 ⟨a, c, b, d, rfl, hr1, hr2, hb⟩
  exact ⟨a, c, b, d, rfl, h.row2 hb hr1 hr2 (row_ne (by decide) hr2 hr1), hb⟩
end
theorem fInfo : (Tryz.prog.info? 164).map (fun i => (i.zero, i.size, i.bytes)) = some (some (.agg #[.int .i64 0, .int .u32 0, .int .i64 0, .int .i64 0]), 4, 32) := by kernel_rfl
theorem i64_is' (n : Int) : IntKind.i64.wrap n = wrap64 n := by rw [IntKind.wrap_i64]; unfold wrap64; rfl
structure CSt (Z : Nat) (w2 : World) (l : List Fd) (v : Value) (wr : World) : Prop where
  val : ∃ a c, v = .slice a l.length c
  row : wr.ownsRow Z 164 4 v l.length (fdsV l)
  below : Below Z w2 wr
section
variable {Z : Nat} {w2 wr w' : World} {l : List Fd} {v v' : Value}
theorem CSt.from (h : CSt Z w2 l v wr) (hb : Below wr.heap.size wr w') (hZ : w2.heap.size = Z) : CSt Z w2 l v w' :=
  ⟨h.val, row_below h.row hb, h.below.trans (hb.mono (by have := h.below.size; omega))⟩
theorem CSt.start (w2 : World) (hZ : w2.heap.size = Z) : CSt Z w2 [] (.slice none 0 0) w2 := ⟨⟨none, 0, rfl⟩, World.ownsRow_nil _ _ _ _, Below.refl _ _⟩
theorem cell_new4 (w : World) (x y z u : Value) (t : TypeId) : ∀ j v, [x, y, z, u][j]? = some v → (w.alloc (.cells #[x, y, z, u] t)).cell? ((⟨w.heap.size, 0, none⟩ : Addr).add j) = some v := by
  intro j v hu
  match j, hu with
  | 0, hu => simp at hu; subst hu; simp [Addr.add]
  | 1, hu => simp at hu; subst hu; simp [Addr.add]
  | 2, hu => simp at hu; subst hu; simp [Addr.add]
  | 3, hu => simp at hu; subst hu; simp [Addr.add]
theorem fd_one (f : Fd) : ∀ u ∈ fdV f, u.oneCell' = true := by
  intro u hu
  simp [fdV] at hu
  rcases hu with rfl | rfl | rfl | rfl <;> rfl
/-- blocks of other types stay -/
def Others (w w' : World) : Prop := ∀ (k : Nat) (cur : Array Value) (t : TypeId), w.heap[k]? = some (.cells cur t (0, 0)) → t ≠ 164 → w'.heap[k]? = some (.cells cur t (0, 0))
theorem others_grown {n : Nat} {xs : List Value} (h : wr.ownsRow Z 164 4 v n xs) (hg : wr.grownBy w' v.ownBlock) : Others wr w' := by
  intro k cur t hk ht
  rw [hg.block k (Array.getElem?_eq_some_iff.1 hk).1 fun e => ?_]
  · exact hk
  rcases h.2 with ⟨rfl, _⟩ | ⟨g2, cap2, cur2, rfl, _, hc2, _⟩
  · simp [Value.ownBlock] at e
  · simp only [Value.ownBlock, Option.some.injEq] at e
    subst e
    rw [hk] at hc2
    simp at hc2
    exact ht hc2.2
theorem wpList_append_fd {ops : Array Oper} {rest : List Oper} {o : Oper} {a : Act} {w : World} {Q : Exit → Act → World → Prop} (hgd : o.guard = none) (s x : Operand)
    (ho : o.op = .call { callee := .builtin .append, args := #[s, x], argTypes := #[133, 133] })
    (hc : CSt Z w2 l v w) (hZ : w2.heap.size = Z) (hs : a.eval s = v) (f : Fd) (g : Nat) (hx : a.eval x = .slice (some ⟨g, 0, none⟩) 1 1)
    (hn : ∀ j u, (fdV f)[j]? = some u → w.cell? ((⟨g, 0, none⟩ : Addr).add j) = some u) (hl : l.length ≤ 100000000)
    (h : ∀ v' w', CSt Z w2 (l ++ [f]) v' w' → Others w w' → wpList Tryz.prog ops Q rest (a.put o.dst v') w') : wpList Tryz.prog ops Q (o :: rest) a w := by
  obtain ⟨i, ji, jz0, jz1, jz2⟩ := info_parts fInfo
  refine wpList_append_own _ hgd s x 133 ho Z 164 i (.agg #[.int .i64 0, .int .u32 0, .int .i64 0, .int .i64 0]) 4 32 Tryz.underlying133 ji jz0 jz1 jz2 rfl (by decide) v l.length (fdsV l) hs hc.row ⟨g, 0, none⟩ 1 1 (fdV f) hx rfl hn (fd_one f) (by unfold maxLen; omega) (by omega) (by have := hc.below.size; omega) ?_
  intro v' w' ho' hg _
  have h1 : CSt Z w2 (l ++ [f]) v' w' := by
    obtain ⟨a', c', hv⟩ := row_val ho'
    refine ⟨⟨a', c', by rw [List.length_append]; exact hv⟩, ?_, hc.below.grown hg (by have := hc.below.size; omega) (row_from hc.row)⟩
    rw [List.length_append, fdsV_snoc]
    exact ho'
  exact h v' w' h1 (others_grown hc.row hg)
/-- the cells of a block that holds a slot's description -/
theorem sl_cells {w : World} {g : Nat} {s : Sl} {t : TypeId} (h : w.heap[g]? = some (.cells (slV s).toArray t (0, 0))) :
    w.cell? ⟨g, 0, none⟩ = some (.bool s.on) ∧ w.cell? ⟨g, 1, none⟩ = some (.int .i64 s.cnt) ∧ w.cell? ⟨g, 2, none⟩ = some (.int .u32 s.gen) ∧
    w.cell? ⟨g, 3, none⟩ = some (.int .i64 s.nd.key) ∧ w.cell? ⟨g, 4, none⟩ = some (.int .i64 s.nd.val) ∧ w.cell? ⟨g, 5, none⟩ = some (.int .u32 (s.nd.left : Int)) ∧
    w.cell? ⟨g, 6, none⟩ = some (.int .u32 (s.nd.right : Int)) ∧ w.cell? ⟨g, 7, none⟩ = some (.int .i64 s.nd.size) ∧ w.cell? ⟨g, 8, none⟩ = some (.int .i64 s.nd.sum) ∧
    w.cell? ⟨g, 9, none⟩ = some (.int .i64 s.nd.mn) ∧ w.cell? ⟨g, 10, none⟩ = some (.int .i64 s.nd.mx) := by
  refine ⟨?_, ?_, ?_, ?_, ?_, ?_, ?_, ?_, ?_, ?_, ?_⟩ <;> (rw [cell_of_row _ _ _ _ _ _ h]; rfl)
/-- the row of findings beside the description of the slot at hand -/
structure RSt (Z : Nat) (w2 : World) (l : List Fd) (v : Value) (sb : Nat) (s : Sl) (wr : World) : Prop where
  st : CSt Z w2 l v wr
  box : wr.heap[sb]? = some (.cells (slV s).toArray 87 (0, 0))
variable {sb : Nat} {s : Sl}
theorem RSt.from (h : RSt Z w2 l v sb s wr) (hb : Below wr.heap.size wr w') (hZ : w2.heap.size = Z) : RSt Z w2 l v sb s w' :=
  ⟨h.st.from hb hZ, (hb.block _ (Array.getElem?_eq_some_iff.1 h.box).1).trans h.box⟩
theorem RSt.push {w3 : World} {l' : List Fd} (h : RSt Z w2 l v sb s wr) (hb : Below wr.heap.size wr w') (hc : CSt Z w2 l' v' w3) (ho : Others w' w3) : RSt Z w2 l' v' sb s w3 :=
  ⟨hc, ho _ _ _ ((hb.block _ (Array.getElem?_eq_some_iff.1 h.box).1).trans h.box) (by decide)⟩
theorem below_new (w : World) (o : Obj) : Below w.heap.size w (w.alloc o) := (Below.refl _ _).alloc (Nat.le_refl _) _
theorem below_chain {a b c : World} (h : Below a.heap.size a b) (h' : Below b.heap.size b c) : Below a.heap.size a c := h.trans (h'.mono h.size)
theorem opt_yes {b : Bool} {f : Fd} (h : b = true) : opt b f = [f] := by unfold opt; rw [if_pos h]
theorem opt_no {b : Bool} {f : Fd} (h : b = false) : opt b f = [] := by unfold opt; rw [h]; rfl
end
end Go.Proofs.YtfihklpofmcfgaaGreat
