/- RankCountsAdd over contracts. -/
import Derived.Test.YtcdfgnbdbmmcpaaRkCon
set_option linter.unusedVariables false
set_option linter.unusedSimpArgs false
namespace Go.Proofs.Ytcdfgnbdbmmcpaa
open Go.RowKit
set_option maxHeartbeats 8000000 in
set_option maxRecDepth 100000 in
theorem counts_walk (I : AImpl) (K : RkImpl I) {a : Option Addr} {n c : Nat} {raw : List En} {tilt : Int} {lo mid hi : Int} {w : World} (hE : EnsAt w a raw) (hn : raw.length = n) (hnm : n ≤ 9223372036854775807) (ht0 : 0 ≤ tilt) (ht1 : tilt < 18446744073709551616) (hlo : i64R lo) (hmid : i64R mid) (hhi : i64R hi) :
    Calls Try.prog 5 #[.slice a n c, .int .u64 tilt, .int .i64 lo, .int .i64 mid, .int .i64 hi] w (Calm w (.bool true)) := by
  have HK := Lib.hid K
  have HR : Hid (i64R lo ∧ i64R mid ∧ i64R hi) := ⟨hlo, hmid, hhi⟩
  clear K hlo hmid hhi
  have HWF : Hid (∀ y ∈ listE raw 120, i64R y.key ∧ i64R y.val) := fun y hy => hE.wf y (listE_mem hy)
  have HL := Lib.hid (list_any (c := c) (k := 120) hE hn hnm (by decide))
  have HT : Hid (0 ≤ tilt ∧ tilt < 18446744073709551616) := ⟨ht0, ht1⟩
  have HUP := Lib.hid (listE_up raw 120)
  have HLEN := Lib.hid (listE_len raw 120)
  clear hE hn hnm ht0 ht1
  go_enter Try.func5, Try.ntmps5
  go_wp2_with fail
  refine HL.out.mono ?_
  rintro e w1 ⟨a1, c1, rfl, hr1, hb1⟩
  have HR1 := Lib.hid hr1
  have HB1 := Lib.hid hb1
  clear hr1 hb1 HL
  generalize listE raw 120 = l at HUP HLEN HR1 HWF ⊢
  obtain ⟨L, hL⟩ : ∃ L, l.length = L := ⟨_, rfl⟩
  rw [hL] at HLEN HR1 ⊢
  have HLL := Lib.hid hL
  have hLi : (L : Int) ≤ 120 := by have := HLEN.out; omega
  have HE1 := Lib.hid (ens_row hL HR1.out HWF.out)
  have HC1 := Lib.hid (row_caps HR1.out)
  clear hL
  go_wp2_with fail
  refine (grow_any I (sp := 1) (m := L + 1) HE1.out HLL.out HC1.out.1 HC1.out.2 rfl (by omega) (by have := HLEN.out; omega) HT.out.1 HT.out.2).mono ?_
  rintro e w2 ⟨p, A, ri, t, F, rfl, hg⟩
  obtain ⟨pa, rfl⟩ := I.ptr hg.is
  have HTR := Lib.hid (hg.planted.tree HUP.out)
  have HPL := Lib.hid hg.planted
  have HS2 := Lib.hid (Scn.init hg HB1.out HR1.out)
  clear hg HR1 HE1 HC1 HT
  go_wp2_with fail
  refine (awake10_any I HK.out w2).mono ?_
  rintro e w3 ⟨rfl, hb3⟩
  have HS3 := Lib.hid (HS2.out.calm hb3)
  clear hb3 HS2
  have HMOST : Hid (mostJ L ≤ 492 ∧ 0 ≤ mostJ L) := mostJ_le (by have := HLEN.out; omega)
  have HRD3 : Hid (0 ≤ (0 : Int) ∧ (0 : Int) ≤ 0) := ⟨by decide, by decide⟩
  by_cases hc : lo ≤ mid ∧ mid < hi
  · obtain ⟨h1, h2⟩ := hc
    have g1 : decide (lo > mid) = false := decide_eq_false (by omega)
    have g2 : decide (mid < lo) = false := decide_eq_false (by omega)
    have g3 : decide (mid ≥ hi) = false := decide_eq_false (by omega)
    have g4 : decide (hi ≤ mid) = false := decide_eq_false (by omega)
    have hm1 : i64R (mid + 1) := by have := HR.out; unfold i64R at *; omega
    have hw1 : IntKind.i64.wrap (mid + 1) = mid + 1 := by rw [IntKind.wrap_i64]; unfold i64R at hm1; omega
    have HM1 := Lib.hid hm1
    have HMN : Hid (i64R (-9223372036854775808) ∧ i64R 9223372036854775807) := ⟨⟨by decide, by decide⟩, ⟨by decide, by decide⟩⟩
    have e1 := cnt_add l h1 h2
    have e2 := cnt_rank l h1
    have e3 : cntE l (-9223372036854775808) 9223372036854775807 = L := by rw [cnt_all fun e he => (HWF.out e he).1, HLL.out]
    have e4 := cntE_le l lo hi
    have e5 := rankE_le l (mid + 1)
    rw [HLL.out] at e4 e5
    obtain ⟨C1, hC1⟩ : ∃ C : Int, (cntE l lo mid : Int) = C := ⟨_, rfl⟩
    obtain ⟨C2, hC2⟩ : ∃ C : Int, (cntE l (mid + 1) hi : Int) = C := ⟨_, rfl⟩
    obtain ⟨C3, hC3⟩ : ∃ C : Int, (cntE l lo hi : Int) = C := ⟨_, rfl⟩
    obtain ⟨C4, hC4⟩ : ∃ C : Int, (cntE l (-9223372036854775808) 9223372036854775807 : Int) = C := ⟨_, rfl⟩
    obtain ⟨R0, hR0⟩ : ∃ C : Int, (rankE l lo : Int) = C := ⟨_, rfl⟩
    obtain ⟨R1, hR1⟩ : ∃ C : Int, (rankE l (mid + 1) : Int) = C := ⟨_, rfl⟩
    have k1 : IntKind.i64.wrap (C1 + C2) = C3 := by rw [IntKind.wrap_i64]; omega
    have k2 : IntKind.i64.wrap (R1 - R0) = C1 := by rw [IntKind.wrap_i64]; omega
    have k3 : C4 = (L : Int) := by omega
    have k4 : (C3 == C3) = true := by simp
    have k5 : (C1 == C1) = true := by simp
    have k6 : (C4 == (L : Int)) = true := by simp [k3]
    have HC1 := Lib.hid hC1
    have HC2 := Lib.hid hC2
    have HC3 := Lib.hid hC3
    have HC4 := Lib.hid hC4
    have HR0 := Lib.hid hR0
    have HR1 := Lib.hid hR1
    clear h1 h2 hm1 e1 e2 e3 e4 e5 hC1 hC2 hC3 hC4 hR0 hR1 k3
    go_wp2_with fail
    refine (HS3.out.call fun F hI => HK.out.count lo mid _ hI HTR.out HRD3.out.1 (by have := HRD3.out; omega) HR.out.1 HR.out.2.1).mono ?_
    rintro e w4 ⟨rfl, rd4, hs4, hr0, hr1⟩
    rw [HLL.out] at hr1
    have HS4 := Lib.hid hs4
    have HRD4 : Hid (0 ≤ rd4 ∧ rd4 ≤ 1000) := by have h1 := HRD3.out; have h2 := HMOST.out; exact ⟨by omega, by omega⟩
    clear hs4 hr0 hr1
    rw [HC1.out]
    go_wp2_with fail
    refine (HS4.out.call fun F hI => HK.out.count (mid + 1) hi _ hI HTR.out HRD4.out.1 (by have := HRD4.out; omega) HM1.out HR.out.2.2).mono ?_
    rintro e w5 ⟨rfl, rd5, hs5, hr0, hr1⟩
    rw [HLL.out] at hr1
    have HS5 := Lib.hid hs5
    have HRD5 : Hid (0 ≤ rd5 ∧ rd5 ≤ 2000) := by have h1 := HRD4.out; have h2 := HMOST.out; exact ⟨by omega, by omega⟩
    clear hs5 hr0 hr1
    rw [HC2.out]
    go_wp2_with fail
    refine (HS5.out.call fun F hI => HK.out.count lo hi _ hI HTR.out HRD5.out.1 (by have := HRD5.out; omega) HR.out.1 HR.out.2.2).mono ?_
    rintro e w6 ⟨rfl, rd6, hs6, hr0, hr1⟩
    rw [HLL.out] at hr1
    have HS6 := Lib.hid hs6
    have HRD6 : Hid (0 ≤ rd6 ∧ rd6 ≤ 3000) := by have h1 := HRD5.out; have h2 := HMOST.out; exact ⟨by omega, by omega⟩
    clear hs6 hr0 hr1
    rw [HC3.out]
    go_wp2_with fail
    refine (HS6.out.call fun F hI => HK.out.count lo mid _ hI HTR.out HRD6.out.1 (by have := HRD6.out; omega) HR.out.1 HR.out.2.1).mono ?_
    rintro e w7 ⟨rfl, rd7, hs7, hr0, hr1⟩
    rw [HLL.out] at hr1
    have HS7 := Lib.hid hs7
    have HRD7 : Hid (0 ≤ rd7 ∧ rd7 ≤ 4000) := by have h1 := HRD6.out; have h2 := HMOST.out; exact ⟨by omega, by omega⟩
    clear hs7 hr0 hr1
    rw [HC1.out]
    go_wp2_with fail
    refine (HS7.out.call fun F hI => HK.out.rank (mid + 1) _ hI HTR.out HRD7.out.1 (by have := HRD7.out; omega) HM1.out).mono ?_
    rintro e w8 ⟨rfl, rd8, hs8, hr0, hr1⟩
    rw [HLL.out] at hr1
    have HS8 := Lib.hid hs8
    have HRD8 : Hid (0 ≤ rd8 ∧ rd8 ≤ 5000) := by have h1 := HRD7.out; have h2 := HMOST.out; exact ⟨by omega, by omega⟩
    clear hs8 hr0 hr1
    rw [HR1.out]
    go_wp2_with fail
    refine (HS8.out.call fun F hI => HK.out.rank lo _ hI HTR.out HRD8.out.1 (by have := HRD8.out; omega) HR.out.1).mono ?_
    rintro e w9 ⟨rfl, rd9, hs9, hr0, hr1⟩
    rw [HLL.out] at hr1
    have HS9 := Lib.hid hs9
    have HRD9 : Hid (0 ≤ rd9 ∧ rd9 ≤ 6000) := by have h1 := HRD8.out; have h2 := HMOST.out; exact ⟨by omega, by omega⟩
    clear hs9 hr0 hr1
    rw [HR0.out]
    go_wp2_with fail
    refine (HS9.out.call fun F hI => HK.out.count (-9223372036854775808) 9223372036854775807 _ hI HTR.out HRD9.out.1 (by have := HRD9.out; omega) HMN.out.1 HMN.out.2).mono ?_
    rintro e w10 ⟨rfl, rd10, hs10, hr0, hr1⟩
    rw [HLL.out] at hr1
    have HS10 := Lib.hid hs10
    have HRD10 : Hid (0 ≤ rd10 ∧ rd10 ≤ 7000) := by have h1 := HRD9.out; have h2 := HMOST.out; exact ⟨by omega, by omega⟩
    clear hs10 hr0 hr1
    rw [HC4.out]
    go_wp2_with fail
    go_ret
    exact ⟨rfl, HS10.out.below⟩
  · have HZ : Hid (cntE l 1 0 = 0) := cnt_none l (by decide)
    have HI10 : Hid (i64R 1 ∧ i64R 0) := ⟨⟨by decide, by decide⟩, ⟨by decide, by decide⟩⟩
    have main : ∀ b : Bool, b = true → True := fun _ _ => trivial
    by_cases h1 : mid < lo
    · have g1 : decide (lo > mid) = true := decide_eq_true h1
      have g2 : decide (mid < lo) = true := decide_eq_true h1
      clear hc h1 main
      go_wp2_with fail
      refine (HS3.out.call fun F hI => HK.out.count 1 0 _ hI HTR.out HRD3.out.1 (by have := HRD3.out; omega) HI10.out.1 HI10.out.2).mono ?_
      rintro e w4 ⟨rfl, rd4, hs4, hr0, hr1⟩
      have HS4 := Lib.hid hs4
      clear hs4 hr0 hr1
      rw [HZ.out]
      go_wp2_with fail
      go_ret
      exact ⟨rfl, HS4.out.below⟩
    · have h2 : hi ≤ mid := by omega
      have g1 : decide (lo > mid) = false := decide_eq_false (by omega)
      have g2 : decide (mid < lo) = false := decide_eq_false (by omega)
      have g3 : decide (mid ≥ hi) = true := decide_eq_true h2
      have g4 : decide (hi ≤ mid) = true := decide_eq_true h2
      clear hc h1 h2 main
      go_wp2_with fail
      refine (HS3.out.call fun F hI => HK.out.count 1 0 _ hI HTR.out HRD3.out.1 (by have := HRD3.out; omega) HI10.out.1 HI10.out.2).mono ?_
      rintro e w4 ⟨rfl, rd4, hs4, hr0, hr1⟩
      have HS4 := Lib.hid hs4
      clear hs4 hr0 hr1
      rw [HZ.out]
      go_wp2_with fail
      go_ret
      exact ⟨rfl, HS4.out.below⟩
end Go.Proofs.Ytcdfgnbdbmmcpaa
