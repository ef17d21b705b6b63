/- SummaryRangesAdd over contracts. -/
import Derived.Test.YtbjmblfifnjafaaSmCon
set_option linter.unusedVariables false
set_option linter.unusedSimpArgs false
namespace Go.Proofs.Ytbjmblfifnjafaa
open Go.RowKit
theorem run_count (v0 v1 v2 v3 : Value) (w : World) : Sem.run Try.prog (Instr.field 25 (.agg #[v0, v1, v2, v3]) 0) w = .ok v0 w := by
  simp [Instr.field, run_underlying Try.underlying25, part, asAgg, Result.andThen]
set_option maxHeartbeats 8000000 in
set_option maxRecDepth 100000 in
theorem smranges_walk (I : AImpl) (K : SmImpl I) (KF : SmFn) (KR : RkImpl I) {a : Option Addr} {n c : Nat} {raw : List En} {tilt : Int} {lo mid hi : Int} {w : World} (hE : EnsAt w a raw) (hn : raw.length = n) (hnm : n ≤ 9223372036854775807) (ht0 : 0 ≤ tilt) (ht1 : tilt < 18446744073709551616) (hlo : i64R lo) (hmid : i64R mid) (hhi : i64R hi) :
    Calls Try.prog 8 #[.slice a n c, .int .u64 tilt, .int .i64 lo, .int .i64 mid, .int .i64 hi] w (Calm w (.bool true)) := by
  have HK := Lib.hid K
  have HKF := Lib.hid KF
  have HKR := Lib.hid KR
  have HR : Hid (i64R lo ∧ i64R mid ∧ i64R hi) := ⟨hlo, hmid, hhi⟩
  clear K KF KR hlo hmid hhi
  have HWF : Hid (∀ y ∈ listE raw 120, i64R y.key ∧ i64R y.val) := fun y hy => hE.wf y (listE_mem hy)
  have HL := Lib.hid (list_any (c := c) (k := 120) hE hn hnm (by decide))
  have HT : Hid (0 ≤ tilt ∧ tilt < 18446744073709551616) := ⟨ht0, ht1⟩
  have HUP := Lib.hid (listE_up raw 120)
  have HLEN := Lib.hid (listE_len raw 120)
  clear hE hn hnm ht0 ht1
  go_enter Try.func8, Try.ntmps8
  go_wp2_with fail
  refine HL.out.mono ?_
  rintro e w1 ⟨a1, c1, rfl, hr1, hb1⟩
  have HR1 := Lib.hid hr1
  have HB1 := Lib.hid hb1
  clear hr1 hb1 HL
  generalize listE raw 120 = l at HUP HLEN HR1 HWF ⊢
  obtain ⟨L, hL⟩ : ∃ L, l.length = L := ⟨_, rfl⟩
  rw [hL] at HLEN HR1 ⊢
  have HLL := Lib.hid hL
  have hLi : (L : Int) ≤ 120 := by have := HLEN.out; omega
  have HE1 := Lib.hid (ens_row hL HR1.out HWF.out)
  have HC1 := Lib.hid (row_caps HR1.out)
  clear hL
  go_wp2_with fail
  refine (grow_any I (sp := 1) (m := L + 1) HE1.out HLL.out HC1.out.1 HC1.out.2 rfl (by omega) (by have := HLEN.out; omega) HT.out.1 HT.out.2).mono ?_
  rintro e w2 ⟨p, A, ri, t, F, rfl, hg⟩
  obtain ⟨pa, rfl⟩ := I.ptr hg.is
  have HTR := Lib.hid (hg.planted.tree HUP.out)
  have HPL := Lib.hid hg.planted
  have HS2 := Lib.hid (Scn.init hg HB1.out HR1.out)
  clear hg HR1 HE1 HC1 HT
  go_wp2_with fail
  refine (awake11_any I HK.out w2).mono ?_
  rintro e w3 ⟨rfl, hb3⟩
  have HS3 := Lib.hid (HS2.out.calm hb3)
  clear hb3 HS2
  have HMOST : Hid (mostJ L ≤ 492 ∧ 0 ≤ mostJ L) := mostJ_le (by have := HLEN.out; omega)
  have HRD3 : Hid (0 ≤ (0 : Int) ∧ (0 : Int) ≤ 0) := ⟨by decide, by decide⟩
  have HWV : Hid (∀ e ∈ l, i64R e.val) := fun e he => (HWF.out e he).2
  by_cases hc : lo ≤ mid ∧ mid < hi
  · obtain ⟨h1, h2⟩ := hc
    have g1 : decide (lo > mid) = false := decide_eq_false (by omega)
    have g2 : decide (mid < lo) = false := decide_eq_false (by omega)
    have g3 : decide (mid ≥ hi) = false := decide_eq_false (by omega)
    have g4 : decide (hi ≤ mid) = false := decide_eq_false (by omega)
    have hm1 : i64R (mid + 1) := by have := HR.out; unfold i64R at *; omega
    have hw1 : IntKind.i64.wrap (mid + 1) = mid + 1 := by rw [IntKind.wrap_i64]; unfold i64R at hm1; omega
    have HM1 := Lib.hid hm1
    have b1 := bet_len l lo mid
    have b2 := bet_len l (mid + 1) hi
    rw [HLL.out] at b1 b2
    have hll := HLEN.out
    have HW1 : Hid ((sumE (betE l lo mid)).wf ∧ (sumE (betE l (mid + 1) hi)).wf) := ⟨sumE_wf (fun e he => HWV.out e (bet_mem he)) (by omega), sumE_wf (fun e he => HWV.out e (bet_mem he)) (by omega)⟩
    have HAD : Hid (addS (sumE (betE l lo mid)) (sumE (betE l (mid + 1) hi)) = sumE (betE l lo hi)) := by
      show _ = _
      rw [sum_app _ _ (by omega), bet_add HUP.out h1 h2]
    obtain ⟨z, hz⟩ : ∃ z, sumE (betE l lo hi) = z := ⟨_, rfl⟩
    have HCN : Hid ((cntE l lo hi : Int) = z.n) := by rw [← hz]; exact (rfl : (cntE l lo hi : Int) = ((betE l lo hi).length : Int))
    rw [hz] at HAD
    have HZ := Lib.hid hz
    have e0 : (z.n == z.n) = true := by simp
    have e1 : (z.s == z.s) = true := by simp
    have e2 : (z.mn == z.mn) = true := by simp
    have e3 : (z.mx == z.mx) = true := by simp
    have hfd := fun w' => run_count (.int .i64 z.n) (.int .i64 z.s) (.int .i64 z.mn) (.int .i64 z.mx) w'
    clear h1 h2 hm1 b1 b2 hll hz
    go_wp2_with fail
    refine (HS3.out.call fun F hI => HK.out.range lo mid _ hI HTR.out HRD3.out.1 (by have := HRD3.out; omega) HR.out.1 HR.out.2.1 HWV.out).mono ?_
    rintro e w4 ⟨rfl, rd4, hs4, hr0, hr1⟩
    rw [HLL.out] at hr1
    have HS4 := Lib.hid hs4
    have HRD4 : Hid (0 ≤ rd4 ∧ rd4 ≤ 1000) := by have h1 := HRD3.out; have h2 := HMOST.out; exact ⟨by omega, by omega⟩
    clear hs4 hr0 hr1
    generalize sumE (betE l lo mid) = x at HW1 HAD ⊢
    rw [smA_at]
    go_wp2_with fail
    refine (HS4.out.call fun F hI => HK.out.range (mid + 1) hi _ hI HTR.out HRD4.out.1 (by have := HRD4.out; omega) HM1.out HR.out.2.2 HWV.out).mono ?_
    rintro e w5 ⟨rfl, rd5, hs5, hr0, hr1⟩
    rw [HLL.out] at hr1
    have HS5 := Lib.hid hs5
    have HRD5 : Hid (0 ≤ rd5 ∧ rd5 ≤ 2000) := by have h1 := HRD4.out; have h2 := HMOST.out; exact ⟨by omega, by omega⟩
    clear hs5 hr0 hr1
    generalize sumE (betE l (mid + 1) hi) = y at HW1 HAD ⊢
    rw [smA_at]
    go_wp2_with fail
    refine (HKF.out.add x y w5 HW1.out.1 HW1.out.2).mono ?_
    rintro e w6 ⟨rfl, hb6⟩
    rw [HAD.out, smA_at]
    have HS6 := Lib.hid (HS5.out.calm hb6)
    have HRD6 := HRD5
    clear hb6
    go_wp2_with fail
    refine (HS6.out.call fun F hI => HK.out.range lo hi _ hI HTR.out HRD6.out.1 (by have := HRD6.out; omega) HR.out.1 HR.out.2.2 HWV.out).mono ?_
    rintro e w7 ⟨rfl, rd7, hs7, hr0, hr1⟩
    rw [HLL.out] at hr1
    have HS7 := Lib.hid hs7
    have HRD7 : Hid (0 ≤ rd7 ∧ rd7 ≤ 4000) := by have h1 := HRD6.out; have h2 := HMOST.out; exact ⟨by omega, by omega⟩
    clear hs7 hr0 hr1
    rw [HZ.out, smA_at]
    go_wp2_with fail
    refine (HS7.out.call fun F hI => HK.out.range lo hi _ hI HTR.out HRD7.out.1 (by have := HRD7.out; omega) HR.out.1 HR.out.2.2 HWV.out).mono ?_
    rintro e w8 ⟨rfl, rd8, hs8, hr0, hr1⟩
    rw [HLL.out] at hr1
    have HS8 := Lib.hid hs8
    have HRD8 : Hid (0 ≤ rd8 ∧ rd8 ≤ 5000) := by have h1 := HRD7.out; have h2 := HMOST.out; exact ⟨by omega, by omega⟩
    clear hs8 hr0 hr1
    rw [HZ.out, smA_at]
    go_wp2_with fail
    refine (HS8.out.call fun F hI => HKR.out.count lo hi _ hI HTR.out HRD8.out.1 (by have := HRD8.out; omega) HR.out.1 HR.out.2.2).mono ?_
    rintro e w9 ⟨rfl, rd9, hs9, hr0, hr1⟩
    rw [HLL.out] at hr1
    have HS9 := Lib.hid hs9
    have HRD9 : Hid (0 ≤ rd9 ∧ rd9 ≤ 6000) := by have h1 := HRD8.out; have h2 := HMOST.out; exact ⟨by omega, by omega⟩
    clear hs9 hr0 hr1
    rw [HCN.out]
    go_wp2_with fail
    go_ret
    exact ⟨rfl, HS9.out.below⟩
  · have HZ : Hid (smA (sumE (betE l 1 0)) = #[.int .i64 0, .int .i64 0, .int .i64 0, .int .i64 0]) := by
      show _ = _
      rw [bet_none l (by decide)]
      kernel_rfl
    have HI10 : Hid (i64R 1 ∧ i64R 0) := ⟨⟨by decide, by decide⟩, ⟨by decide, by decide⟩⟩
    by_cases h1 : mid < lo
    · have g1 : decide (lo > mid) = true := decide_eq_true h1
      have g2 : decide (mid < lo) = true := decide_eq_true h1
      clear hc h1
      go_wp2_with fail
      refine (HS3.out.call fun F hI => HK.out.range 1 0 _ hI HTR.out HRD3.out.1 (by have := HRD3.out; omega) HI10.out.1 HI10.out.2 HWV.out).mono ?_
      rintro e w4 ⟨rfl, rd4, hs4, hr0, hr1⟩
      have HS4 := Lib.hid hs4
      clear hs4 hr0 hr1
      rw [HZ.out]
      go_wp2_with fail
      go_ret
      exact ⟨rfl, HS4.out.below⟩
    · have h2 : hi ≤ mid := by omega
      have g1 : decide (lo > mid) = false := decide_eq_false (by omega)
      have g2 : decide (mid < lo) = false := decide_eq_false (by omega)
      have g3 : decide (mid ≥ hi) = true := decide_eq_true h2
      have g4 : decide (hi ≤ mid) = true := decide_eq_true h2
      clear hc h1 h2
      go_wp2_with fail
      refine (HS3.out.call fun F hI => HK.out.range 1 0 _ hI HTR.out HRD3.out.1 (by have := HRD3.out; omega) HI10.out.1 HI10.out.2 HWV.out).mono ?_
      rintro e w4 ⟨rfl, rd4, hs4, hr0, hr1⟩
      have HS4 := Lib.hid hs4
      clear hs4 hr0 hr1
      rw [HZ.out]
      go_wp2_with fail
      go_ret
      exact ⟨rfl, HS4.out.below⟩
end Go.Proofs.Ytbjmblfifnjafaa
