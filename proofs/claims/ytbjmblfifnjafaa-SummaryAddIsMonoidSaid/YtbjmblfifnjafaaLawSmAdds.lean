/- SummaryOf, SummaryAdds over contracts. -/
import Derived.Test.YtbjmblfifnjafaaSmCon
import Derived.Test.YtbjmblfifnjafaaSlotsAid
import Derived.Laws.OwnMore
import Derived.Laws.AppendOwnNone
import Derived.Deep.DeepCutAuto
set_option linter.unusedVariables false
set_option linter.unusedSimpArgs false
namespace Go.Proofs.Ytbjmblfifnjafaa
open Go.RowKit
theorem sm_cells {w : World} {g : Nat} {x : Sm} {ty : TypeId} (h : w.heap[g]? = some (.cells (smA x) ty (0, 0))) : w.cell? ⟨g, 0, none⟩ = some (.int .i64 x.n) ∧ w.cell? ⟨g, 1, none⟩ = some (.int .i64 x.s) ∧ w.cell? ⟨g, 2, none⟩ = some (.int .i64 x.mn) ∧ w.cell? ⟨g, 3, none⟩ = some (.int .i64 x.mx) := by
  refine ⟨?_, ?_, ?_, ?_⟩ <;> (rw [cell_of_row _ _ _ _ _ _ h]; rfl)
set_option maxHeartbeats 2000000 in
set_option maxRecDepth 100000 in
theorem smof_walk (I : AImpl) (K : SmImpl I) (KF : SmFn) {a : Option Addr} {n c : Nat} {l : List En} {w : World} (hE : EnsAt w a l) (hn : l.length = n) (hnm : n ≤ 9223372036854775807) :
    Calls Try.prog 3 #[.slice a n c] w (Calm w (.bool true)) := by
  have HAW := fun w => awake11_any I K w
  have HA := Lib.hid HAW
  have HKF := Lib.hid KF
  have HE := Lib.hid hE
  have HN := Lib.hid hn
  have hni : (n : Int) ≤ 9223372036854775807 := by omega
  clear hE hn hnm K KF HAW
  by_cases h3 : 300 < n
  · have g1 : decide ((n : Int) > 300) = true := decide_eq_true (by omega)
    have g2 : decide ((300 : Int) < (n : Int)) = true := decide_eq_true (by omega)
    have g3 : decide (300 < n) = true := decide_eq_true h3
    clear h3
    go_enter Try.func3, Try.ntmps3
    go_wp2_with fail
    refine (HA.out w).mono ?_
    rintro e w1 ⟨rfl, hb1⟩
    have HB1 := Lib.hid hb1
    clear hb1
    go_wp2_with fail
    go_ret
    exact ⟨rfl, HB1.out⟩
  · have g1 : decide ((n : Int) > 300) = false := decide_eq_false (by omega)
    have g2 : decide ((300 : Int) < (n : Int)) = false := decide_eq_false (by omega)
    have g3 : decide (300 < n) = false := decide_eq_false h3
    have HN3 : Hid (n ≤ 1000000) := by show n ≤ 1000000; omega
    clear h3
    go_enter Try.func3, Try.ntmps3
    go_wp2_with fail
    refine (HA.out w).mono ?_
    rintro e w1 ⟨rfl, hb1⟩
    have HB1 := Lib.hid hb1
    clear hb1
    go_wp2_with fail
    refine (HKF.out.of w1 (HE.out.below HB1.out) HN.out HN3.out).mono ?_
    rintro e w2 ⟨rfl, hb2⟩
    have HB2 : Hid (Below w.heap.size w w2) := HB1.out.trans (hb2.mono HB1.out.size)
    clear hb2
    go_wp2_with fail
    refine (summarize_any (HE.out.below HB2.out) HN.out HN3.out).mono ?_
    rintro e w3 ⟨rfl, hb3⟩
    have HB3 : Hid (Below w.heap.size w w3) := HB2.out.trans (hb3.mono HB2.out.size)
    clear hb3
    rw [smA_at]
    generalize (sumE l).n = x0
    generalize (sumE l).s = x1
    generalize (sumE l).mn = x2
    generalize (sumE l).mx = x3
    have e0 : (x0 == x0) = true := by simp
    have e1 : (x1 == x1) = true := by simp
    have e2 : (x2 == x2) = true := by simp
    have e3 : (x3 == x3) = true := by simp
    go_wp2_with fail
    go_ret
    exact ⟨rfl, HB3.out⟩
set_option maxHeartbeats 4000000 in
set_option maxRecDepth 100000 in
theorem smadds_walk (I : AImpl) (K : SmImpl I) (KF : SmFn) {a b : Option Addr} {n c m d : Nat} {l l2 : List En} {w : World} (hE : EnsAt w a l) (hn : l.length = n) (hnm : n ≤ 9223372036854775807) (hF : EnsAt w b l2) (hm : l2.length = m) (hmm : m ≤ 9223372036854775807) :
    Calls Try.prog 4 #[.slice a n c, .slice b m d] w (Calm w (.bool true)) := by
  have HAW := fun w => awake11_any I K w
  have HA := Lib.hid HAW
  have HKF := Lib.hid KF
  have HE := Lib.hid hE
  have HF := Lib.hid hF
  have HN := Lib.hid hn
  have HM := Lib.hid hm
  have hni : (n : Int) ≤ 9223372036854775807 := by omega
  have hmi : (m : Int) ≤ 9223372036854775807 := by omega
  clear hE hn hnm hF hm hmm K KF HAW
  by_cases h3 : 300 < n ∨ 300 < m
  · have main : (decide ((n : Int) > 300) = true ∧ decide ((300 : Int) < (n : Int)) = true) ∨ (decide ((n : Int) > 300) = false ∧ decide ((300 : Int) < (n : Int)) = false ∧ decide ((m : Int) > 300) = true ∧ decide ((300 : Int) < (m : Int)) = true) := by
      by_cases h1 : 300 < n
      · exact .inl ⟨decide_eq_true (by omega), decide_eq_true (by omega)⟩
      · exact .inr ⟨decide_eq_false (by omega), decide_eq_false (by omega), decide_eq_true (by omega), decide_eq_true (by omega)⟩
    have mN : decide (300 < n) = decide ((300 : Int) < (n : Int)) := decide_eq_decide.2 (by omega)
    have mM : decide (300 < m) = decide ((300 : Int) < (m : Int)) := decide_eq_decide.2 (by omega)
    clear h3
    rcases main with ⟨g1, g2⟩ | ⟨g1, g2, g3, g4⟩
    all_goals
      try rw [g2] at mN
      try rw [g4] at mM
      go_enter Try.func4, Try.ntmps4
      go_wp2_with fail
      refine (HA.out w).mono ?_
      rintro e w1 ⟨rfl, hb1⟩
      have HB1 := Lib.hid hb1
      clear hb1
      go_wp2_with fail
      go_ret
      exact ⟨rfl, HB1.out⟩
  · have g1 : decide ((n : Int) > 300) = false := decide_eq_false (by omega)
    have g2 : decide ((300 : Int) < (n : Int)) = false := decide_eq_false (by omega)
    have g3 : decide ((m : Int) > 300) = false := decide_eq_false (by omega)
    have g4 : decide ((300 : Int) < (m : Int)) = false := decide_eq_false (by omega)
    have g5 : decide (300 < n) = false := decide_eq_false (by omega)
    have g6 : decide (300 < m) = false := decide_eq_false (by omega)
    have HNM : Hid (n ≤ 300 ∧ m ≤ 300) := ⟨by omega, by omega⟩
    have hlen : (l ++ l2).length = n + m := by rw [List.length_append, HN.out, HM.out]
    have HLEN := Lib.hid hlen
    have HSA : Hid (addS (sumE l) (sumE l2) = sumE (l ++ l2) ∧ addS (sumE l2) (sumE l) = sumE (l ++ l2)) := by
      have h1 := HN.out; have h2 := HM.out; have h4 := HNM.out
      exact ⟨sum_app l l2 (by omega), sum_swap l l2 (by omega)⟩
    have HWX : Hid ((sumE l).wf ∧ (sumE l2).wf) := ⟨sumE_wf (fun e he => (HE.out.wf e he).2) (by have := HN.out; have := HNM.out; omega), sumE_wf (fun e he => (HF.out.wf e he).2) (by have := HM.out; have := HNM.out; omega)⟩
    clear h3 hlen
    go_enter Try.func4, Try.ntmps4
    go_upto_region 4 with (at_builtin; first
      | (refine wpList_append_ens rfl (.const (.slice none 0 0)) (.tmp 17) rfl (ESt.start w rfl) rfl rfl a c n HN.out rfl HE.out (by have := HNM.out; simp; omega) ?_; intro v5 w5 hc5; have HC5 := Lib.hid hc5; clear hc5)
      | (refine wpList_append_ens rfl (.tmp 18) (.tmp 19) rfl HC5.out rfl rfl b d m HM.out rfl (HF.out.below HC5.out.below) (by have := HNM.out; have := HN.out; simp; omega) ?_; intro v6 w6 hc6; have HC6 := Lib.hid hc6; clear hc6))
    have hc7 : ESt w.heap.size w (l ++ l2) v6 w6 := by simpa using HC6.out
    obtain ⟨N, hN⟩ : ∃ N, n + m = N := ⟨_, rfl⟩
    have HLN : Hid ((l ++ l2).length = N ∧ N ≤ 1000000) := ⟨by rw [HLEN.out, hN], by have := HNM.out; omega⟩
    obtain ⟨a6, c6, hv6⟩ : ∃ a6 c6, v6 = .slice a6 N c6 := by
      obtain ⟨a6, c6, h⟩ := hc7.val
      exact ⟨a6, c6, by rw [h, HLN.out.1]⟩
    subst hv6
    have hrow := hc7.row
    rw [HLN.out.1] at hrow
    have HB6 := Lib.hid hc7.below
    have HG6 : Hid (EnsAt w6 a6 (l ++ l2)) := ens_row HLN.out.1 hrow fun e he => by
      rcases List.mem_append.1 he with he | he
      · exact HE.out.wf e he
      · exact HF.out.wf e he
    clear hc7 hrow HC5 HC6 hN
    go_wp2_with fail
    refine (HKF.out.of w6 (HE.out.below HB6.out) HN.out (by have := HNM.out; omega)).mono ?_
    rintro e w7 ⟨rfl, hb7⟩
    have HB7 : Hid (Below w6.heap.size w6 w7) := hb7
    clear hb7
    go_wp2_with fail
    refine (HKF.out.of w7 ((HF.out.below HB6.out).below HB7.out) HM.out (by have := HNM.out; omega)).mono ?_
    rintro e w8 ⟨rfl, hb8⟩
    have HB8 : Hid (Below w6.heap.size w6 w8) := HB7.out.trans (hb8.mono HB7.out.size)
    clear hb8 HB7
    generalize sumE l = x at HSA HWX ⊢
    generalize sumE l2 = y at HSA HWX ⊢
    obtain ⟨z, hz⟩ : ∃ z, sumE (l ++ l2) = z := ⟨_, rfl⟩
    have HSB : Hid (addS x y = z ∧ addS y x = z) := by rw [← hz]; exact HSA.out
    have HZ := Lib.hid hz
    clear hz HSA
    have hx9 := (below_new7 (w8.alloc (.cells (smA x) 25)) (.cells (smA y) 25)).block w8.heap.size (by simp) |>.trans (heap_alloc_new w8 (.cells (smA x) 25))
    have hy9 := heap_alloc_new (w8.alloc (.cells (smA x) 25)) (.cells (smA y) 25)
    rw [show (w8.alloc (.cells (smA x) 25)).heap.size = w8.heap.size + 1 by simp] at hy9
    have hb9 : Below w6.heap.size w6 ((w8.alloc (.cells (smA x) 25)).alloc (.cells (smA y) 25)) := HB8.out.trans (((below_new7 w8 _).trans ((below_new7 _ _).mono (by simp))).mono HB8.out.size)
    have hl9 : w8.heap.size + 1 < ((w8.alloc (.cells (smA x) 25)).alloc (.cells (smA y) 25)).heap.size := by simp
    rw [smA_at, smA_at]
    go_upto_region 5 with fail
    rw [← smA_at, ← smA_at]
    generalize (w8.alloc (.cells (smA x) 25)).alloc (.cells (smA y) 25) = w9 at hx9 hy9 hb9 hl9 ⊢
    obtain ⟨g1, hg1⟩ : ∃ g, w8.heap.size = g := ⟨_, rfl⟩
    obtain ⟨g2, hg2⟩ : ∃ g, g1 + 1 = g := ⟨_, rfl⟩
    rw [hg1] at hx9 hy9 hl9 ⊢
    rw [hg2] at hy9 hl9 ⊢
    have HX9 := Lib.hid hx9
    have HY9 := Lib.hid hy9
    have HB9 := Lib.hid hb9
    have HL9 : Hid (g1 < w9.heap.size ∧ g2 < w9.heap.size) := ⟨by omega, hl9⟩
    clear hx9 hy9 hb9 hl9 hg1 hg2 HB8
    go_wp2_with fail
    refine (HA.out w9).mono ?_
    rintro e w10 ⟨rfl, hb10⟩
    have HB10 : Hid (Below w9.heap.size w9 w10) := hb10
    clear hb10
    have HC : Hid (∀ wx, Below w9.heap.size w9 wx → (wx.cell? ⟨g1, 0, none⟩ = some (.int .i64 x.n) ∧ wx.cell? ⟨g1, 1, none⟩ = some (.int .i64 x.s) ∧ wx.cell? ⟨g1, 2, none⟩ = some (.int .i64 x.mn) ∧ wx.cell? ⟨g1, 3, none⟩ = some (.int .i64 x.mx)) ∧
        (wx.cell? ⟨g2, 0, none⟩ = some (.int .i64 y.n) ∧ wx.cell? ⟨g2, 1, none⟩ = some (.int .i64 y.s) ∧ wx.cell? ⟨g2, 2, none⟩ = some (.int .i64 y.mn) ∧ wx.cell? ⟨g2, 3, none⟩ = some (.int .i64 y.mx)) ∧ EnsAt wx a6 (l ++ l2) ∧ Below w.heap.size w wx) := fun wx hb =>
      ⟨sm_cells ((hb.block g1 HL9.out.1).trans HX9.out), sm_cells ((hb.block g2 HL9.out.2).trans HY9.out), (HG6.out.below HB9.out).below hb, HB6.out.trans ((HB9.out.trans (hb.mono HB9.out.size)).mono HB6.out.size)⟩
    obtain ⟨⟨c0, c1, c2, c3⟩, ⟨d0, d1, d2, d3⟩, -, -⟩ := HC.out w10 HB10.out
    go_wp2_with fail
    refine (HKF.out.add x y w10 HWX.out.1 HWX.out.2).mono ?_
    rintro e w11 ⟨rfl, hb11⟩
    have HB11 : Hid (Below w9.heap.size w9 w11) := HB10.out.trans (hb11.mono HB10.out.size)
    rw [HSB.out.1]
    clear hb11 c0 c1 c2 c3 d0 d1 d2 d3
    go_wp2_with fail
    refine (HKF.out.of w11 (HC.out w11 HB11.out).2.2.1 HLN.out.1 HLN.out.2).mono ?_
    rintro e w12 ⟨rfl, hb12⟩
    have HB12 : Hid (Below w9.heap.size w9 w12) := HB11.out.trans (hb12.mono HB11.out.size)
    rw [HZ.out, smA_at]
    have e0 : (z.n == z.n) = true := by simp
    have e1 : (z.s == z.s) = true := by simp
    have e2 : (z.mn == z.mn) = true := by simp
    have e3 : (z.mx == z.mx) = true := by simp
    obtain ⟨⟨c0, c1, c2, c3⟩, ⟨d0, d1, d2, d3⟩, -, -⟩ := HC.out w12 HB12.out
    clear hb12
    go_wp2_with fail
    refine (HKF.out.add y x w12 HWX.out.2 HWX.out.1).mono ?_
    rintro e w13 ⟨rfl, hb13⟩
    have HB13 : Hid (Below w9.heap.size w9 w13) := HB12.out.trans (hb13.mono HB12.out.size)
    rw [HSB.out.2]
    clear hb13 c0 c1 c2 c3 d0 d1 d2 d3
    go_wp2_with fail
    refine (HKF.out.of w13 (HC.out w13 HB13.out).2.2.1 HLN.out.1 HLN.out.2).mono ?_
    rintro e w14 ⟨rfl, hb14⟩
    have HB14 : Hid (Below w.heap.size w w14) := (HC.out w14 (HB13.out.trans (hb14.mono HB13.out.size))).2.2.2
    rw [HZ.out, smA_at]
    clear hb14
    go_wp2_with fail
    go_ret
    exact ⟨rfl, HB14.out⟩
end Go.Proofs.Ytbjmblfifnjafaa
