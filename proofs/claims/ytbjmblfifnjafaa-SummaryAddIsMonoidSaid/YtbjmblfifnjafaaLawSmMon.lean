/- SummaryAddIsMonoid over contracts. -/
import Derived.Test.YtbjmblfifnjafaaLawSmAdds
import Derived.Deep.RegionHeld3
import Derived.Deep.DeepCutAuto
import Derived.OwnWalk
set_option linter.unusedVariables false
set_option linter.unusedSimpArgs false
namespace Go.Proofs.Ytbjmblfifnjafaa
open Go.RowKit
theorem min_runS (a b : Int) (w : World) (ts : Array TypeId) (t : TypeId) : (Builtin.min_ ts t #[.int .i64 a, .int .i64 b]).run Try.prog w = .ok (.int .i64 (min a b)) w := by
  have h : (if b < a then b else a) = min a b := by rw [Int.min_def]; split <;> split <;> omega
  rw [← h]
  simp [Builtin.min_, Builtin.min2]
theorem max_runS (a b : Int) (w : World) (ts : Array TypeId) (t : TypeId) : (Builtin.max_ ts t #[.int .i64 a, .int .i64 b]).run Try.prog w = .ok (.int .i64 (max a b)) w := by
  have h : (if a < b then b else a) = max a b := by rw [Int.max_def]; split <;> split <;> omega
  rw [← h]
  simp [Builtin.max_, Builtin.max2]
theorem below_then {a b c : World} (h : Below a.heap.size a b) (h1 : Below b.heap.size b c) : Below a.heap.size a c := h.trans (h1.mono h.size)
theorem addS_wf {x y : Sm} (hx : x.wf) (hy : y.wf) : (addS x y).wf := by
  unfold addS
  split
  · exact hy
  · split
    · exact hx
    · refine ⟨wrap64_in _, wrap64_in _, ?_, ?_⟩
      · have h1 := hx.2.2.1; have h2 := hy.2.2.1; unfold i64R at *; show _ ≤ min x.mn y.mn ∧ min x.mn y.mn ≤ _; omega
      · have h1 := hx.2.2.2; have h2 := hy.2.2.2; unfold i64R at *; show _ ≤ max x.mx y.mx ∧ max x.mx y.mx ≤ _; omega
/-- a count that the law looks at -/
def cntOk (x : Sm) : Prop := 1 ≤ x.n ∧ x.n ≤ 1099511627776
theorem addS_at {x y : Sm} (hx : cntOk x) (hy : cntOk y) : addS x y = ⟨x.n + y.n, wrap64 (x.s + y.s), min x.mn y.mn, max x.mx y.mx⟩ := by
  unfold cntOk at *
  unfold addS
  rw [if_neg (by omega), if_neg (by omega), show wrap64 (x.n + y.n) = x.n + y.n by unfold wrap64; omega]
theorem addS_assoc {x y z : Sm} (hx : cntOk x) (hy : cntOk y) (hz : cntOk z) : addS (addS x y) z = addS x (addS y z) := by
  rw [addS_at hx hy, addS_at hy hz]
  unfold cntOk at *
  unfold addS
  rw [if_neg (by show ¬ x.n + y.n = 0; omega), if_neg (by omega), if_neg (by omega), if_neg (by show ¬ y.n + z.n = 0; omega)]
  congr 1
  · congr 1; show x.n + y.n + z.n = x.n + (y.n + z.n); omega
  · show wrap64 (wrap64 (x.s + y.s) + z.s) = wrap64 (x.s + wrap64 (y.s + z.s))
    unfold wrap64; omega
  · show min (min x.mn y.mn) z.mn = min x.mn (min y.mn z.mn); omega
  · show max (max x.mx y.mx) z.mx = max x.mx (max y.mx z.mx); omega
/-- three boxes of summaries -/
structure B3 (w : World) (g1 g2 g3 : Nat) (x y z : Sm) (wr : World) : Prop where
  b1 : wr.heap[g1]? = some (.cells (smA x) 25 (0, 0))
  b2 : wr.heap[g2]? = some (.cells (smA y) 25 (0, 0))
  b3 : wr.heap[g3]? = some (.cells (smA z) 25 (0, 0))
  n12 : g1 ≠ g2
  n13 : g1 ≠ g3
  n23 : g2 ≠ g3
  h1 : w.heap.size ≤ g1
  h2 : w.heap.size ≤ g2
  h3 : w.heap.size ≤ g3
  below : Below w.heap.size w wr
theorem B3.calm {w wr wx : World} {g1 g2 g3 : Nat} {x y z : Sm} (h : B3 w g1 g2 g3 x y z wr) (hb : Below wr.heap.size wr wx) : B3 w g1 g2 g3 x y z wx :=
  ⟨(hb.block _ (Array.getElem?_eq_some_iff.1 h.b1).1).trans h.b1, (hb.block _ (Array.getElem?_eq_some_iff.1 h.b2).1).trans h.b2, (hb.block _ (Array.getElem?_eq_some_iff.1 h.b3).1).trans h.b3, h.n12, h.n13, h.n23, h.h1, h.h2, h.h3, h.below.trans (hb.mono h.below.size)⟩
def Sm.cnt (x : Sm) (n : Int) : Sm := ⟨n, x.s, x.mn, x.mx⟩
theorem B3.set {w wr : World} {g1 g2 g3 : Nat} {x y z : Sm} (h : B3 w g1 g2 g3 x y z wr) (a b c : Int) :
    B3 w g1 g2 g3 (x.cnt a) (y.cnt b) (z.cnt c) (((wr.setCell ⟨g1, 0, none⟩ (.int .i64 a)).setCell ⟨g2, 0, none⟩ (.int .i64 b)).setCell ⟨g3, 0, none⟩ (.int .i64 c)) := by
  refine ⟨?_, ?_, ?_, h.n12, h.n13, h.n23, h.h1, h.h2, h.h3, ((h.below.setCell h.h1 _).setCell h.h2 _).setCell h.h3 _⟩
  · rw [heap_setCell_other _ _ _ _ h.n13, heap_setCell_other _ _ _ _ h.n12, heap_setCell_same _ _ 0 _ _ _ h.b1]; rfl
  · rw [heap_setCell_other _ _ _ _ h.n23, heap_setCell_same _ _ 0 _ _ _ ((heap_setCell_other _ _ _ _ (Ne.symm h.n12)).trans h.b2)]; rfl
  · rw [heap_setCell_same _ _ 0 _ _ _ ((heap_setCell_other _ _ _ _ (Ne.symm h.n23)).trans ((heap_setCell_other _ _ _ _ (Ne.symm h.n13)).trans h.b3))]; rfl
theorem B3.start (w : World) (x y z : Sm) : B3 w w.heap.size (w.heap.size + 1) (w.heap.size + 1 + 1) x y z (((w.alloc (.cells (smA x) 25)).alloc (.cells (smA y) 25)).alloc (.cells (smA z) 25)) := by
  have e1 : (w.alloc (.cells (smA x) 25)).heap.size = w.heap.size + 1 := by simp
  have e2 : ((w.alloc (.cells (smA x) 25)).alloc (.cells (smA y) 25)).heap.size = w.heap.size + 1 + 1 := by simp
  have c1 := below_new7 w (.cells (smA x) 25)
  have c2 := below_new7 (w.alloc (.cells (smA x) 25)) (.cells (smA y) 25)
  have c3 := below_new7 ((w.alloc (.cells (smA x) 25)).alloc (.cells (smA y) 25)) (.cells (smA z) 25)
  have d1 := heap_alloc_new w (.cells (smA x) 25)
  have d2 := heap_alloc_new (w.alloc (.cells (smA x) 25)) (.cells (smA y) 25)
  have d3 := heap_alloc_new ((w.alloc (.cells (smA x) 25)).alloc (.cells (smA y) 25)) (.cells (smA z) 25)
  rw [e1] at d2
  rw [e2] at d3
  refine ⟨(c3.block _ (by omega)).trans ((c2.block _ (by omega)).trans d1), (c3.block _ (by omega)).trans d2, d3, by omega, by omega, by omega, Nat.le_refl _, by omega, by omega, c1.trans ((c2.mono (by omega)).trans (c3.mono (by omega)))⟩
set_option maxHeartbeats 8000000 in
set_option maxRecDepth 100000 in
theorem monoid_walk (I : AImpl) (K : SmImpl I) (KF : SmFn) (x y z : Sm) (w : World) (hx : x.wf) (hy : y.wf) (hz : z.wf) :
    Calls Try.prog 5 #[.agg (smA x), .agg (smA y), .agg (smA z)] w (Calm w (.bool true)) := by
  have HA := Lib.hid (fun w => awake11_any I K w)
  have HKF := Lib.hid KF
  have HWX : Hid (x.wf ∧ y.wf ∧ z.wf) := ⟨hx, hy, hz⟩
  have hb := B3.start w x y z
  clear K KF hx hy hz
  rw [smA_at x, smA_at y, smA_at z]
  go_enter Try.func5, Try.ntmps5
  go_upto_region 1 with fail
  rw [← smA_at x, ← smA_at y, ← smA_at z]
  generalize ((w.alloc (.cells (smA x) 25)).alloc (.cells (smA y) 25)).alloc (.cells (smA z) 25) = w3 at hb ⊢
  generalize w.heap.size + 1 + 1 = g3 at hb ⊢
  generalize w.heap.size + 1 = g2 at hb ⊢
  generalize hg1 : w.heap.size = g1 at hb ⊢
  have HG1 := Lib.hid hg1
  have HB3 := Lib.hid hb
  obtain ⟨a0, a1, a2, a3⟩ := sm_cells hb.b1
  obtain ⟨b0, b1, b2, b3⟩ := sm_cells hb.b2
  obtain ⟨c0, c1, c2, c3⟩ := sm_cells hb.b3
  have HXA : Hid (smA x = #[.int .i64 x.n, .int .i64 x.s, .int .i64 x.mn, .int .i64 x.mx] ∧ smA y = #[.int .i64 y.n, .int .i64 y.s, .int .i64 y.mn, .int .i64 y.mx] ∧ smA z = #[.int .i64 z.n, .int .i64 z.s, .int .i64 z.mn, .int .i64 z.mx]) := ⟨rfl, rfl, rfl⟩
  generalize smA x = sx at HXA ⊢
  generalize smA y = sy at HXA ⊢
  generalize smA z = sz at HXA ⊢
  classical
  obtain ⟨B, hB⟩ : ∃ B, decide (cntOk x ∧ cntOk y ∧ cntOk z) = B := ⟨_, rfl⟩
  clear hg1 hb HXA
  go_cut [35] (fun s wx => s = .bool (!B) ∧ wx = w3)
  case first =>
    by_cases h0 : x.n ≤ 0
    · have d0 : decide (x.n ≤ 0) = true := decide_eq_true (by omega)
      have hOK : B = false := by rw [← hB]; exact decide_eq_false (fun h => by unfold cntOk at h; omega)
      subst hOK
      clear hB h0
      go_wp2_with fail
      go_meet
      exact ⟨rfl, rfl⟩
    · have d0 : decide (x.n ≤ 0) = false := decide_eq_false (by omega)
      by_cases h1 : y.n ≤ 0
      · have d1 : decide (y.n ≤ 0) = true := decide_eq_true (by omega)
        have hOK : B = false := by rw [← hB]; exact decide_eq_false (fun h => by unfold cntOk at h; omega)
        subst hOK
        clear hB h0 h1
        go_wp2_with fail
        go_meet
        exact ⟨rfl, rfl⟩
      · have d1 : decide (y.n ≤ 0) = false := decide_eq_false (by omega)
        by_cases h2 : z.n ≤ 0
        · have d2 : decide (z.n ≤ 0) = true := decide_eq_true (by omega)
          have hOK : B = false := by rw [← hB]; exact decide_eq_false (fun h => by unfold cntOk at h; omega)
          subst hOK
          clear hB h0 h1 h2
          go_wp2_with fail
          go_meet
          exact ⟨rfl, rfl⟩
        · have d2 : decide (z.n ≤ 0) = false := decide_eq_false (by omega)
          by_cases h3 : 1099511627776 < x.n
          · have d3 : decide (x.n > 1099511627776) = true := decide_eq_true (by omega)
            have e3 : decide (1099511627776 < x.n) = true := decide_eq_true (by omega)
            have hOK : B = false := by rw [← hB]; exact decide_eq_false (fun h => by unfold cntOk at h; omega)
            subst hOK
            clear hB h0 h1 h2 h3
            go_wp2_with fail
            go_meet
            exact ⟨rfl, rfl⟩
          · have d3 : decide (x.n > 1099511627776) = false := decide_eq_false (by omega)
            have e3 : decide (1099511627776 < x.n) = false := decide_eq_false (by omega)
            by_cases h4 : 1099511627776 < y.n
            · have d4 : decide (y.n > 1099511627776) = true := decide_eq_true (by omega)
              have e4 : decide (1099511627776 < y.n) = true := decide_eq_true (by omega)
              have hOK : B = false := by rw [← hB]; exact decide_eq_false (fun h => by unfold cntOk at h; omega)
              subst hOK
              clear hB h0 h1 h2 h3 h4
              go_wp2_with fail
              go_meet
              exact ⟨rfl, rfl⟩
            · have d4 : decide (y.n > 1099511627776) = false := decide_eq_false (by omega)
              have e4 : decide (1099511627776 < y.n) = false := decide_eq_false (by omega)
              by_cases h5 : 1099511627776 < z.n
              · have d5 : decide (z.n > 1099511627776) = true := decide_eq_true (by omega)
                have e5 : decide (1099511627776 < z.n) = true := decide_eq_true (by omega)
                have hOK : B = false := by rw [← hB]; exact decide_eq_false (fun h => by unfold cntOk at h; omega)
                subst hOK
                clear hB h0 h1 h2 h3 h4 h5
                go_wp2_with fail
                go_meet
                exact ⟨rfl, rfl⟩
              · have d5 : decide (z.n > 1099511627776) = false := decide_eq_false (by omega)
                have e5 : decide (1099511627776 < z.n) = false := decide_eq_false (by omega)
                have hOK : B = true := by rw [← hB]; exact decide_eq_true ⟨⟨by omega, by omega⟩, ⟨by omega, by omega⟩, ⟨by omega, by omega⟩⟩
                subst hOK
                clear hB h0 h1 h2 h3 h4 h5
                go_wp2_with fail
                go_meet
                exact ⟨rfl, rfl⟩
  case' rest =>
    rename World => wt
    obtain ⟨rfl, rfl⟩ := hcut
    go_upto_if 35 with fail
    go_cut [6] from 36 to 50 (fun s6 wx => s6 = .bool false ∧ ∃ x' y' z' : Sm, (cntOk x' ∧ cntOk y' ∧ cntOk z') ∧ (x'.wf ∧ y'.wf ∧ z'.wf) ∧ B3 w g1 g2 g3 x' y' z' wx)
    case' rest =>
      rename World => wt
      obtain ⟨rfl, x, y, z, HOK, HWX, HBT⟩ := hcut
      replace HOK : Hid (cntOk x ∧ cntOk y ∧ cntOk z) := HOK
      replace HWX : Hid (x.wf ∧ y.wf ∧ z.wf) := HWX
      replace HBT : Hid (B3 w g1 g2 g3 x y z wt) := HBT
      clear a0 a1 a2 a3 b0 b1 b2 b3 c0 c1 c2 c3 HB3 hB
      have HAS : Hid (addS (addS x y) z = addS x (addS y z) ∧ addS y x = addS x y ∧ addS .z x = x ∧ addS x .z = x) := ⟨addS_assoc HOK.out.1 HOK.out.2.1 HOK.out.2.2, addS_comm (fun h1 _ => by have := HOK.out.1; unfold cntOk at this; omega), addS_zl x, addS_zr x (by have := HOK.out.1; unfold cntOk at this; omega)⟩
      have hzw : Sm.wf .z := ⟨⟨by decide, by decide⟩, ⟨by decide, by decide⟩, ⟨by decide, by decide⟩, ⟨by decide, by decide⟩⟩
      obtain ⟨r, hr⟩ : ∃ r, addS x y = r := ⟨_, rfl⟩
      obtain ⟨u, hu⟩ : ∃ u, addS y z = u := ⟨_, rfl⟩
      obtain ⟨s, hs⟩ : ∃ s, addS x u = s := ⟨_, rfl⟩
      have hrw : r.wf := by rw [← hr]; exact addS_wf HWX.out.1 HWX.out.2.1
      have huw : u.wf := by rw [← hu]; exact addS_wf HWX.out.2.1 HWX.out.2.2
      have hrv : r = ⟨x.n + y.n, wrap64 (x.s + y.s), min x.mn y.mn, max x.mx y.mx⟩ := by rw [← hr]; exact addS_at HOK.out.1 HOK.out.2.1
      have hxn := HOK.out
      have P1 : Hid (∀ w', Calls Try.prog 12 #[.agg (smA x), .agg (smA y)] w' (Calm w' (.agg (smA r)))) := fun w' => by rw [← hr]; exact HKF.out.add x y w' HWX.out.1 HWX.out.2.1
      have P2 : Hid (∀ w', Calls Try.prog 12 #[.agg (smA r), .agg (smA z)] w' (Calm w' (.agg (smA s)))) := fun w' => by rw [← hs, ← hu, ← HAS.out.1, hr]; exact HKF.out.add r z w' hrw HWX.out.2.2
      have P3 : Hid (∀ w', Calls Try.prog 12 #[.agg (smA y), .agg (smA z)] w' (Calm w' (.agg (smA u)))) := fun w' => by rw [← hu]; exact HKF.out.add y z w' HWX.out.2.1 HWX.out.2.2
      have P4 : Hid (∀ w', Calls Try.prog 12 #[.agg (smA x), .agg (smA u)] w' (Calm w' (.agg (smA s)))) := fun w' => by rw [← hs]; exact HKF.out.add x u w' HWX.out.1 huw
      have P5 : Hid (∀ w', Calls Try.prog 12 #[.agg (smA y), .agg (smA x)] w' (Calm w' (.agg (smA r)))) := fun w' => by rw [← hr, ← HAS.out.2.1]; exact HKF.out.add y x w' HWX.out.2.1 HWX.out.1
      have P6 : Hid (∀ w', Calls Try.prog 12 #[.agg (smA .z), .agg (smA x)] w' (Calm w' (.agg (smA x)))) := fun w' => by have h := HKF.out.add .z x w' hzw HWX.out.1; rw [HAS.out.2.2.1] at h; exact h
      have P7 : Hid (∀ w', Calls Try.prog 12 #[.agg (smA x), .agg (smA .z)] w' (Calm w' (.agg (smA x)))) := fun w' => by have h := HKF.out.add x .z w' HWX.out.1 hzw; rw [HAS.out.2.2.2] at h; exact h
      have hn4 := heap_alloc_new wt (.cells (smA .z) 25)
      have hb4 := HBT.out.calm (below_new7 wt (.cells (smA .z) 25))
      have hg4 : wt.heap.size < (wt.alloc (.cells (smA .z) 25)).heap.size := by simp
      clear HWX HOK HAS hzw hr hu hs hrw huw HBT
      obtain ⟨x0, x1, x2, x3⟩ := x
      obtain ⟨y0, y1, y2, y3⟩ := y
      obtain ⟨z0, z1, z2, z3⟩ := z
      obtain ⟨r0, r1, r2, r3⟩ := r
      obtain ⟨s0, s1, s2, s3⟩ := s
      obtain ⟨u0, u1, u2, u3⟩ := u
      obtain ⟨rfl, rfl, rfl, rfl⟩ : r0 = x0 + y0 ∧ r1 = wrap64 (x1 + y1) ∧ r2 = min x2 y2 ∧ r3 = max x3 y3 := by simpa using hrv
      obtain ⟨r0, hr0⟩ : ∃ r, x0 + y0 = r := ⟨_, rfl⟩
      obtain ⟨r1, hr1⟩ : ∃ r, wrap64 (x1 + y1) = r := ⟨_, rfl⟩
      obtain ⟨r2, hr2⟩ : ∃ r, min x2 y2 = r := ⟨_, rfl⟩
      obtain ⟨r3, hr3⟩ : ∃ r, max x3 y3 = r := ⟨_, rfl⟩
      have k0 : IntKind.i64.wrap (x0 + y0) = r0 := by
        obtain ⟨⟨e1, e2⟩, ⟨e3, e4⟩, -⟩ := hxn
        have e1' : 1 ≤ x0 := e1
        have e2' : x0 ≤ 1099511627776 := e2
        have e3' : 1 ≤ y0 := e3
        have e4' : y0 ≤ 1099511627776 := e4
        rw [IntKind.wrap_i64]; omega
      have k1 : IntKind.i64.wrap (x1 + y1) = r1 := by rw [IntKind.wrap_i64, ← hr1]; unfold wrap64; omega
      rw [hr0, hr1, hr2, hr3] at P1 P2 P5
      have P1 : Hid (∀ w', Calls Try.prog 12 #[.agg #[.int .i64 x0, .int .i64 x1, .int .i64 x2, .int .i64 x3], .agg #[.int .i64 y0, .int .i64 y1, .int .i64 y2, .int .i64 y3]] w' (Calm w' (.agg #[.int .i64 r0, .int .i64 r1, .int .i64 r2, .int .i64 r3]))) := P1.out
      have P2 : Hid (∀ w', Calls Try.prog 12 #[.agg #[.int .i64 r0, .int .i64 r1, .int .i64 r2, .int .i64 r3], .agg #[.int .i64 z0, .int .i64 z1, .int .i64 z2, .int .i64 z3]] w' (Calm w' (.agg #[.int .i64 s0, .int .i64 s1, .int .i64 s2, .int .i64 s3]))) := P2.out
      have P3 : Hid (∀ w', Calls Try.prog 12 #[.agg #[.int .i64 y0, .int .i64 y1, .int .i64 y2, .int .i64 y3], .agg #[.int .i64 z0, .int .i64 z1, .int .i64 z2, .int .i64 z3]] w' (Calm w' (.agg #[.int .i64 u0, .int .i64 u1, .int .i64 u2, .int .i64 u3]))) := P3.out
      have P4 : Hid (∀ w', Calls Try.prog 12 #[.agg #[.int .i64 x0, .int .i64 x1, .int .i64 x2, .int .i64 x3], .agg #[.int .i64 u0, .int .i64 u1, .int .i64 u2, .int .i64 u3]] w' (Calm w' (.agg #[.int .i64 s0, .int .i64 s1, .int .i64 s2, .int .i64 s3]))) := P4.out
      have P5 : Hid (∀ w', Calls Try.prog 12 #[.agg #[.int .i64 y0, .int .i64 y1, .int .i64 y2, .int .i64 y3], .agg #[.int .i64 x0, .int .i64 x1, .int .i64 x2, .int .i64 x3]] w' (Calm w' (.agg #[.int .i64 r0, .int .i64 r1, .int .i64 r2, .int .i64 r3]))) := P5.out
      have P6 : Hid (∀ w', Calls Try.prog 12 #[.agg #[.int .i64 0, .int .i64 0, .int .i64 0, .int .i64 0], .agg #[.int .i64 x0, .int .i64 x1, .int .i64 x2, .int .i64 x3]] w' (Calm w' (.agg #[.int .i64 x0, .int .i64 x1, .int .i64 x2, .int .i64 x3]))) := P6.out
      have P7 : Hid (∀ w', Calls Try.prog 12 #[.agg #[.int .i64 x0, .int .i64 x1, .int .i64 x2, .int .i64 x3], .agg #[.int .i64 0, .int .i64 0, .int .i64 0, .int .i64 0]] w' (Calm w' (.agg #[.int .i64 x0, .int .i64 x1, .int .i64 x2, .int .i64 x3]))) := P7.out
      have q0 : (r0 == r0) = true := by simp
      have q1 : (r1 == r1) = true := by simp
      have q2 : (r2 == r2) = true := by simp
      have q3 : (r3 == r3) = true := by simp
      have t0 : (s0 == s0) = true := by simp
      have t1 : (s1 == s1) = true := by simp
      have t2 : (s2 == s2) = true := by simp
      have t3 : (s3 == s3) = true := by simp
      have v0 : (x0 == x0) = true := by simp
      have v1 : (x1 == x1) = true := by simp
      have v2 : (x2 == x2) = true := by simp
      have v3 : (x3 == x3) = true := by simp
      have hmin : ∀ (w : World) (ts : Array TypeId) (t : TypeId), (Builtin.min_ ts t #[.int .i64 x2, .int .i64 y2]).run Try.prog w = .ok (.int .i64 r2) w := fun w ts t => by rw [min_runS, hr2]
      have hmax : ∀ (w : World) (ts : Array TypeId) (t : TypeId), (Builtin.max_ ts t #[.int .i64 x3, .int .i64 y3]).run Try.prog w = .ok (.int .i64 r3) w := fun w ts t => by rw [max_runS, hr3]
      clear hrv hxn hr0 hr1 hr2 hr3
      go_upto_region 4 with fail
      rw [show #[Value.int .i64 0, .int .i64 0, .int .i64 0, .int .i64 0] = smA Sm.z from rfl]
      generalize wt.alloc (.cells (smA .z) 25) = w4 at hn4 hb4 hg4 ⊢
      generalize wt.heap.size = g4 at hn4 hg4 ⊢
      have HC : Hid (∀ wx, Below w4.heap.size w4 wx → (wx.cell? ⟨g1, 0, none⟩ = some (.int .i64 x0) ∧ wx.cell? ⟨g1, 1, none⟩ = some (.int .i64 x1) ∧ wx.cell? ⟨g1, 2, none⟩ = some (.int .i64 x2) ∧ wx.cell? ⟨g1, 3, none⟩ = some (.int .i64 x3)) ∧
          (wx.cell? ⟨g2, 0, none⟩ = some (.int .i64 y0) ∧ wx.cell? ⟨g2, 1, none⟩ = some (.int .i64 y1) ∧ wx.cell? ⟨g2, 2, none⟩ = some (.int .i64 y2) ∧ wx.cell? ⟨g2, 3, none⟩ = some (.int .i64 y3)) ∧
          (wx.cell? ⟨g3, 0, none⟩ = some (.int .i64 z0) ∧ wx.cell? ⟨g3, 1, none⟩ = some (.int .i64 z1) ∧ wx.cell? ⟨g3, 2, none⟩ = some (.int .i64 z2) ∧ wx.cell? ⟨g3, 3, none⟩ = some (.int .i64 z3)) ∧
          (wx.cell? ⟨g4, 0, none⟩ = some (.int .i64 0) ∧ wx.cell? ⟨g4, 1, none⟩ = some (.int .i64 0) ∧ wx.cell? ⟨g4, 2, none⟩ = some (.int .i64 0) ∧ wx.cell? ⟨g4, 3, none⟩ = some (.int .i64 0)) ∧ Below w.heap.size w wx) := fun wx hb =>
        ⟨sm_cells (hb4.calm hb).b1, sm_cells (hb4.calm hb).b2, sm_cells (hb4.calm hb).b3, sm_cells ((hb.block g4 hg4).trans hn4), (hb4.calm hb).below⟩
      obtain ⟨⟨a0, a1, a2, a3⟩, ⟨b0, b1, b2, b3⟩, ⟨c0, c1, c2, c3⟩, ⟨d0, d1, d2, d3⟩, -⟩ := HC.out w4.drew (Below.refl _ _).drew
      clear hn4 hb4 hg4
      have hS0 : Below w4.heap.size w4 w4.drew := (Below.refl _ _).drew
      simp only [List.append_eq, List.cons_append, List.nil_append]
      go_region_held3 (fun w' => Below w4.heap.size w4 w' ∧ w'.cell? ⟨g1, 0, none⟩ = some (.int .i64 x0) ∧ w'.cell? ⟨g1, 1, none⟩ = some (.int .i64 x1) ∧ w'.cell? ⟨g1, 2, none⟩ = some (.int .i64 x2) ∧ w'.cell? ⟨g1, 3, none⟩ = some (.int .i64 x3) ∧ w'.cell? ⟨g2, 0, none⟩ = some (.int .i64 y0) ∧ w'.cell? ⟨g2, 1, none⟩ = some (.int .i64 y1) ∧ w'.cell? ⟨g2, 2, none⟩ = some (.int .i64 y2) ∧ w'.cell? ⟨g2, 3, none⟩ = some (.int .i64 y3) ∧ w'.cell? ⟨g3, 0, none⟩ = some (.int .i64 z0) ∧ w'.cell? ⟨g3, 1, none⟩ = some (.int .i64 z1) ∧ w'.cell? ⟨g3, 2, none⟩ = some (.int .i64 z2) ∧ w'.cell? ⟨g3, 3, none⟩ = some (.int .i64 z3) ∧ w'.cell? ⟨g4, 0, none⟩ = some (.int .i64 0) ∧ w'.cell? ⟨g4, 1, none⟩ = some (.int .i64 0) ∧ w'.cell? ⟨g4, 2, none⟩ = some (.int .i64 0) ∧ w'.cell? ⟨g4, 3, none⟩ = some (.int .i64 0)) (go_keep) (first
          | (go_at_call 9; refine (HA.out _).mono ?_; rintro e wA ⟨rfl, hbA⟩; have hSA := below_then (a := w4) (by assumption) hbA; obtain ⟨⟨a0, a1, a2, a3⟩, ⟨b0, b1, b2, b3⟩, ⟨c0, c1, c2, c3⟩, ⟨d0, d1, d2, d3⟩, -⟩ := HC.out _ hSA)
          | (go_at_call 12; (with_reducible refine (P1.out _).mono ?_); rintro e wA ⟨rfl, hbA⟩; have hSA := below_then (a := w4) (by assumption) hbA; obtain ⟨⟨a0, a1, a2, a3⟩, ⟨b0, b1, b2, b3⟩, ⟨c0, c1, c2, c3⟩, ⟨d0, d1, d2, d3⟩, -⟩ := HC.out _ hSA)
          | (go_at_call 12; (with_reducible refine (P2.out _).mono ?_); rintro e wA ⟨rfl, hbA⟩; have hSA := below_then (a := w4) (by assumption) hbA; obtain ⟨⟨a0, a1, a2, a3⟩, ⟨b0, b1, b2, b3⟩, ⟨c0, c1, c2, c3⟩, ⟨d0, d1, d2, d3⟩, -⟩ := HC.out _ hSA)
          | (go_at_call 12; (with_reducible refine (P3.out _).mono ?_); rintro e wA ⟨rfl, hbA⟩; have hSA := below_then (a := w4) (by assumption) hbA; obtain ⟨⟨a0, a1, a2, a3⟩, ⟨b0, b1, b2, b3⟩, ⟨c0, c1, c2, c3⟩, ⟨d0, d1, d2, d3⟩, -⟩ := HC.out _ hSA)
          | (go_at_call 12; (with_reducible refine (P4.out _).mono ?_); rintro e wA ⟨rfl, hbA⟩; have hSA := below_then (a := w4) (by assumption) hbA; obtain ⟨⟨a0, a1, a2, a3⟩, ⟨b0, b1, b2, b3⟩, ⟨c0, c1, c2, c3⟩, ⟨d0, d1, d2, d3⟩, -⟩ := HC.out _ hSA)
          | (go_at_call 12; (with_reducible refine (P5.out _).mono ?_); rintro e wA ⟨rfl, hbA⟩; have hSA := below_then (a := w4) (by assumption) hbA; obtain ⟨⟨a0, a1, a2, a3⟩, ⟨b0, b1, b2, b3⟩, ⟨c0, c1, c2, c3⟩, ⟨d0, d1, d2, d3⟩, -⟩ := HC.out _ hSA)
          | (go_at_call 12; (with_reducible refine (P6.out _).mono ?_); rintro e wA ⟨rfl, hbA⟩; have hSA := below_then (a := w4) (by assumption) hbA; obtain ⟨⟨a0, a1, a2, a3⟩, ⟨b0, b1, b2, b3⟩, ⟨c0, c1, c2, c3⟩, ⟨d0, d1, d2, d3⟩, -⟩ := HC.out _ hSA)
          | (go_at_call 12; (with_reducible refine (P7.out _).mono ?_); rintro e wA ⟨rfl, hbA⟩; have hSA := below_then (a := w4) (by assumption) hbA; obtain ⟨⟨a0, a1, a2, a3⟩, ⟨b0, b1, b2, b3⟩, ⟨c0, c1, c2, c3⟩, ⟨d0, d1, d2, d3⟩, -⟩ := HC.out _ hSA))
      all_goals (
        have HBF := (HC.out _ hSA).2.2.2.2
        go_wp2_with fail
        go_ret
        exact ⟨rfl, HBF⟩)
    case first =>
      cases B with
      | true =>
        have hok := of_decide_eq_true hB
        have HOK : Hid (cntOk x ∧ cntOk y ∧ cntOk z) := hok
        clear hok hB
        go_wp2_with fail
        go_meet
        exact ⟨rfl, x, y, z, HOK.out, HWX.out, HB3.out⟩
      | false =>
        clear hB
        have m1 := Int.emod_nonneg x.n (b := 100) (by decide)
        have m2 := Int.emod_lt_of_pos x.n (b := 100) (by decide)
        have m3 := Int.emod_nonneg y.n (b := 100) (by decide)
        have m4 := Int.emod_lt_of_pos y.n (b := 100) (by decide)
        have m5 := Int.emod_nonneg z.n (b := 100) (by decide)
        have m6 := Int.emod_lt_of_pos z.n (b := 100) (by decide)
        have HM1 : Hid (∀ wx, Calls Try.prog 13 #[.int .i64 x.n, .int .i64 100] wx (fun e w' => e = .returned (.int .i64 (x.n % 100)) ∧ wx = w')) := fun wx => mod_any x.n 100 wx HWX.out.1.1.1 HWX.out.1.1.2 (by decide) (by decide)
        have HM2 : Hid (∀ wx, Calls Try.prog 13 #[.int .i64 y.n, .int .i64 100] wx (fun e w' => e = .returned (.int .i64 (y.n % 100)) ∧ wx = w')) := fun wx => mod_any y.n 100 wx HWX.out.2.1.1.1 HWX.out.2.1.1.2 (by decide) (by decide)
        have HM3 : Hid (∀ wx, Calls Try.prog 13 #[.int .i64 z.n, .int .i64 100] wx (fun e w' => e = .returned (.int .i64 (z.n % 100)) ∧ wx = w')) := fun wx => mod_any z.n 100 wx HWX.out.2.2.1.1 HWX.out.2.2.1.2 (by decide) (by decide)
        obtain ⟨p1, hp1⟩ : ∃ p, x.n % 100 = p := ⟨_, rfl⟩
        obtain ⟨p2, hp2⟩ : ∃ p, y.n % 100 = p := ⟨_, rfl⟩
        obtain ⟨p3, hp3⟩ : ∃ p, z.n % 100 = p := ⟨_, rfl⟩
        rw [hp1] at m1 m2 HM1
        rw [hp2] at m3 m4 HM2
        rw [hp3] at m5 m6 HM3
        have k1 : IntKind.i64.wrap (1 + p1) = 1 + p1 := by rw [IntKind.wrap_i64]; omega
        have k2 : IntKind.i64.wrap (1 + p2) = 1 + p2 := by rw [IntKind.wrap_i64]; omega
        have k3 : IntKind.i64.wrap (1 + p3) = 1 + p3 := by rw [IntKind.wrap_i64]; omega
        have HOK : Hid (cntOk (x.cnt (1 + p1)) ∧ cntOk (y.cnt (1 + p2)) ∧ cntOk (z.cnt (1 + p3))) := by unfold Sm.cnt cntOk; exact ⟨⟨by show 1 ≤ 1 + p1; omega, by show 1 + p1 ≤ _; omega⟩, ⟨by show 1 ≤ 1 + p2; omega, by show 1 + p2 ≤ _; omega⟩, ⟨by show 1 ≤ 1 + p3; omega, by show 1 + p3 ≤ _; omega⟩⟩
        have HWC : Hid ((x.cnt (1 + p1)).wf ∧ (y.cnt (1 + p2)).wf ∧ (z.cnt (1 + p3)).wf) :=
          ⟨⟨⟨by show _ ≤ 1 + p1; omega, by show 1 + p1 ≤ _; omega⟩, HWX.out.1.2⟩, ⟨⟨by show _ ≤ 1 + p2; omega, by show 1 + p2 ≤ _; omega⟩, HWX.out.2.1.2⟩, ⟨⟨by show _ ≤ 1 + p3; omega, by show 1 + p3 ≤ _; omega⟩, HWX.out.2.2.2⟩⟩
        have u1 := frozen_of_row _ _ 0 _ _ HB3.out.b1
        have u2 := frozen_of_row _ _ 0 _ _ HB3.out.b2
        have u3 := frozen_of_row _ _ 0 _ _ HB3.out.b3
        have n12 := HB3.out.n12
        have n13 := HB3.out.n13
        have n23 := HB3.out.n23
        have n21 := Ne.symm n12
        have n31 := Ne.symm n13
        have n32 := Ne.symm n23
        clear hp1 hp2 hp3 m1 m2 m3 m4 m5 m6
        go_upto_region 2 with fail
        go_region_with (first
          | (go_at_call_of 13 (Value.int .i64 x.n); refine (HM1.out _).mono ?_; rintro e wA ⟨rfl, rfl⟩)
          | (go_at_call_of 13 (Value.int .i64 y.n); refine (HM2.out _).mono ?_; rintro e wA ⟨rfl, rfl⟩)
          | (go_at_call_of 13 (Value.int .i64 z.n); refine (HM3.out _).mono ?_; rintro e wA ⟨rfl, rfl⟩))
        all_goals (
          have hset := (HB3.out.set (1 + p1) (1 + p2) (1 + p3)).calm (Below.refl _ _).drew
          go_wp2_with fail
          go_meet
          exact ⟨rfl, x.cnt (1 + p1), y.cnt (1 + p2), z.cnt (1 + p3), HOK.out, HWC.out, hset⟩)
end Go.Proofs.Ytbjmblfifnjafaa
