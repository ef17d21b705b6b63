/- The program's reservations keep their contracts. -/
import Derived.Test.YtfchdnaaepaabaaRsCon
import Derived.Test.YtfchdnaaepaabaaShOk1
set_option linter.unusedVariables false
set_option linter.unusedSimpArgs false
namespace Go.Proofs.Ytfchdnaaepaabaa
open Go.RowKit
theorem valid_any (n : Int) (w : World) : Calls Try.prog 24 #[.int .i64 n] w fun e w' => e = .returned (.bool (decide (vld n))) ∧ w' = w := by
  by_cases h1 : 0 ≤ n
  · have hd : decide (n ≥ 0) = true := decide_eq_true h1
    have hd2 : decide (0 ≤ n) = true := decide_eq_true h1
    by_cases h2 : n ≤ 65536
    · have hd3 : decide (n ≤ 65536) = true := decide_eq_true h2
      have HE : Hid (decide (vld n) = true) := decide_eq_true ⟨h1, h2⟩
      clear h1 h2
      go_enter Try.func24, Try.ntmps24
      go_wp2_with fail
      go_ret
      exact ⟨by rw [HE.out]; rfl, rfl⟩
    · have hd3 : decide (n ≤ 65536) = false := decide_eq_false h2
      have HE : Hid (decide (vld n) = false) := decide_eq_false (fun h => h2 h.2)
      clear h1 h2
      go_enter Try.func24, Try.ntmps24
      go_wp2_with fail
      go_ret
      exact ⟨by rw [HE.out]; rfl, rfl⟩
  · have hd : decide (n ≥ 0) = false := decide_eq_false h1
    have hd2 : decide (0 ≤ n) = false := decide_eq_false h1
    have HE : Hid (decide (vld n) = false) := decide_eq_false (fun h => h1 h.1)
    clear h1
    go_enter Try.func24, Try.ntmps24
    go_wp2_with fail
    go_ret
    exact ⟨by rw [HE.out]; rfl, rfl⟩
theorem pathR_any (n : Int) (w : World) (h0 : 0 ≤ n) (h1 : n ≤ 1000000) : Calls Try.prog 25 #[.int .i64 n] w (Calm w (.int .i64 (xhI n + 2))) := by
  have hX := xhI_in h0 h1
  have HC := Lib.hid (maxHeight_any n w (by omega) (by omega))
  obtain ⟨X, hXX⟩ : ∃ X, xhI n = X := ⟨_, rfl⟩
  rw [hXX] at hX HC ⊢
  have w4 : IntKind.i64.wrap (X + 2) = X + 2 := by rw [IntKind.wrap_i64]; omega
  clear h0 h1 hX hXX
  go_enter Try.func25, Try.ntmps25
  go_wp2_with fail
  refine HC.out.mono ?_
  rintro e w1 ⟨rfl, hb⟩
  have HB := Lib.hid hb
  clear hb
  go_wp2_with fail
  go_ret
  exact ⟨rfl, HB.out⟩
theorem path_in {f n : Int} (hf : 0 ≤ f ∧ f ≤ 12) (h0 : 0 ≤ n) (h1 : n ≤ 1000000) : 0 ≤ f * (xhI n + 2) ∧ f * (xhI n + 2) ≤ 984 := by
  have hX := xhI_in h0 h1
  have h4 : f * (xhI n + 2) ≤ 12 * 82 := Int.mul_le_mul hf.2 (by omega) (by omega) (by decide)
  exact ⟨Int.mul_nonneg hf.1 (by omega), by omega⟩
set_option maxHeartbeats 1000000 in
set_option maxRecDepth 100000 in
theorem rsInsert_any (n : Int) (w : World) (hn : in64 n) : Calls Try.prog 8 #[.int .i64 n] w (Calm w (.int .i64 (insI n))) := by
  by_cases vn : vld n
  rotate_left
  · have HE : Hid (insI n = -1) := by show insI n = -1; unfold insI needI; rw [if_neg (fun h => vn h.1)]
    have HV : Hid (decide (vld n) = false) := decide_eq_false vn
    clear hn vn
    go_enter Try.func8, Try.ntmps8
    go_wp2_with fail
    refine (valid_any n _).mono ?_
    rintro e wv ⟨rfl, rfl⟩
    rw [HV.out]
    go_wp2_with fail
    go_ret
    exact ⟨by rw [HE.out]; rfl, Below.refl _ _⟩
  have hE : insI n = 0 + 4 * (xhI (n + 0 + 0 + 1) + 2) := need_ok vn vld0 vld0
  have HVn : Hid (decide (vld n) = true) := decide_eq_true vn
  rw [show n + 0 + 0 + 1 = n + 1 by omega] at hE
  have har : 0 ≤ n + 1 ∧ n + 1 ≤ 1000000 := by unfold vld at vn; omega
  have hpi := path_in (f := 4) ⟨by decide, by decide⟩ har.1 har.2
  have HC : Hid (∀ wx, Calls Try.prog 25 #[.int .i64 (n + 1)] wx (Calm wx (.int .i64 (xhI (n + 1) + 2)))) := fun wx => pathR_any (n + 1) wx har.1 har.2
  obtain ⟨Q, hQ⟩ : ∃ Q, xhI (n + 1) + 2 = Q := ⟨_, rfl⟩
  rw [hQ] at hE hpi HC
  have hq1 : IntKind.i64.wrap (4 * Q) = 4 * Q := by rw [IntKind.wrap_i64]; omega
  have hs0 : IntKind.i64.wrap (n + 1) = n + 1 := by unfold vld at vn; rw [IntKind.wrap_i64]; omega
  have HE := Lib.hid hE
  clear hE har hpi hQ hn vn
  go_enter Try.func8, Try.ntmps8
  go_wp2_with fail
  refine (valid_any n _).mono ?_
  rintro e wv ⟨rfl, rfl⟩
  rw [HVn.out]
  go_wp2_with fail
  refine (HC.out _).mono ?_
  rintro e w2 ⟨rfl, hb2⟩
  have HB2 := Lib.hid hb2
  clear hb2
  go_wp2_with fail
  go_ret
  exact ⟨by rw [HE.out, Int.zero_add]; rfl, HB2.out⟩
set_option maxHeartbeats 1000000 in
set_option maxRecDepth 100000 in
theorem rsDelete_any (n : Int) (w : World) (hn : in64 n) : Calls Try.prog 9 #[.int .i64 n] w (Calm w (.int .i64 (delI n))) := by
  by_cases vn : vld n
  rotate_left
  · have HE : Hid (delI n = -1) := by show delI n = -1; unfold delI needI; rw [if_neg (fun h => vn h.1)]
    have HV : Hid (decide (vld n) = false) := decide_eq_false vn
    clear hn vn
    go_enter Try.func9, Try.ntmps9
    go_wp2_with fail
    refine (valid_any n _).mono ?_
    rintro e wv ⟨rfl, rfl⟩
    rw [HV.out]
    go_wp2_with fail
    go_ret
    exact ⟨by rw [HE.out]; rfl, Below.refl _ _⟩
  have hE : delI n = 0 + 4 * (xhI (n + 0 + 0 + 0) + 2) := need_ok vn vld0 vld0
  have HVn : Hid (decide (vld n) = true) := decide_eq_true vn
  rw [show n + 0 + 0 + 0 = n by omega] at hE
  have har : 0 ≤ n ∧ n ≤ 1000000 := by unfold vld at vn; omega
  have hpi := path_in (f := 4) ⟨by decide, by decide⟩ har.1 har.2
  have HC : Hid (∀ wx, Calls Try.prog 25 #[.int .i64 (n)] wx (Calm wx (.int .i64 (xhI (n) + 2)))) := fun wx => pathR_any (n) wx har.1 har.2
  obtain ⟨Q, hQ⟩ : ∃ Q, xhI (n) + 2 = Q := ⟨_, rfl⟩
  rw [hQ] at hE hpi HC
  have hq1 : IntKind.i64.wrap (4 * Q) = 4 * Q := by rw [IntKind.wrap_i64]; omega
  have HE := Lib.hid hE
  clear hE har hpi hQ hn vn
  go_enter Try.func9, Try.ntmps9
  go_wp2_with fail
  refine (valid_any n _).mono ?_
  rintro e wv ⟨rfl, rfl⟩
  rw [HVn.out]
  go_wp2_with fail
  refine (HC.out _).mono ?_
  rintro e w2 ⟨rfl, hb2⟩
  have HB2 := Lib.hid hb2
  clear hb2
  go_wp2_with fail
  go_ret
  exact ⟨by rw [HE.out, Int.zero_add]; rfl, HB2.out⟩
set_option maxHeartbeats 1000000 in
set_option maxRecDepth 100000 in
theorem rsJoin_any (l r : Int) (w : World) (hl : in64 l) (hr : in64 r) : Calls Try.prog 10 #[.int .i64 l, .int .i64 r] w (Calm w (.int .i64 (joinI l r))) := by
  by_cases vl : vld l
  rotate_left
  · have HE : Hid (joinI l r = -1) := by show joinI l r = -1; unfold joinI needI; rw [if_neg (fun h => vl h.1)]
    have HV : Hid (decide (vld l) = false) := decide_eq_false vl
    clear hl hr vl
    go_enter Try.func10, Try.ntmps10
    go_wp2_with fail
    refine (valid_any l _).mono ?_
    rintro e wv ⟨rfl, rfl⟩
    rw [HV.out]
    go_wp2_with fail
    go_ret
    exact ⟨by rw [HE.out]; rfl, Below.refl _ _⟩
  by_cases vr : vld r
  rotate_left
  · have HE : Hid (joinI l r = -1) := by show joinI l r = -1; unfold joinI needI; rw [if_neg (fun h => vr h.2.1)]
    have HV : Hid (decide (vld r) = false) := decide_eq_false vr
    have HVl : Hid (decide (vld l) = true) := decide_eq_true vl
    clear hl hr vl vr
    go_enter Try.func10, Try.ntmps10
    go_wp2_with fail
    refine (valid_any l _).mono ?_
    rintro e wv ⟨rfl, rfl⟩
    rw [HVl.out]
    go_wp2_with fail
    refine (valid_any r _).mono ?_
    rintro e wv ⟨rfl, rfl⟩
    rw [HV.out]
    go_wp2_with fail
    go_ret
    exact ⟨by rw [HE.out]; rfl, Below.refl _ _⟩
  have hE : joinI l r = 0 + 4 * (xhI (l + r + 0 + 1) + 2) := need_ok vl vr vld0
  have HVl : Hid (decide (vld l) = true) := decide_eq_true vl
  have HVr : Hid (decide (vld r) = true) := decide_eq_true vr
  rw [show l + r + 0 + 1 = l + r + 1 by omega] at hE
  have har : 0 ≤ l + r + 1 ∧ l + r + 1 ≤ 1000000 := by unfold vld at vl vr; omega
  have hpi := path_in (f := 4) ⟨by decide, by decide⟩ har.1 har.2
  have HC : Hid (∀ wx, Calls Try.prog 25 #[.int .i64 (l + r + 1)] wx (Calm wx (.int .i64 (xhI (l + r + 1) + 2)))) := fun wx => pathR_any (l + r + 1) wx har.1 har.2
  obtain ⟨Q, hQ⟩ : ∃ Q, xhI (l + r + 1) + 2 = Q := ⟨_, rfl⟩
  rw [hQ] at hE hpi HC
  have hq1 : IntKind.i64.wrap (4 * Q) = 4 * Q := by rw [IntKind.wrap_i64]; omega
  have hs0 : IntKind.i64.wrap (l + r) = l + r := by unfold vld at vl vr; rw [IntKind.wrap_i64]; omega
  have hs1 : IntKind.i64.wrap (l + r + 1) = l + r + 1 := by unfold vld at vl vr; rw [IntKind.wrap_i64]; omega
  have HE := Lib.hid hE
  clear hE har hpi hQ hl vl hr vr
  go_enter Try.func10, Try.ntmps10
  go_wp2_with fail
  refine (valid_any l _).mono ?_
  rintro e wv ⟨rfl, rfl⟩
  rw [HVl.out]
  go_wp2_with fail
  refine (valid_any r _).mono ?_
  rintro e wv ⟨rfl, rfl⟩
  rw [HVr.out]
  go_wp2_with fail
  refine (HC.out _).mono ?_
  rintro e w2 ⟨rfl, hb2⟩
  have HB2 := Lib.hid hb2
  clear hb2
  go_wp2_with fail
  go_ret
  exact ⟨by rw [HE.out, Int.zero_add]; rfl, HB2.out⟩
set_option maxHeartbeats 1000000 in
set_option maxRecDepth 100000 in
theorem rsSplit_any (n : Int) (w : World) (hn : in64 n) : Calls Try.prog 11 #[.int .i64 n] w (Calm w (.int .i64 (splitI n))) := by
  by_cases vn : vld n
  rotate_left
  · have HE : Hid (splitI n = -1) := by show splitI n = -1; unfold splitI needI; rw [if_neg (fun h => vn h.1)]
    have HV : Hid (decide (vld n) = false) := decide_eq_false vn
    clear hn vn
    go_enter Try.func11, Try.ntmps11
    go_wp2_with fail
    refine (valid_any n _).mono ?_
    rintro e wv ⟨rfl, rfl⟩
    rw [HV.out]
    go_wp2_with fail
    go_ret
    exact ⟨by rw [HE.out]; rfl, Below.refl _ _⟩
  have hE : splitI n = 0 + 12 * (xhI (n + 0 + 0 + 0) + 2) := need_ok vn vld0 vld0
  have HVn : Hid (decide (vld n) = true) := decide_eq_true vn
  rw [show n + 0 + 0 + 0 = n by omega] at hE
  have har : 0 ≤ n ∧ n ≤ 1000000 := by unfold vld at vn; omega
  have hpi := path_in (f := 12) ⟨by decide, by decide⟩ har.1 har.2
  have HC : Hid (∀ wx, Calls Try.prog 25 #[.int .i64 (n)] wx (Calm wx (.int .i64 (xhI (n) + 2)))) := fun wx => pathR_any (n) wx har.1 har.2
  obtain ⟨Q, hQ⟩ : ∃ Q, xhI (n) + 2 = Q := ⟨_, rfl⟩
  rw [hQ] at hE hpi HC
  have hq1 : IntKind.i64.wrap (12 * Q) = 12 * Q := by rw [IntKind.wrap_i64]; omega
  have HE := Lib.hid hE
  clear hE har hpi hQ hn vn
  go_enter Try.func11, Try.ntmps11
  go_wp2_with fail
  refine (valid_any n _).mono ?_
  rintro e wv ⟨rfl, rfl⟩
  rw [HVn.out]
  go_wp2_with fail
  refine (HC.out _).mono ?_
  rintro e w2 ⟨rfl, hb2⟩
  have HB2 := Lib.hid hb2
  clear hb2
  go_wp2_with fail
  go_ret
  exact ⟨by rw [HE.out, Int.zero_add]; rfl, HB2.out⟩
set_option maxHeartbeats 1000000 in
set_option maxRecDepth 100000 in
theorem rsBuild_any (n : Int) (w : World) (hn : in64 n) : Calls Try.prog 15 #[.int .i64 n] w (Calm w (.int .i64 (buildI n))) := by
  by_cases vn : vld n
  rotate_left
  · have HE : Hid (buildI n = -1) := by show buildI n = -1; unfold buildI needI; rw [if_neg (fun h => vn h.1)]
    have HV : Hid (decide (vld n) = false) := decide_eq_false vn
    clear hn vn
    go_enter Try.func15, Try.ntmps15
    go_wp2_with fail
    refine (valid_any n _).mono ?_
    rintro e wv ⟨rfl, rfl⟩
    rw [HV.out]
    go_wp2_with fail
    go_ret
    exact ⟨by rw [HE.out]; rfl, Below.refl _ _⟩
  have hE : buildI n = n + 0 * (xhI (n + 0 + 0 + 0) + 2) := need_ok vn vld0 vld0
  have HVn : Hid (decide (vld n) = true) := decide_eq_true vn
  have HE : Hid (buildI n = n) := by show _ = _; rw [hE]; omega
  clear hE hn vn
  go_enter Try.func15, Try.ntmps15
  go_wp2_with fail
  refine (valid_any n _).mono ?_
  rintro e wv ⟨rfl, rfl⟩
  rw [HVn.out]
  go_wp2_with fail
  go_ret
  exact ⟨by rw [HE.out]; rfl, Below.refl _ _⟩
set_option maxHeartbeats 1000000 in
set_option maxRecDepth 100000 in
theorem rsSetOperation_any (l r : Int) (w : World) (hl : in64 l) (hr : in64 r) : Calls Try.prog 12 #[.int .i64 l, .int .i64 r] w (Calm w (.int .i64 (setI l r))) := by
  by_cases vl : vld l
  rotate_left
  · have HE : Hid (setI l r = -1) := by show setI l r = -1; unfold setI needI; rw [if_neg (fun h => vl h.1)]
    have HV : Hid (decide (vld l) = false) := decide_eq_false vl
    clear hl hr vl
    go_enter Try.func12, Try.ntmps12
    go_wp2_with fail
    refine (valid_any l _).mono ?_
    rintro e wv ⟨rfl, rfl⟩
    rw [HV.out]
    go_wp2_with fail
    go_ret
    exact ⟨by rw [HE.out]; rfl, Below.refl _ _⟩
  by_cases vr : vld r
  rotate_left
  · have HE : Hid (setI l r = -1) := by show setI l r = -1; unfold setI needI; rw [if_neg (fun h => vr h.2.1)]
    have HV : Hid (decide (vld r) = false) := decide_eq_false vr
    have HVl : Hid (decide (vld l) = true) := decide_eq_true vl
    clear hl hr vl vr
    go_enter Try.func12, Try.ntmps12
    go_wp2_with fail
    refine (valid_any l _).mono ?_
    rintro e wv ⟨rfl, rfl⟩
    rw [HVl.out]
    go_wp2_with fail
    refine (valid_any r _).mono ?_
    rintro e wv ⟨rfl, rfl⟩
    rw [HV.out]
    go_wp2_with fail
    go_ret
    exact ⟨by rw [HE.out]; rfl, Below.refl _ _⟩
  have hE : setI l r = l + r + 12 * (xhI (l + r + 0 + 0) + 2) := need_ok vl vr vld0
  have HVl : Hid (decide (vld l) = true) := decide_eq_true vl
  have HVr : Hid (decide (vld r) = true) := decide_eq_true vr
  rw [show l + r + 0 + 0 = l + r by omega] at hE
  have har : 0 ≤ l + r ∧ l + r ≤ 1000000 := by unfold vld at vl vr; omega
  have hpi := path_in (f := 12) ⟨by decide, by decide⟩ har.1 har.2
  have HC : Hid (∀ wx, Calls Try.prog 25 #[.int .i64 (l + r)] wx (Calm wx (.int .i64 (xhI (l + r) + 2)))) := fun wx => pathR_any (l + r) wx har.1 har.2
  obtain ⟨Q, hQ⟩ : ∃ Q, xhI (l + r) + 2 = Q := ⟨_, rfl⟩
  rw [hQ] at hE hpi HC
  have hq1 : IntKind.i64.wrap (12 * Q) = 12 * Q := by rw [IntKind.wrap_i64]; omega
  have hs0 : IntKind.i64.wrap (l + r) = l + r := by unfold vld at vl vr; rw [IntKind.wrap_i64]; omega
  have hsq : IntKind.i64.wrap (l + r + 12 * Q) = l + r + 12 * Q := by unfold vld at vl vr; rw [IntKind.wrap_i64]; omega
  have HE := Lib.hid hE
  clear hE har hpi hQ hl vl hr vr
  go_enter Try.func12, Try.ntmps12
  go_wp2_with fail
  refine (valid_any l _).mono ?_
  rintro e wv ⟨rfl, rfl⟩
  rw [HVl.out]
  go_wp2_with fail
  refine (valid_any r _).mono ?_
  rintro e wv ⟨rfl, rfl⟩
  rw [HVr.out]
  go_wp2_with fail
  refine (HC.out _).mono ?_
  rintro e w2 ⟨rfl, hb2⟩
  have HB2 := Lib.hid hb2
  clear hb2
  go_wp2_with fail
  go_ret
  exact ⟨by rw [HE.out]; rfl, HB2.out⟩
set_option maxHeartbeats 1000000 in
set_option maxRecDepth 100000 in
theorem rsMerge_any (b o t : Int) (w : World) (hb : in64 b) (ho : in64 o) (ht : in64 t) : Calls Try.prog 13 #[.int .i64 b, .int .i64 o, .int .i64 t] w (Calm w (.int .i64 (mergeI b o t))) := by
  by_cases vb : vld b
  rotate_left
  · have HE : Hid (mergeI b o t = -1) := by show mergeI b o t = -1; unfold mergeI needI; rw [if_neg (fun h => vb h.1)]
    have HV : Hid (decide (vld b) = false) := decide_eq_false vb
    clear hb ho ht vb
    go_enter Try.func13, Try.ntmps13
    go_wp2_with fail
    refine (valid_any b _).mono ?_
    rintro e wv ⟨rfl, rfl⟩
    rw [HV.out]
    go_wp2_with fail
    go_ret
    exact ⟨by rw [HE.out]; rfl, Below.refl _ _⟩
  by_cases vo : vld o
  rotate_left
  · have HE : Hid (mergeI b o t = -1) := by show mergeI b o t = -1; unfold mergeI needI; rw [if_neg (fun h => vo h.2.1)]
    have HV : Hid (decide (vld o) = false) := decide_eq_false vo
    have HVb : Hid (decide (vld b) = true) := decide_eq_true vb
    clear hb ho ht vb vo
    go_enter Try.func13, Try.ntmps13
    go_wp2_with fail
    refine (valid_any b _).mono ?_
    rintro e wv ⟨rfl, rfl⟩
    rw [HVb.out]
    go_wp2_with fail
    refine (valid_any o _).mono ?_
    rintro e wv ⟨rfl, rfl⟩
    rw [HV.out]
    go_wp2_with fail
    go_ret
    exact ⟨by rw [HE.out]; rfl, Below.refl _ _⟩
  by_cases vt : vld t
  rotate_left
  · have HE : Hid (mergeI b o t = -1) := by show mergeI b o t = -1; unfold mergeI needI; rw [if_neg (fun h => vt h.2.2)]
    have HV : Hid (decide (vld t) = false) := decide_eq_false vt
    have HVb : Hid (decide (vld b) = true) := decide_eq_true vb
    have HVo : Hid (decide (vld o) = true) := decide_eq_true vo
    clear hb ho ht vb vo vt
    go_enter Try.func13, Try.ntmps13
    go_wp2_with fail
    refine (valid_any b _).mono ?_
    rintro e wv ⟨rfl, rfl⟩
    rw [HVb.out]
    go_wp2_with fail
    refine (valid_any o _).mono ?_
    rintro e wv ⟨rfl, rfl⟩
    rw [HVo.out]
    go_wp2_with fail
    refine (valid_any t _).mono ?_
    rintro e wv ⟨rfl, rfl⟩
    rw [HV.out]
    go_wp2_with fail
    go_ret
    exact ⟨by rw [HE.out]; rfl, Below.refl _ _⟩
  have hE : mergeI b o t = b + o + t + 12 * (xhI (b + o + t + 0) + 2) := need_ok vb vo vt
  have HVb : Hid (decide (vld b) = true) := decide_eq_true vb
  have HVo : Hid (decide (vld o) = true) := decide_eq_true vo
  have HVt : Hid (decide (vld t) = true) := decide_eq_true vt
  rw [show b + o + t + 0 = b + o + t by omega] at hE
  have har : 0 ≤ b + o + t ∧ b + o + t ≤ 1000000 := by unfold vld at vb vo vt; omega
  have hpi := path_in (f := 12) ⟨by decide, by decide⟩ har.1 har.2
  have HC : Hid (∀ wx, Calls Try.prog 25 #[.int .i64 (b + o + t)] wx (Calm wx (.int .i64 (xhI (b + o + t) + 2)))) := fun wx => pathR_any (b + o + t) wx har.1 har.2
  obtain ⟨Q, hQ⟩ : ∃ Q, xhI (b + o + t) + 2 = Q := ⟨_, rfl⟩
  rw [hQ] at hE hpi HC
  have hq1 : IntKind.i64.wrap (12 * Q) = 12 * Q := by rw [IntKind.wrap_i64]; omega
  have hs0 : IntKind.i64.wrap (b + o) = b + o := by unfold vld at vb vo vt; rw [IntKind.wrap_i64]; omega
  have hs1 : IntKind.i64.wrap (b + o + t) = b + o + t := by unfold vld at vb vo vt; rw [IntKind.wrap_i64]; omega
  have hsq : IntKind.i64.wrap (b + o + t + 12 * Q) = b + o + t + 12 * Q := by unfold vld at vb vo vt; rw [IntKind.wrap_i64]; omega
  have HE := Lib.hid hE
  clear hE har hpi hQ hb vb ho vo ht vt
  go_enter Try.func13, Try.ntmps13
  go_wp2_with fail
  refine (valid_any b _).mono ?_
  rintro e wv ⟨rfl, rfl⟩
  rw [HVb.out]
  go_wp2_with fail
  refine (valid_any o _).mono ?_
  rintro e wv ⟨rfl, rfl⟩
  rw [HVo.out]
  go_wp2_with fail
  refine (valid_any t _).mono ?_
  rintro e wv ⟨rfl, rfl⟩
  rw [HVt.out]
  go_wp2_with fail
  refine (HC.out _).mono ?_
  rintro e w2 ⟨rfl, hb2⟩
  have HB2 := Lib.hid hb2
  clear hb2
  go_wp2_with fail
  go_ret
  exact ⟨by rw [HE.out]; rfl, HB2.out⟩
set_option maxHeartbeats 1000000 in
set_option maxRecDepth 100000 in
theorem rsApply_any (n c : Int) (w : World) (hn : in64 n) (hc : in64 c) : Calls Try.prog 14 #[.int .i64 n, .int .i64 c] w (Calm w (.int .i64 (applyI n c))) := by
  by_cases vn : vld n
  rotate_left
  · have HE : Hid (applyI n c = -1) := by show applyI n c = -1; unfold applyI needI; rw [if_neg (fun h => vn h.1)]
    have HV : Hid (decide (vld n) = false) := decide_eq_false vn
    clear hn hc vn
    go_enter Try.func14, Try.ntmps14
    go_wp2_with fail
    refine (valid_any n _).mono ?_
    rintro e wv ⟨rfl, rfl⟩
    rw [HV.out]
    go_wp2_with fail
    go_ret
    exact ⟨by rw [HE.out]; rfl, Below.refl _ _⟩
  by_cases vc : vld c
  rotate_left
  · have HE : Hid (applyI n c = -1) := by show applyI n c = -1; unfold applyI needI; rw [if_neg (fun h => vc h.2.1)]
    have HV : Hid (decide (vld c) = false) := decide_eq_false vc
    have HVn : Hid (decide (vld n) = true) := decide_eq_true vn
    clear hn hc vn vc
    go_enter Try.func14, Try.ntmps14
    go_wp2_with fail
    refine (valid_any n _).mono ?_
    rintro e wv ⟨rfl, rfl⟩
    rw [HVn.out]
    go_wp2_with fail
    refine (valid_any c _).mono ?_
    rintro e wv ⟨rfl, rfl⟩
    rw [HV.out]
    go_wp2_with fail
    go_ret
    exact ⟨by rw [HE.out]; rfl, Below.refl _ _⟩
  have hE : applyI n c = n + c + 4 * (xhI (n + c + 0 + 0) + 2) := need_ok vn vc vld0
  have HVn : Hid (decide (vld n) = true) := decide_eq_true vn
  have HVc : Hid (decide (vld c) = true) := decide_eq_true vc
  rw [show n + c + 0 + 0 = n + c by omega] at hE
  have har : 0 ≤ n + c ∧ n + c ≤ 1000000 := by unfold vld at vn vc; omega
  have hpi := path_in (f := 4) ⟨by decide, by decide⟩ har.1 har.2
  have HC : Hid (∀ wx, Calls Try.prog 25 #[.int .i64 (n + c)] wx (Calm wx (.int .i64 (xhI (n + c) + 2)))) := fun wx => pathR_any (n + c) wx har.1 har.2
  obtain ⟨Q, hQ⟩ : ∃ Q, xhI (n + c) + 2 = Q := ⟨_, rfl⟩
  rw [hQ] at hE hpi HC
  have hq1 : IntKind.i64.wrap (4 * Q) = 4 * Q := by rw [IntKind.wrap_i64]; omega
  have hs0 : IntKind.i64.wrap (n + c) = n + c := by unfold vld at vn vc; rw [IntKind.wrap_i64]; omega
  have hsq : IntKind.i64.wrap (n + c + 4 * Q) = n + c + 4 * Q := by unfold vld at vn vc; rw [IntKind.wrap_i64]; omega
  have HE := Lib.hid hE
  clear hE har hpi hQ hn vn hc vc
  go_enter Try.func14, Try.ntmps14
  go_wp2_with fail
  refine (valid_any n _).mono ?_
  rintro e wv ⟨rfl, rfl⟩
  rw [HVn.out]
  go_wp2_with fail
  refine (valid_any c _).mono ?_
  rintro e wv ⟨rfl, rfl⟩
  rw [HVc.out]
  go_wp2_with fail
  refine (HC.out _).mono ?_
  rintro e w2 ⟨rfl, hb2⟩
  have HB2 := Lib.hid hb2
  clear hb2
  go_wp2_with fail
  go_ret
  exact ⟨by rw [HE.out]; rfl, HB2.out⟩
theorem rsImpl : RsImpl := ⟨fun n w h => rsInsert_any n w h, fun n w h => rsDelete_any n w h, fun l r w h1 h2 => rsJoin_any l r w h1 h2, fun n w h => rsSplit_any n w h, fun n w h => rsBuild_any n w h, fun l r w h1 h2 => rsSetOperation_any l r w h1 h2, fun b o t w h1 h2 h3 => rsMerge_any b o t w h1 h2 h3, fun n c w h1 h2 => rsApply_any n c w h1 h2⟩
end Go.Proofs.Ytfchdnaaepaabaa
