/- The reference's reservations. -/
import Derived.Test.YtfchdnaaepaabaaRefNum
import Derived.Deep.DeepCutAuto
set_option linter.unusedVariables false
set_option linter.unusedSimpArgs false
namespace Go.Proofs.Ytfchdnaaepaabaa
open Go.RowKit
def in64 (x : Int) : Prop := -9223372036854775808 ≤ x ∧ x ≤ 9223372036854775807
def vld (x : Int) : Prop := 0 ≤ x ∧ x ≤ 65536
instance (x : Int) : Decidable (vld x) := by unfold vld; exact inferInstance
def needI (a b c more extra factor : Int) : Int := if vld a ∧ vld b ∧ vld c then extra + factor * (xhI (a + b + c + more) + 2) else -1
theorem xhI_in {n : Int} (h0 : 0 ≤ n) (h1 : n ≤ 1000000) : 0 ≤ xhI n ∧ xhI n < 80 := by
  unfold xhI
  rw [if_pos ⟨h0, by omega⟩]
  have := (xh_spec (n := n.toNat) (by omega)).2.1
  omega
set_option maxHeartbeats 1000000 in
set_option maxRecDepth 100000 in
theorem refNeed_any (a b c more extra factor : Int) (w : World) (hb : in64 a ∧ in64 b ∧ in64 c) (hm : 0 ≤ more ∧ more ≤ 1) (hx : vld a → vld b → vld c → 0 ≤ extra ∧ extra ≤ 1000000) (hf : 0 ≤ factor ∧ factor ≤ 12) :
    Calls Try.prog 26 #[.int .i64 a, .int .i64 b, .int .i64 c, .int .i64 more, .int .i64 extra, .int .i64 factor] w (Calm w (.int .i64 (needI a b c more extra factor))) := by
  obtain ⟨hba, hbb, hbc⟩ := hb
  have h7 : decide (a < 0) = true ∨ (decide (a < 0) = false ∧ decide (65536 < a) = true) ∨ (decide (a < 0) = false ∧ decide (65536 < a) = false ∧ decide (b < 0) = true) ∨ (decide (a < 0) = false ∧ decide (65536 < a) = false ∧ decide (b < 0) = false ∧ decide (65536 < b) = true) ∨
      (decide (a < 0) = false ∧ decide (65536 < a) = false ∧ decide (b < 0) = false ∧ decide (65536 < b) = false ∧ decide (c < 0) = true) ∨ (decide (a < 0) = false ∧ decide (65536 < a) = false ∧ decide (b < 0) = false ∧ decide (65536 < b) = false ∧ decide (c < 0) = false ∧ decide (65536 < c) = true) ∨
      (decide (a < 0) = false ∧ decide (65536 < a) = false ∧ decide (b < 0) = false ∧ decide (65536 < b) = false ∧ decide (c < 0) = false ∧ decide (65536 < c) = false) := by
    simp only [decide_eq_true_eq, decide_eq_false_iff_not]
    omega
  have HB : Hid ((decide (a < 0) = true ∨ decide (65536 < a) = true ∨ decide (b < 0) = true ∨ decide (65536 < b) = true ∨ decide (c < 0) = true ∨ decide (65536 < c) = true) → needI a b c more extra factor = -1) := fun h => by
    unfold needI
    rw [if_neg]
    rintro ⟨⟨a1, a2⟩, ⟨b1, b2⟩, ⟨c1, c2⟩⟩
    simp only [decide_eq_true_eq] at h
    omega
  rcases h7 with h1 | ⟨h1, h2⟩ | ⟨h1, h2, h3⟩ | ⟨h1, h2, h3, h4⟩ | ⟨h1, h2, h3, h4, h5⟩ | ⟨h1, h2, h3, h4, h5, h6⟩ | ⟨h1, h2, h3, h4, h5, h6⟩
  · have HE : Hid (needI a b c more extra factor = -1) := HB.out (.inl h1)
    clear hba hbb hbc hm hx hf HB
    go_enter Try.func26, Try.ntmps26
    go_wp2_with fail
    go_ret
    exact ⟨by rw [HE.out]; rfl, Below.refl _ _⟩
  · have HE : Hid (needI a b c more extra factor = -1) := HB.out (.inr (.inl h2))
    clear hba hbb hbc hm hx hf HB
    go_enter Try.func26, Try.ntmps26
    go_wp2_with fail
    go_ret
    exact ⟨by rw [HE.out]; rfl, Below.refl _ _⟩
  · have HE : Hid (needI a b c more extra factor = -1) := HB.out (.inr (.inr (.inl h3)))
    clear hba hbb hbc hm hx hf HB
    go_enter Try.func26, Try.ntmps26
    go_wp2_with fail
    go_ret
    exact ⟨by rw [HE.out]; rfl, Below.refl _ _⟩
  · have HE : Hid (needI a b c more extra factor = -1) := HB.out (.inr (.inr (.inr (.inl h4))))
    clear hba hbb hbc hm hx hf HB
    go_enter Try.func26, Try.ntmps26
    go_wp2_with fail
    go_ret
    exact ⟨by rw [HE.out]; rfl, Below.refl _ _⟩
  · have HE : Hid (needI a b c more extra factor = -1) := HB.out (.inr (.inr (.inr (.inr (.inl h5)))))
    clear hba hbb hbc hm hx hf HB
    go_enter Try.func26, Try.ntmps26
    go_wp2_with fail
    go_ret
    exact ⟨by rw [HE.out]; rfl, Below.refl _ _⟩
  · have HE : Hid (needI a b c more extra factor = -1) := HB.out (.inr (.inr (.inr (.inr (.inr h6)))))
    clear hba hbb hbc hm hx hf HB
    go_enter Try.func26, Try.ntmps26
    go_wp2_with fail
    go_ret
    exact ⟨by rw [HE.out]; rfl, Below.refl _ _⟩
  · have hva : vld a := ⟨by have := of_decide_eq_false h1; omega, by have := of_decide_eq_false h2; omega⟩
    have hvb : vld b := ⟨by have := of_decide_eq_false h3; omega, by have := of_decide_eq_false h4; omega⟩
    have hvc : vld c := ⟨by have := of_decide_eq_false h5; omega, by have := of_decide_eq_false h6; omega⟩
    have HE : Hid (needI a b c more extra factor = extra + factor * (xhI (a + b + c + more) + 2)) := if_pos ⟨hva, hvb, hvc⟩
    have hxx := hx hva hvb hvc
    obtain ⟨a1, a2⟩ := hva
    obtain ⟨b1, b2⟩ := hvb
    obtain ⟨c1, c2⟩ := hvc
    have w1 : IntKind.i64.wrap (a + b) = a + b := by rw [IntKind.wrap_i64]; omega
    have w2 : IntKind.i64.wrap (a + b + c) = a + b + c := by rw [IntKind.wrap_i64]; omega
    have w3 : IntKind.i64.wrap (a + b + c + more) = a + b + c + more := by rw [IntKind.wrap_i64]; omega
    have HR : Hid (in64 (a + b + c + more)) := ⟨by omega, by omega⟩
    have hX := xhI_in (n := a + b + c + more) (by omega) (by omega)
    have HXR := Lib.hid hX
    have HFX : Hid (0 ≤ factor ∧ factor ≤ 12 ∧ 0 ≤ extra ∧ extra ≤ 1000000) := ⟨hf.1, hf.2, hxx.1, hxx.2⟩
    clear hba hbb hbc hm hx hf HB hxx hX a1 a2 b1 b2 c1 c2
    go_enter Try.func26, Try.ntmps26
    go_wp2_with fail
    refine (refMaxHeight_any (a + b + c + more) w HR.out.1 HR.out.2).mono ?_
    rintro e w5 ⟨rfl, hb5⟩
    have HB5 := Lib.hid hb5
    generalize xhI (a + b + c + more) = X at HE HXR ⊢
    have w4 : IntKind.i64.wrap (X + 2) = X + 2 := by rw [IntKind.wrap_i64]; have := HXR.out; omega
    have w5' : IntKind.i64.wrap (factor * (X + 2)) = factor * (X + 2) := by
      have h1 := HXR.out
      have h2 := HFX.out
      have h3 : 0 ≤ factor * (X + 2) := Int.mul_nonneg h2.1 (by omega)
      have h4 : factor * (X + 2) ≤ 12 * 82 := Int.mul_le_mul h2.2.1 (by omega) (by omega) (by decide)
      rw [IntKind.wrap_i64]; omega
    have w6' : IntKind.i64.wrap (extra + factor * (X + 2)) = extra + factor * (X + 2) := by
      have h1 := HXR.out
      have h2 := HFX.out
      have h3 : 0 ≤ factor * (X + 2) := Int.mul_nonneg h2.1 (by omega)
      have h4 : factor * (X + 2) ≤ 12 * 82 := Int.mul_le_mul h2.2.1 (by omega) (by omega) (by decide)
      rw [IntKind.wrap_i64]; omega
    clear hb5
    go_wp2_with fail
    go_ret
    exact ⟨by rw [HE.out]; rfl, HB5.out⟩
def insI (n : Int) : Int := needI n 0 0 1 0 4
def delI (n : Int) : Int := needI n 0 0 0 0 4
def joinI (l r : Int) : Int := needI l r 0 1 0 4
def splitI (n : Int) : Int := needI n 0 0 0 0 12
def buildI (n : Int) : Int := needI n 0 0 0 n 0
def setI (l r : Int) : Int := needI l r 0 0 (l + r) 12
def mergeI (b o t : Int) : Int := needI b o t 0 (b + o + t) 12
def applyI (n c : Int) : Int := needI n c 0 0 (n + c) 4
theorem in0 : in64 0 := ⟨by decide, by decide⟩
theorem refInsert_any (n : Int) (w : World) (hn : in64 n) : Calls Try.prog 16 #[.int .i64 n] w (Calm w (.int .i64 (insI n))) := by
  have HC := Lib.hid (refNeed_any n 0 0 1 0 4 w ⟨hn, in0, in0⟩ ⟨by decide, by decide⟩ (fun _ _ _ => ⟨by decide, by decide⟩) ⟨by decide, by decide⟩)
  clear hn
  go_enter Try.func16, Try.ntmps16
  go_wp2_with fail
  refine HC.out.mono ?_
  rintro e w1 ⟨rfl, hb1⟩
  have HB := Lib.hid hb1
  clear hb1
  go_wp2_with fail
  go_ret
  exact ⟨rfl, HB.out⟩
theorem refDelete_any (n : Int) (w : World) (hn : in64 n) : Calls Try.prog 17 #[.int .i64 n] w (Calm w (.int .i64 (delI n))) := by
  have HC := Lib.hid (refNeed_any n 0 0 0 0 4 w ⟨hn, in0, in0⟩ ⟨by decide, by decide⟩ (fun _ _ _ => ⟨by decide, by decide⟩) ⟨by decide, by decide⟩)
  clear hn
  go_enter Try.func17, Try.ntmps17
  go_wp2_with fail
  refine HC.out.mono ?_
  rintro e w1 ⟨rfl, hb1⟩
  have HB := Lib.hid hb1
  clear hb1
  go_wp2_with fail
  go_ret
  exact ⟨rfl, HB.out⟩
theorem refJoin_any (l r : Int) (w : World) (hl : in64 l) (hr : in64 r) : Calls Try.prog 18 #[.int .i64 l, .int .i64 r] w (Calm w (.int .i64 (joinI l r))) := by
  have HC := Lib.hid (refNeed_any l r 0 1 0 4 w ⟨hl, hr, in0⟩ ⟨by decide, by decide⟩ (fun _ _ _ => ⟨by decide, by decide⟩) ⟨by decide, by decide⟩)
  clear hl hr
  go_enter Try.func18, Try.ntmps18
  go_wp2_with fail
  refine HC.out.mono ?_
  rintro e w1 ⟨rfl, hb1⟩
  have HB := Lib.hid hb1
  clear hb1
  go_wp2_with fail
  go_ret
  exact ⟨rfl, HB.out⟩
theorem refSplit_any (n : Int) (w : World) (hn : in64 n) : Calls Try.prog 19 #[.int .i64 n] w (Calm w (.int .i64 (splitI n))) := by
  have HC := Lib.hid (refNeed_any n 0 0 0 0 12 w ⟨hn, in0, in0⟩ ⟨by decide, by decide⟩ (fun _ _ _ => ⟨by decide, by decide⟩) ⟨by decide, by decide⟩)
  clear hn
  go_enter Try.func19, Try.ntmps19
  go_wp2_with fail
  refine HC.out.mono ?_
  rintro e w1 ⟨rfl, hb1⟩
  have HB := Lib.hid hb1
  clear hb1
  go_wp2_with fail
  go_ret
  exact ⟨rfl, HB.out⟩
theorem refBuild_any (n : Int) (w : World) (hn : in64 n) : Calls Try.prog 20 #[.int .i64 n] w (Calm w (.int .i64 (buildI n))) := by
  have HC := Lib.hid (refNeed_any n 0 0 0 n 0 w ⟨hn, in0, in0⟩ ⟨by decide, by decide⟩ (fun h _ _ => ⟨h.1, by have := h.2; omega⟩) ⟨by decide, by decide⟩)
  clear hn
  go_enter Try.func20, Try.ntmps20
  go_wp2_with fail
  refine HC.out.mono ?_
  rintro e w1 ⟨rfl, hb1⟩
  have HB := Lib.hid hb1
  clear hb1
  go_wp2_with fail
  go_ret
  exact ⟨rfl, HB.out⟩
theorem refSetOperation_any (l r : Int) (w : World) (hl : in64 l) (hr : in64 r) : Calls Try.prog 21 #[.int .i64 l, .int .i64 r] w (Calm w (.int .i64 (setI l r))) := by
  have HC := Lib.hid (refNeed_any l r 0 0 0 0 w ⟨hl, hr, in0⟩ ⟨by decide, by decide⟩ (fun _ _ _ => ⟨by decide, by decide⟩) ⟨by decide, by decide⟩)
  have HC2 := Lib.hid (fun wx => refNeed_any l r 0 0 (l + r) 12 wx ⟨hl, hr, in0⟩ ⟨by decide, by decide⟩ (fun h1 h2 h3 => by unfold vld at h1 h2 h3; omega) ⟨by decide, by decide⟩)
  by_cases hv : vld l ∧ vld r ∧ vld 0
  · have h0 : needI l r 0 0 0 0 = 0 := by unfold needI; rw [if_pos hv]; omega
    have HZ := Lib.hid h0
    have hw1 : IntKind.i64.wrap (l + r) = l + r := by unfold vld at hv; rw [IntKind.wrap_i64]; omega
    clear hv h0 hl hr
    go_enter Try.func21, Try.ntmps21
    go_wp2_with fail
    refine HC.out.mono ?_
    rintro e w1 ⟨rfl, hb1⟩
    rw [HZ.out]
    have HB := Lib.hid hb1
    clear hb1
    go_wp2_with fail
    refine (HC2.out w1).mono ?_
    rintro e w2 ⟨rfl, hb2⟩
    have HB2 : Hid (Below w.heap.size w w2) := HB.out.trans (hb2.mono HB.out.size)
    clear hb2
    go_wp2_with fail
    go_ret
    exact ⟨rfl, HB2.out⟩
  · have h0 : needI l r 0 0 0 0 = -1 := by unfold needI; rw [if_neg hv]
    have h1 : setI l r = -1 := by unfold setI needI; rw [if_neg hv]
    have HZ := Lib.hid h0
    have HE := Lib.hid h1
    clear hv h0 h1 HC2 hl hr
    go_enter Try.func21, Try.ntmps21
    go_wp2_with fail
    refine HC.out.mono ?_
    rintro e w1 ⟨rfl, hb1⟩
    rw [HZ.out]
    have HB := Lib.hid hb1
    clear hb1
    go_wp2_with fail
    go_ret
    exact ⟨by rw [HE.out]; rfl, HB.out⟩
theorem refMerge_any (b o t : Int) (w : World) (hb : in64 b) (ho : in64 o) (ht : in64 t) : Calls Try.prog 22 #[.int .i64 b, .int .i64 o, .int .i64 t] w (Calm w (.int .i64 (mergeI b o t))) := by
  have HC := Lib.hid (refNeed_any b o t 0 0 0 w ⟨hb, ho, ht⟩ ⟨by decide, by decide⟩ (fun _ _ _ => ⟨by decide, by decide⟩) ⟨by decide, by decide⟩)
  have HC2 := Lib.hid (fun wx => refNeed_any b o t 0 (b + o + t) 12 wx ⟨hb, ho, ht⟩ ⟨by decide, by decide⟩ (fun h1 h2 h3 => by unfold vld at h1 h2 h3; omega) ⟨by decide, by decide⟩)
  by_cases hv : vld b ∧ vld o ∧ vld t
  · have h0 : needI b o t 0 0 0 = 0 := by unfold needI; rw [if_pos hv]; omega
    have HZ := Lib.hid h0
    have hw1 : IntKind.i64.wrap (b + o) = b + o := by unfold vld at hv; rw [IntKind.wrap_i64]; omega
    have hw2 : IntKind.i64.wrap (b + o + t) = b + o + t := by unfold vld at hv; rw [IntKind.wrap_i64]; omega
    clear hv h0 hb ho ht
    go_enter Try.func22, Try.ntmps22
    go_wp2_with fail
    refine HC.out.mono ?_
    rintro e w1 ⟨rfl, hb1⟩
    rw [HZ.out]
    have HB := Lib.hid hb1
    clear hb1
    go_wp2_with fail
    refine (HC2.out w1).mono ?_
    rintro e w2 ⟨rfl, hb2⟩
    have HB2 : Hid (Below w.heap.size w w2) := HB.out.trans (hb2.mono HB.out.size)
    clear hb2
    go_wp2_with fail
    go_ret
    exact ⟨rfl, HB2.out⟩
  · have h0 : needI b o t 0 0 0 = -1 := by unfold needI; rw [if_neg hv]
    have h1 : mergeI b o t = -1 := by unfold mergeI needI; rw [if_neg hv]
    have HZ := Lib.hid h0
    have HE := Lib.hid h1
    clear hv h0 h1 HC2 hb ho ht
    go_enter Try.func22, Try.ntmps22
    go_wp2_with fail
    refine HC.out.mono ?_
    rintro e w1 ⟨rfl, hb1⟩
    rw [HZ.out]
    have HB := Lib.hid hb1
    clear hb1
    go_wp2_with fail
    go_ret
    exact ⟨by rw [HE.out]; rfl, HB.out⟩
theorem refApply_any (n c : Int) (w : World) (hn : in64 n) (hc : in64 c) : Calls Try.prog 23 #[.int .i64 n, .int .i64 c] w (Calm w (.int .i64 (applyI n c))) := by
  have HC := Lib.hid (refNeed_any n c 0 0 0 0 w ⟨hn, hc, in0⟩ ⟨by decide, by decide⟩ (fun _ _ _ => ⟨by decide, by decide⟩) ⟨by decide, by decide⟩)
  have HC2 := Lib.hid (fun wx => refNeed_any n c 0 0 (n + c) 4 wx ⟨hn, hc, in0⟩ ⟨by decide, by decide⟩ (fun h1 h2 h3 => by unfold vld at h1 h2 h3; omega) ⟨by decide, by decide⟩)
  by_cases hv : vld n ∧ vld c ∧ vld 0
  · have h0 : needI n c 0 0 0 0 = 0 := by unfold needI; rw [if_pos hv]; omega
    have HZ := Lib.hid h0
    have hw1 : IntKind.i64.wrap (n + c) = n + c := by unfold vld at hv; rw [IntKind.wrap_i64]; omega
    clear hv h0 hn hc
    go_enter Try.func23, Try.ntmps23
    go_wp2_with fail
    refine HC.out.mono ?_
    rintro e w1 ⟨rfl, hb1⟩
    rw [HZ.out]
    have HB := Lib.hid hb1
    clear hb1
    go_wp2_with fail
    refine (HC2.out w1).mono ?_
    rintro e w2 ⟨rfl, hb2⟩
    have HB2 : Hid (Below w.heap.size w w2) := HB.out.trans (hb2.mono HB.out.size)
    clear hb2
    go_wp2_with fail
    go_ret
    exact ⟨rfl, HB2.out⟩
  · have h0 : needI n c 0 0 0 0 = -1 := by unfold needI; rw [if_neg hv]
    have h1 : applyI n c = -1 := by unfold applyI needI; rw [if_neg hv]
    have HZ := Lib.hid h0
    have HE := Lib.hid h1
    clear hv h0 h1 HC2 hn hc
    go_enter Try.func23, Try.ntmps23
    go_wp2_with fail
    refine HC.out.mono ?_
    rintro e w1 ⟨rfl, hb1⟩
    rw [HZ.out]
    have HB := Lib.hid hb1
    clear hb1
    go_wp2_with fail
    go_ret
    exact ⟨by rw [HE.out]; rfl, HB.out⟩
end Go.Proofs.Ytfchdnaaepaabaa
