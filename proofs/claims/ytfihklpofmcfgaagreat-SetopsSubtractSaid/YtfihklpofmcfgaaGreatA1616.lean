/- Of the proofs of SetopsUnion, SetopsIntersect, SetopsSubtract: UpN, UpOk1, UpOk2, UpOk3, UpOk. -/
import Derived.Test.YtfihklpofmcfgaaGreatA1615
set_option linter.unusedVariables false
set_option linter.unusedSimpArgs false
namespace Go.Proofs.YtfihklpofmcfgaaGreat
theorem hb_more_l {ll ll' lr : List En} (h : wbL ll lr) (h1 : ll.length ≤ ll'.length) (h2 : ll'.length ≤ ll.length + 1) : HbL ll' lr := by
  obtain ⟨g1, g2⟩ := h
  unfold HbL wbL
  by_cases hc : 3 * (lr.length + 1) < ll'.length + 1
  · refine .inr (.inr ⟨hc, ?_⟩)
    have e : ll'.length + 1 = ll.length + 1 + 1 := by omega
    rw [e]
    exact hv_more (l := lr.length + 1) (r := ll.length + 1) ⟨g2, g1⟩
  · exact .inl ⟨by omega, by omega⟩
theorem hb_more_r {ll lr lr' : List En} (h : wbL ll lr) (h1 : lr.length ≤ lr'.length) (h2 : lr'.length ≤ lr.length + 1) : HbL ll lr' := by
  obtain ⟨g1, g2⟩ := h
  unfold HbL wbL
  by_cases hc : 3 * (ll.length + 1) < lr'.length + 1
  · refine .inr (.inl ⟨hc, ?_⟩)
    have e : lr'.length + 1 = lr.length + 1 + 1 := by omega
    rw [e]
    exact hv_more (l := ll.length + 1) (r := lr.length + 1) ⟨g1, g2⟩
  · exact .inl ⟨by omega, by omega⟩
theorem hb_less_l {ll ll' lr : List En} (h : wbL ll lr) (h1 : ll'.length ≤ ll.length) (h2 : ll.length ≤ ll'.length + 1) : HbL ll' lr := by
  obtain ⟨g1, g2⟩ := h
  unfold HbL wbL
  by_cases hc : 3 * (ll'.length + 1) < lr.length + 1
  · refine .inr (.inl ⟨hc, ?_⟩)
    have e : ll.length + 1 = ll'.length + 1 + 1 := by omega
    rw [e] at g1 g2
    exact hv_less (l := ll'.length + 1) (r := lr.length + 1) ⟨g1, g2⟩
  · exact .inl ⟨by omega, by omega⟩
theorem hb_less_r {ll lr lr' : List En} (h : wbL ll lr) (h1 : lr'.length ≤ lr.length) (h2 : lr.length ≤ lr'.length + 1) : HbL ll lr' := by
  obtain ⟨g1, g2⟩ := h
  unfold HbL wbL
  by_cases hc : 3 * (lr'.length + 1) < ll.length + 1
  · refine .inr (.inr ⟨hc, ?_⟩)
    have e : lr.length + 1 = lr'.length + 1 + 1 := by omega
    rw [e] at g1 g2
    exact hv_less (l := lr'.length + 1) (r := ll.length + 1) ⟨g2, g1⟩
  · exact .inl ⟨by omega, by omega⟩
theorem filN1 {l : List En} {q : En → Bool} (h : ∀ e ∈ l, q e = true) : l.filter q = l := List.filter_eq_self.2 h
theorem get_l {ll lr : List En} {e : En} {k : Int} (hu : Up (ll ++ e :: lr)) (hk : k < e.key) : getE (ll ++ e :: lr) k = getE ll k := by
  obtain ⟨-, -, h3, h4⟩ := up_app hu
  have hge : ∀ x ∈ e :: lr, k < x.key := fun x hx => by
    rcases List.mem_cons.1 hx with rfl | hx
    · exact hk
    · have := h4 x hx; omega
  rw [getE_app, getE_none (l := e :: lr) (fun x hx => by have := hge x hx; omega), Option.or_none]
theorem get_r {ll lr : List En} {e : En} {k : Int} (hu : Up (ll ++ e :: lr)) (hk : e.key < k) : getE (ll ++ e :: lr) k = getE lr k := by
  obtain ⟨-, -, h3, h4⟩ := up_app hu
  rw [getE_app, getE_none (l := ll) (fun x hx => by have := h3 x hx; omega), Option.none_or]
  unfold getE
  rw [List.find?_cons_of_neg (by simp; omega)]
theorem up_mid {ll lr : List En} {e : En} (h1 : Up ll) (h2 : Up lr) (h3 : ∀ x ∈ ll, x.key < e.key) (h4 : ∀ x ∈ lr, e.key < x.key) : Up (ll ++ e :: lr) := by
  refine List.pairwise_append.2 ⟨h1, List.pairwise_cons.2 ⟨h4, h2⟩, fun x hx y hy => ?_⟩
  rcases List.mem_cons.1 hy with rfl | hy
  · exact h3 x hx
  · have := h3 x hx; have := h4 y hy; omega
theorem ins_l {ll lr : List En} {x e : En} (hu : Up (ll ++ x :: lr)) (hk : e.key < x.key) : insE (ll ++ x :: lr) e = insE ll e ++ x :: lr := by
  obtain ⟨h1, h2, h3, h4⟩ := up_app hu
  refine up_ext (insE_up e hu) (up_mid (insE_up e h1) h2 (fun y hy => ?_) h4) fun y => ?_
  · rcases (ins_mem ll e y).1 hy with rfl | ⟨h, _⟩
    · exact hk
    · exact h3 y h
  · rw [ins_mem, List.mem_append, List.mem_append, ins_mem]
    constructor
    · rintro (h | ⟨h | h, h'⟩)
      · exact .inl (.inl h)
      · exact .inl (.inr ⟨h, h'⟩)
      · exact .inr h
    · rintro ((h | ⟨h, h'⟩) | h)
      · exact .inl h
      · exact .inr ⟨.inl h, h'⟩
      · refine .inr ⟨.inr h, ?_⟩
        rcases List.mem_cons.1 h with rfl | h
        · omega
        · have := h4 y h; omega
theorem ins_r {ll lr : List En} {x e : En} (hu : Up (ll ++ x :: lr)) (hk : x.key < e.key) : insE (ll ++ x :: lr) e = ll ++ x :: insE lr e := by
  obtain ⟨h1, h2, h3, h4⟩ := up_app hu
  refine up_ext (insE_up e hu) (up_mid h1 (insE_up e h2) h3 fun y hy => ?_) fun y => ?_
  · rcases (ins_mem lr e y).1 hy with rfl | ⟨h, _⟩
    · exact hk
    · exact h4 y h
  · rw [ins_mem, List.mem_append, List.mem_append, List.mem_cons, List.mem_cons, ins_mem]
    constructor
    · rintro (h | ⟨h | h | h, h'⟩)
      · exact .inr (.inr (.inl h))
      · exact .inl h
      · exact .inr (.inl h)
      · exact .inr (.inr (.inr ⟨h, h'⟩))
    · rintro (h | h | h | ⟨h, h'⟩)
      · exact .inr ⟨.inl h, by have := h3 y h; omega⟩
      · exact .inr ⟨.inr (.inl h), by rw [h]; omega⟩
      · exact .inl h
      · exact .inr ⟨.inr (.inr h), h'⟩
theorem ins_m {ll lr : List En} {x e : En} (hu : Up (ll ++ x :: lr)) (hk : e.key = x.key) : insE (ll ++ x :: lr) e = ll ++ e :: lr := by
  obtain ⟨h1, h2, h3, h4⟩ := up_app hu
  refine up_ext (insE_up e hu) (up_mid h1 h2 (fun y hy => by rw [hk]; exact h3 y hy) fun y hy => by rw [hk]; exact h4 y hy) fun y => ?_
  rw [ins_mem, List.mem_append, List.mem_append, List.mem_cons, List.mem_cons]
  constructor
  · rintro (h | ⟨h | h | h, h'⟩)
    · exact .inr (.inl h)
    · exact .inl h
    · rw [h, hk] at h'; exact absurd rfl h'
    · exact .inr (.inr h)
  · rintro (h | h | h)
    · exact .inr ⟨.inl h, by have := h3 y h; omega⟩
    · exact .inl h
    · exact .inr ⟨.inr (.inr h), by have := h4 y h; omega⟩
theorem out_l {ll lr : List En} {x : En} {k : Int} (hu : Up (ll ++ x :: lr)) (hk : k < x.key) : outE (ll ++ x :: lr) k k = outE ll k k ++ x :: lr := by
  obtain ⟨-, -, h3, h4⟩ := up_app hu
  unfold outE
  rw [List.filter_append, filN1 (l := x :: lr)]
  intro y hy
  rcases List.mem_cons.1 hy with rfl | hy
  · simp; omega
  · have := h4 y hy; simp; omega
theorem out_r {ll lr : List En} {x : En} {k : Int} (hu : Up (ll ++ x :: lr)) (hk : x.key < k) : outE (ll ++ x :: lr) k k = ll ++ x :: outE lr k k := by
  obtain ⟨-, -, h3, h4⟩ := up_app hu
  unfold outE
  rw [List.filter_append, List.filter_cons, if_pos (by simp; omega), filN1 (l := ll)]
  intro y hy
  have := h3 y hy
  simp; omega
theorem out_m {ll lr : List En} {x : En} (hu : Up (ll ++ x :: lr)) : outE (ll ++ x :: lr) x.key x.key = ll ++ lr := by
  obtain ⟨-, -, h3, h4⟩ := up_app hu
  unfold outE
  rw [List.filter_append, List.filter_cons, if_neg (by simp), filN1 (l := ll), filN1 (l := lr)]
  · intro y hy; have := h4 y hy; simp; omega
  · intro y hy; have := h3 y hy; simp; omega
theorem out_lenN (l : List En) : ∀ (hu : Up l) (k : Int), (outE l k k).length ≤ l.length ∧ l.length ≤ (outE l k k).length + 1 := by
  intro hu k
  refine ⟨List.length_filter_le _ _, ?_⟩
  induction l with
  | nil => simp
  | cons x t ih =>
    obtain ⟨h1, h2⟩ := List.pairwise_cons.1 hu
    have h3 := ih h2
    unfold outE at h3 ⊢
    rw [List.filter_cons]
    by_cases hx : x.key = k
    · rw [if_neg (by simp; omega), filN1 (l := t) (fun y hy => by have := h1 y hy; simp; omega)]
      simp
    · rw [if_pos (by simp; omega)]
      simp only [List.length_cons]
      omega
theorem ins_lenN {l : List En} (hu : Up l) (e : En) : l.length ≤ (insE l e).length ∧ (insE l e).length ≤ l.length + 1 := by
  refine ⟨?_, insE_len l e⟩
  have h1 := out_lenN (insE l e) (insE_up e hu) e.key
  have h2 : outE (insE l e) e.key e.key = outE l e.key e.key := up_ext (out_up0 (insE_up e hu) _ _) (out_up0 hu _ _) fun y => by
    rw [out_mem, out_mem, ins_mem]
    constructor
    · rintro ⟨h | ⟨h, _⟩, h'⟩
      · rw [h] at h'; exact absurd rfl h'
      · exact ⟨h, h'⟩
    · rintro ⟨h, h'⟩
      exact ⟨.inr ⟨h, h'⟩, h'⟩
  have h3 := out_lenN l hu e.key
  have h4 : e ∈ insE l e := (ins_mem l e e).2 (.inl rfl)
  have h5 : (outE (insE l e) e.key e.key).length < (insE l e).length := by
    unfold outE
    refine Nat.lt_of_le_of_ne (List.length_filter_le _ _) fun q => ?_
    have := (List.length_filter_eq_length_iff.1 q) e h4
    simp at this
  rw [h2] at h1 h5
  omega
/-- what a call made of an arena has no more free slots -/
theorem kept_free {A B : Ar} (hA : A.σ.Ok) (hB : B.σ.Ok) (h : A.Kept B) : B.σ.free.length ≤ A.σ.free.length := by
  refine nd_len hB.nodup fun x hx => ?_
  have h1 := (hB.free x).1 hx
  refine (hA.free x).2 ⟨h1.1, by rw [← h.cap]; exact h1.2.1, ?_⟩
  cases ho : A.σ.on x
  · rfl
  · have h2 := h.on x ho
    rw [h1.2.2] at h2
    cases h2
open Go.RowKit
set_option maxHeartbeats 16000000 in
set_option maxRecDepth 100000 in
theorem replL_any (I : AImpl) (K : RotImpl I) (KN : ShNum) {p : Value} {A0 A : Ar} {rd k : Int} {F : Nat → Prop} {held : Nat → Nat} {x : Nat} {X : Nd} {tl tr : Tr} {ll lr : List En} (w : World) (hI : I.Is w p A rd F) (hM : Mid A0 held A [x]) (hm : ∀ j, held j ≤ 1048480)
    (hL : At A x tl ll) (hR : At A X.right tr lr) (hwl : WfL ll) (hwr : WfL lr) (hwe : i64R X.key ∧ i64R X.val) (hb : HbL ll lr) (hs : ll.length + lr.length + 1 ≤ 2147483647) (h0 : 0 ≤ rd) (h1 : rd ≤ 2199023254900) (hfr : (wbL ll lr ∧ 1 ≤ A.σ.free.length) ∨ 4 ≤ A.σ.free.length) (hk : k < X.key) :
    Calls Tryz.prog 100 #[p, .agg #[Value.int .i64 X.key, .int .i64 X.val, .int .u32 (X.left : Int), .int .u32 (X.right : Int), .int .i64 X.size, .int .i64 X.sum, .int .i64 X.mn, .int .i64 X.mx], .int .i64 k, .int .u32 (x : Int)] w (Mut I p F (BalQ A0 A rd held ll lr ⟨X.key, X.val⟩) w) := by
  obtain ⟨pa, rfl⟩ := I.ptr hI
  have hs0 := (Ins.start hI).box #[Value.int .i64 X.key, .int .i64 X.val, .int .u32 (X.left : Int), .int .u32 (X.right : Int), .int .i64 X.size, .int .i64 X.sum, .int .i64 X.mn, .int .i64 X.mx] 81
  have HK := Lib.hid K
  have HKN := Lib.hid KN
  have HM := Lib.hid hM
  have HH := Lib.hid hm
  have HL := Lib.hid hL
  have HR := Lib.hid hR
  have HW : Hid (WfL ll ∧ WfL lr ∧ (i64R X.key ∧ i64R X.val)) := ⟨hwl, hwr, hwe⟩
  have HB := Lib.hid hb
  have HSZ := Lib.hid hs
  have HFR := Lib.hid hfr
  have HRD : Hid (0 ≤ rd ∧ rd ≤ 2199023254900) := ⟨h0, h1⟩
  have d1 : decide (k < X.key) = true := decide_eq_true hk
  clear hI hM hm hL hR hwl hwr hwe hb hs hfr h0 h1 K KN
  go_enter Tryz.func100, Tryz.ntmps100
  go_upto_region 1 with fail
  generalize w.alloc (Obj.cells #[Value.int .i64 X.key, .int .i64 X.val, .int .u32 (X.left : Int), .int .u32 (X.right : Int), .int .i64 X.size, .int .i64 X.sum, .int .i64 X.mn, .int .i64 X.mx] 81) = w1 at hs0 ⊢
  generalize w.heap.size = g at hs0 ⊢
  have hsd := hs0.calm (Below.refl _ _).drew
  obtain ⟨⟨x0, x1, x2, x3, x4, x5, x6, x7⟩, -⟩ := hs0.row8 (g := g) (X := X) (by simp [ndRow])
  have HSD := Lib.hid hsd
  clear hsd hs0
  go_region
  obtain ⟨⟨x0, x1, x2, x3, x4, x5, x6, x7⟩, -⟩ := HSD.out.row8 (g := g) (X := X) (by simp [ndRow])
  go_wp2_with fail
  refine (HSD.out.mut fun F1 hI1 => balance_any I HK.out HKN.out ⟨X.key, X.val⟩ _ hI1 HM.out.inv HM.out.agg (fun j => Nat.le_trans (plL_le HH.out [x] j) (show 1048480 + 1 ≤ 1048490 by decide)) HL.out HR.out HW.out.1 HW.out.2.1 HW.out.2.2 HB.out HSZ.out HRD.out.1 HRD.out.2 HFR.out).mono ?_
  rintro eB wB ⟨B, rdB, ⟨b1, b2, j, t, rfl, b3, b4, b5, b6⟩, hsB⟩
  obtain ⟨u1, u2, u3, u4, u5⟩ := nest_give HM.out b3 b4
  have HSB := Lib.hid hsB
  have HU : Hid (B.Inv [x] (plL held [j]) ∧ B.Idx x ∧ x < 4294967296) := ⟨u1, u2, idx_lt32 b3.inv u2⟩
  have HQ : Hid (BalQ A0 A rd held ll lr ⟨X.key, X.val⟩ (.returned (.tuple #[.int .u32 (j : Int), .int .i64 0])) (B.gone x) rdB) := ⟨b1, b2, j, t, rfl, u3, u5, fun q => by have := b5 q; omega, by omega⟩
  clear hsB HSD b1 b2 b3 b4 b5 b6 u1 u2 u3 u4 u5 x0 x1 x2 x3 x4 x5 x6 x7
  go_wp2_with fail
  refine (HSB.out.release HU.out.2.2 HU.out.2.1 HU.out.1).mono ?_
  rintro en w9 ⟨rfl, hs9⟩
  have HE := Lib.hid hs9.ends
  clear hs9 HSB
  go_wp2_with fail
  go_ret2
  obtain ⟨F', hal, hI⟩ := HE.out
  exact ⟨F', _, rdB, hal, hI, HQ.out⟩
set_option maxHeartbeats 16000000 in
set_option maxRecDepth 100000 in
theorem replR_any (I : AImpl) (K : RotImpl I) (KN : ShNum) {p : Value} {A0 A : Ar} {rd k : Int} {F : Nat → Prop} {held : Nat → Nat} {x : Nat} {X : Nd} {tl tr : Tr} {ll lr : List En} (w : World) (hI : I.Is w p A rd F) (hM : Mid A0 held A [x]) (hm : ∀ j, held j ≤ 1048480)
    (hL : At A X.left tl ll) (hR : At A x tr lr) (hwl : WfL ll) (hwr : WfL lr) (hwe : i64R X.key ∧ i64R X.val) (hb : HbL ll lr) (hs : ll.length + lr.length + 1 ≤ 2147483647) (h0 : 0 ≤ rd) (h1 : rd ≤ 2199023254900) (hfr : (wbL ll lr ∧ 1 ≤ A.σ.free.length) ∨ 4 ≤ A.σ.free.length) (hk : ¬ k < X.key) :
    Calls Tryz.prog 100 #[p, .agg #[Value.int .i64 X.key, .int .i64 X.val, .int .u32 (X.left : Int), .int .u32 (X.right : Int), .int .i64 X.size, .int .i64 X.sum, .int .i64 X.mn, .int .i64 X.mx], .int .i64 k, .int .u32 (x : Int)] w (Mut I p F (BalQ A0 A rd held ll lr ⟨X.key, X.val⟩) w) := by
  obtain ⟨pa, rfl⟩ := I.ptr hI
  have hs0 := (Ins.start hI).box #[Value.int .i64 X.key, .int .i64 X.val, .int .u32 (X.left : Int), .int .u32 (X.right : Int), .int .i64 X.size, .int .i64 X.sum, .int .i64 X.mn, .int .i64 X.mx] 81
  have HK := Lib.hid K
  have HKN := Lib.hid KN
  have HM := Lib.hid hM
  have HH := Lib.hid hm
  have HL := Lib.hid hL
  have HR := Lib.hid hR
  have HW : Hid (WfL ll ∧ WfL lr ∧ (i64R X.key ∧ i64R X.val)) := ⟨hwl, hwr, hwe⟩
  have HB := Lib.hid hb
  have HSZ := Lib.hid hs
  have HFR := Lib.hid hfr
  have HRD : Hid (0 ≤ rd ∧ rd ≤ 2199023254900) := ⟨h0, h1⟩
  have d1 : decide (k < X.key) = false := decide_eq_false hk
  clear hI hM hm hL hR hwl hwr hwe hb hs hfr h0 h1 K KN
  go_enter Tryz.func100, Tryz.ntmps100
  go_upto_region 1 with fail
  generalize w.alloc (Obj.cells #[Value.int .i64 X.key, .int .i64 X.val, .int .u32 (X.left : Int), .int .u32 (X.right : Int), .int .i64 X.size, .int .i64 X.sum, .int .i64 X.mn, .int .i64 X.mx] 81) = w1 at hs0 ⊢
  generalize w.heap.size = g at hs0 ⊢
  have hsd := hs0.calm (Below.refl _ _).drew
  obtain ⟨⟨x0, x1, x2, x3, x4, x5, x6, x7⟩, -⟩ := hs0.row8 (g := g) (X := X) (by simp [ndRow])
  have HSD := Lib.hid hsd
  clear hsd hs0
  go_region
  obtain ⟨⟨x0, x1, x2, x3, x4, x5, x6, x7⟩, -⟩ := HSD.out.row8 (g := g) (X := X) (by simp [ndRow])
  go_wp2_with fail
  refine (HSD.out.mut fun F1 hI1 => balance_any I HK.out HKN.out ⟨X.key, X.val⟩ _ hI1 HM.out.inv HM.out.agg (fun j => Nat.le_trans (plL_le HH.out [x] j) (show 1048480 + 1 ≤ 1048490 by decide)) HL.out HR.out HW.out.1 HW.out.2.1 HW.out.2.2 HB.out HSZ.out HRD.out.1 HRD.out.2 HFR.out).mono ?_
  rintro eB wB ⟨B, rdB, ⟨b1, b2, j, t, rfl, b3, b4, b5, b6⟩, hsB⟩
  obtain ⟨u1, u2, u3, u4, u5⟩ := nest_give HM.out b3 b4
  have HSB := Lib.hid hsB
  have HU : Hid (B.Inv [x] (plL held [j]) ∧ B.Idx x ∧ x < 4294967296) := ⟨u1, u2, idx_lt32 b3.inv u2⟩
  have HQ : Hid (BalQ A0 A rd held ll lr ⟨X.key, X.val⟩ (.returned (.tuple #[.int .u32 (j : Int), .int .i64 0])) (B.gone x) rdB) := ⟨b1, b2, j, t, rfl, u3, u5, fun q => by have := b5 q; omega, by omega⟩
  clear hsB HSD b1 b2 b3 b4 b5 b6 u1 u2 u3 u4 u5 x0 x1 x2 x3 x4 x5 x6 x7
  go_wp2_with fail
  refine (HSB.out.release HU.out.2.2 HU.out.2.1 HU.out.1).mono ?_
  rintro en w9 ⟨rfl, hs9⟩
  have HE := Lib.hid hs9.ends
  clear hs9 HSB
  go_wp2_with fail
  go_ret2
  obtain ⟨F', hal, hI⟩ := HE.out
  exact ⟨F', _, rdB, hal, hI, HQ.out⟩
/-- what replaceChild answers where the child was made anew -/
def RepQ (A B : Ar) (rd : Int) (held : Nat → Nat) (l : List En) (en : Ending) (C : Ar) (rd' : Int) : Prop :=
  rd ≤ rd' ∧ rd' ≤ rd + 9 ∧ ∃ (j : Nat) (t : Tr), en = .returned (.tuple #[.int .u32 (j : Int), .int .i64 0]) ∧ Mid A held C [j] ∧ At C j t l ∧ B.σ.free.length ≤ C.σ.free.length + 3
def RepOk (I : AImpl) (p : Value) (A : Ar) (held : Nat → Nat) (X : Nd) (k : Int) (lc l : List En) : Prop := ∀ {w1 : World} {B : Ar} {rd1 : Int} {F1 : Nat → Prop} {j : Nat} {u : Tr}, I.Is w1 p B rd1 F1 → Mid A held B [j] → At B j u lc → 4 ≤ B.σ.free.length → 0 ≤ rd1 → rd1 ≤ 2199023254900 →
    Calls Tryz.prog 100 #[p, .agg #[Value.int .i64 X.key, .int .i64 X.val, .int .u32 (X.left : Int), .int .u32 (X.right : Int), .int .i64 X.size, .int .i64 X.sum, .int .i64 X.mn, .int .i64 X.mx], .int .i64 k, .int .u32 (j : Int)] w1 (Mut I p F1 (RepQ A B rd1 held l) w1)
theorem repOk_l (I : AImpl) (K : RotImpl I) (KN : ShNum) {p : Value} {A : Ar} {held : Nat → Nat} {X : Nd} {k : Int} {tr : Tr} {lc lr l : List En} (hm : ∀ j, held j ≤ 1048480) (hR : At A X.right tr lr) (hwl : WfL lc) (hwr : WfL lr) (hwe : i64R X.key ∧ i64R X.val) (hb : HbL lc lr) (hs : lc.length + lr.length + 1 ≤ 2147483647) (hk : k < X.key) (hl : lc ++ ⟨X.key, X.val⟩ :: lr = l) : RepOk I p A held X k lc l :=
  fun {w1 B rd1 F1 j u} hI hM hj hf h0 h1 => (replL_any I K KN w1 hI hM hm hj (hR.kept hM.kept) hwl hwr hwe hb hs h0 h1 (.inr hf) hk).mono fun en w' ⟨F', C, rd', c1, c2, q1, q2, j2, t2, q3, q4, q5, _, q6⟩ => ⟨F', C, rd', c1, c2, q1, q2, j2, t2, q3, q4, hl ▸ q5, q6⟩
theorem repOk_r (I : AImpl) (K : RotImpl I) (KN : ShNum) {p : Value} {A : Ar} {held : Nat → Nat} {X : Nd} {k : Int} {tl : Tr} {ll lc l : List En} (hm : ∀ j, held j ≤ 1048480) (hL : At A X.left tl ll) (hwl : WfL ll) (hwr : WfL lc) (hwe : i64R X.key ∧ i64R X.val) (hb : HbL ll lc) (hs : ll.length + lc.length + 1 ≤ 2147483647) (hk : ¬ k < X.key) (hl : ll ++ ⟨X.key, X.val⟩ :: lc = l) : RepOk I p A held X k lc l :=
  fun {w1 B rd1 F1 j u} hI hM hj hf h0 h1 => (replR_any I K KN w1 hI hM hm (hL.kept hM.kept) hj hwl hwr hwe hb hs h0 h1 (.inr hf) hk).mono fun en w' ⟨F', C, rd', c1, c2, q1, q2, j2, t2, q3, q4, q5, _, q6⟩ => ⟨F', C, rd', c1, c2, q1, q2, j2, t2, q3, q4, hl ▸ q5, q6⟩
/-- what put answers -/
def PutQ (A : Ar) (rd : Int) (held : Nat → Nat) (h : Nat) (l : List En) (e : En) (en : Ending) (B : Ar) (rd' : Int) : Prop :=
  rd ≤ rd' ∧ rd' ≤ rd + 10 * (h : Int) ∧ ∃ (j : Nat) (u : Tr), en = .returned (.tuple #[.int .u32 (j : Int), .int .i64 0]) ∧ Mid A held B [j] ∧ At B j u (insE l e) ∧ A.σ.free.length ≤ B.σ.free.length + 3 * h + 1
structure PutP (I : AImpl) (w : World) (p : Value) (A : Ar) (rd : Int) (F : Nat → Prop) (held : Nat → Nat) (i : Nat) (t : Tr) (l : List En) (e : En) (a : Option Addr) (n c : Nat) : Prop where
  is : I.Is w p A rd F
  inv : A.Inv [] held
  agg : A.Agg
  few : ∀ j, held j ≤ 1048400
  tree : At A i t l
  up : Up l
  wf : WfL l
  wfe : i64R e.key ∧ i64R e.val
  size : l.length ≤ 2147483645
  rd0 : 0 ≤ rd
  rd1 : rd + 10 * (t.ht : Int) ≤ 2199023254000
  room : 3 * t.ht + 4 ≤ A.σ.free.length
  path : PathAt w F a c (pathT A.nd e.key t)
  len : (pathT A.nd e.key t).length = n
def PutOk (I : AImpl) (t : Tr) : Prop := ∀ {p : Value} {A : Ar} {rd : Int} {F : Nat → Prop} {held : Nat → Nat} {i : Nat} {l : List En} (e : En) {a : Option Addr} {n c : Nat} (w : World), PutP I w p A rd F held i t l e a n c →
    Calls Tryz.prog 73 #[p, .slice a n c, .agg #[Value.int .i64 e.key, .int .i64 e.val]] w (Mut I p F (PutQ A rd held t.ht l e) w)
set_option maxHeartbeats 16000000 in
set_option maxRecDepth 100000 in
theorem put_nil (I : AImpl) : PutOk I .nil := by
  intro p A rd F held i l e a n c w hP
  obtain ⟨pa, rfl⟩ := I.ptr hP.is
  have hs0 := (Ins.start hP.is).box #[Value.int .i64 e.key, .int .i64 e.val] 69
  have hl : l = [] := List.eq_nil_of_length_eq_zero hP.tree.size.symm
  obtain rfl : n = 0 := hP.len.symm
  subst hl
  obtain ⟨i1, t1, hf⟩ : ∃ i t, A.σ.free = i :: t := by
    cases hq : A.σ.free with
    | nil => have := hP.room; rw [hq] at this; simp at this
    | cons i t => exact ⟨i, t, rfl⟩
  have hz : A.Idx 0 := .inl rfl
  have hsz : (A.node e.key e.val 0 0).size ≤ 2147483647 := by show 1 + A.sz 0 + A.sz 0 ≤ _; rw [show A.sz 0 = 0 from if_pos rfl]; decide
  obtain ⟨m1, m2, m3, m4, m5, m6⟩ := (Mid.start hP.inv hP.agg).made hf (key := e.key) (val := e.val) hz hz hsz
  have HP : Hid (A.Inv [] held ∧ A.Agg ∧ (∀ j, held j ≤ 1048576) ∧ (i64R e.key ∧ i64R e.val) ∧ A.Idx 0 ∧ (A.node e.key e.val 0 0).size ≤ 2147483647 ∧ A.σ.free = i1 :: t1) := ⟨hP.inv, hP.agg, fun j => Nat.le_trans (hP.few j) (by decide), hP.wfe, hz, hsz, hf⟩
  have HQ : Hid (PutQ A rd held Tr.nil.ht [] e (.returned (.tuple #[.int .u32 (i1 : Int), .int .i64 0])) (A.made i1 t1 (A.node e.key e.val 0 0)) rd) :=
    ⟨Int.le_refl _, by show rd ≤ rd + 10 * ((0 : Nat) : Int); omega, i1, _, rfl, m1, At.join m1.agg m4 m5 (by rw [m6]; exact ⟨rfl, rfl, rfl, rfl⟩) (At.nil _) (At.nil _) (by unfold wbL wb; decide), by rw [m3, hf]; simp⟩
  clear hP m1 m2 m3 m4 m5 m6 hf hz hsz
  go_enter Tryz.func73, Tryz.ntmps73
  go_upto_region 1 with fail
  generalize w.alloc (Obj.cells #[Value.int .i64 e.key, .int .i64 e.val] 69) = w1 at hs0 ⊢
  generalize w.heap.size = g at hs0 ⊢
  have HS0 := Lib.hid hs0
  clear hs0
  obtain ⟨x0, x1⟩ := two_ofE (HS0.out.boxes (g, Obj.cells #[Value.int .i64 e.key, .int .i64 e.val] 69 (0, 0)) (by simp)).2
  go_wp2_with fail
  refine (HS0.out.make (l := 0) (r := 0) HP.out.1 HP.out.2.1 HP.out.2.2.1 HP.out.2.2.2.1.1 HP.out.2.2.2.1.2 HP.out.2.2.2.2.1 HP.out.2.2.2.2.1 HP.out.2.2.2.2.2.1 HP.out.2.2.2.2.2.2).mono ?_
  rintro en w2 ⟨rfl, hs⟩
  have HE := Lib.hid hs.ends
  clear hs HS0 x0 x1
  go_wp2_with fail
  go_ret2
  obtain ⟨F', hal, hI⟩ := HE.out
  exact ⟨F', _, rd, hal, hI, HQ.out⟩
set_option maxHeartbeats 16000000 in
set_option maxRecDepth 100000 in
theorem put_node (I : AImpl) (K : RotImpl I) (KN : ShNum) {i' : Nat} {tl tr : Tr} (ihl : PutOk I tl) (ihr : PutOk I tr) : PutOk I (.node i' tl tr) := by
  intro p A rd F held i l e a n c w hP
  obtain ⟨pa, rfl⟩ := I.ptr hP.is
  have hs0 := (Ins.start hP.is).box #[Value.int .i64 e.key, .int .i64 e.val] 69
  have hii : i = i' ∧ i ≠ 0 := by
    have h := hP.tree.sub
    cases h with
    | node _ _ _ h1 _ _ _ => exact ⟨rfl, h1⟩
  obtain ⟨rfl, hi0⟩ := hii
  have hon := hP.tree.idx.resolve_left hi0
  obtain ⟨X, hX⟩ : ∃ x, A.nd i = x := ⟨_, rfl⟩
  obtain ⟨tl', tr', ll, lr, hnode, rfl, hA, hB, hab⟩ := hP.tree.split hi0
  injection hnode with _ e1 e2
  subst e1 e2
  rw [hX] at hA hB
  have hup := hP.up
  have hwf := hP.wf
  have hsz := hP.size
  have hpa := hP.path
  have hpl := hP.len
  rw [hX] at hup hwf hsz ⊢
  have hpt : pathT A.nd e.key (.node i tl tr) = i :: (if e.key = X.key then [] else if e.key < X.key then pathT A.nd e.key tl else pathT A.nd e.key tr) := by rw [← hX]; rfl
  rw [hpt] at hpa hpl
  rw [List.length_cons] at hpl
  have hn : 1 ≤ n := by omega
  have hnc : n ≤ c := by have := hpa.1; rw [List.length_cons] at this; omega
  obtain ⟨ga, oa, rfl, -⟩ := hpa.head (Ins.start hP.is)
  have hlen : (ll ++ (⟨X.key, X.val⟩ : En) :: lr).length = ll.length + lr.length + 1 := by simp; omega
  rw [hlen] at hsz
  have hup2 := up_app hup
  have HK := Lib.hid K
  have HKN := Lib.hid KN
  have HIL : Hid (PutOk I tl) := @ihl
  have HIR : Hid (PutOk I tr) := @ihr
  have HON := Lib.hid hon
  have HX := Lib.hid hX
  have HI32 : Hid (i < 4294967296) := idx_lt32 hP.inv (.inr hon)
  have HHT : Hid (tl.ht + 1 ≤ (Tr.node i tl tr).ht ∧ tr.ht + 1 ≤ (Tr.node i tl tr).ht) := by
    have h1 : (Tr.node i tl tr).ht = 1 + max tl.ht tr.ht := rfl
    have h2 := Nat.le_max_left tl.ht tr.ht
    have h3 := Nat.le_max_right tl.ht tr.ht
    exact ⟨by omega, by omega⟩
  have HP : Hid (A.Inv [] held ∧ A.Agg ∧ (∀ j, held j ≤ 1048400) ∧ At A X.left tl ll ∧ At A X.right tr lr ∧ (i64R e.key ∧ i64R e.val)) := ⟨hP.inv, hP.agg, hP.few, hA, hB, hP.wfe⟩
  have HU : Hid (Up (ll ++ (⟨X.key, X.val⟩ : En) :: lr) ∧ Up ll ∧ Up lr ∧ wbL ll lr) := ⟨hup, hup2.1, hup2.2.1, hab⟩
  have HW : Hid (WfL ll ∧ WfL lr ∧ (i64R X.key ∧ i64R X.val)) := ⟨hwf.left, hwf.right.tail, hwf (⟨X.key, X.val⟩ : En) (by simp)⟩
  have HSZ : Hid (ll.length + lr.length + 1 ≤ 2147483645) := hsz
  have HRD : Hid (0 ≤ rd ∧ rd + 10 * ((Tr.node i tl tr).ht : Int) ≤ 2199023254000 ∧ 3 * (Tr.node i tl tr).ht + 4 ≤ A.σ.free.length) := ⟨hP.rd0, hP.rd1, hP.room⟩
  have HPA : Hid (PathAt w F (some ⟨ga, oa, none⟩) c (i :: (if e.key = X.key then [] else if e.key < X.key then pathT A.nd e.key tl else pathT A.nd e.key tr)) ∧ (if e.key = X.key then [] else if e.key < X.key then pathT A.nd e.key tl else pathT A.nd e.key tr).length + 1 = n) := ⟨hpa, hpl⟩
  obtain ⟨H, hH⟩ : ∃ H, (Tr.node i tl tr).ht = H := ⟨_, rfl⟩
  rw [hH] at HHT HRD ⊢
  clear hP ihl ihr hi0 hon hX K KN hA hB hab hup hwf hsz hpa hpl hpt hlen hup2 hH
  have n0 : ¬ (n : Int) = 0 := by omega
  have n1 : decide ((n : Int) = 0) = false := decide_eq_false n0
  go_enter Tryz.func73, Tryz.ntmps73
  go_upto_region 1 with fail
  generalize w.alloc (Obj.cells #[Value.int .i64 e.key, .int .i64 e.val] 69) = w1 at hs0 ⊢
  generalize w.heap.size = ge at hs0 ⊢
  have HS0 := Lib.hid hs0
  clear hs0
  obtain ⟨gb, ob, hgo, y0⟩ := HPA.out.1.head HS0.out
  obtain ⟨rfl, rfl⟩ : ga = gb ∧ oa = ob := by
    have := Option.some.inj hgo
    injection this with q1 q2
    exact ⟨q1, q2⟩
  clear hgo
  go_wp2_with fail
  refine (HS0.out.node HRD.out.1 (by have := HRD.out; omega) HI32.out HON.out).mono ?_
  rintro en w2 ⟨rfl, hs⟩
  rw [HX.out]
  unfold ndRow
  have hs1 := hs.box #[Value.int .i64 X.key, .int .i64 X.val, .int .u32 (X.left : Int), .int .u32 (X.right : Int), .int .i64 X.size, .int .i64 X.sum, .int .i64 X.mn, .int .i64 X.mx] 81
  clear hs HS0 y0
  go_upto_region 4 with fail
  generalize w2.alloc (Obj.cells #[Value.int .i64 X.key, .int .i64 X.val, .int .u32 (X.left : Int), .int .u32 (X.right : Int), .int .i64 X.size, .int .i64 X.sum, .int .i64 X.mn, .int .i64 X.mx] 81) = w3 at hs1 ⊢
  generalize w2.heap.size = gx at hs1 ⊢
  have HS1 := Lib.hid hs1
  clear hs1
  obtain ⟨⟨x0, x1, x2, x3, x4, x5, x6, x7⟩, -⟩ := HS1.out.row8 (g := gx) (X := X) (by simp [ndRow])
  obtain ⟨y0, y1⟩ := two_ofE (HS1.out.boxes (ge, Obj.cells #[Value.int .i64 e.key, .int .i64 e.val] 69 (0, 0)) (by simp)).2
  by_cases hk : X.key = e.key
  · have d1 : decide (X.key = e.key) = true := decide_eq_true hk
    have hins : insE (ll ++ (⟨X.key, X.val⟩ : En) :: lr) e = ll ++ e :: lr := ins_m HU.out.1 hk.symm
    obtain ⟨i1, t1, hf⟩ : ∃ i t, A.σ.free = i :: t := by
      cases hq : A.σ.free with
      | nil => have := HRD.out.2.2; rw [hq] at this; simp at this
      | cons i t => exact ⟨i, t, rfl⟩
    have hnl := HP.out.2.2.2.1.sz HP.out.2.1
    have hnr := HP.out.2.2.2.2.1.sz HP.out.2.1
    have hsz : (A.node e.key e.val X.left X.right).size ≤ 2147483647 := by show 1 + A.sz X.left + A.sz X.right ≤ _; have := HSZ.out; omega
    obtain ⟨m1, m2, m3, m4, m5, m6⟩ := (Mid.start HP.out.1 HP.out.2.1).made hf (key := e.key) (val := e.val) HP.out.2.2.2.1.idx HP.out.2.2.2.2.1.idx hsz
    have HQ : Hid (PutQ A rd held H (ll ++ (⟨X.key, X.val⟩ : En) :: lr) e (.returned (.tuple #[.int .u32 (i1 : Int), .int .i64 0])) (A.made i1 t1 (A.node e.key e.val X.left X.right)) (rd + 1)) :=
      ⟨by omega, by have := HHT.out; omega, i1, _, rfl, m1, by rw [hins]; exact At.join m1.agg m4 m5 (by rw [m6]; exact ⟨rfl, rfl, rfl, rfl⟩) (HP.out.2.2.2.1.kept m2) (HP.out.2.2.2.2.1.kept m2) HU.out.2.2.2, by rw [m3, hf, List.length_cons]; omega⟩
    have HMK : Hid ((A.node e.key e.val X.left X.right).size ≤ 2147483647 ∧ A.σ.free = i1 :: t1) := ⟨hsz, hf⟩
    clear hins hf hnl hnr hsz m1 m2 m3 m4 m5 m6
    go_wp2_with fail
    refine (HS1.out.make HP.out.1 HP.out.2.1 (fun j => Nat.le_trans (HP.out.2.2.1 j) (by decide)) HP.out.2.2.2.2.2.1 HP.out.2.2.2.2.2.2 HP.out.2.2.2.1.idx HP.out.2.2.2.2.1.idx HMK.out.1 HMK.out.2).mono ?_
    rintro en w4 ⟨rfl, hs⟩
    have HE := Lib.hid hs.ends
    clear hs HS1 x0 x1 x2 x3 x4 x5 x6 x7 y0 y1
    go_wp2_with fail
    go_ret2
    obtain ⟨F', hal, hI⟩ := HE.out
    exact ⟨F', _, _, hal, hI, HQ.out⟩
  have d1 : decide (X.key = e.key) = false := decide_eq_false hk
  have hk' : ¬ e.key = X.key := fun q => hk q.symm
  obtain ⟨P, hPP⟩ : ∃ P, (if e.key < X.key then pathT A.nd e.key tl else pathT A.nd e.key tr) = P := ⟨_, rfl⟩
  have hpa := HPA.out
  rw [if_neg hk', hPP] at hpa
  have HPT := Lib.hid hpa.1.tail
  have hpn : P.length + 1 = n := hpa.2
  have HCH : Hid (∃ tc ic lc, PutOk I tc ∧ At A ic tc lc ∧ Up lc ∧ WfL lc ∧ lc.length ≤ 2147483645 ∧ tc.ht + 1 ≤ H ∧ pathT A.nd e.key tc = P ∧ RepOk I (.pointer (some pa)) A held X e.key (insE lc e) (insE (ll ++ (⟨X.key, X.val⟩ : En) :: lr) e)) := by
    have hs := HSZ.out
    by_cases hlt : e.key < X.key
    · have h1 := ins_lenN HU.out.2.1 e
      exact ⟨tl, X.left, ll, HIL.out, HP.out.2.2.2.1, HU.out.2.1, HW.out.1, by omega, HHT.out.1, by rw [← hPP, if_pos hlt], repOk_l I HK.out HKN.out (fun j => Nat.le_trans (HP.out.2.2.1 j) (by decide)) HP.out.2.2.2.2.1 (insE_wf HW.out.1 HP.out.2.2.2.2.2) HW.out.2.1 HW.out.2.2 (hb_more_l HU.out.2.2.2 h1.1 h1.2) (by omega) hlt (ins_l HU.out.1 hlt).symm⟩
    · have h1 := ins_lenN HU.out.2.2.1 e
      have hgt : X.key < e.key := by omega
      exact ⟨tr, X.right, lr, HIR.out, HP.out.2.2.2.2.1, HU.out.2.2.1, HW.out.2.1, by omega, HHT.out.2, by rw [← hPP, if_neg hlt], repOk_r I HK.out HKN.out (fun j => Nat.le_trans (HP.out.2.2.1 j) (by decide)) HP.out.2.2.2.1 HW.out.1 (insE_wf HW.out.2.1 HP.out.2.2.2.2.2) HW.out.2.2 (hb_more_r HU.out.2.2.2 h1.1 h1.2) (by omega) hlt (ins_r HU.out.1 hgt).symm⟩
  clear hpa hPP HPA
  obtain ⟨m, rfl⟩ : ∃ m, n = m + 1 := ⟨n - 1, by omega⟩
  obtain ⟨d, rfl⟩ : ∃ d, c = d + 1 := ⟨c - 1, by omega⟩
  have HPN : Hid (P.length = m) := by show _ = _; omega
  have hm1 : (1 : Int) ≤ (m : Int) + 1 := by omega
  have hpt : PathAt w F (if d = 0 then some ⟨ga, oa, none⟩ else some ⟨ga, oa + 1, none⟩) d P := by
    have h := HPT.out
    by_cases hd : d = 0
    · subst hd; exact h
    · rw [if_neg hd]
      rw [if_neg (by omega)] at h
      exact h
  have HPT := Lib.hid hpt
  clear hpt hpn
  have HCE : Hid (∀ {wx : World} {C : Ar} {rdx : Int}, Ins I w F (.pointer (some pa)) C rdx [] [(gx, Obj.cells #[Value.int .i64 X.key, .int .i64 X.val, .int .u32 (X.left : Int), .int .u32 (X.right : Int), .int .i64 X.size, .int .i64 X.sum, .int .i64 X.mn, .int .i64 X.mx] 81 (0, 0)), (ge, Obj.cells #[Value.int .i64 e.key, .int .i64 e.val] 69 (0, 0))] wx → wx.cell? ⟨ge, 0, none⟩ = some (.int .i64 e.key) ∧ wx.cell? ⟨ge, 1, none⟩ = some (.int .i64 e.val)) := fun {wx C rdx} hx => two_ofE (hx.boxes (ge, Obj.cells #[Value.int .i64 e.key, .int .i64 e.val] 69 (0, 0)) (by simp)).2
  go_upto_region 6 with fail
  have hsd := HS1.out.calm (Below.refl _ _).drew
  clear HS1 x0 x1 x2 x3 x4 x5 x6 x7 y0 y1
  refine anyG_begin (S := (fun w' => w'.cell? ⟨ge, 0, none⟩ = some (.int .i64 e.key) ∧ w'.cell? ⟨ge, 1, none⟩ = some (.int .i64 e.val))) (z := 9999) (by kernel_rfl) (HCE.out hsd) (fun hHeld => ?_)
  refine anyG_tk (v := ?_) 0 49 rfl (by kernel_rfl) (Or.inl ⟨by rfl, ?_⟩) (by assumption) ?_
  rotate_left
  · intro w hSw; (try dsimp only at hSw); go_simp; try with_reducible rfl
  (try simp only [Act.put, put_s])
  refine anyG_tk (v := ?_) 1 50 rfl (by kernel_rfl) (Or.inl ⟨by rfl, ?_⟩) (by assumption) ?_
  rotate_left
  · intro w hSw; (try dsimp only at hSw); go_simp; try with_reducible rfl
  (try simp only [Act.put, put_s])
  refine anyG_tk (v := ?_) 2 51 rfl (by kernel_rfl) (Or.inl ⟨by rfl, ?_⟩) (by assumption) ?_
  rotate_left
  · intro w hSw; (try dsimp only at hSw); go_simp; try with_reducible rfl
  (try simp only [Act.put, put_s])
  refine anyG_tk (v := ?_) 3 52 rfl (by kernel_rfl) (Or.inl ⟨by rfl, ?_⟩) (by assumption) ?_
  rotate_left
  · intro w hSw; (try dsimp only at hSw); go_simp; try with_reducible rfl
  (try simp only [Act.put, put_s])
  refine anyG_one (k := 4) (o := _) (by kernel_rfl) rfl (fun KT hKT => ?_)
  go_simp
  go_at_call 73
  have hpt := HPT.out
  obtain ⟨ap, hap⟩ : ∃ ap, (if d = 0 then some (⟨ga, oa, none⟩ : Addr) else some ⟨ga, oa + 1, none⟩) = ap := ⟨_, rfl⟩
  rw [hap] at hpt ⊢
  clear hap
  obtain ⟨tc, ic, lc, c1, c2, c3, c4, c5, c6, c7, c8⟩ := HCH.out
  refine (hsd.mutO fun F1 hI1 hF1 => c1 e _ ⟨hI1, HP.out.1, HP.out.2.1, HP.out.2.2.1, c2, c3, c4, HP.out.2.2.2.2.2, c5, by have := HRD.out; omega, by have := HRD.out; omega, by have := HRD.out; omega, c7.symm ▸ hpt.ins hsd hF1, by rw [c7]; exact HPN.out⟩).mono ?_
  rintro eB wB ⟨B, rdB, ⟨q0, q1, j, u, rfl, q2, q3, q4⟩, hsB⟩
  try go_wp2_with fail
  refine hKT.out _ _ (HCE.out hsB) (fun hHeld => ?_)
  clear hKT KT
  (try simp only [Act.put, put_s])
  refine anyG_tk (v := ?_) 5 48 rfl (by kernel_rfl) (Or.inl ⟨by rfl, ?_⟩) (by assumption) ?_
  rotate_left
  · intro w hSw; (try dsimp only at hSw); go_simp; try with_reducible rfl
  (try simp only [Act.put, put_s])
  refine anyG_tk (v := ?_) 6 54 rfl (by kernel_rfl) (Or.inl ⟨by rfl, ?_⟩) (by assumption) ?_
  rotate_left
  · intro w hSw; (try dsimp only at hSw); go_simp; try with_reducible rfl
  (try simp only [Act.put, put_s])
  refine anyG_tk (v := ?_) 7 55 rfl (by kernel_rfl) (Or.inl ⟨by rfl, ?_⟩) (by assumption) ?_
  rotate_left
  · intro w hSw; (try dsimp only at hSw); go_simp; try with_reducible rfl
  (try simp only [Act.put, put_s])
  refine anyG_tk (v := ?_) 8 10 rfl (by kernel_rfl) (Or.inl ⟨by rfl, ?_⟩) (by assumption) ?_
  rotate_left
  · intro w hSw; (try dsimp only at hSw); go_simp; try with_reducible rfl
  (try simp only [Act.put, put_s])
  refine anyG_tk (v := ?_) 9 11 rfl (by kernel_rfl) (Or.inl ⟨by rfl, ?_⟩) (by assumption) ?_
  rotate_left
  · intro w hSw; (try dsimp only at hSw); go_simp; try with_reducible rfl
  (try simp only [Act.put, put_s])
  refine anyG_done (by kernel_rfl) ?_ _
  have HSB := Lib.hid hsB
  have HRB : Hid (rd + 1 ≤ rdB ∧ rdB ≤ rd + 1 + 10 * (tc.ht : Int) ∧ tc.ht + 1 ≤ H) := ⟨q0, q1, c6⟩
  have HQB : Hid (Mid A held B [j] ∧ At B j u (insE lc e) ∧ A.σ.free.length ≤ B.σ.free.length + 3 * tc.ht + 1 ∧ 4 ≤ B.σ.free.length) := ⟨q2, q3, q4, by have := HRD.out; omega⟩
  have HC8 : Hid (RepOk I (.pointer (some pa)) A held X e.key (insE lc e) (insE (ll ++ (⟨X.key, X.val⟩ : En) :: lr) e)) := @c8
  clear hsB hsd hHeld HCE HCH hpt q0 q1 q2 q3 q4 c1 c2 c3 c4 c5 c6 c7 c8 HPT
  obtain ⟨⟨x0, x1, x2, x3, x4, x5, x6, x7⟩, -⟩ := HSB.out.row8 (g := gx) (X := X) (by simp [ndRow])
  obtain ⟨y0, y1⟩ := two_ofE (HSB.out.boxes (ge, Obj.cells #[Value.int .i64 e.key, .int .i64 e.val] 69 (0, 0)) (by simp)).2
  go_wp2_with fail
  refine (HSB.out.mut fun F1 hI1 => HC8.out hI1 HQB.out.1 HQB.out.2.1 HQB.out.2.2.2 (by have := HRD.out; have := HRB.out; omega) (by have := HRD.out; have := HRB.out; omega)).mono ?_
  rintro en w5 ⟨C, rd5, ⟨q0, q1, j2, t2, rfl, q2, q3, q4⟩, hs5⟩
  have HQ : Hid (PutQ A rd held H (ll ++ (⟨X.key, X.val⟩ : En) :: lr) e (.returned (.tuple #[.int .u32 (j2 : Int), .int .i64 0])) C rd5) :=
    ⟨by have := HRB.out; omega, by have := HRB.out; omega, j2, t2, rfl, q2, q3, by have := HQB.out; have := HRB.out; omega⟩
  have HE := Lib.hid hs5.ends
  clear hs5 HSB q0 q1 q2 q3 q4 x0 x1 x2 x3 x4 x5 x6 x7 y0 y1
  go_wp2_with fail
  go_ret2
  obtain ⟨F', hal, hI⟩ := HE.out
  exact ⟨F', _, _, hal, hI, HQ.out⟩
theorem put_all (I : AImpl) (K : RotImpl I) (KN : ShNum) : ∀ t, PutOk I t
  | .nil => put_nil I
  | .node _ l r => put_node I K KN (put_all I K KN l) (put_all I K KN r)
theorem Got.mid {A B : Ar} {held : Nat → Nat} {j : Nat} {t : Tr} {l : List En} (hv : A.Inv [] held) (ha : A.Agg) (h : Got A held B j t l) : Mid A held B [j] ∧ At B j t l :=
  ⟨⟨hv, ha, h.kept, h.gen, by rw [plL_cons, plL_nil]; exact h.inv, h.agg⟩, ⟨h.sub, h.bal, h.ents⟩⟩
/-- Concat where the keys are in order and the slots are there -/
theorem cat_got {A B : Ar} {rd rd' : Int} {held : Nat → Nat} {L R : Nat} {ll lr : List En} {en : Ending} (h : CatQ A rd held L R ll lr en B rd') (hu : Up (ll ++ lr)) (hf : joinI (ll.length : Int) (lr.length : Int) ≤ (A.σ.free.length : Int)) :
    ∃ (j : Nat) (t : Tr), en = .returned (.tuple #[.int .u32 (j : Int), .int .i64 0]) ∧ Got A held B j t (ll ++ lr) := by
  rcases h.2.2 with ⟨_, t, h1, h2, _⟩ | ⟨_, h1, _⟩ | ⟨_, _, h1, _⟩ | ⟨_, _, _, j, t, h1, h2⟩
  · exact ⟨_, t, h1, h2⟩
  · exact absurd hu h1
  · omega
  · exact ⟨j, t, h1, h2⟩
theorem xh_side {a b : Nat} (h : a + 1 ≤ 3 * (b + 1)) (hs : a + b + 1 ≤ 2147483647) : xh a + 1 ≤ xh (a + b + 1) := xh_grow (by omega) hs
/-- what remove answers -/
def RemQ (A : Ar) (rd : Int) (held : Nat → Nat) (l : List En) (k : Int) (en : Ending) (B : Ar) (rd' : Int) : Prop :=
  rd ≤ rd' ∧ rd' ≤ rd + 34 * (xh l.length : Int) + 20 ∧ ∃ (j : Nat) (u : Tr), en = .returned (.tuple #[.int .u32 (j : Int), .int .i64 0]) ∧ Mid A held B [j] ∧ At B j u (outE l k k) ∧ A.σ.free.length ≤ B.σ.free.length + 4 * xh l.length + 4
structure RemP (I : AImpl) (w : World) (p : Value) (A : Ar) (rd : Int) (F : Nat → Prop) (held : Nat → Nat) (i : Nat) (t : Tr) (l : List En) (k : Int) (a : Option Addr) (n c : Nat) : Prop where
  is : I.Is w p A rd F
  inv : A.Inv [] held
  agg : A.Agg
  few : ∀ j, held j ≤ 1048000
  tree : At A i t l
  up : Up l
  wf : WfL l
  has : getE l k ≠ none
  size : l.length ≤ 65536
  rd0 : 0 ≤ rd
  rd1 : rd + 34 * (xh l.length : Int) + 20 ≤ 1099511000000
  room : 4 * xh l.length + 8 ≤ A.σ.free.length
  path : PathAt w F a c (pathT A.nd k t)
  len : (pathT A.nd k t).length = n
def RemOk (I : AImpl) (t : Tr) : Prop := ∀ {p : Value} {A : Ar} {rd : Int} {F : Nat → Prop} {held : Nat → Nat} {i : Nat} {l : List En} (k : Int) {a : Option Addr} {n c : Nat} (w : World), RemP I w p A rd F held i t l k a n c →
    Calls Tryz.prog 69 #[p, .slice a n c, .int .i64 k] w (Mut I p F (RemQ A rd held l k) w)
set_option maxHeartbeats 16000000 in
set_option maxRecDepth 100000 in
theorem rem_node (I : AImpl) (K : RotImpl I) (KN : ShNum) {i' : Nat} {tl tr : Tr} (ihl : RemOk I tl) (ihr : RemOk I tr) : RemOk I (.node i' tl tr) := by
  intro p A rd F held i l k a n c w hP
  obtain ⟨pa, rfl⟩ := I.ptr hP.is
  have hs0 := Ins.start hP.is
  have hii : i = i' ∧ i ≠ 0 := by
    have h := hP.tree.sub
    cases h with
    | node _ _ _ h1 _ _ _ => exact ⟨rfl, h1⟩
  obtain ⟨rfl, hi0⟩ := hii
  have hon := hP.tree.idx.resolve_left hi0
  obtain ⟨X, hX⟩ : ∃ x, A.nd i = x := ⟨_, rfl⟩
  obtain ⟨tl', tr', ll, lr, hnode, rfl, hA, hB, hab⟩ := hP.tree.split hi0
  injection hnode with _ e1 e2
  subst e1 e2
  rw [hX] at hA hB
  have hup := hP.up
  have hwf := hP.wf
  have hsz := hP.size
  have hhas := hP.has
  have hrd := hP.rd1
  have hro := hP.room
  have hpa := hP.path
  have hpl := hP.len
  rw [hX] at hup hwf hsz hhas hrd hro ⊢
  have hpt : pathT A.nd k (.node i tl tr) = i :: (if k = X.key then [] else if k < X.key then pathT A.nd k tl else pathT A.nd k tr) := by rw [← hX]; rfl
  rw [hpt] at hpa hpl
  rw [List.length_cons] at hpl
  have hn : 1 ≤ n := by omega
  have hnc : n ≤ c := by have := hpa.1; rw [List.length_cons] at this; omega
  obtain ⟨ga, oa, rfl, -⟩ := hpa.head (Ins.start hP.is)
  have hlen : (ll ++ (⟨X.key, X.val⟩ : En) :: lr).length = ll.length + lr.length + 1 := by simp; omega
  rw [hlen] at hsz hrd hro
  have hup2 := up_app hup
  have hx1 := xh_side (a := ll.length) (b := lr.length) (by have := hab.1; have := hab.2; omega) (by omega)
  have hx2 := xh_side (a := lr.length) (b := ll.length) (by have := hab.1; have := hab.2; omega) (by omega)
  rw [show lr.length + ll.length + 1 = ll.length + lr.length + 1 by omega] at hx2
  have hx3 := (xh_spec (n := ll.length + lr.length + 1) (by omega)).2.1
  obtain ⟨H, hH⟩ : ∃ H, xh (ll.length + lr.length + 1) = H := ⟨_, rfl⟩
  have HHE : Hid (xh (ll ++ (⟨X.key, X.val⟩ : En) :: lr).length = H ∧ xh (ll.length + lr.length + 1) = H) := ⟨by rw [hlen]; exact hH, hH⟩
  rw [hH] at hrd hro hx1 hx2 hx3
  have HK := Lib.hid K
  have HKN := Lib.hid KN
  have HIL : Hid (RemOk I tl) := @ihl
  have HIR : Hid (RemOk I tr) := @ihr
  have HON := Lib.hid hon
  have HX := Lib.hid hX
  have HI32 : Hid (i < 4294967296) := idx_lt32 hP.inv (.inr hon)
  have HHT : Hid (xh ll.length + 1 ≤ H ∧ xh lr.length + 1 ≤ H) := ⟨hx1, hx2⟩
  have HP : Hid (A.Inv [] held ∧ A.Agg ∧ (∀ j, held j ≤ 1048000) ∧ At A X.left tl ll ∧ At A X.right tr lr ∧ getE (ll ++ (⟨X.key, X.val⟩ : En) :: lr) k ≠ none) := ⟨hP.inv, hP.agg, hP.few, hA, hB, hhas⟩
  have HU : Hid (Up (ll ++ (⟨X.key, X.val⟩ : En) :: lr) ∧ Up ll ∧ Up lr ∧ wbL ll lr) := ⟨hup, hup2.1, hup2.2.1, hab⟩
  have HW : Hid (WfL ll ∧ WfL lr ∧ (i64R X.key ∧ i64R X.val)) := ⟨hwf.left, hwf.right.tail, hwf (⟨X.key, X.val⟩ : En) (by simp)⟩
  have HSZ : Hid (ll.length + lr.length + 1 ≤ 65536) := hsz
  have HRD : Hid (0 ≤ rd ∧ rd + 34 * (H : Int) + 20 ≤ 1099511000000 ∧ 4 * H + 8 ≤ A.σ.free.length ∧ H < 80) := ⟨hP.rd0, hrd, hro, by omega⟩
  have HPA : Hid (PathAt w F (some ⟨ga, oa, none⟩) c (i :: (if k = X.key then [] else if k < X.key then pathT A.nd k tl else pathT A.nd k tr)) ∧ (if k = X.key then [] else if k < X.key then pathT A.nd k tl else pathT A.nd k tr).length + 1 = n) := ⟨hpa, hpl⟩
  clear hP ihl ihr hi0 hon hX K KN hA hB hab hup hwf hsz hpa hpl hpt hlen hup2 hhas hrd hro hx1 hx2 hx3 hH
  have HS0 := Lib.hid hs0
  clear hs0
  obtain ⟨gb, ob, hgo, y0⟩ := HPA.out.1.head HS0.out
  obtain ⟨rfl, rfl⟩ : ga = gb ∧ oa = ob := by
    have := Option.some.inj hgo
    injection this with q1 q2
    exact ⟨q1, q2⟩
  clear hgo
  go_enter Tryz.func69, Tryz.ntmps69
  go_wp2_with fail
  refine (HS0.out.node HRD.out.1 (by have := HRD.out; omega) HI32.out HON.out).mono ?_
  rintro en w2 ⟨rfl, hs⟩
  rw [HX.out]
  unfold ndRow
  have hs1 := hs.box #[Value.int .i64 X.key, .int .i64 X.val, .int .u32 (X.left : Int), .int .u32 (X.right : Int), .int .i64 X.size, .int .i64 X.sum, .int .i64 X.mn, .int .i64 X.mx] 81
  clear hs HS0 y0
  go_upto_region 2 with fail
  generalize w2.alloc (Obj.cells #[Value.int .i64 X.key, .int .i64 X.val, .int .u32 (X.left : Int), .int .u32 (X.right : Int), .int .i64 X.size, .int .i64 X.sum, .int .i64 X.mn, .int .i64 X.mx] 81) = w3 at hs1 ⊢
  generalize w2.heap.size = gx at hs1 ⊢
  have HS1 := Lib.hid hs1
  clear hs1
  obtain ⟨⟨x0, x1, x2, x3, x4, x5, x6, x7⟩, -⟩ := HS1.out.row8 (g := gx) (X := X) (by simp [ndRow])
  by_cases hk : X.key = k
  · have d1 : decide (X.key = k) = true := decide_eq_true hk
    subst hk
    have hup : Up (ll ++ lr) := by have := out_up0 HU.out.1 X.key X.key; rw [out_m HU.out.1] at this; exact this
    have HCU : Hid (outE (ll ++ (⟨X.key, X.val⟩ : En) :: lr) X.key X.key = ll ++ lr ∧ Up (ll ++ lr)) := ⟨out_m HU.out.1, hup⟩
    have HTL : Hid (TreeAt A X.left tl ll) := ⟨⟨held, HP.out.1⟩, HP.out.2.1, HP.out.2.2.2.1.sub, HP.out.2.2.2.1.bal, HP.out.2.2.2.1.ents, HU.out.2.1⟩
    have HTR : Hid (TreeAt A X.right tr lr) := ⟨⟨held, HP.out.1⟩, HP.out.2.1, HP.out.2.2.2.2.1.sub, HP.out.2.2.2.2.1.bal, HP.out.2.2.2.2.1.ents, HU.out.2.2.1⟩
    have HJ : Hid (joinI (ll.length : Int) (lr.length : Int) ≤ (A.σ.free.length : Int)) := by
      show _ ≤ _
      rw [joinJ (by have := HSZ.out; omega) (by have := HSZ.out; omega), HHE.out.2]
      have := HRD.out
      omega
    clear hup
    go_wp2_with fail
    refine (HS1.out.mut fun F1 hI1 => concatS_any I w3 hI1 HP.out.1 HP.out.2.2.1 HTL.out HTR.out HW.out.1 HW.out.2.1 (by have := HRD.out; omega) (by have := HRD.out; omega)).mono ?_
    rintro en w4 ⟨B, rd4, ⟨q0, q1, q2⟩, hs4⟩
    obtain ⟨j, t, rfl, hg⟩ := cat_got q0 HCU.out.2 HJ.out
    obtain ⟨m1, m2⟩ := hg.mid HP.out.1 HP.out.2.1
    have HQ : Hid (RemQ A rd held (ll ++ (⟨X.key, X.val⟩ : En) :: lr) X.key (.returned (.tuple #[.int .u32 (j : Int), .int .i64 0])) B rd4) := by
      unfold RemQ
      rw [HHE.out.1, HCU.out.1]
      rw [HHE.out.2] at q1 q2
      unfold mostI at q2
      have h1 := q0.1
      have h2 := HHT.out
      exact ⟨by omega, by omega, j, t, rfl, m1, m2, by omega⟩
    have HE := Lib.hid hs4.ends
    clear hs4 HS1 q0 q1 q2 hg m1 m2 x0 x1 x2 x3 x4 x5 x6 x7
    go_wp2_with fail
    go_ret2
    obtain ⟨F', hal, hI⟩ := HE.out
    exact ⟨F', _, _, hal, hI, HQ.out⟩
  have d1 : decide (X.key = k) = false := decide_eq_false hk
  have hk' : ¬ k = X.key := fun q => hk q.symm
  obtain ⟨P, hPP⟩ : ∃ P, (if k < X.key then pathT A.nd k tl else pathT A.nd k tr) = P := ⟨_, rfl⟩
  have hpa := HPA.out
  rw [if_neg hk', hPP] at hpa
  have HPT := Lib.hid hpa.1.tail
  have hpn : P.length + 1 = n := hpa.2
  have HCH : Hid (∃ tc ic lc, RemOk I tc ∧ At A ic tc lc ∧ Up lc ∧ WfL lc ∧ lc.length ≤ 65536 ∧ xh lc.length + 1 ≤ H ∧ pathT A.nd k tc = P ∧ getE lc k ≠ none ∧ RepOk I (.pointer (some pa)) A held X k (outE lc k k) (outE (ll ++ (⟨X.key, X.val⟩ : En) :: lr) k k)) := by
    have hs := HSZ.out
    by_cases hlt : k < X.key
    · have h1 := out_lenN ll HU.out.2.1 k
      exact ⟨tl, X.left, ll, HIL.out, HP.out.2.2.2.1, HU.out.2.1, HW.out.1, by omega, HHT.out.1, by rw [← hPP, if_pos hlt], by have := HP.out.2.2.2.2.2; rwa [get_l HU.out.1 hlt] at this, repOk_l I HK.out HKN.out (fun j => Nat.le_trans (HP.out.2.2.1 j) (by decide)) HP.out.2.2.2.2.1 (out_wf HW.out.1 k k) HW.out.2.1 HW.out.2.2 (hb_less_l HU.out.2.2.2 h1.1 h1.2) (by omega) hlt (out_l HU.out.1 hlt).symm⟩
    · have h1 := out_lenN lr HU.out.2.2.1 k
      have hgt : X.key < k := by omega
      exact ⟨tr, X.right, lr, HIR.out, HP.out.2.2.2.2.1, HU.out.2.2.1, HW.out.2.1, by omega, HHT.out.2, by rw [← hPP, if_neg hlt], by have := HP.out.2.2.2.2.2; rwa [get_r HU.out.1 hgt] at this, repOk_r I HK.out HKN.out (fun j => Nat.le_trans (HP.out.2.2.1 j) (by decide)) HP.out.2.2.2.1 HW.out.1 (out_wf HW.out.2.1 k k) HW.out.2.2 (hb_less_r HU.out.2.2.2 h1.1 h1.2) (by omega) hlt (out_r HU.out.1 hgt).symm⟩
  clear hpa hPP HPA
  obtain ⟨m, rfl⟩ : ∃ m, n = m + 1 := ⟨n - 1, by omega⟩
  obtain ⟨d, rfl⟩ : ∃ d, c = d + 1 := ⟨c - 1, by omega⟩
  have HPN : Hid (P.length = m) := by show _ = _; omega
  have hm1 : (1 : Int) ≤ (m : Int) + 1 := by omega
  have hpt : PathAt w F (if d = 0 then some ⟨ga, oa, none⟩ else some ⟨ga, oa + 1, none⟩) d P := by
    have h := HPT.out
    by_cases hd : d = 0
    · subst hd; exact h
    · rw [if_neg hd]
      rw [if_neg (by omega)] at h
      exact h
  have HPT := Lib.hid hpt
  clear hpt hpn
  go_upto_region 4 with fail
  by_cases hd : d = 0
  · subst hd
    exfalso
    obtain ⟨tc, ic, lc, -, c2, -, -, -, -, c7, c9, -⟩ := HCH.out
    have h1 := HPT.out.1
    cases tc with
    | nil => exact c9 (by rw [List.eq_nil_of_length_eq_zero c2.size.symm]; rfl)
    | node i2 l2 r2 => rw [← c7] at h1; simp [pathT] at h1
  · have HPT2 : Hid (PathAt w F (some ⟨ga, oa + 1, none⟩) d P) := by have := HPT.out; rw [if_neg hd] at this; exact this
    clear HPT
    obtain ⟨tc, ic, lc, c1, c2, c3, c4, c5, c6, c7, c9, c8⟩ := HCH.out
    have HC : Hid (RemOk I tc ∧ At A ic tc lc ∧ Up lc ∧ WfL lc ∧ lc.length ≤ 65536 ∧ xh lc.length + 1 ≤ H ∧ pathT A.nd k tc = P ∧ getE lc k ≠ none ∧ RepOk I (.pointer (some pa)) A held X k (outE lc k k) (outE (ll ++ (⟨X.key, X.val⟩ : En) :: lr) k k)) := ⟨@c1, c2, c3, c4, c5, c6, c7, c9, @c8⟩
    clear HCH c1 c2 c3 c4 c5 c6 c7 c8 c9
    go_wp2_with fail
    refine (HS1.out.mutO fun F1 hI1 hF1 => HC.out.1 k _ ⟨hI1, HP.out.1, HP.out.2.1, HP.out.2.2.1, HC.out.2.1, HC.out.2.2.1, HC.out.2.2.2.1, HC.out.2.2.2.2.2.2.2.1, HC.out.2.2.2.2.1, by have := HRD.out; omega, by have := HRD.out; have := HC.out.2.2.2.2.2.1; omega, by have := HRD.out; have := HC.out.2.2.2.2.2.1; omega, HC.out.2.2.2.2.2.2.1.symm ▸ HPT2.out.ins HS1.out hF1, by rw [HC.out.2.2.2.2.2.2.1]; exact HPN.out⟩).mono ?_
    rintro eB wB ⟨B, rdB, ⟨q0, q1, j, u, rfl, q2, q3, q4⟩, hsB⟩
    have HSB := Lib.hid hsB
    have HRB : Hid (rd + 1 ≤ rdB ∧ rdB ≤ rd + 1 + 34 * (xh lc.length : Int) + 20 ∧ xh lc.length + 1 ≤ H) := ⟨q0, q1, HC.out.2.2.2.2.2.1⟩
    have HQB : Hid (Mid A held B [j] ∧ At B j u (outE lc k k) ∧ A.σ.free.length ≤ B.σ.free.length + 4 * xh lc.length + 4 ∧ 4 ≤ B.σ.free.length) := ⟨q2, q3, q4, by have := HRD.out; have := HC.out.2.2.2.2.2.1; omega⟩
    clear hsB HS1 q0 q1 q2 q3 q4 HPT2 x0 x1 x2 x3 x4 x5 x6 x7
    obtain ⟨⟨x0, x1, x2, x3, x4, x5, x6, x7⟩, -⟩ := HSB.out.row8 (g := gx) (X := X) (by simp [ndRow])
    go_wp2_with fail
    refine (HSB.out.mut fun F1 hI1 => HC.out.2.2.2.2.2.2.2.2 hI1 HQB.out.1 HQB.out.2.1 HQB.out.2.2.2 (by have := HRD.out; have := HRB.out; omega) (by have := HRD.out; have := HRB.out; omega)).mono ?_
    rintro en w5 ⟨C, rd5, ⟨q0, q1, j2, t2, rfl, q2, q3, q4⟩, hs5⟩
    have HQ : Hid (RemQ A rd held (ll ++ (⟨X.key, X.val⟩ : En) :: lr) k (.returned (.tuple #[.int .u32 (j2 : Int), .int .i64 0])) C rd5) := by
      unfold RemQ
      rw [HHE.out.1]
      have h1 := HRB.out
      have h2 := HQB.out.2.2
      exact ⟨by omega, by omega, j2, t2, rfl, q2, q3, by omega⟩
    have HE := Lib.hid hs5.ends
    clear hs5 HSB q0 q1 q2 q3 q4 x0 x1 x2 x3 x4 x5 x6 x7
    go_wp2_with fail
    go_ret2
    obtain ⟨F', hal, hI⟩ := HE.out
    exact ⟨F', _, _, hal, hI, HQ.out⟩
theorem rem_nil (I : AImpl) : RemOk I .nil := by
  intro p A rd F held i l k a n c w hP
  exact absurd (by rw [List.eq_nil_of_length_eq_zero hP.tree.size.symm]; rfl) hP.has
theorem rem_all (I : AImpl) (K : RotImpl I) (KN : ShNum) : ∀ t, RemOk I t
  | .nil => rem_nil I
  | .node _ l r => rem_node I K KN (rem_all I K KN l) (rem_all I K KN r)
theorem results_tmp4 {fn : Func} {a b c d : Tmp} (h : fn.results = #[.tmp a, .tmp b, .tmp c, .tmp d]) (tmps : Array Value) (P : Program) (w : World) :
    (results fn tmps).run P w = .ok (.tuple #[tmps.getD a undef, tmps.getD b undef, tmps.getD c undef, tmps.getD d undef]) w := by
  simp [results, h]
theorem insJ {n : Nat} (hn : n ≤ 65536) : insI (n : Int) = 4 * ((xh (n + 1) : Int) + 2) := by
  unfold insI needI
  have hv : vld (n : Int) ∧ vld 0 ∧ vld 0 := by unfold vld; omega
  rw [if_pos hv, show (n : Int) + 0 + 0 + 1 = ((n + 1 : Nat) : Int) by omega, xhI_nat (by omega)]
  omega
theorem delJ {n : Nat} (hn : n ≤ 65536) : delI (n : Int) = 4 * ((xh n : Int) + 2) := by
  unfold delI needI
  have hv : vld (n : Int) ∧ vld 0 ∧ vld 0 := by unfold vld; omega
  rw [if_pos hv, show (n : Int) + 0 + 0 + 0 = (n : Int) by omega, xhI_nat (by omega)]
  omega
theorem getU_key {l : List En} {k : Int} {x : En} (h : getE l k = some x) : x.key = k := (get_some h).2
/-- what Insert answers, and how often it reads -/
def InsS (A : Ar) (rd : Int) (held : Nat → Nat) (i : Nat) (t : Tr) (l : List En) (e : En) (en : Ending) (B : Ar) (rd' : Int) : Prop :=
  InsQ A rd held i t l e en B rd' ∧ rd' ≤ rd + 20 * ((xh (l.length + 1) : Int) + 2)
theorem InsS.of {A B : Ar} {rd rd' : Int} {held : Nat → Nat} {i : Nat} {t : Tr} {l : List En} {e : En} {en : Ending} (h0 : rd ≤ rd') (h1 : rd' ≤ rd + 20 * ((xh (l.length + 1) : Int) + 2)) (h : (getE l e.key = some e ∧ en = .returned (.tuple #[.int .u32 (i : Int), .int .i64 e.val, .bool true, .int .i64 0]) ∧ Got A held B i t l ∧ B.σ.free.length = A.σ.free.length) ∨
  (getE l e.key ≠ some e ∧ (A.σ.free.length : Int) < insI (l.length : Int) ∧ en = .returned (.tuple #[.int .u32 0, .int .i64 0, .bool false, .int .i64 2]) ∧ B = A) ∨
  (getE l e.key ≠ some e ∧ insI (l.length : Int) ≤ (A.σ.free.length : Int) ∧ ∃ (j : Nat) (u : Tr), en = .returned (.tuple #[.int .u32 (j : Int), .int .i64 ((getE l e.key).elim 0 (·.val)), .bool (getE l e.key).isSome, .int .i64 0]) ∧ Got A held B j u (insE l e) ∧ (A.σ.free.length : Int) ≤ (B.σ.free.length : Int) + insI (l.length : Int) ∧ B.σ.free.length ≤ A.σ.free.length)) : InsS A rd held i t l e en B rd' :=
  ⟨⟨h0, by unfold updBd; omega, h⟩, h1⟩
set_option maxHeartbeats 32000000 in
set_option maxRecDepth 100000 in
theorem insertS_any (I : AImpl) {p : Value} {A : Ar} {rd : Int} {F : Nat → Prop} {held : Nat → Nat} {i : Nat} {t : Tr} {l : List En} (e : En) (w : World) (hI : I.Is w p A rd F) (hv : A.Inv [] held) (hm : ∀ j, held j ≤ 1048000) (hT : TreeAt A i t l) (hwl : WfL l) (h0 : 0 ≤ rd) (h1 : rd ≤ 1099510500000) (hk : i64R e.key) (hx : i64R e.val) :
    Calls Tryz.prog 40 #[p, .int .u32 (i : Int), .agg #[.int .i64 e.key, .int .i64 e.val]] w (Mut I p F (InsS A rd held i t l e) w) := by
  obtain ⟨pa, rfl⟩ := I.ptr hI
  have hs0 := (Ins.start hI).box #[Value.int .i64 e.key, .int .i64 e.val] 69
  have HV := Lib.hid hv
  have HM := Lib.hid hm
  have HT := Lib.hid hT
  have HW : Hid (WfL l ∧ (i64R e.key ∧ i64R e.val) ∧ True) := ⟨hwl, ⟨hk, hx⟩, trivial⟩
  have HRD : Hid (0 ≤ rd ∧ rd ≤ 1099510500000) := ⟨h0, h1⟩
  have hn := hT.few
  have HN : Hid (l.length ≤ 65536) := hn
  have HB : Hid (mostI l.length ≤ 4 * ((xh (l.length + 1) : Int) + 2) ∧ 0 ≤ mostI l.length ∧ (xh (l.length + 1) : Int) < 80 ∧ t.ht ≤ xh (l.length + 1) ∧ insI (l.length : Int) = 4 * ((xh (l.length + 1) : Int) + 2)) := by
    have h2 := (xh_spec (n := l.length + 1) (by omega)).2.1
    have h3 := xh_up (m := l.length) (n := l.length + 1) (by omega) (by omega)
    have h4 := hT.ht (by omega)
    refine ⟨?_, ?_, by omega, by omega, insJ hn⟩ <;> (unfold mostI; omega)
  have HZ : Hid (A.sz i = (l.length : Int) ∧ A.Idx i ∧ i < 4294967296 ∧ A.cnt i < 4611686018427387904) := ⟨hT.at_.sz hT.agg, hT.idx', hT.idx, cnt_few hv (fun j => Nat.le_trans (hm j) (by decide)) i⟩
  obtain ⟨P, hP⟩ : ∃ P, pathT A.nd e.key t = P := ⟨_, rfl⟩
  have HPP := Lib.hid hP
  clear hI hv hm hT hwl h0 h1 hk hx hn hP
  go_enter Tryz.func40, Tryz.ntmps40
  go_upto_region 1 with fail
  generalize w.alloc (Obj.cells #[Value.int .i64 e.key, .int .i64 e.val] 69) = w1 at hs0 ⊢
  generalize w.heap.size = ge at hs0 ⊢
  have HS0 := Lib.hid hs0
  clear hs0
  obtain ⟨y0, y1⟩ := two_ofE (HS0.out.boxes (ge, Obj.cells #[Value.int .i64 e.key, .int .i64 e.val] 69 (0, 0)) (by simp)).2
  have HCE : Hid (∀ {wx : World} {C : Ar} {rdx : Int} {rs : List Row}, Ins I w F (.pointer (some pa)) C rdx rs [(ge, Obj.cells #[Value.int .i64 e.key, .int .i64 e.val] 69 (0, 0))] wx → wx.cell? ⟨ge, 0, none⟩ = some (.int .i64 e.key) ∧ wx.cell? ⟨ge, 1, none⟩ = some (.int .i64 e.val)) := fun {wx C rdx rs} hx => two_ofE (hx.boxes (ge, Obj.cells #[Value.int .i64 e.key, .int .i64 e.val] 69 (0, 0)) (by simp)).2
  go_wp2_with fail
  refine (HS0.out.call fun F1 hI1 => (lkImpl I).get e.key w1 hI1 HT.out HRD.out.1 (by have := HRD.out; omega) HW.out.2.1.1).mono ?_
  rintro en w2 ⟨rfl, rd1, hs, r1, r2⟩
  have HR1 : Hid (rd ≤ rd1 ∧ rd1 ≤ rd + mostI l.length) := ⟨r1, r2⟩
  have HS1 := Lib.hid hs
  clear hs HS0 r1 r2 y0 y1
  obtain ⟨y0, y1⟩ := two_ofE (HS1.out.boxes (ge, Obj.cells #[Value.int .i64 e.key, .int .i64 e.val] 69 (0, 0)) (by simp)).2
  obtain ⟨V, hV⟩ : ∃ V, (getE l e.key).elim (0 : Int) (·.val) = V := ⟨_, rfl⟩
  obtain ⟨D, hD⟩ : ∃ D, (getE l e.key).isSome = D := ⟨_, rfl⟩
  rw [hV, hD]
  cases D
  · have HVD : Hid ((getE l e.key).elim (0 : Int) (·.val) = V ∧ (getE l e.key).isSome = false) := ⟨hV, hD⟩
    have HNE : Hid (getE l e.key ≠ some e) := fun q => by rw [q] at hD; cases hD
    clear hV hD
    go_wp2_with fail
    refine HS1.out.free.mono ?_
    rintro en w6 ⟨rfl, hs6⟩
    have HS6 := Lib.hid hs6
    clear hs6 HS1 y0 y1
    go_wp2_with fail
    refine (HS6.out.sz (by have := HRD.out; have := HR1.out; omega) (by have := HRD.out; have := HR1.out; have := HB.out; omega) HZ.out.2.2.1 HZ.out.2.1 HV.out.ok).mono ?_
    rintro en w7 ⟨rfl, hs7⟩
    rw [HZ.out.1]
    obtain ⟨rd3, hrd3⟩ : ∃ r, (rd1 + if i = 0 then 0 else 1) = r := ⟨_, rfl⟩
    have HR3 : Hid (rd ≤ rd3 ∧ rd3 ≤ rd + mostI l.length + 1) := by
      have := HR1.out
      show rd ≤ rd3 ∧ rd3 ≤ rd + mostI l.length + 1
      rw [← hrd3]
      (repeat' split) <;> omega
    rw [hrd3] at hs7
    have HS7 := Lib.hid hs7
    clear hs7 hrd3 HS6
    go_wp2_with fail
    refine (rsInsert_any (l.length : Int) w7 (by have := HN.out; unfold in64; omega)).mono ?_
    rintro en w8 ⟨rfl, hb8⟩
    have HS8 := Lib.hid (HS7.out.calm hb8)
    clear hb8 HS7
    by_cases hfr : (A.σ.free.length : Int) < insI (l.length : Int)
    · have d9 : decide ((A.σ.free.length : Int) < insI (l.length : Int)) = true := decide_eq_true hfr
      have HQ : Hid (InsS A rd held i t l e (.returned (.tuple #[.int .u32 0, .int .i64 0, .bool false, .int .i64 2])) A rd3) := InsS.of HR3.out.1 (by have := HR3.out; have := HB.out; omega) (.inr (.inl ⟨HNE.out, hfr, rfl, rfl⟩))
      have HE := Lib.hid HS8.out.ends
      go_wp2_with fail
      refine bodyPost_ret (results_tmp4 rfl _ _ _) rfl ?_
      obtain ⟨F', hal, hI⟩ := HE.out
      exact ⟨F', A, rd3, hal, hI, HQ.out⟩
    have d9 : decide ((A.σ.free.length : Int) < insI (l.length : Int)) = false := decide_eq_false hfr
    have HFR : Hid (insI (l.length : Int) ≤ (A.σ.free.length : Int)) := by show _ ≤ _; omega
    go_upto_region 6 with fail
    have hsd := HS8.out.calm (Below.refl _ _).drew
    clear HS8
    refine anyG_begin (S := (fun w' => w'.cell? ⟨ge, 0, none⟩ = some (.int .i64 e.key) ∧ w'.cell? ⟨ge, 1, none⟩ = some (.int .i64 e.val))) (z := 9999) (by kernel_rfl) (HCE.out hsd) (fun hHeld => ?_)
    refine anyG_tk (v := ?_) 0 42 rfl (by kernel_rfl) (Or.inl ⟨by rfl, ?_⟩) (by assumption) ?_
    rotate_left
    · intro w hSw; (try dsimp only at hSw); go_simp; try with_reducible rfl
    (try simp only [Act.put, put_s])
    refine anyG_tk (v := ?_) 1 43 rfl (by kernel_rfl) (Or.inl ⟨by rfl, ?_⟩) (by assumption) ?_
    rotate_left
    · intro w hSw; (try dsimp only at hSw); go_simp; try with_reducible rfl
    (try simp only [Act.put, put_s])
    refine anyG_tk (v := ?_) 2 44 rfl (by kernel_rfl) (Or.inl ⟨by rfl, ?_⟩) (by assumption) ?_
    rotate_left
    · intro w hSw; (try dsimp only at hSw); go_simp; try with_reducible rfl
    (try simp only [Act.put, put_s])
    refine anyG_tk (v := ?_) 3 45 rfl (by kernel_rfl) (Or.inl ⟨by rfl, ?_⟩) (by assumption) ?_
    rotate_left
    · intro w hSw; (try dsimp only at hSw); go_simp; try with_reducible rfl
    (try simp only [Act.put, put_s])
    refine anyG_tk (v := ?_) 4 46 rfl (by kernel_rfl) (Or.inl ⟨by rfl, ?_⟩) (by assumption) ?_
    rotate_left
    · intro w hSw; (try dsimp only at hSw); go_simp; try with_reducible rfl
    (try simp only [Act.put, put_s])
    refine anyG_tk (v := ?_) 6 48 rfl (by kernel_rfl) (Or.inl ⟨by rfl, ?_⟩) (by assumption) ?_
    rotate_left
    · intro w hSw; (try dsimp only at hSw); go_simp; try with_reducible rfl
    (try simp only [Act.put, put_s])
    refine anyG_one (k := 5) (o := _) (by kernel_rfl) rfl (fun KT hKT => ?_)
    go_simp
    go_at_call 70
    refine (hsd.path (P := P) fun F1 hI1 => (by have h := (lkImpl I).path e.key _ hI1 HT.out (by have := HRD.out; have := HR3.out; omega) (by have := HRD.out; have := HR3.out; have := HB.out; omega) HW.out.2.1.1; rw [HPP.out] at h; exact h)).mono ?_
    rintro eA wA ⟨rdA, aa, ac, rfl, hsA, a1, a2⟩
    try go_wp2_with fail
    refine hKT.out _ _ (HCE.out hsA) (fun hHeld => ?_)
    clear hKT KT
    (try simp only [Act.put, put_s])
    refine anyG_one (k := 7) (o := _) (by kernel_rfl) rfl (fun KT hKT => ?_)
    go_simp
    go_at_call 73
    refine (hsA.mutO fun F1 hI1 hF1 => put_all I (rotImpl I) numJ t e _ ⟨hI1, HV.out, HT.out.agg, fun j => Nat.le_trans (HM.out j) (by decide), HT.out.at_, HT.out.up, HW.out.1, HW.out.2.1, by have := HN.out; omega, by have := HRD.out; have := HR3.out; omega, by have := HRD.out; have := HR3.out; have := HB.out; omega, by have := HFR.out; have := HB.out; omega, by rw [HPP.out]; exact PathAt.ofRow (hsA.rows _ (List.Mem.head _)) fun g hg => hF1 g (.inr (.inl ⟨_, List.Mem.head _, hg⟩)), by rw [HPP.out]⟩).mono ?_
    rintro eB wB ⟨B, rdB, ⟨q0, q1, j, u, rfl, q2, q3, q4⟩, hsB⟩
    try go_wp2_with fail
    refine hKT.out _ _ (HCE.out hsB) (fun hHeld => ?_)
    clear hKT KT
    (try simp only [Act.put, put_s])
    refine anyG_tk (v := ?_) 8 41 rfl (by kernel_rfl) (Or.inl ⟨by rfl, ?_⟩) (by assumption) ?_
    rotate_left
    · intro w hSw; (try dsimp only at hSw); go_simp; try with_reducible rfl
    (try simp only [Act.put, put_s])
    refine anyG_tk (v := ?_) 9 50 rfl (by kernel_rfl) (Or.inl ⟨by rfl, ?_⟩) (by assumption) ?_
    rotate_left
    · intro w hSw; (try dsimp only at hSw); go_simp; try with_reducible rfl
    (try simp only [Act.put, put_s])
    refine anyG_tk (v := ?_) 10 51 rfl (by kernel_rfl) (Or.inl ⟨by rfl, ?_⟩) (by assumption) ?_
    rotate_left
    · intro w hSw; (try dsimp only at hSw); go_simp; try with_reducible rfl
    (try simp only [Act.put, put_s])
    refine anyG_tk (v := ?_) 11 12 rfl (by kernel_rfl) (Or.inl ⟨by rfl, ?_⟩) (by assumption) ?_
    rotate_left
    · intro w hSw; (try dsimp only at hSw); go_simp; try with_reducible rfl
    (try simp only [Act.put, put_s])
    refine anyG_tk (v := ?_) 12 13 rfl (by kernel_rfl) (Or.inl ⟨by rfl, ?_⟩) (by assumption) ?_
    rotate_left
    · intro w hSw; (try dsimp only at hSw); go_simp; try with_reducible rfl
    (try simp only [Act.put, put_s])
    refine anyG_done (by kernel_rfl) ?_ _
    have HSB := Lib.hid hsB.ends
    have HQ : Hid (InsS A rd held i t l e (.returned (.tuple #[.int .u32 (j : Int), .int .i64 V, .bool false, .int .i64 0])) B rdB) :=
      InsS.of (by have := HR3.out; omega) (by have := HR3.out; have := HB.out; omega) (.inr (.inr ⟨HNE.out, HFR.out, j, u, by rw [HVD.out.1, HVD.out.2], q2.got q3, by have := HB.out; omega, kept_free HV.out.ok q2.inv.ok q2.kept⟩))
    clear hsB hsA hsd hHeld HCE q0 q1 q2 q3 q4 a1 a2
    go_wp2_with fail
    refine bodyPost_ret (results_tmp4 rfl _ _ _) rfl ?_
    obtain ⟨F', hal, hI⟩ := HSB.out
    exact ⟨F', _, _, hal, hI, HQ.out⟩
  have HVD : Hid ((getE l e.key).elim (0 : Int) (·.val) = V ∧ (getE l e.key).isSome = true) := ⟨hV, hD⟩
  by_cases hve : V = e.val
  · have hge : getE l e.key = some e := by
      cases hq : getE l e.key with
      | none => rw [hq] at hD; cases hD
      | some x =>
        rw [hq] at hV
        have h1 := getU_key hq
        have h2 : x.val = V := hV
        cases x
        cases e
        simp at h1 h2 hve ⊢
        exact ⟨h1, h2.trans hve⟩
    have HQ : Hid (InsS A rd held i t l e (.returned (.tuple #[.int .u32 (i : Int), .int .i64 e.val, .bool true, .int .i64 0])) (A.ret i) rd1) := by
      obtain ⟨m1, m2, m3, m4⟩ := (Mid.start HV.out HT.out.agg).ret HZ.out.2.1
      exact InsS.of HR1.out.1 (by have := HR1.out; have := HB.out; omega) (.inl ⟨hge, rfl, m1.got (HT.out.at_.kept m2), by rw [m3]⟩)
    have d3 : decide (V = e.val) = true := decide_eq_true hve
    subst hve
    clear hV hD hge
    go_wp2_with fail
    refine (HS1.out.retain HZ.out.2.2.1 HZ.out.2.1 HZ.out.2.2.2).mono ?_
    rintro en w4 ⟨rfl, hs4⟩
    have HE := Lib.hid hs4.ends
    clear hs4 HS1 y0 y1
    go_wp2_with fail
    refine bodyPost_ret (results_tmp4 rfl _ _ _) rfl ?_
    obtain ⟨F', hal, hI⟩ := HE.out
    exact ⟨F', _, _, hal, hI, HQ.out⟩
  have HNE : Hid (getE l e.key ≠ some e) := fun q => by rw [q] at hV; exact hve hV.symm
  have d3 : decide (V = e.val) = false := decide_eq_false hve
  clear hV hD
  go_wp2_with fail
  refine HS1.out.free.mono ?_
  rintro en w6 ⟨rfl, hs6⟩
  have HS6 := Lib.hid hs6
  clear hs6 HS1 y0 y1
  go_wp2_with fail
  refine (HS6.out.sz (by have := HRD.out; have := HR1.out; omega) (by have := HRD.out; have := HR1.out; have := HB.out; omega) HZ.out.2.2.1 HZ.out.2.1 HV.out.ok).mono ?_
  rintro en w7 ⟨rfl, hs7⟩
  rw [HZ.out.1]
  obtain ⟨rd3, hrd3⟩ : ∃ r, (rd1 + if i = 0 then 0 else 1) = r := ⟨_, rfl⟩
  have HR3 : Hid (rd ≤ rd3 ∧ rd3 ≤ rd + mostI l.length + 1) := by
    have := HR1.out
    show rd ≤ rd3 ∧ rd3 ≤ rd + mostI l.length + 1
    rw [← hrd3]
    (repeat' split) <;> omega
  rw [hrd3] at hs7
  have HS7 := Lib.hid hs7
  clear hs7 hrd3 HS6
  go_wp2_with fail
  refine (rsInsert_any (l.length : Int) w7 (by have := HN.out; unfold in64; omega)).mono ?_
  rintro en w8 ⟨rfl, hb8⟩
  have HS8 := Lib.hid (HS7.out.calm hb8)
  clear hb8 HS7
  by_cases hfr : (A.σ.free.length : Int) < insI (l.length : Int)
  · have d9 : decide ((A.σ.free.length : Int) < insI (l.length : Int)) = true := decide_eq_true hfr
    have HQ : Hid (InsS A rd held i t l e (.returned (.tuple #[.int .u32 0, .int .i64 0, .bool false, .int .i64 2])) A rd3) := InsS.of HR3.out.1 (by have := HR3.out; have := HB.out; omega) (.inr (.inl ⟨HNE.out, hfr, rfl, rfl⟩))
    have HE := Lib.hid HS8.out.ends
    go_wp2_with fail
    refine bodyPost_ret (results_tmp4 rfl _ _ _) rfl ?_
    obtain ⟨F', hal, hI⟩ := HE.out
    exact ⟨F', A, rd3, hal, hI, HQ.out⟩
  have d9 : decide ((A.σ.free.length : Int) < insI (l.length : Int)) = false := decide_eq_false hfr
  have HFR : Hid (insI (l.length : Int) ≤ (A.σ.free.length : Int)) := by show _ ≤ _; omega
  go_upto_region 6 with fail
  have hsd := HS8.out.calm (Below.refl _ _).drew
  clear HS8
  refine anyG_begin (S := (fun w' => w'.cell? ⟨ge, 0, none⟩ = some (.int .i64 e.key) ∧ w'.cell? ⟨ge, 1, none⟩ = some (.int .i64 e.val))) (z := 9999) (by kernel_rfl) (HCE.out hsd) (fun hHeld => ?_)
  refine anyG_tk (v := ?_) 0 42 rfl (by kernel_rfl) (Or.inl ⟨by rfl, ?_⟩) (by assumption) ?_
  rotate_left
  · intro w hSw; (try dsimp only at hSw); go_simp; try with_reducible rfl
  (try simp only [Act.put, put_s])
  refine anyG_tk (v := ?_) 1 43 rfl (by kernel_rfl) (Or.inl ⟨by rfl, ?_⟩) (by assumption) ?_
  rotate_left
  · intro w hSw; (try dsimp only at hSw); go_simp; try with_reducible rfl
  (try simp only [Act.put, put_s])
  refine anyG_tk (v := ?_) 2 44 rfl (by kernel_rfl) (Or.inl ⟨by rfl, ?_⟩) (by assumption) ?_
  rotate_left
  · intro w hSw; (try dsimp only at hSw); go_simp; try with_reducible rfl
  (try simp only [Act.put, put_s])
  refine anyG_tk (v := ?_) 3 45 rfl (by kernel_rfl) (Or.inl ⟨by rfl, ?_⟩) (by assumption) ?_
  rotate_left
  · intro w hSw; (try dsimp only at hSw); go_simp; try with_reducible rfl
  (try simp only [Act.put, put_s])
  refine anyG_tk (v := ?_) 4 46 rfl (by kernel_rfl) (Or.inl ⟨by rfl, ?_⟩) (by assumption) ?_
  rotate_left
  · intro w hSw; (try dsimp only at hSw); go_simp; try with_reducible rfl
  (try simp only [Act.put, put_s])
  refine anyG_tk (v := ?_) 6 48 rfl (by kernel_rfl) (Or.inl ⟨by rfl, ?_⟩) (by assumption) ?_
  rotate_left
  · intro w hSw; (try dsimp only at hSw); go_simp; try with_reducible rfl
  (try simp only [Act.put, put_s])
  refine anyG_one (k := 5) (o := _) (by kernel_rfl) rfl (fun KT hKT => ?_)
  go_simp
  go_at_call 70
  refine (hsd.path (P := P) fun F1 hI1 => (by have h := (lkImpl I).path e.key _ hI1 HT.out (by have := HRD.out; have := HR3.out; omega) (by have := HRD.out; have := HR3.out; have := HB.out; omega) HW.out.2.1.1; rw [HPP.out] at h; exact h)).mono ?_
  rintro eA wA ⟨rdA, aa, ac, rfl, hsA, a1, a2⟩
  try go_wp2_with fail
  refine hKT.out _ _ (HCE.out hsA) (fun hHeld => ?_)
  clear hKT KT
  (try simp only [Act.put, put_s])
  refine anyG_one (k := 7) (o := _) (by kernel_rfl) rfl (fun KT hKT => ?_)
  go_simp
  go_at_call 73
  refine (hsA.mutO fun F1 hI1 hF1 => put_all I (rotImpl I) numJ t e _ ⟨hI1, HV.out, HT.out.agg, fun j => Nat.le_trans (HM.out j) (by decide), HT.out.at_, HT.out.up, HW.out.1, HW.out.2.1, by have := HN.out; omega, by have := HRD.out; have := HR3.out; omega, by have := HRD.out; have := HR3.out; have := HB.out; omega, by have := HFR.out; have := HB.out; omega, by rw [HPP.out]; exact PathAt.ofRow (hsA.rows _ (List.Mem.head _)) fun g hg => hF1 g (.inr (.inl ⟨_, List.Mem.head _, hg⟩)), by rw [HPP.out]⟩).mono ?_
  rintro eB wB ⟨B, rdB, ⟨q0, q1, j, u, rfl, q2, q3, q4⟩, hsB⟩
  try go_wp2_with fail
  refine hKT.out _ _ (HCE.out hsB) (fun hHeld => ?_)
  clear hKT KT
  (try simp only [Act.put, put_s])
  refine anyG_tk (v := ?_) 8 41 rfl (by kernel_rfl) (Or.inl ⟨by rfl, ?_⟩) (by assumption) ?_
  rotate_left
  · intro w hSw; (try dsimp only at hSw); go_simp; try with_reducible rfl
  (try simp only [Act.put, put_s])
  refine anyG_tk (v := ?_) 9 50 rfl (by kernel_rfl) (Or.inl ⟨by rfl, ?_⟩) (by assumption) ?_
  rotate_left
  · intro w hSw; (try dsimp only at hSw); go_simp; try with_reducible rfl
  (try simp only [Act.put, put_s])
  refine anyG_tk (v := ?_) 10 51 rfl (by kernel_rfl) (Or.inl ⟨by rfl, ?_⟩) (by assumption) ?_
  rotate_left
  · intro w hSw; (try dsimp only at hSw); go_simp; try with_reducible rfl
  (try simp only [Act.put, put_s])
  refine anyG_tk (v := ?_) 11 12 rfl (by kernel_rfl) (Or.inl ⟨by rfl, ?_⟩) (by assumption) ?_
  rotate_left
  · intro w hSw; (try dsimp only at hSw); go_simp; try with_reducible rfl
  (try simp only [Act.put, put_s])
  refine anyG_tk (v := ?_) 12 13 rfl (by kernel_rfl) (Or.inl ⟨by rfl, ?_⟩) (by assumption) ?_
  rotate_left
  · intro w hSw; (try dsimp only at hSw); go_simp; try with_reducible rfl
  (try simp only [Act.put, put_s])
  refine anyG_done (by kernel_rfl) ?_ _
  have HSB := Lib.hid hsB.ends
  have HQ : Hid (InsS A rd held i t l e (.returned (.tuple #[.int .u32 (j : Int), .int .i64 V, .bool true, .int .i64 0])) B rdB) :=
    InsS.of (by have := HR3.out; omega) (by have := HR3.out; have := HB.out; omega) (.inr (.inr ⟨HNE.out, HFR.out, j, u, by rw [HVD.out.1, HVD.out.2], q2.got q3, by have := HB.out; omega, kept_free HV.out.ok q2.inv.ok q2.kept⟩))
  clear hsB hsA hsd hHeld HCE q0 q1 q2 q3 q4 a1 a2
  go_wp2_with fail
  refine bodyPost_ret (results_tmp4 rfl _ _ _) rfl ?_
  obtain ⟨F', hal, hI⟩ := HSB.out
  exact ⟨F', _, _, hal, hI, HQ.out⟩
theorem insertP_any (I : AImpl) {p : Value} {A : Ar} {rd : Int} {F : Nat → Prop} {held : Nat → Nat} {i : Nat} {t : Tr} {l : List En} (e : En) (w : World) (hI : I.Is w p A rd F) (hv : A.Inv [] held) (hm : ∀ j, held j ≤ 1048000) (hT : TreeAt A i t l) (hwl : WfL l) (h0 : 0 ≤ rd) (h1 : rd ≤ 1099510000000) (hk : i64R e.key) (hx : i64R e.val) :
    Calls Tryz.prog 40 #[p, .int .u32 (i : Int), .agg #[.int .i64 e.key, .int .i64 e.val]] w (Mut I p F (InsQ A rd held i t l e) w) :=
  (insertS_any I e w hI hv hm hT hwl h0 (by omega) hk hx).mono fun en w' ⟨F', B, rd', q1, q2, q3⟩ => ⟨F', B, rd', q1, q2, q3.1⟩
set_option maxHeartbeats 32000000 in
set_option maxRecDepth 100000 in
theorem deleteP_any (I : AImpl) {p : Value} {A : Ar} {rd : Int} {F : Nat → Prop} {held : Nat → Nat} {i : Nat} {t : Tr} {l : List En} (k : Int) (w : World) (hI : I.Is w p A rd F) (hv : A.Inv [] held) (hm : ∀ j, held j ≤ 1048000) (hT : TreeAt A i t l) (hwl : WfL l) (h0 : 0 ≤ rd) (h1 : rd ≤ 1099510000000) (hk : i64R k) :
    Calls Tryz.prog 38 #[p, .int .u32 (i : Int), .int .i64 k] w (Mut I p F (DelQ A rd held l k) w) := by
  obtain ⟨pa, rfl⟩ := I.ptr hI
  have HS0 := Lib.hid (Ins.start hI)
  have HV := Lib.hid hv
  have HM := Lib.hid hm
  have HT := Lib.hid hT
  have HW : Hid (WfL l ∧ i64R k) := ⟨hwl, hk⟩
  have HRD : Hid (0 ≤ rd ∧ rd ≤ 1099510000000) := ⟨h0, h1⟩
  have hn := hT.few
  have HN : Hid (l.length ≤ 65536) := hn
  have HB : Hid (mostI l.length = 4 * ((xh l.length : Int) + 2) ∧ xh l.length ≤ xh (l.length + 1) ∧ (xh l.length : Int) < 80 ∧ delI (l.length : Int) = 4 * ((xh l.length : Int) + 2) ∧ updBd l.length = 60 * ((xh (l.length + 1) : Int) + 2)) := by
    have h2 := (xh_spec (n := l.length) (by omega)).2.1
    have h3 := xh_up (m := l.length) (n := l.length + 1) (by omega) (by omega)
    exact ⟨rfl, h3, by omega, delJ hn, rfl⟩
  have HZ : Hid (A.sz i = (l.length : Int) ∧ A.Idx i ∧ i < 4294967296) := ⟨hT.at_.sz hT.agg, hT.idx', hT.idx⟩
  obtain ⟨P, hP⟩ : ∃ P, pathT A.nd k t = P := ⟨_, rfl⟩
  have HPP := Lib.hid hP
  clear hI hv hm hT hwl h0 h1 hk hn hP
  go_enter Tryz.func38, Tryz.ntmps38
  go_wp2_with fail
  refine (HS0.out.call fun F1 hI1 => (lkImpl I).get k w hI1 HT.out HRD.out.1 (by have := HRD.out; omega) HW.out.2).mono ?_
  rintro en w2 ⟨rfl, rd1, hs, r1, r2⟩
  have HR1 : Hid (rd ≤ rd1 ∧ rd1 ≤ rd + mostI l.length) := ⟨r1, r2⟩
  have HS1 := Lib.hid hs
  clear hs HS0 r1 r2
  obtain ⟨V, hV⟩ : ∃ V, (getE l k).elim (0 : Int) (·.val) = V := ⟨_, rfl⟩
  obtain ⟨D, hD⟩ : ∃ D, (getE l k).isSome = D := ⟨_, rfl⟩
  rw [hV, hD]
  cases D
  · have HQ : Hid (DelQ A rd held l k (.returned (.tuple #[.int .u32 0, .int .i64 0, .int .i64 4])) A rd1) :=
      ⟨HR1.out.1, by have := HR1.out; have := HB.out; omega, .inl ⟨by rw [← Option.not_isSome_iff_eq_none, hD]; simp, rfl, rfl⟩⟩
    have HE := Lib.hid HS1.out.ends
    clear hV hD
    go_wp2_with fail
    go_ret3
    obtain ⟨F', hal, hI⟩ := HE.out
    exact ⟨F', A, rd1, hal, hI, HQ.out⟩
  have HVD : Hid ((getE l k).elim (0 : Int) (·.val) = V ∧ getE l k ≠ none) := ⟨hV, fun q => by rw [q] at hD; cases hD⟩
  clear hV hD
  go_wp2_with fail
  refine HS1.out.free.mono ?_
  rintro en w6 ⟨rfl, hs6⟩
  have HS6 := Lib.hid hs6
  clear hs6 HS1
  go_wp2_with fail
  refine (HS6.out.sz (by have := HRD.out; have := HR1.out; omega) (by have := HRD.out; have := HR1.out; have := HB.out; omega) HZ.out.2.2 HZ.out.2.1 HV.out.ok).mono ?_
  rintro en w7 ⟨rfl, hs7⟩
  rw [HZ.out.1]
  obtain ⟨rd3, hrd3⟩ : ∃ r, (rd1 + if i = 0 then 0 else 1) = r := ⟨_, rfl⟩
  have HR3 : Hid (rd ≤ rd3 ∧ rd3 ≤ rd + mostI l.length + 1) := by
    have := HR1.out
    show rd ≤ rd3 ∧ rd3 ≤ rd + mostI l.length + 1
    rw [← hrd3]
    (repeat' split) <;> omega
  rw [hrd3] at hs7
  have HS7 := Lib.hid hs7
  clear hs7 hrd3 HS6
  go_wp2_with fail
  refine (rsDelete_any (l.length : Int) w7 (by have := HN.out; unfold in64; omega)).mono ?_
  rintro en w8 ⟨rfl, hb8⟩
  have HS8 := Lib.hid (HS7.out.calm hb8)
  clear hb8 HS7
  by_cases hfr : (A.σ.free.length : Int) < delI (l.length : Int)
  · have d9 : decide ((A.σ.free.length : Int) < delI (l.length : Int)) = true := decide_eq_true hfr
    have HQ : Hid (DelQ A rd held l k (.returned (.tuple #[.int .u32 0, .int .i64 0, .int .i64 2])) A rd3) := ⟨HR3.out.1, by have := HR3.out; have := HB.out; omega, .inr (.inl ⟨HVD.out.2, hfr, rfl, rfl⟩)⟩
    have HE := Lib.hid HS8.out.ends
    go_wp2_with fail
    go_ret3
    obtain ⟨F', hal, hI⟩ := HE.out
    exact ⟨F', A, rd3, hal, hI, HQ.out⟩
  have d9 : decide ((A.σ.free.length : Int) < delI (l.length : Int)) = false := decide_eq_false hfr
  have HFR : Hid (delI (l.length : Int) ≤ (A.σ.free.length : Int)) := by show _ ≤ _; omega
  go_wp2_with fail
  refine (HS8.out.path (P := P) fun F1 hI1 => (by have h := (lkImpl I).path k w8 hI1 HT.out (by have := HRD.out; have := HR3.out; omega) (by have := HRD.out; have := HR3.out; have := HB.out; omega) HW.out.2; rw [HPP.out] at h; exact h)).mono ?_
  rintro eA wA ⟨rdA, aa, ac, rfl, hsA, a1, a2⟩
  have HSA := Lib.hid hsA
  have HRA : Hid (rd3 ≤ rdA ∧ rdA ≤ rd3 + mostI l.length) := ⟨a1, a2⟩
  clear hsA a1 a2 HS8
  go_wp2_with fail
  refine (HSA.out.mutO fun F1 hI1 hF1 => rem_all I (rotImpl I) numJ t k wA ⟨hI1, HV.out, HT.out.agg, HM.out, HT.out.at_, HT.out.up, HW.out.1, HVD.out.2, HN.out, by have := HRD.out; have := HR3.out; have := HRA.out; omega, by have := HRD.out; have := HR3.out; have := HRA.out; have := HB.out; omega, by have := HFR.out; have := HB.out; omega, by rw [HPP.out]; exact PathAt.ofRow (HSA.out.rows _ (List.Mem.head _)) fun g hg => hF1 g (.inr (.inl ⟨_, List.Mem.head _, hg⟩)), by rw [HPP.out]⟩).mono ?_
  rintro eB wB ⟨B, rdB, ⟨q0, q1, j, u, rfl, q2, q3, q4⟩, hsB⟩
  have HE := Lib.hid hsB.ends
  have HQ : Hid (DelQ A rd held l k (.returned (.tuple #[.int .u32 (j : Int), .int .i64 V, .int .i64 0])) B rdB) :=
    ⟨by have := HR3.out; have := HRA.out; omega, by have := HR3.out; have := HRA.out; have := HB.out; omega, .inr (.inr ⟨HVD.out.2, HFR.out, j, u, by rw [HVD.out.1], q2.got q3, by have := HB.out; omega, kept_free HV.out.ok q2.inv.ok q2.kept⟩)⟩
  clear hsB HSA q0 q1 q2 q3 q4
  go_wp2_with fail
  go_ret3
  obtain ⟨F', hal, hI⟩ := HE.out
  exact ⟨F', _, _, hal, hI, HQ.out⟩
theorem updImpl (I : AImpl) : UpdImpl I where
  insert := fun e w hI hv hm hT hwl h0 h1 hk hx => insertP_any I e w hI hv hm hT hwl h0 h1 hk hx
  delete := fun k w hI hv hm hT hwl h0 h1 hk => deleteP_any I k w hI hv hm hT hwl h0 h1 hk
end Go.Proofs.YtfihklpofmcfgaaGreat
