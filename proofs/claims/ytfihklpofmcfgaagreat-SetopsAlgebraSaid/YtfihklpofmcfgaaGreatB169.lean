/- Of the proofs of SetopsAlgebra, SetopsDistribute: RotOk, ShCon, JnOk1. -/
import Derived.Test.YtfihklpofmcfgaaGreatB168
import Derived.Deep.DeepCutAuto
set_option linter.unusedVariables false
set_option linter.unusedSimpArgs false
namespace Go.Proofs.YtfihklpofmcfgaaGreat
open Go.RowKit
section
variable {I : AImpl} {w wr : World} {F : Nat → Prop} {p : Value} {A B : Ar} {rd rd' : Int} {rs : List Row} {bs : List (Nat × Obj)} {held : Nat → Nat} {k i j : Nat}
theorem rot_bad (h : Ins I w F p A rd' rs bs wr) (hf : rform A k i = false) (h0 : rd ≤ rd') (h1 : rd' ≤ rd + 4) : RotRes I p A rd F held k i w (.returned (.tuple #[.int .u32 0, .int .i64 1])) wr := by
  obtain ⟨F', hal, hI⟩ := h.ends
  exact ⟨F', rd', hal, h0, h1, .inl ⟨hf, rfl, hI⟩⟩
theorem rot_full (h : Ins I w F p A rd' rs bs wr) (hf : rform A k i = true) (hn : A.σ.free.length < rneed k) (h0 : rd ≤ rd') (h1 : rd' ≤ rd + 4) : RotRes I p A rd F held k i w (.returned (.tuple #[.int .u32 0, .int .i64 2])) wr := by
  obtain ⟨F', hal, hI⟩ := h.ends
  exact ⟨F', rd', hal, h0, h1, .inr (.inl ⟨hf, hn, rfl, hI⟩)⟩
theorem rot_ok (h : Ins I w F p B rd' rs bs wr) (hf : rform A k i = true) (hn : rneed k ≤ A.σ.free.length) (ht : Turned A held B j (rneed k)) (hr : RNodes A B k i j) (h0 : rd ≤ rd') (h1 : rd' ≤ rd + 4) : RotRes I p A rd F held k i w (.returned (.tuple #[.int .u32 (j : Int), .int .i64 0])) wr := by
  obtain ⟨F', hal, hI⟩ := h.ends
  exact ⟨F', rd', hal, h0, h1, .inr (.inr ⟨hf, hn, B, j, ht, hr, rfl, hI⟩)⟩
theorem Ins.row8 {g : Nat} {X : Nd} (h : Ins I w F p A rd rs bs wr) (hm : (g, Obj.cells (ndRow X) 81 (0, 0)) ∈ bs) : Row8 wr g X := row8_of (h.boxes _ hm).2
theorem idx_lt32 (hv : A.Inv [] held) {x : Nat} (hx : A.Idx x) : x < 4294967296 := by
  rcases hx with hx | hx
  · omega
  · have := hv.ok.on x hx; have := hv.ok.cap2; omega
/-- the node of an index, and zero values where there is none -/
def ndz (A : Ar) (i : Nat) : Nd := if A.σ.on i = true then A.nd i else Nd.zero
theorem ndz_on (h : A.σ.on i = true) : ndz A i = A.nd i := if_pos h
theorem ndz_off (h : A.σ.on i = false) : ndz A i = Nd.zero := if_neg (by rw [h]; decide)
theorem Ins.look (h : Ins I w F p A rd rs bs wr) (h0 : 0 ≤ rd) (h1 : rd ≤ 4398046511104) {i : Nat} (hi : i < 4294967296) :
    Calls Tryz.prog 95 #[p, .int .u32 (i : Int)] wr fun e w' => e = .returned (.tuple #[.agg (ndRow (ndz A i)), .bool (A.σ.on i)]) ∧ ∃ rd', Ins I w F p A rd' rs bs w' ∧ rd ≤ rd' ∧ rd' ≤ rd + 1 := by
  cases hon : A.σ.on i
  · refine (h.node_no h0 h1 hi hon).mono ?_
    rintro e w' ⟨rfl, h2⟩
    exact ⟨by rw [ndz_off hon], rd, h2, by omega, by omega⟩
  · refine (h.node h0 h1 hi hon).mono ?_
    rintro e w' ⟨rfl, h2⟩
    exact ⟨by rw [ndz_on hon], rd + 1, h2, by omega, by omega⟩
theorem ndz_idx (hv : A.Inv [] held) (i : Nat) : A.Idx (ndz A i).left ∧ A.Idx (ndz A i).right := by
  cases hon : A.σ.on i
  · rw [ndz_off hon]; exact ⟨.inl rfl, .inl rfl⟩
  · rw [ndz_on hon]; exact hv.child i hon
theorem off_zero (hv : A.Inv [] held) : A.σ.on 0 = false := by
  cases ho : A.σ.on 0
  · rfl
  · have := hv.ok.on 0 ho; omega
theorem idx_on (hv : A.Inv [] held) {x : Nat} (hx : A.Idx x) : A.σ.on x = (x != 0) := by
  rcases hx with rfl | hx
  · rw [off_zero hv]; rfl
  · rw [hx]
    have h0 : x ≠ 0 := fun e => by rw [e, off_zero hv] at hx; cases hx
    simp [h0]
theorem form0 (hv : A.Inv [] held) (i : Nat) : A.σ.on (ndz A i).right = rform A 0 i := by
  rw [idx_on hv (ndz_idx hv i).2]
  unfold rform
  cases hon : A.σ.on i
  · rw [ndz_off hon]; rfl
  · rw [ndz_on hon]; rfl
theorem form1 (hv : A.Inv [] held) (i : Nat) : A.σ.on (ndz A i).left = rform A 1 i := by
  rw [idx_on hv (ndz_idx hv i).1]
  unfold rform
  cases hon : A.σ.on i
  · rw [ndz_off hon]; rfl
  · rw [ndz_on hon]; rfl
theorem form2 (hv : A.Inv [] held) (i : Nat) : A.σ.on (ndz A (ndz A i).right).left = rform A 2 i := by
  rw [idx_on hv (ndz_idx hv _).1]
  unfold rform
  have h0 := off_zero hv
  cases hon : A.σ.on i
  · rw [ndz_off hon, show Nd.zero.right = 0 from rfl, ndz_off h0]; rfl
  · rw [ndz_on hon]
    rcases (hv.child i hon).2 with hr | hr
    · rw [hr, ndz_off h0]; rfl
    · have h1 : (A.nd i).right ≠ 0 := fun e => by rw [e, h0] at hr; cases hr
      rw [ndz_on hr]
      simp [h1]
theorem form3 (hv : A.Inv [] held) (i : Nat) : A.σ.on (ndz A (ndz A i).left).right = rform A 3 i := by
  rw [idx_on hv (ndz_idx hv _).2]
  unfold rform
  have h0 := off_zero hv
  cases hon : A.σ.on i
  · rw [ndz_off hon, show Nd.zero.left = 0 from rfl, ndz_off h0]; rfl
  · rw [ndz_on hon]
    rcases (hv.child i hon).1 with hr | hr
    · rw [hr, ndz_off h0]; rfl
    · have h1 : (A.nd i).left ≠ 0 := fun e => by rw [e, h0] at hr; cases hr
      rw [ndz_on hr]
      simp [h1]
theorem form_on (hf : rform A k i = true) : A.σ.on i = true := by
  unfold rform at hf
  cases hon : A.σ.on i
  · rw [hon] at hf; cases hf
  · rfl
theorem on_of_left (hv : A.Inv [] held) (h : A.σ.on (ndz A i).left = true) : A.σ.on i = true := by
  cases hon : A.σ.on i
  · rw [ndz_off hon, show Nd.zero.left = 0 from rfl, off_zero hv] at h; cases h
  · rfl
theorem on_of_right (hv : A.Inv [] held) (h : A.σ.on (ndz A i).right = true) : A.σ.on i = true := by
  cases hon : A.σ.on i
  · rw [ndz_off hon, show Nd.zero.right = 0 from rfl, off_zero hv] at h; cases h
  · rfl
def chkN (b : Bool) (f N : Int) : Int := if b = false then 1 else if f < N then 2 else 0
theorem chk_any (h : Ins I w F p A rd rs bs wr) (b : Bool) (N : Int) :
    Calls Tryz.prog 155 #[p, .bool b, .int .i64 N] wr fun e w' => e = .returned (.int .i64 (chkN b A.σ.free.length N)) ∧ Ins I w F p A rd rs bs w' := by
  obtain ⟨F1, f1, _⟩ := h.mr.has
  obtain ⟨pa, rfl⟩ := I.ptr f1
  clear f1
  have HS := Lib.hid h
  clear h
  cases b
  · go_enter Tryz.func155, Tryz.ntmps155
    go_wp2_with fail
    go_ret
    exact ⟨rfl, HS.out⟩
  · by_cases hl : ((A.σ.free.length : Nat) : Int) < N
    · have E : chkN true ((A.σ.free.length : Nat) : Int) N = 2 := by unfold chkN; rw [if_neg (by decide), if_pos hl]
      have hd := decide_eq_true hl
      have HE := Lib.hid E
      clear E hl
      go_enter Tryz.func155, Tryz.ntmps155
      go_wp2_with fail
      refine (HS.out.free).mono ?_
      rintro e w1 ⟨rfl, hs1⟩
      have HS1 := Lib.hid hs1
      clear hs1
      go_wp2_with fail
      go_ret
      exact ⟨by rw [HE.out]; rfl, HS1.out⟩
    · have E : chkN true ((A.σ.free.length : Nat) : Int) N = 0 := by unfold chkN; rw [if_neg (by decide), if_neg hl]
      have hd := decide_eq_false hl
      have HE := Lib.hid E
      clear E hl
      go_enter Tryz.func155, Tryz.ntmps155
      go_wp2_with fail
      refine (HS.out.free).mono ?_
      rintro e w1 ⟨rfl, hs1⟩
      have HS1 := Lib.hid hs1
      clear hs1
      go_wp2_with fail
      go_ret
      exact ⟨by rw [HE.out]; rfl, HS1.out⟩
theorem mns_more3b {held : Nat → Nat} {a b c : Nat} (ha : a ≠ 0) (hb : b ≠ 0) (h1 : a ≠ b) (h2 : a ≠ c) (h3 : b ≠ c) : mns (mns (more (more (more held a) b) c) b) a = more held c := by
  funext j
  rw [mns_at, mns_at]
  unfold more
  by_cases e2 : j = b
  · subst e2
    repeat' split
    all_goals omega
  by_cases e3 : j = a
  · subst e3
    repeat' split
    all_goals omega
  by_cases e1 : j = c
  · subst e1
    repeat' split
    all_goals omega
  repeat' split
  all_goals omega
/-- three nodes, the third over the first two; then the second one's reference is given back, and the first one's -/
theorem three_nodes_b {A A1 A2 A3 : Ar} {held : Nat → Nat} {i1 i2 i3 : Nat} {x1 x2 x3 : Nd} (h1 : Mk A held i1 x1 A1) (h2 : Mk A1 (more held i1) i2 x2 A2) (h3 : Mk A2 (more (more held i1) i2) i3 x3 A3) (hc1 : 2 ≤ A3.cnt i1) (hc2 : 2 ≤ A3.cnt i2) :
    (A3.Idx i2 → A3.Inv [i2] (mns (more (more (more held i1) i2) i3) i2)) ∧ A3.Idx i2 ∧
    ((A3.gone i2).Idx i1 → (A3.gone i2).Inv [i1] (mns (mns (more (more (more held i1) i2) i3) i2) i1)) ∧ (A3.gone i2).Idx i1 ∧
    Turned A held ((A3.gone i2).gone i1) i3 3 ∧ i1 ≠ i2 ∧ NewIn A ((A3.gone i2).gone i1) i1 ∧ NewIn A ((A3.gone i2).gone i1) i2 ∧ NewIn A ((A3.gone i2).gone i1) i3 ∧
    ((A3.gone i2).gone i1).nd i1 = x1 ∧ ((A3.gone i2).gone i1).nd i2 = x2 ∧ ((A3.gone i2).gone i1).nd i3 = x3 := by
  have hi1 : i1 ≠ 0 := by have := h1.inv.ok.on i1 h1.new.1; omega
  have hi2 : i2 ≠ 0 := by have := h2.inv.ok.on i2 h2.new.1; omega
  have n12 : i1 ≠ i2 := fun e => by have h := h2.new.2; rw [← e, h1.new.1] at h; cases h
  have on1 : A2.σ.on i1 = true := h2.kept.on i1 h1.new.1
  have n13 : i1 ≠ i3 := fun e => by have h := h3.new.2; rw [← e, on1] at h; cases h
  have n23 : i2 ≠ i3 := fun e => by have h := h3.new.2; rw [← e, h2.new.1] at h; cases h
  have hh1 : 0 < more (more (more held i1) i2) i3 i2 := by unfold more; rw [if_neg n23, if_pos rfl]; omega
  obtain ⟨g1, g2, g3, g4, g5, g6, g7, g8⟩ := give h3.inv h3.agg (i := i2) (fun _ => ⟨hh1, hc2⟩)
  have hh2 : 0 < mns (more (more (more held i1) i2) i3) i2 i1 := by
    rw [mns_at, if_neg (fun q => n12 q.2)]
    unfold more
    rw [if_neg n13, if_neg n12, if_pos rfl]
    omega
  have hc2' : 2 ≤ (A3.gone i2).cnt i1 := by rw [g8, if_neg (fun q => n12 q.2)]; omega
  obtain ⟨k1, k2, k3, k4, k5, k6, k7, k8⟩ := give g3 g4 (i := i1) (fun _ => ⟨hh2, hc2'⟩)
  rw [mns_more3b hi1 hi2 n12 n13 n23] at k3
  have hk3 := g6.trans k6
  have hk := ((h1.kept.trans h2.kept).trans h3.kept).trans hk3
  have hσ : ((A3.gone i2).gone i1).σ = A3.σ := k7.trans g7
  have o1 : A3.σ.on i1 = true := h3.kept.on i1 on1
  have o2 : A3.σ.on i2 = true := h3.kept.on i2 h2.new.1
  refine ⟨g1, g2, k1, k2, ⟨hk, fun j hj => ?_, k3, k4, fun q => k5 (g5 (h3.wf (h2.wf (h1.wf q)))), ?_⟩, n12, ⟨by rw [hσ]; exact o1, h1.new.2⟩, ⟨by rw [hσ]; exact o2, h2.off h1.kept⟩, ⟨by rw [hσ]; exact h3.new.1, h3.off (h1.kept.trans h2.kept)⟩, ?_, ?_, ?_⟩
  · rw [hσ, h3.gen j (h2.kept.on j (h1.kept.on j hj)), h2.gen j (h1.kept.on j hj), h1.gen j hj]
  · rw [hσ]
    have f1 := h1.free
    have f2 := h2.free
    have f3 := h3.free
    omega
  · rw [hk3.nd i1 o1, h3.kept.nd i1 on1, h2.kept.nd i1 h1.new.1, h1.nd]
  · rw [hk3.nd i2 o2, h3.kept.nd i2 h2.new.1, h2.nd]
  · rw [hk3.nd i3 h3.new.1, h3.nd]
end
set_option maxHeartbeats 8000000 in
set_option maxRecDepth 100000 in
theorem rotLeft_any (I : AImpl) : RotSpec I 148 0 := by
  intro p A rd F held i w hI hv ha hwf hm h0 h1 hi
  obtain ⟨pa, rfl⟩ := I.ptr hI
  have HRD : Hid (0 ≤ rd ∧ rd ≤ 2199023255552) := ⟨h0, h1⟩
  have HI := Lib.hid hi
  have HV := Lib.hid hv
  have HA := Lib.hid ha
  have HWF := Lib.hid hwf
  have HM := Lib.hid hm
  have HS0 := Lib.hid (Ins.start hI)
  clear hI hv ha hwf hm h0 h1 hi
  go_enter Tryz.func148, Tryz.ntmps148
  go_wp2_with fail
  refine (HS0.out.look (by have := HRD.out; omega) (by have := HRD.out; omega) HI.out).mono ?_
  rintro e w2a ⟨rfl, rd1, hs, r1, r2⟩
  have HR0 : Hid (rd ≤ rd1 ∧ rd1 ≤ rd + 1) := ⟨r1, r2⟩
  obtain ⟨P, hP⟩ : ∃ x, ndz A i = x := ⟨_, rfl⟩
  rw [hP]
  have HP := Lib.hid hP
  have HCP : Hid (A.Idx P.left ∧ A.Idx P.right) := by have h := ndz_idx HV.out i; rw [hP] at h; exact h
  unfold ndRow
  have HS1 := Lib.hid (hs.box #[Value.int .i64 P.key, .int .i64 P.val, .int .u32 (P.left : Int), .int .u32 (P.right : Int), .int .i64 P.size, .int .i64 P.sum, .int .i64 P.mn, .int .i64 P.mx] 81)
  clear hs HS0 hP r1 r2
  go_upto_region 2 with fail
  generalize w2a.alloc (Obj.cells #[Value.int .i64 P.key, .int .i64 P.val, .int .u32 (P.left : Int), .int .u32 (P.right : Int), .int .i64 P.size, .int .i64 P.sum, .int .i64 P.mn, .int .i64 P.mx] 81) = w2 at HS1 ⊢
  generalize w2a.heap.size = gp at HS1 ⊢
  obtain ⟨⟨p0, p1, p2, p3, p4, p5, p6, p7⟩, -⟩ := HS1.out.row8 (g := gp) (X := P) (by simp [ndRow])
  go_wp2_with fail
  refine (HS1.out.look (by have := HRD.out; have := HR0.out; omega) (by have := HRD.out; have := HR0.out; omega) (idx_lt32 HV.out HCP.out.2)).mono ?_
  rintro e w4a ⟨rfl, rd2, hs, r1, r2⟩
  have HR1 : Hid (rd1 ≤ rd2 ∧ rd2 ≤ rd1 + 1) := ⟨r1, r2⟩
  obtain ⟨QN, hQN⟩ : ∃ x, ndz A P.right = x := ⟨_, rfl⟩
  rw [hQN]
  have HQN := Lib.hid hQN
  have HCQN : Hid (A.Idx QN.left ∧ A.Idx QN.right) := by have h := ndz_idx HV.out P.right; rw [hQN] at h; exact h
  have hform : A.σ.on P.right = rform A 0 i := by have h := form0 HV.out i; rw [HP.out] at h; exact h
  rw [hform]
  have HFORM := Lib.hid hform
  clear hform p0 p1 p2 p3 p4 p5 p6 p7
  unfold ndRow
  have HS2 := Lib.hid (hs.box #[Value.int .i64 QN.key, .int .i64 QN.val, .int .u32 (QN.left : Int), .int .u32 (QN.right : Int), .int .i64 QN.size, .int .i64 QN.sum, .int .i64 QN.mn, .int .i64 QN.mx] 81)
  clear hs HS1 hQN r1 r2
  go_upto_region 3 with fail
  generalize w4a.alloc (Obj.cells #[Value.int .i64 QN.key, .int .i64 QN.val, .int .u32 (QN.left : Int), .int .u32 (QN.right : Int), .int .i64 QN.size, .int .i64 QN.sum, .int .i64 QN.mn, .int .i64 QN.mx] 81) = w4 at HS2 ⊢
  generalize w4a.heap.size = gq at HS2 ⊢
  generalize hff : rform A 0 i = b
  have HFF := Lib.hid hff
  have HE : Hid ((chkN b A.σ.free.length 2 = 1 ∧ b = false) ∨ (chkN b A.σ.free.length 2 = 2 ∧ b = true ∧ A.σ.free.length < 2) ∨ (chkN b A.σ.free.length 2 = 0 ∧ b = true ∧ 2 ≤ A.σ.free.length)) := by
    unfold chkN
    show _ ∨ _
    cases b
    · exact .inl ⟨rfl, rfl⟩
    · by_cases hl : ((A.σ.free.length : Nat) : Int) < 2
      · exact .inr (.inl ⟨by rw [if_neg (by decide), if_pos hl], rfl, by omega⟩)
      · exact .inr (.inr ⟨by rw [if_neg (by decide), if_neg hl], rfl, by omega⟩)
  clear hff
  go_wp2_with fail
  refine (chk_any HS2.out b 2).mono ?_
  rintro e wc ⟨rfl, hs⟩
  have HS := Lib.hid hs
  clear hs HS2
  obtain ⟨c, hc⟩ : ∃ c, chkN b A.σ.free.length 2 = c := ⟨_, rfl⟩
  have hE := HE.out
  rw [hc] at hE ⊢
  clear hc HE
  rcases hE with ⟨rfl, rfl⟩ | ⟨rfl, rfl, hfr⟩ | ⟨rfl, rfl, hfr⟩
  · go_wp2_with fail
    go_ret2
    exact rot_bad HS.out HFF.out (by have := HR0.out; have := HR1.out; omega) (by have := HR0.out; have := HR1.out; omega)
  · have HFR := Lib.hid hfr
    clear hfr
    go_wp2_with fail
    go_ret2
    exact rot_full HS.out HFF.out HFR.out (by have := HR0.out; have := HR1.out; omega) (by have := HR0.out; have := HR1.out; omega)
  have HFR : Hid (2 ≤ A.σ.free.length) := hfr
  clear hfr
  have HON : Hid (A.σ.on i = true) := form_on HFF.out
  have HQI : Hid (A.σ.on P.right = true ∧ P.right < 4294967296) := ⟨HFORM.out.trans HFF.out, idx_lt32 HV.out HCP.out.2⟩
  have HP' : Hid (A.nd i = P) := by have h := HP.out; rw [ndz_on HON.out] at h; exact h
  have HQ' : Hid (A.nd P.right = QN) := by have h := HQN.out; rw [ndz_on HQI.out.1] at h; exact h
  obtain ⟨i1, i2, tl, hfl⟩ : ∃ i1 i2 tl, A.σ.free = i1 :: i2 :: tl := by
    have h := HFR.out
    match hq : A.σ.free, h with
    | a :: b :: t, _ => exact ⟨a, b, t, rfl⟩
    | [a], h => simp at h
    | [], h => simp at h
  have hsz : (A.node P.key P.val P.left QN.left).size + 1 + A.sz QN.right ≤ 2147483647 := by
    have e1 := sz_child HA.out HON.out
    have e2 := sz_child HA.out HQI.out.1
    rw [HP'.out] at e1
    rw [HQ'.out] at e2
    have e3 : A.sz P.right = (A.nd P.right).size := by unfold Ar.sz; rw [if_neg]; have := HV.out.ok.on _ HQI.out.1; omega
    rw [HQ'.out] at e3
    have e4 := (HA.out.size i HON.out).2
    rw [HP'.out] at e4
    show 1 + A.sz _ + A.sz _ + 1 + A.sz _ ≤ _
    omega
  have hn0 := sz_nonneg HA.out HCQN.out.2
  have HWP : Hid ((i64R P.key ∧ i64R P.val) ∧ i64R QN.key ∧ i64R QN.val) := by
    have h1 := HWF.out i (.inl rfl) HON.out
    have h2 := HWF.out P.right (by rw [← HP'.out]; simp) HQI.out.1
    rw [HP'.out] at h1
    rw [HQ'.out] at h2
    exact ⟨h1, h2⟩
  have HFL := Lib.hid hfl
  have HM1 := Lib.hid (mk (t := i2 :: tl) HV.out HA.out hfl HWP.out.1.1 HWP.out.1.2 (l := P.left) (r := QN.left) HCP.out.1 HCQN.out.1 (by omega))
  have HSZ := Lib.hid hsz
  have HN0 := Lib.hid hn0
  have HMH : Hid (∀ j, more held i1 j ≤ 1048576) := fun j => Nat.le_trans (more_small HM.out i1 j) (by decide)
  clear hfl hsz hn0
  obtain ⟨⟨p0, p1, p2, p3, p4, p5, p6, p7⟩, -⟩ := HS.out.row8 (g := gp) (X := P) (by simp [ndRow])
  obtain ⟨⟨q0, q1, q2, q3, q4, q5, q6, q7⟩, -⟩ := HS.out.row8 (g := gq) (X := QN) (by simp [ndRow])
  go_wp2_with fail
  refine (HS.out.make HV.out HA.out (fun j => Nat.le_trans (HM.out j) (by decide)) HWP.out.1.1 HWP.out.1.2 (l := P.left) (r := QN.left) HCP.out.1 HCQN.out.1 (by have := HSZ.out; have := HN0.out; omega) HFL.out).mono ?_
  rintro e w6 ⟨rfl, hs6⟩
  have HS6 := Lib.hid hs6
  clear hs6 HS p0 p1 p2 p3 p4 p5 p6 p7 q0 q1 q2 q3 q4 q5 q6 q7
  obtain ⟨A1, hA1⟩ : ∃ B, A.made i1 (i2 :: tl) (A.node P.key P.val P.left QN.left) = B := ⟨_, rfl⟩
  have hf1 : A1.σ.free = i2 :: tl := by rw [← hA1]; rfl
  rw [hA1] at HS6 HM1
  have hz1 : A1.sz i1 = (A.node P.key P.val P.left QN.left).size := by
    unfold Ar.sz
    rw [if_neg (by have := HM1.out.inv.ok.on i1 HM1.out.new.1; omega), HM1.out.nd]
  have hx1 : A1.Idx i1 := .inr HM1.out.new.1
  have hx2 : A1.Idx QN.right := HM1.out.kept.idx HCQN.out.2
  have hz2 := kept_sz HM1.out.kept HCQN.out.2
  have hs2 : (A1.node QN.key QN.val i1 QN.right).size ≤ 2147483647 := by
    have h := HSZ.out
    show 1 + A1.sz _ + A1.sz _ ≤ _
    omega
  have HM2 := Lib.hid (mk (t := tl) HM1.out.inv HM1.out.agg hf1 HWP.out.2.1 HWP.out.2.2 hx1 hx2 hs2)
  have HX : Hid (A1.Idx i1 ∧ A1.Idx QN.right ∧ (A1.node QN.key QN.val i1 QN.right).size ≤ 2147483647 ∧ A1.σ.free = i2 :: tl) := ⟨hx1, hx2, hs2, hf1⟩
  have hcn : 2 ≤ (A1.made i2 tl (A1.node QN.key QN.val i1 QN.right)).cnt i1 := by
    rw [made_cnt HM1.out.inv hf1 HM1.out.new.1]
    have h1 := HM1.out.inv.pos i1 HM1.out.new.1
    have e : hit i1 i1 = 1 := if_pos rfl
    show 2 ≤ A1.cnt i1 + ((hit i1 i1 : Nat) : Int) + ((hit QN.right i1 : Nat) : Int)
    rw [e]
    omega
  have HT := Lib.hid (two_nodes HM1.out HM2.out hcn)
  clear hA1 hf1 hz1 hx1 hx2 hz2 hs2 hcn
  obtain ⟨⟨q0, q1, q2, q3, q4, q5, q6, q7⟩, -⟩ := HS6.out.row8 (g := gq) (X := QN) (by simp [ndRow])
  go_wp2_with fail
  refine (HS6.out.make HM1.out.inv HM1.out.agg HMH.out HWP.out.2.1 HWP.out.2.2 (l := i1) (r := QN.right) HX.out.1 HX.out.2.1 HX.out.2.2.1 HX.out.2.2.2).mono ?_
  rintro e w7 ⟨rfl, hs7⟩
  have HS7 := Lib.hid hs7
  clear hs7 HS6 q0 q1 q2 q3 q4 q5 q6 q7
  go_wp2_with fail
  refine (HS7.out.release (idx_lt32 HM2.out.inv HT.out.2.1) HT.out.2.1 (HT.out.1 HT.out.2.1)).mono ?_
  rintro e w8 ⟨rfl, hs8⟩
  have HS8 := Lib.hid hs8
  clear hs8 HS7
  go_wp2_with fail
  go_ret2
  obtain ⟨_, _, t1, t2, t3, t4, t5⟩ := HT.out
  refine rot_ok HS8.out HFF.out HFR.out t1 ?_ (by have := HR0.out; have := HR1.out; omega) (by have := HR0.out; have := HR1.out; omega)
  refine ⟨i1, t3, t2, ?_, ?_⟩
  · rw [t5, HP'.out, HQ'.out]
    exact ⟨rfl, rfl, rfl, rfl⟩
  · rw [t4, HP'.out, HQ'.out]
    exact ⟨rfl, rfl, rfl, rfl⟩
set_option maxHeartbeats 8000000 in
set_option maxRecDepth 100000 in
theorem rotRight_any (I : AImpl) : RotSpec I 150 1 := by
  intro p A rd F held i w hI hv ha hwf hm h0 h1 hi
  obtain ⟨pa, rfl⟩ := I.ptr hI
  have HRD : Hid (0 ≤ rd ∧ rd ≤ 2199023255552) := ⟨h0, h1⟩
  have HI := Lib.hid hi
  have HV := Lib.hid hv
  have HA := Lib.hid ha
  have HWF := Lib.hid hwf
  have HM := Lib.hid hm
  have HS0 := Lib.hid (Ins.start hI)
  clear hI hv ha hwf hm h0 h1 hi
  go_enter Tryz.func150, Tryz.ntmps150
  go_wp2_with fail
  refine (HS0.out.look (by have := HRD.out; omega) (by have := HRD.out; omega) HI.out).mono ?_
  rintro e w2a ⟨rfl, rd1, hs, r1, r2⟩
  have HR0 : Hid (rd ≤ rd1 ∧ rd1 ≤ rd + 1) := ⟨r1, r2⟩
  obtain ⟨P, hP⟩ : ∃ x, ndz A i = x := ⟨_, rfl⟩
  rw [hP]
  have HP := Lib.hid hP
  have HCP : Hid (A.Idx P.left ∧ A.Idx P.right) := by have h := ndz_idx HV.out i; rw [hP] at h; exact h
  unfold ndRow
  have HS1 := Lib.hid (hs.box #[Value.int .i64 P.key, .int .i64 P.val, .int .u32 (P.left : Int), .int .u32 (P.right : Int), .int .i64 P.size, .int .i64 P.sum, .int .i64 P.mn, .int .i64 P.mx] 81)
  clear hs HS0 hP r1 r2
  go_upto_region 2 with fail
  generalize w2a.alloc (Obj.cells #[Value.int .i64 P.key, .int .i64 P.val, .int .u32 (P.left : Int), .int .u32 (P.right : Int), .int .i64 P.size, .int .i64 P.sum, .int .i64 P.mn, .int .i64 P.mx] 81) = w2 at HS1 ⊢
  generalize w2a.heap.size = gp at HS1 ⊢
  obtain ⟨⟨p0, p1, p2, p3, p4, p5, p6, p7⟩, -⟩ := HS1.out.row8 (g := gp) (X := P) (by simp [ndRow])
  go_wp2_with fail
  refine (HS1.out.look (by have := HRD.out; have := HR0.out; omega) (by have := HRD.out; have := HR0.out; omega) (idx_lt32 HV.out HCP.out.1)).mono ?_
  rintro e w4a ⟨rfl, rd2, hs, r1, r2⟩
  have HR1 : Hid (rd1 ≤ rd2 ∧ rd2 ≤ rd1 + 1) := ⟨r1, r2⟩
  obtain ⟨QN, hQN⟩ : ∃ x, ndz A P.left = x := ⟨_, rfl⟩
  rw [hQN]
  have HQN := Lib.hid hQN
  have HCQN : Hid (A.Idx QN.left ∧ A.Idx QN.right) := by have h := ndz_idx HV.out P.left; rw [hQN] at h; exact h
  have hform : A.σ.on P.left = rform A 1 i := by have h := form1 HV.out i; rw [HP.out] at h; exact h
  rw [hform]
  have HFORM := Lib.hid hform
  clear hform p0 p1 p2 p3 p4 p5 p6 p7
  unfold ndRow
  have HS2 := Lib.hid (hs.box #[Value.int .i64 QN.key, .int .i64 QN.val, .int .u32 (QN.left : Int), .int .u32 (QN.right : Int), .int .i64 QN.size, .int .i64 QN.sum, .int .i64 QN.mn, .int .i64 QN.mx] 81)
  clear hs HS1 hQN r1 r2
  go_upto_region 3 with fail
  generalize w4a.alloc (Obj.cells #[Value.int .i64 QN.key, .int .i64 QN.val, .int .u32 (QN.left : Int), .int .u32 (QN.right : Int), .int .i64 QN.size, .int .i64 QN.sum, .int .i64 QN.mn, .int .i64 QN.mx] 81) = w4 at HS2 ⊢
  generalize w4a.heap.size = gq at HS2 ⊢
  generalize hff : rform A 1 i = b
  have HFF := Lib.hid hff
  have HE : Hid ((chkN b A.σ.free.length 2 = 1 ∧ b = false) ∨ (chkN b A.σ.free.length 2 = 2 ∧ b = true ∧ A.σ.free.length < 2) ∨ (chkN b A.σ.free.length 2 = 0 ∧ b = true ∧ 2 ≤ A.σ.free.length)) := by
    unfold chkN
    show _ ∨ _
    cases b
    · exact .inl ⟨rfl, rfl⟩
    · by_cases hl : ((A.σ.free.length : Nat) : Int) < 2
      · exact .inr (.inl ⟨by rw [if_neg (by decide), if_pos hl], rfl, by omega⟩)
      · exact .inr (.inr ⟨by rw [if_neg (by decide), if_neg hl], rfl, by omega⟩)
  clear hff
  go_wp2_with fail
  refine (chk_any HS2.out b 2).mono ?_
  rintro e wc ⟨rfl, hs⟩
  have HS := Lib.hid hs
  clear hs HS2
  obtain ⟨c, hc⟩ : ∃ c, chkN b A.σ.free.length 2 = c := ⟨_, rfl⟩
  have hE := HE.out
  rw [hc] at hE ⊢
  clear hc HE
  rcases hE with ⟨rfl, rfl⟩ | ⟨rfl, rfl, hfr⟩ | ⟨rfl, rfl, hfr⟩
  · go_wp2_with fail
    go_ret2
    exact rot_bad HS.out HFF.out (by have := HR0.out; have := HR1.out; omega) (by have := HR0.out; have := HR1.out; omega)
  · have HFR := Lib.hid hfr
    clear hfr
    go_wp2_with fail
    go_ret2
    exact rot_full HS.out HFF.out HFR.out (by have := HR0.out; have := HR1.out; omega) (by have := HR0.out; have := HR1.out; omega)
  have HFR : Hid (2 ≤ A.σ.free.length) := hfr
  clear hfr
  have HON : Hid (A.σ.on i = true) := form_on HFF.out
  have HQI : Hid (A.σ.on P.left = true ∧ P.left < 4294967296) := ⟨HFORM.out.trans HFF.out, idx_lt32 HV.out HCP.out.1⟩
  have HP' : Hid (A.nd i = P) := by have h := HP.out; rw [ndz_on HON.out] at h; exact h
  have HQ' : Hid (A.nd P.left = QN) := by have h := HQN.out; rw [ndz_on HQI.out.1] at h; exact h
  obtain ⟨i1, i2, tl, hfl⟩ : ∃ i1 i2 tl, A.σ.free = i1 :: i2 :: tl := by
    have h := HFR.out
    match hq : A.σ.free, h with
    | a :: b :: t, _ => exact ⟨a, b, t, rfl⟩
    | [a], h => simp at h
    | [], h => simp at h
  have hsz : (A.node P.key P.val QN.right P.right).size + 1 + A.sz QN.left ≤ 2147483647 := by
    have e1 := sz_child HA.out HON.out
    have e2 := sz_child HA.out HQI.out.1
    rw [HP'.out] at e1
    rw [HQ'.out] at e2
    have e3 : A.sz P.left = (A.nd P.left).size := by unfold Ar.sz; rw [if_neg]; have := HV.out.ok.on _ HQI.out.1; omega
    rw [HQ'.out] at e3
    have e4 := (HA.out.size i HON.out).2
    rw [HP'.out] at e4
    show 1 + A.sz _ + A.sz _ + 1 + A.sz _ ≤ _
    omega
  have hn0 := sz_nonneg HA.out HCQN.out.1
  have HWP : Hid ((i64R P.key ∧ i64R P.val) ∧ i64R QN.key ∧ i64R QN.val) := by
    have h1 := HWF.out i (.inl rfl) HON.out
    have h2 := HWF.out P.left (by rw [← HP'.out]; simp) HQI.out.1
    rw [HP'.out] at h1
    rw [HQ'.out] at h2
    exact ⟨h1, h2⟩
  have HFL := Lib.hid hfl
  have HM1 := Lib.hid (mk (t := i2 :: tl) HV.out HA.out hfl HWP.out.1.1 HWP.out.1.2 (l := QN.right) (r := P.right) HCQN.out.2 HCP.out.2 (by omega))
  have HSZ := Lib.hid hsz
  have HN0 := Lib.hid hn0
  have HMH : Hid (∀ j, more held i1 j ≤ 1048576) := fun j => Nat.le_trans (more_small HM.out i1 j) (by decide)
  clear hfl hsz hn0
  obtain ⟨⟨p0, p1, p2, p3, p4, p5, p6, p7⟩, -⟩ := HS.out.row8 (g := gp) (X := P) (by simp [ndRow])
  obtain ⟨⟨q0, q1, q2, q3, q4, q5, q6, q7⟩, -⟩ := HS.out.row8 (g := gq) (X := QN) (by simp [ndRow])
  go_wp2_with fail
  refine (HS.out.make HV.out HA.out (fun j => Nat.le_trans (HM.out j) (by decide)) HWP.out.1.1 HWP.out.1.2 (l := QN.right) (r := P.right) HCQN.out.2 HCP.out.2 (by have := HSZ.out; have := HN0.out; omega) HFL.out).mono ?_
  rintro e w6 ⟨rfl, hs6⟩
  have HS6 := Lib.hid hs6
  clear hs6 HS p0 p1 p2 p3 p4 p5 p6 p7 q0 q1 q2 q3 q4 q5 q6 q7
  obtain ⟨A1, hA1⟩ : ∃ B, A.made i1 (i2 :: tl) (A.node P.key P.val QN.right P.right) = B := ⟨_, rfl⟩
  have hf1 : A1.σ.free = i2 :: tl := by rw [← hA1]; rfl
  rw [hA1] at HS6 HM1
  have hz1 : A1.sz i1 = (A.node P.key P.val QN.right P.right).size := by
    unfold Ar.sz
    rw [if_neg (by have := HM1.out.inv.ok.on i1 HM1.out.new.1; omega), HM1.out.nd]
  have hx1 : A1.Idx i1 := .inr HM1.out.new.1
  have hx2 : A1.Idx QN.left := HM1.out.kept.idx HCQN.out.1
  have hz2 := kept_sz HM1.out.kept HCQN.out.1
  have hs2 : (A1.node QN.key QN.val QN.left i1).size ≤ 2147483647 := by
    have h := HSZ.out
    show 1 + A1.sz _ + A1.sz _ ≤ _
    omega
  have HM2 := Lib.hid (mk (t := tl) HM1.out.inv HM1.out.agg hf1 HWP.out.2.1 HWP.out.2.2 hx2 hx1 hs2)
  have HX : Hid (A1.Idx i1 ∧ A1.Idx QN.left ∧ (A1.node QN.key QN.val QN.left i1).size ≤ 2147483647 ∧ A1.σ.free = i2 :: tl) := ⟨hx1, hx2, hs2, hf1⟩
  have hcn : 2 ≤ (A1.made i2 tl (A1.node QN.key QN.val QN.left i1)).cnt i1 := by
    rw [made_cnt HM1.out.inv hf1 HM1.out.new.1]
    have h1 := HM1.out.inv.pos i1 HM1.out.new.1
    have e : hit i1 i1 = 1 := if_pos rfl
    show 2 ≤ A1.cnt i1 + ((hit QN.left i1 : Nat) : Int) + ((hit i1 i1 : Nat) : Int)
    rw [e]
    omega
  have HT := Lib.hid (two_nodes HM1.out HM2.out hcn)
  clear hA1 hf1 hz1 hx1 hx2 hz2 hs2 hcn
  obtain ⟨⟨q0, q1, q2, q3, q4, q5, q6, q7⟩, -⟩ := HS6.out.row8 (g := gq) (X := QN) (by simp [ndRow])
  go_wp2_with fail
  refine (HS6.out.make HM1.out.inv HM1.out.agg HMH.out HWP.out.2.1 HWP.out.2.2 (l := QN.left) (r := i1) HX.out.2.1 HX.out.1 HX.out.2.2.1 HX.out.2.2.2).mono ?_
  rintro e w7 ⟨rfl, hs7⟩
  have HS7 := Lib.hid hs7
  clear hs7 HS6 q0 q1 q2 q3 q4 q5 q6 q7
  go_wp2_with fail
  refine (HS7.out.release (idx_lt32 HM2.out.inv HT.out.2.1) HT.out.2.1 (HT.out.1 HT.out.2.1)).mono ?_
  rintro e w8 ⟨rfl, hs8⟩
  have HS8 := Lib.hid hs8
  clear hs8 HS7
  go_wp2_with fail
  go_ret2
  obtain ⟨_, _, t1, t2, t3, t4, t5⟩ := HT.out
  refine rot_ok HS8.out HFF.out HFR.out t1 ?_ (by have := HR0.out; have := HR1.out; omega) (by have := HR0.out; have := HR1.out; omega)
  refine ⟨i1, t3, t2, ?_, ?_⟩
  · rw [t5, HP'.out, HQ'.out]
    exact ⟨rfl, rfl, rfl, rfl⟩
  · rw [t4, HP'.out, HQ'.out]
    exact ⟨rfl, rfl, rfl, rfl⟩
def SprQ (A : Ar) (rd : Int) (held : Nat → Nat) (P Q R : Nd) (e : Ending) (B : Ar) (rd' : Int) : Prop :=
  rd' = rd ∧ ∃ j : Nat, e = .returned (.tuple #[.int .u32 (j : Int), .int .i64 0]) ∧ Turned A held B j 3 ∧ ∃ y z, y ≠ z ∧ NewIn A B j ∧ NewIn A B y ∧ NewIn A B z ∧ isNd (B.nd j) Q y z ∧ isNd (B.nd y) P P.left Q.left ∧ isNd (B.nd z) R Q.right R.right
set_option maxHeartbeats 8000000 in
set_option maxRecDepth 100000 in
theorem spread_any (I : AImpl) {p : Value} {A : Ar} {rd : Int} {F : Nat → Prop} {held : Nat → Nat} {P QN R : Nd} (w : World) (hI : I.Is w p A rd F) (hv : A.Inv [] held) (ha : A.Agg) (hm : ∀ j, held j ≤ 1048500) (hfr : 3 ≤ A.σ.free.length)
    (hx : A.Idx P.left ∧ A.Idx QN.left ∧ A.Idx QN.right ∧ A.Idx R.right) (hw : (i64R P.key ∧ i64R P.val) ∧ (i64R QN.key ∧ i64R QN.val) ∧ i64R R.key ∧ i64R R.val) (hs : 3 + A.sz P.left + A.sz QN.left + A.sz QN.right + A.sz R.right ≤ 2147483647) :
    Calls Tryz.prog 156 #[p, .agg #[Value.int .i64 P.key, .int .i64 P.val, .int .u32 (P.left : Int), .int .u32 (P.right : Int), .int .i64 P.size, .int .i64 P.sum, .int .i64 P.mn, .int .i64 P.mx], .agg #[Value.int .i64 QN.key, .int .i64 QN.val, .int .u32 (QN.left : Int), .int .u32 (QN.right : Int), .int .i64 QN.size, .int .i64 QN.sum, .int .i64 QN.mn, .int .i64 QN.mx], .agg #[Value.int .i64 R.key, .int .i64 R.val, .int .u32 (R.left : Int), .int .u32 (R.right : Int), .int .i64 R.size, .int .i64 R.sum, .int .i64 R.mn, .int .i64 R.mx]] w (Mut I p F (SprQ A rd held P QN R) w) := by
  obtain ⟨pa, rfl⟩ := I.ptr hI
  have hs0 := (((Ins.start hI).box #[Value.int .i64 P.key, .int .i64 P.val, .int .u32 (P.left : Int), .int .u32 (P.right : Int), .int .i64 P.size, .int .i64 P.sum, .int .i64 P.mn, .int .i64 P.mx] 81).box #[Value.int .i64 QN.key, .int .i64 QN.val, .int .u32 (QN.left : Int), .int .u32 (QN.right : Int), .int .i64 QN.size, .int .i64 QN.sum, .int .i64 QN.mn, .int .i64 QN.mx] 81).box #[Value.int .i64 R.key, .int .i64 R.val, .int .u32 (R.left : Int), .int .u32 (R.right : Int), .int .i64 R.size, .int .i64 R.sum, .int .i64 R.mn, .int .i64 R.mx] 81
  try simp only [sz_al] at hs0
  have HV := Lib.hid hv
  have HA := Lib.hid ha
  have HM := Lib.hid hm
  have HX := Lib.hid hx
  have HW := Lib.hid hw
  have HSZ := Lib.hid hs
  have HFR := Lib.hid hfr
  clear hI hv ha hm hx hw hs hfr
  go_enter Tryz.func156, Tryz.ntmps156
  go_upto_region 1 with fail
  generalize ((w.alloc (Obj.cells #[Value.int .i64 P.key, .int .i64 P.val, .int .u32 (P.left : Int), .int .u32 (P.right : Int), .int .i64 P.size, .int .i64 P.sum, .int .i64 P.mn, .int .i64 P.mx] 81)).alloc (Obj.cells #[Value.int .i64 QN.key, .int .i64 QN.val, .int .u32 (QN.left : Int), .int .u32 (QN.right : Int), .int .i64 QN.size, .int .i64 QN.sum, .int .i64 QN.mn, .int .i64 QN.mx] 81)).alloc (Obj.cells #[Value.int .i64 R.key, .int .i64 R.val, .int .u32 (R.left : Int), .int .u32 (R.right : Int), .int .i64 R.size, .int .i64 R.sum, .int .i64 R.mn, .int .i64 R.mx] 81) = w1 at hs0 ⊢
  generalize w.heap.size + 1 + 1 = gr at hs0 ⊢
  generalize w.heap.size + 1 = gq at hs0 ⊢
  generalize w.heap.size = gp at hs0 ⊢
  have HS0 := Lib.hid hs0
  clear hs0
  obtain ⟨i1, i2, i3, tl, hfl⟩ : ∃ i1 i2 i3 tl, A.σ.free = i1 :: i2 :: i3 :: tl := by
    have h := HFR.out
    match hq : A.σ.free, h with
    | a :: b :: c :: t, _ => exact ⟨a, b, c, t, rfl⟩
    | [a, b], h => simp at h
    | [a], h => simp at h
    | [], h => simp at h
  have nl := sz_nonneg HA.out HX.out.1
  have nq := sz_nonneg HA.out HX.out.2.1
  have nr := sz_nonneg HA.out HX.out.2.2.1
  have nh := sz_nonneg HA.out HX.out.2.2.2
  have hs1 : (A.node P.key P.val P.left QN.left).size ≤ 2147483647 := by have := HSZ.out; show 1 + A.sz _ + A.sz _ ≤ _; omega
  have HM1 := Lib.hid (mk (t := i2 :: i3 :: tl) HV.out HA.out hfl HW.out.1.1 HW.out.1.2 HX.out.1 HX.out.2.1 hs1)
  have HF1 := Lib.hid (And.intro hfl hs1)
  obtain ⟨A1, hA1⟩ : ∃ B, A.made i1 (i2 :: i3 :: tl) (A.node P.key P.val P.left QN.left) = B := ⟨_, rfl⟩
  have hf1 : A1.σ.free = i2 :: i3 :: tl := by rw [← hA1]; rfl
  rw [hA1] at HM1
  have hz1 : A1.sz i1 = 1 + A.sz P.left + A.sz QN.left := by
    unfold Ar.sz
    rw [if_neg (by have := HM1.out.inv.ok.on i1 HM1.out.new.1; omega), HM1.out.nd]
    rfl
  have x1 := HM1.out.kept.idx HX.out.2.2.1
  have x2 := HM1.out.kept.idx HX.out.2.2.2
  have z1 := kept_sz HM1.out.kept HX.out.2.2.1
  have z2 := kept_sz HM1.out.kept HX.out.2.2.2
  have hs2 : (A1.node R.key R.val QN.right R.right).size ≤ 2147483647 := by have := HSZ.out; show 1 + A1.sz _ + A1.sz _ ≤ _; omega
  have HM2 := Lib.hid (mk (t := i3 :: tl) HM1.out.inv HM1.out.agg hf1 HW.out.2.2.1 HW.out.2.2.2 x1 x2 hs2)
  have HF2 : Hid (A1.σ.free = i2 :: i3 :: tl ∧ (A1.node R.key R.val QN.right R.right).size ≤ 2147483647 ∧ A1.Idx QN.right ∧ A1.Idx R.right) := ⟨hf1, hs2, x1, x2⟩
  obtain ⟨A2, hA2⟩ : ∃ B, A1.made i2 (i3 :: tl) (A1.node R.key R.val QN.right R.right) = B := ⟨_, rfl⟩
  have hf2 : A2.σ.free = i3 :: tl := by rw [← hA2]; rfl
  rw [hA2] at HM2
  have y1 : A2.Idx i1 := .inr (HM2.out.kept.on i1 HM1.out.new.1)
  have y2 : A2.Idx i2 := .inr HM2.out.new.1
  have q1 := kept_sz HM2.out.kept (i := i1) (.inr HM1.out.new.1)
  have q2 : A2.sz i2 = 1 + A1.sz QN.right + A1.sz R.right := by
    unfold Ar.sz
    rw [if_neg (by have := HM2.out.inv.ok.on i2 HM2.out.new.1; omega), HM2.out.nd]
    rfl
  have hs3 : (A2.node QN.key QN.val i1 i2).size ≤ 2147483647 := by have := HSZ.out; show 1 + A2.sz _ + A2.sz _ ≤ _; omega
  have HM3 := Lib.hid (mk (t := tl) HM2.out.inv HM2.out.agg hf2 HW.out.2.1.1 HW.out.2.1.2 y1 y2 hs3)
  have HF3 : Hid (A2.σ.free = i3 :: tl ∧ (A2.node QN.key QN.val i1 i2).size ≤ 2147483647 ∧ A2.Idx i1 ∧ A2.Idx i2) := ⟨hf2, hs3, y1, y2⟩
  have hcn : ∀ x, A2.σ.on x = true → (x = i1 ∨ x = i2) → 2 ≤ (A2.made i3 tl (A2.node QN.key QN.val i1 i2)).cnt x := fun x hx h => by
    rw [made_cnt HM2.out.inv hf2 hx]
    have h1 := HM2.out.inv.pos x hx
    show 2 ≤ A2.cnt x + ((hit i1 x : Nat) : Int) + ((hit i2 x : Nat) : Int)
    rcases h with rfl | rfl
    · have e : hit x x = 1 := if_pos rfl
      rw [e]; omega
    · have e : hit x x = 1 := if_pos rfl
      rw [e]; omega
  have HT := Lib.hid (three_nodes_b HM1.out HM2.out HM3.out (hcn i1 (HM2.out.kept.on i1 HM1.out.new.1) (.inl rfl)) (hcn i2 HM2.out.new.1 (.inr rfl)))
  have HH1 : Hid (∀ j, more held i1 j ≤ 1048576) := fun j => Nat.le_trans (more_small HM.out i1 j) (by decide)
  have HH2 : Hid (∀ j, more (more held i1) i2 j ≤ 1048576) := fun j => Nat.le_trans (more_small (more_small HM.out i1) i2 j) (by decide)
  clear hfl nl nq nr nh hs1 hf1 hz1 x1 x2 z1 z2 hs2 hf2 y1 y2 q1 q2 hs3 hcn
  obtain ⟨⟨p0, p1, p2, p3, p4, p5, p6, p7⟩, -⟩ := HS0.out.row8 (g := gp) (X := P) (by simp [ndRow])
  obtain ⟨⟨q0, q1, q2, q3, q4, q5, q6, q7⟩, -⟩ := HS0.out.row8 (g := gq) (X := QN) (by simp [ndRow])
  go_wp2_with fail
  refine (HS0.out.make HV.out HA.out (fun j => Nat.le_trans (HM.out j) (by decide)) HW.out.1.1 HW.out.1.2 HX.out.1 HX.out.2.1 HF1.out.2 HF1.out.1).mono ?_
  rintro e w4 ⟨rfl, hs4⟩
  rw [hA1] at hs4
  have HS4 := Lib.hid hs4
  clear hs4 HS0 hA1 p0 p1 p2 p3 p4 p5 p6 p7 q0 q1 q2 q3 q4 q5 q6 q7
  obtain ⟨⟨r0, r1, r2, r3, r4, r5, r6, r7⟩, -⟩ := HS4.out.row8 (g := gr) (X := R) (by simp [ndRow])
  obtain ⟨⟨q0, q1, q2, q3, q4, q5, q6, q7⟩, -⟩ := HS4.out.row8 (g := gq) (X := QN) (by simp [ndRow])
  go_wp2_with fail
  refine (HS4.out.make HM1.out.inv HM1.out.agg HH1.out HW.out.2.2.1 HW.out.2.2.2 HF2.out.2.2.1 HF2.out.2.2.2 HF2.out.2.1 HF2.out.1).mono ?_
  rintro e w5 ⟨rfl, hs5⟩
  rw [hA2] at hs5
  have HS5 := Lib.hid hs5
  clear hs5 HS4 hA2 r0 r1 r2 r3 r4 r5 r6 r7 q0 q1 q2 q3 q4 q5 q6 q7
  obtain ⟨⟨q0, q1, q2, q3, q4, q5, q6, q7⟩, -⟩ := HS5.out.row8 (g := gq) (X := QN) (by simp [ndRow])
  go_wp2_with fail
  refine (HS5.out.make HM2.out.inv HM2.out.agg HH2.out HW.out.2.1.1 HW.out.2.1.2 HF3.out.2.2.1 HF3.out.2.2.2 HF3.out.2.1 HF3.out.1).mono ?_
  rintro e w6 ⟨rfl, hs6⟩
  have HS6 := Lib.hid hs6
  clear hs6 HS5 q0 q1 q2 q3 q4 q5 q6 q7
  go_wp2_with fail
  refine (HS6.out.release (idx_lt32 HM3.out.inv HT.out.2.1) HT.out.2.1 (HT.out.1 HT.out.2.1)).mono ?_
  rintro e w7 ⟨rfl, hs7⟩
  have HS7 := Lib.hid hs7
  clear hs7 HS6
  have HI2 : Hid (i1 < 4294967296) := idx_lt32 HM2.out.inv HF3.out.2.2.1
  go_wp2_with fail
  refine (HS7.out.release HI2.out HT.out.2.2.2.1 (HT.out.2.2.1 HT.out.2.2.2.1)).mono ?_
  rintro e w8 ⟨rfl, hs8⟩
  have HS8 := Lib.hid hs8
  clear hs8 HS7
  go_wp2_with fail
  go_ret2
  obtain ⟨_, _, _, _, t1, t2, t3, t4, t5, t6, t7, t8⟩ := HT.out
  obtain ⟨F', hal, hI⟩ := HS8.out.ends
  refine ⟨F', _, rd, hal, hI, rfl, i3, rfl, t1, i1, i2, t2, t5, t3, t4, ?_, ?_, ?_⟩
  · rw [t8]; exact ⟨rfl, rfl, rfl, rfl⟩
  · rw [t6]; exact ⟨rfl, rfl, rfl, rfl⟩
  · rw [t7]; exact ⟨rfl, rfl, rfl, rfl⟩
set_option maxHeartbeats 8000000 in
set_option maxRecDepth 100000 in
theorem rotDoubleLeft_any (I : AImpl) : RotSpec I 149 2 := by
  intro p A rd F held i w hI hv ha hwf hm h0 h1 hi
  obtain ⟨pa, rfl⟩ := I.ptr hI
  have HRD : Hid (0 ≤ rd ∧ rd ≤ 2199023255552) := ⟨h0, h1⟩
  have HI := Lib.hid hi
  have HV := Lib.hid hv
  have HA := Lib.hid ha
  have HWF := Lib.hid hwf
  have HM := Lib.hid hm
  have HS0 := Lib.hid (Ins.start hI)
  clear hI hv ha hwf hm h0 h1 hi
  go_enter Tryz.func149, Tryz.ntmps149
  go_wp2_with fail
  refine (HS0.out.look (by have := HRD.out; omega) (by have := HRD.out; omega) HI.out).mono ?_
  rintro e w2a ⟨rfl, rd1, hs, r1, r2⟩
  have HR0 : Hid (rd ≤ rd1 ∧ rd1 ≤ rd + 1) := ⟨r1, r2⟩
  obtain ⟨X, hX⟩ : ∃ x, ndz A i = x := ⟨_, rfl⟩
  rw [hX]
  have HX := Lib.hid hX
  have HCX : Hid (A.Idx X.left ∧ A.Idx X.right) := by have h := ndz_idx HV.out i; rw [hX] at h; exact h
  unfold ndRow
  have HS1 := Lib.hid (hs.box #[Value.int .i64 X.key, .int .i64 X.val, .int .u32 (X.left : Int), .int .u32 (X.right : Int), .int .i64 X.size, .int .i64 X.sum, .int .i64 X.mn, .int .i64 X.mx] 81)
  clear hs HS0 hX r1 r2
  go_upto_region 2 with fail
  generalize w2a.alloc (Obj.cells #[Value.int .i64 X.key, .int .i64 X.val, .int .u32 (X.left : Int), .int .u32 (X.right : Int), .int .i64 X.size, .int .i64 X.sum, .int .i64 X.mn, .int .i64 X.mx] 81) = w2 at HS1 ⊢
  generalize w2a.heap.size = gx at HS1 ⊢
  obtain ⟨⟨x0, x1, x2, x3, x4, x5, x6, x7⟩, -⟩ := HS1.out.row8 (g := gx) (X := X) (by simp [ndRow])
  go_wp2_with fail
  refine (HS1.out.look (by have := HRD.out; have := HR0.out; omega) (by have := HRD.out; have := HR0.out; omega) (idx_lt32 HV.out HCX.out.2)).mono ?_
  rintro e w4a ⟨rfl, rd2, hs, r1, r2⟩
  have HR1 : Hid (rd1 ≤ rd2 ∧ rd2 ≤ rd1 + 1) := ⟨r1, r2⟩
  obtain ⟨Y, hY⟩ : ∃ x, ndz A X.right = x := ⟨_, rfl⟩
  rw [hY]
  have HY := Lib.hid hY
  have HCY : Hid (A.Idx Y.left ∧ A.Idx Y.right) := by have h := ndz_idx HV.out X.right; rw [hY] at h; exact h
  clear x0 x1 x2 x3 x4 x5 x6 x7
  unfold ndRow
  have HS2 := Lib.hid (hs.box #[Value.int .i64 Y.key, .int .i64 Y.val, .int .u32 (Y.left : Int), .int .u32 (Y.right : Int), .int .i64 Y.size, .int .i64 Y.sum, .int .i64 Y.mn, .int .i64 Y.mx] 81)
  clear hs HS1 hY r1 r2
  go_upto_region 3 with fail
  generalize w4a.alloc (Obj.cells #[Value.int .i64 Y.key, .int .i64 Y.val, .int .u32 (Y.left : Int), .int .u32 (Y.right : Int), .int .i64 Y.size, .int .i64 Y.sum, .int .i64 Y.mn, .int .i64 Y.mx] 81) = w4 at HS2 ⊢
  generalize w4a.heap.size = gy at HS2 ⊢
  obtain ⟨⟨y0, y1, y2, y3, y4, y5, y6, y7⟩, -⟩ := HS2.out.row8 (g := gy) (X := Y) (by simp [ndRow])
  go_wp2_with fail
  refine (HS2.out.look (by have := HRD.out; have := HR0.out; have := HR1.out; omega) (by have := HRD.out; have := HR0.out; have := HR1.out; omega) (idx_lt32 HV.out HCY.out.1)).mono ?_
  rintro e w6a ⟨rfl, rd3, hs, r1, r2⟩
  have HR2 : Hid (rd2 ≤ rd3 ∧ rd3 ≤ rd2 + 1) := ⟨r1, r2⟩
  obtain ⟨QN, hQN⟩ : ∃ x, ndz A Y.left = x := ⟨_, rfl⟩
  rw [hQN]
  have HQN := Lib.hid hQN
  have HCQN : Hid (A.Idx QN.left ∧ A.Idx QN.right) := by have h := ndz_idx HV.out Y.left; rw [hQN] at h; exact h
  have hform : A.σ.on Y.left = rform A 2 i := by have h := form2 HV.out i; rw [HX.out, HY.out] at h; exact h
  rw [hform]
  have HFORM := Lib.hid hform
  clear hform y0 y1 y2 y3 y4 y5 y6 y7
  unfold ndRow
  have HS3 := Lib.hid (hs.box #[Value.int .i64 QN.key, .int .i64 QN.val, .int .u32 (QN.left : Int), .int .u32 (QN.right : Int), .int .i64 QN.size, .int .i64 QN.sum, .int .i64 QN.mn, .int .i64 QN.mx] 81)
  clear hs HS2 hQN r1 r2
  go_upto_region 4 with fail
  generalize w6a.alloc (Obj.cells #[Value.int .i64 QN.key, .int .i64 QN.val, .int .u32 (QN.left : Int), .int .u32 (QN.right : Int), .int .i64 QN.size, .int .i64 QN.sum, .int .i64 QN.mn, .int .i64 QN.mx] 81) = w6 at HS3 ⊢
  generalize w6a.heap.size = gq at HS3 ⊢
  generalize hff : rform A 2 i = b
  have HFF := Lib.hid hff
  have HE : Hid ((chkN b A.σ.free.length 3 = 1 ∧ b = false) ∨ (chkN b A.σ.free.length 3 = 2 ∧ b = true ∧ A.σ.free.length < 3) ∨ (chkN b A.σ.free.length 3 = 0 ∧ b = true ∧ 3 ≤ A.σ.free.length)) := by
    unfold chkN
    show _ ∨ _
    cases b
    · exact .inl ⟨rfl, rfl⟩
    · by_cases hl : ((A.σ.free.length : Nat) : Int) < 3
      · exact .inr (.inl ⟨by rw [if_neg (by decide), if_pos hl], rfl, by omega⟩)
      · exact .inr (.inr ⟨by rw [if_neg (by decide), if_neg hl], rfl, by omega⟩)
  clear hff
  go_wp2_with fail
  refine (chk_any HS3.out b 3).mono ?_
  rintro e wc ⟨rfl, hs⟩
  have HS := Lib.hid hs
  clear hs HS3
  obtain ⟨c, hc⟩ : ∃ c, chkN b A.σ.free.length 3 = c := ⟨_, rfl⟩
  have hE := HE.out
  rw [hc] at hE ⊢
  clear hc HE
  rcases hE with ⟨rfl, rfl⟩ | ⟨rfl, rfl, hfr⟩ | ⟨rfl, rfl, hfr⟩
  · go_wp2_with fail
    go_ret2
    exact rot_bad HS.out HFF.out (by have := HR0.out; have := HR1.out; have := HR2.out; omega) (by have := HR0.out; have := HR1.out; have := HR2.out; omega)
  · have HFR := Lib.hid hfr
    clear hfr
    go_wp2_with fail
    go_ret2
    exact rot_full HS.out HFF.out HFR.out (by have := HR0.out; have := HR1.out; have := HR2.out; omega) (by have := HR0.out; have := HR1.out; have := HR2.out; omega)
  have HFR : Hid (3 ≤ A.σ.free.length) := hfr
  clear hfr
  have HQJ : Hid (A.σ.on Y.left = true) := HFORM.out.trans HFF.out
  have HQI : Hid (A.σ.on X.right = true) := by have h := HQJ.out; rw [← HY.out] at h; exact on_of_left HV.out h
  have HON : Hid (A.σ.on i = true) := form_on HFF.out
  have HX' : Hid (A.nd i = X) := by have h := HX.out; rw [ndz_on HON.out] at h; exact h
  have HY' : Hid (A.nd X.right = Y) := by have h := HY.out; rw [ndz_on HQI.out] at h; exact h
  have HQ' : Hid (A.nd Y.left = QN) := by have h := HQN.out; rw [ndz_on HQJ.out] at h; exact h
  have HWP : Hid ((i64R X.key ∧ i64R X.val) ∧ (i64R Y.key ∧ i64R Y.val) ∧ i64R QN.key ∧ i64R QN.val) := by
    have h1 := HWF.out i (.inl rfl) HON.out
    have h2 := HWF.out X.right (by rw [← HX'.out]; simp) HQI.out
    have h3 := HWF.out Y.left (by rw [← HY'.out, ← HX'.out]; simp) HQJ.out
    rw [HX'.out] at h1
    rw [HY'.out] at h2
    rw [HQ'.out] at h3
    exact ⟨h1, h2, h3⟩
  have HSZ : Hid (3 + A.sz X.left + A.sz QN.left + A.sz QN.right + A.sz Y.right ≤ 2147483647) := by
    have e1 := sz_child HA.out HON.out
    have e2 := sz_child HA.out HQI.out
    have e3 := sz_child HA.out HQJ.out
    rw [HX'.out] at e1
    rw [HY'.out] at e2
    rw [HQ'.out] at e3
    have e4 : A.sz X.right = (A.nd X.right).size := by unfold Ar.sz; rw [if_neg]; have := HV.out.ok.on _ HQI.out; omega
    rw [HY'.out] at e4
    have e5 : A.sz Y.left = (A.nd Y.left).size := by unfold Ar.sz; rw [if_neg]; have := HV.out.ok.on _ HQJ.out; omega
    rw [HQ'.out] at e5
    have e6 := (HA.out.size i HON.out).2
    rw [HX'.out] at e6
    show _ ≤ _
    omega
  obtain ⟨⟨x0, x1, x2, x3, x4, x5, x6, x7⟩, -⟩ := HS.out.row8 (g := gx) (X := X) (by simp [ndRow])
  obtain ⟨⟨y0, y1, y2, y3, y4, y5, y6, y7⟩, -⟩ := HS.out.row8 (g := gy) (X := Y) (by simp [ndRow])
  obtain ⟨⟨q0, q1, q2, q3, q4, q5, q6, q7⟩, -⟩ := HS.out.row8 (g := gq) (X := QN) (by simp [ndRow])
  go_wp2_with fail
  refine (HS.out.mut fun F1 hI1 => spread_any I (P := X) (QN := QN) (R := Y) wc hI1 HV.out HA.out HM.out HFR.out ⟨HCX.out.1, HCQN.out.1, HCQN.out.2, HCY.out.2⟩ ⟨HWP.out.1, HWP.out.2.2, HWP.out.2.1⟩ (by have := HSZ.out; omega)).mono ?_
  rintro e w8 ⟨B, rd8, ⟨rfl, j, rfl, ht, y, z, n0, n1, n2, n3, n4, n5, n6⟩, hs8⟩
  have HS8 := Lib.hid hs8
  clear hs8 HS x0 x1 x2 x3 x4 x5 x6 x7 y0 y1 y2 y3 y4 y5 y6 y7 q0 q1 q2 q3 q4 q5 q6 q7
  have HT : Hid (Turned A held B j 3 ∧ RNodes A B 2 i j) := by
    refine ⟨ht, y, z, n0, n1, n2, n3, ?_, ?_, ?_⟩
    · rw [HX'.out, HY'.out, HQ'.out]; exact n4
    · rw [HX'.out, HY'.out, HQ'.out]; exact n5
    · rw [HX'.out, HY'.out, HQ'.out]; exact n6
  clear ht n0 n1 n2 n3 n4 n5 n6
  go_wp2_with fail
  go_ret2
  exact rot_ok HS8.out HFF.out HFR.out HT.out.1 HT.out.2 (by have := HR0.out; have := HR1.out; have := HR2.out; omega) (by have := HR0.out; have := HR1.out; have := HR2.out; omega)
set_option maxHeartbeats 8000000 in
set_option maxRecDepth 100000 in
theorem rotDoubleRight_any (I : AImpl) : RotSpec I 151 3 := by
  intro p A rd F held i w hI hv ha hwf hm h0 h1 hi
  obtain ⟨pa, rfl⟩ := I.ptr hI
  have HRD : Hid (0 ≤ rd ∧ rd ≤ 2199023255552) := ⟨h0, h1⟩
  have HI := Lib.hid hi
  have HV := Lib.hid hv
  have HA := Lib.hid ha
  have HWF := Lib.hid hwf
  have HM := Lib.hid hm
  have HS0 := Lib.hid (Ins.start hI)
  clear hI hv ha hwf hm h0 h1 hi
  go_enter Tryz.func151, Tryz.ntmps151
  go_wp2_with fail
  refine (HS0.out.look (by have := HRD.out; omega) (by have := HRD.out; omega) HI.out).mono ?_
  rintro e w2a ⟨rfl, rd1, hs, r1, r2⟩
  have HR0 : Hid (rd ≤ rd1 ∧ rd1 ≤ rd + 1) := ⟨r1, r2⟩
  obtain ⟨X, hX⟩ : ∃ x, ndz A i = x := ⟨_, rfl⟩
  rw [hX]
  have HX := Lib.hid hX
  have HCX : Hid (A.Idx X.left ∧ A.Idx X.right) := by have h := ndz_idx HV.out i; rw [hX] at h; exact h
  unfold ndRow
  have HS1 := Lib.hid (hs.box #[Value.int .i64 X.key, .int .i64 X.val, .int .u32 (X.left : Int), .int .u32 (X.right : Int), .int .i64 X.size, .int .i64 X.sum, .int .i64 X.mn, .int .i64 X.mx] 81)
  clear hs HS0 hX r1 r2
  go_upto_region 2 with fail
  generalize w2a.alloc (Obj.cells #[Value.int .i64 X.key, .int .i64 X.val, .int .u32 (X.left : Int), .int .u32 (X.right : Int), .int .i64 X.size, .int .i64 X.sum, .int .i64 X.mn, .int .i64 X.mx] 81) = w2 at HS1 ⊢
  generalize w2a.heap.size = gx at HS1 ⊢
  obtain ⟨⟨x0, x1, x2, x3, x4, x5, x6, x7⟩, -⟩ := HS1.out.row8 (g := gx) (X := X) (by simp [ndRow])
  go_wp2_with fail
  refine (HS1.out.look (by have := HRD.out; have := HR0.out; omega) (by have := HRD.out; have := HR0.out; omega) (idx_lt32 HV.out HCX.out.1)).mono ?_
  rintro e w4a ⟨rfl, rd2, hs, r1, r2⟩
  have HR1 : Hid (rd1 ≤ rd2 ∧ rd2 ≤ rd1 + 1) := ⟨r1, r2⟩
  obtain ⟨Y, hY⟩ : ∃ x, ndz A X.left = x := ⟨_, rfl⟩
  rw [hY]
  have HY := Lib.hid hY
  have HCY : Hid (A.Idx Y.left ∧ A.Idx Y.right) := by have h := ndz_idx HV.out X.left; rw [hY] at h; exact h
  clear x0 x1 x2 x3 x4 x5 x6 x7
  unfold ndRow
  have HS2 := Lib.hid (hs.box #[Value.int .i64 Y.key, .int .i64 Y.val, .int .u32 (Y.left : Int), .int .u32 (Y.right : Int), .int .i64 Y.size, .int .i64 Y.sum, .int .i64 Y.mn, .int .i64 Y.mx] 81)
  clear hs HS1 hY r1 r2
  go_upto_region 3 with fail
  generalize w4a.alloc (Obj.cells #[Value.int .i64 Y.key, .int .i64 Y.val, .int .u32 (Y.left : Int), .int .u32 (Y.right : Int), .int .i64 Y.size, .int .i64 Y.sum, .int .i64 Y.mn, .int .i64 Y.mx] 81) = w4 at HS2 ⊢
  generalize w4a.heap.size = gy at HS2 ⊢
  obtain ⟨⟨y0, y1, y2, y3, y4, y5, y6, y7⟩, -⟩ := HS2.out.row8 (g := gy) (X := Y) (by simp [ndRow])
  go_wp2_with fail
  refine (HS2.out.look (by have := HRD.out; have := HR0.out; have := HR1.out; omega) (by have := HRD.out; have := HR0.out; have := HR1.out; omega) (idx_lt32 HV.out HCY.out.2)).mono ?_
  rintro e w6a ⟨rfl, rd3, hs, r1, r2⟩
  have HR2 : Hid (rd2 ≤ rd3 ∧ rd3 ≤ rd2 + 1) := ⟨r1, r2⟩
  obtain ⟨QN, hQN⟩ : ∃ x, ndz A Y.right = x := ⟨_, rfl⟩
  rw [hQN]
  have HQN := Lib.hid hQN
  have HCQN : Hid (A.Idx QN.left ∧ A.Idx QN.right) := by have h := ndz_idx HV.out Y.right; rw [hQN] at h; exact h
  have hform : A.σ.on Y.right = rform A 3 i := by have h := form3 HV.out i; rw [HX.out, HY.out] at h; exact h
  rw [hform]
  have HFORM := Lib.hid hform
  clear hform y0 y1 y2 y3 y4 y5 y6 y7
  unfold ndRow
  have HS3 := Lib.hid (hs.box #[Value.int .i64 QN.key, .int .i64 QN.val, .int .u32 (QN.left : Int), .int .u32 (QN.right : Int), .int .i64 QN.size, .int .i64 QN.sum, .int .i64 QN.mn, .int .i64 QN.mx] 81)
  clear hs HS2 hQN r1 r2
  go_upto_region 4 with fail
  generalize w6a.alloc (Obj.cells #[Value.int .i64 QN.key, .int .i64 QN.val, .int .u32 (QN.left : Int), .int .u32 (QN.right : Int), .int .i64 QN.size, .int .i64 QN.sum, .int .i64 QN.mn, .int .i64 QN.mx] 81) = w6 at HS3 ⊢
  generalize w6a.heap.size = gq at HS3 ⊢
  generalize hff : rform A 3 i = b
  have HFF := Lib.hid hff
  have HE : Hid ((chkN b A.σ.free.length 3 = 1 ∧ b = false) ∨ (chkN b A.σ.free.length 3 = 2 ∧ b = true ∧ A.σ.free.length < 3) ∨ (chkN b A.σ.free.length 3 = 0 ∧ b = true ∧ 3 ≤ A.σ.free.length)) := by
    unfold chkN
    show _ ∨ _
    cases b
    · exact .inl ⟨rfl, rfl⟩
    · by_cases hl : ((A.σ.free.length : Nat) : Int) < 3
      · exact .inr (.inl ⟨by rw [if_neg (by decide), if_pos hl], rfl, by omega⟩)
      · exact .inr (.inr ⟨by rw [if_neg (by decide), if_neg hl], rfl, by omega⟩)
  clear hff
  go_wp2_with fail
  refine (chk_any HS3.out b 3).mono ?_
  rintro e wc ⟨rfl, hs⟩
  have HS := Lib.hid hs
  clear hs HS3
  obtain ⟨c, hc⟩ : ∃ c, chkN b A.σ.free.length 3 = c := ⟨_, rfl⟩
  have hE := HE.out
  rw [hc] at hE ⊢
  clear hc HE
  rcases hE with ⟨rfl, rfl⟩ | ⟨rfl, rfl, hfr⟩ | ⟨rfl, rfl, hfr⟩
  · go_wp2_with fail
    go_ret2
    exact rot_bad HS.out HFF.out (by have := HR0.out; have := HR1.out; have := HR2.out; omega) (by have := HR0.out; have := HR1.out; have := HR2.out; omega)
  · have HFR := Lib.hid hfr
    clear hfr
    go_wp2_with fail
    go_ret2
    exact rot_full HS.out HFF.out HFR.out (by have := HR0.out; have := HR1.out; have := HR2.out; omega) (by have := HR0.out; have := HR1.out; have := HR2.out; omega)
  have HFR : Hid (3 ≤ A.σ.free.length) := hfr
  clear hfr
  have HQJ : Hid (A.σ.on Y.right = true) := HFORM.out.trans HFF.out
  have HQI : Hid (A.σ.on X.left = true) := by have h := HQJ.out; rw [← HY.out] at h; exact on_of_right HV.out h
  have HON : Hid (A.σ.on i = true) := form_on HFF.out
  have HX' : Hid (A.nd i = X) := by have h := HX.out; rw [ndz_on HON.out] at h; exact h
  have HY' : Hid (A.nd X.left = Y) := by have h := HY.out; rw [ndz_on HQI.out] at h; exact h
  have HQ' : Hid (A.nd Y.right = QN) := by have h := HQN.out; rw [ndz_on HQJ.out] at h; exact h
  have HWP : Hid ((i64R X.key ∧ i64R X.val) ∧ (i64R Y.key ∧ i64R Y.val) ∧ i64R QN.key ∧ i64R QN.val) := by
    have h1 := HWF.out i (.inl rfl) HON.out
    have h2 := HWF.out X.left (by rw [← HX'.out]; simp) HQI.out
    have h3 := HWF.out Y.right (by rw [← HY'.out, ← HX'.out]; simp) HQJ.out
    rw [HX'.out] at h1
    rw [HY'.out] at h2
    rw [HQ'.out] at h3
    exact ⟨h1, h2, h3⟩
  have HSZ : Hid (3 + A.sz X.right + A.sz QN.left + A.sz QN.right + A.sz Y.left ≤ 2147483647) := by
    have e1 := sz_child HA.out HON.out
    have e2 := sz_child HA.out HQI.out
    have e3 := sz_child HA.out HQJ.out
    rw [HX'.out] at e1
    rw [HY'.out] at e2
    rw [HQ'.out] at e3
    have e4 : A.sz X.left = (A.nd X.left).size := by unfold Ar.sz; rw [if_neg]; have := HV.out.ok.on _ HQI.out; omega
    rw [HY'.out] at e4
    have e5 : A.sz Y.right = (A.nd Y.right).size := by unfold Ar.sz; rw [if_neg]; have := HV.out.ok.on _ HQJ.out; omega
    rw [HQ'.out] at e5
    have e6 := (HA.out.size i HON.out).2
    rw [HX'.out] at e6
    show _ ≤ _
    omega
  obtain ⟨⟨x0, x1, x2, x3, x4, x5, x6, x7⟩, -⟩ := HS.out.row8 (g := gx) (X := X) (by simp [ndRow])
  obtain ⟨⟨y0, y1, y2, y3, y4, y5, y6, y7⟩, -⟩ := HS.out.row8 (g := gy) (X := Y) (by simp [ndRow])
  obtain ⟨⟨q0, q1, q2, q3, q4, q5, q6, q7⟩, -⟩ := HS.out.row8 (g := gq) (X := QN) (by simp [ndRow])
  go_wp2_with fail
  refine (HS.out.mut fun F1 hI1 => spread_any I (P := Y) (QN := QN) (R := X) wc hI1 HV.out HA.out HM.out HFR.out ⟨HCY.out.1, HCQN.out.1, HCQN.out.2, HCX.out.2⟩ ⟨HWP.out.2.1, HWP.out.2.2, HWP.out.1⟩ (by have := HSZ.out; omega)).mono ?_
  rintro e w8 ⟨B, rd8, ⟨rfl, j, rfl, ht, y, z, n0, n1, n2, n3, n4, n5, n6⟩, hs8⟩
  have HS8 := Lib.hid hs8
  clear hs8 HS x0 x1 x2 x3 x4 x5 x6 x7 y0 y1 y2 y3 y4 y5 y6 y7 q0 q1 q2 q3 q4 q5 q6 q7
  have HT : Hid (Turned A held B j 3 ∧ RNodes A B 3 i j) := by
    refine ⟨ht, y, z, n0, n1, n2, n3, ?_, ?_, ?_⟩
    · rw [HX'.out, HY'.out, HQ'.out]; exact n4
    · rw [HX'.out, HY'.out, HQ'.out]; exact n5
    · rw [HX'.out, HY'.out, HQ'.out]; exact n6
  clear ht n0 n1 n2 n3 n4 n5 n6
  go_wp2_with fail
  go_ret2
  exact rot_ok HS8.out HFF.out HFR.out HT.out.1 HT.out.2 (by have := HR0.out; have := HR1.out; have := HR2.out; omega) (by have := HR0.out; have := HR1.out; have := HR2.out; omega)
theorem rotImpl (I : AImpl) : RotImpl I := ⟨rotLeft_any I, rotRight_any I, rotDoubleLeft_any I, rotDoubleRight_any I⟩
structure ShNum : Prop where
  maxHeight : ∀ (n : Int) (w : World), -9223372036854775808 ≤ n → n ≤ 9223372036854775807 → Calls Tryz.prog 117 #[.int .i64 n] w (Calm w (.int .i64 (xhI n)))
  balanced : ∀ (l r : Int) (w : World), -9223372036854775808 ≤ l → l ≤ 9223372036854775807 → -9223372036854775808 ≤ r → r ≤ 9223372036854775807 → Calls Tryz.prog 135 #[.int .i64 l, .int .i64 r] w (Calm w (.bool (bal l r)))
set_option maxRecDepth 100000 in
theorem entryJ_any (x : Nd) (w : World) : Calls Tryz.prog 145 #[.agg (ndRow x)] w (Calm w (.agg #[.int .i64 x.key, .int .i64 x.val])) := by
  have hin : (Tryz.prog.info? 69).map (·.size) = some 2 := by kernel_rfl
  have HINF := Lib.hid hin
  have HU : Hid _ := Lib.hid Tryz.underlying69
  have hb := below_new7 w (Obj.cells (ndRow x) 81)
  have hbx := heap_alloc_new w (Obj.cells (ndRow x) 81)
  clear hin
  go_enter Tryz.func145, Tryz.ntmps145
  unfold ndRow
  go_upto_region 1 with fail
  rw [show #[Value.int .i64 x.key, .int .i64 x.val, .int .u32 (x.left : Int), .int .u32 (x.right : Int), .int .i64 x.size, .int .i64 x.sum, .int .i64 x.mn, .int .i64 x.mx] = ndRow x from rfl]
  have hsz : w.heap.size < (w.alloc (Obj.cells (ndRow x) 81)).heap.size := by simp
  have hs1 : (w.alloc (Obj.cells (ndRow x) 81)).heap.size = w.heap.size + 1 := World.size_alloc _ _
  generalize w.alloc (Obj.cells (ndRow x) 81) = w2 at hb hbx hsz hs1 ⊢
  generalize hg : w.heap.size = g at hb hbx hsz hs1 ⊢
  have hb3 := below_new7 w2 (Obj.cells #[.int .i64 0, .int .i64 0] 69)
  have hr3 := heap_alloc_new w2 (Obj.cells #[.int .i64 0, .int .i64 0] 69)
  have hx3 := (hb3.block g hsz).trans hbx
  have hb4 := hb.trans (hb3.mono (Nat.le_of_lt hsz))
  (try rw [World.size_alloc])
  generalize w2.alloc (Obj.cells #[.int .i64 0, .int .i64 0] 69) = w3 at hr3 hx3 hb4 ⊢
  clear hb3
  (try rw [hg])
  rw [hs1] at hr3
  generalize hq : g + 1 = q at hr3 ⊢
  have x0 : w3.cell? ⟨g, 0, none⟩ = some (.int .i64 x.key) := by rw [cell_of_row _ _ _ _ _ _ hx3]; rfl
  have x1 : w3.cell? ⟨g, 1, none⟩ = some (.int .i64 x.val) := by rw [cell_of_row _ _ _ _ _ _ hx3]; rfl
  obtain ⟨r0, r1⟩ := two_ofE hr3
  have f0 := frozen_of_row _ _ 0 _ _ hr3
  have f1 := frozen_of_row _ _ 1 _ _ hr3
  have hgq : g ≠ q := by omega
  have HFIN : Hid (Below g w ((w3.setCell ⟨q, 0, none⟩ (.int .i64 x.key)).setCell ⟨q, 1, none⟩ (.int .i64 x.val)) ∧ ((w3.setCell ⟨q, 0, none⟩ (.int .i64 x.key)).setCell ⟨q, 1, none⟩ (.int .i64 x.val)).heap[q]? = some (.cells #[.int .i64 x.key, .int .i64 x.val] 69 (0, 0))) :=
    ⟨(hb4.setCell (by show g ≤ q; omega) _).setCell (by show g ≤ q; omega) _, by rw [heap_setCell_same _ q 1 _ _ _ (heap_setCell_same w3 q 0 _ _ _ hr3)]; rfl⟩
  have HGG := Lib.hid hg
  clear hb hbx hsz hs1 hr3 hx3 hb4 hg hq
  go_wp2_with fail
  refine bodyPost_ret (results_cell_row rfl _ _ q 69 #[.int .i64 x.key, .int .i64 x.val] (0, 0) _ rfl HFIN.out.2 HU.out rfl HINF.out) rfl ?_
  exact ⟨rfl, by rw [HGG.out]; exact HFIN.out.1⟩
set_option maxHeartbeats 4000000 in
set_option maxRecDepth 100000 in
theorem isBelow_any (I : AImpl) {p : Value} {A : Ar} {rd : Int} {F : Nat → Prop} {c : Nat} (X : Nd) (w : World) (hI : I.Is w p A rd F) (hok : A.σ.Ok) (hx : A.Idx c) (hc : c < 4294967296) (hb : c ≠ 0 → 0 < A.sz c ∧ A.sz c < X.size) (h0 : 0 ≤ rd) (h1 : rd ≤ 4398046511104) :
    Calls Tryz.prog 144 #[p, .int .u32 (c : Int), .agg #[Value.int .i64 X.key, .int .i64 X.val, .int .u32 (X.left : Int), .int .u32 (X.right : Int), .int .i64 X.size, .int .i64 X.sum, .int .i64 X.mn, .int .i64 X.mx]] w (ReadsTo I p A rd F 1 (.bool true) w) := by
  obtain ⟨pa, rfl⟩ := I.ptr hI
  have hs0 := (Ins.start hI).box #[Value.int .i64 X.key, .int .i64 X.val, .int .u32 (X.left : Int), .int .u32 (X.right : Int), .int .i64 X.size, .int .i64 X.sum, .int .i64 X.mn, .int .i64 X.mx] 81
  have HOK := Lib.hid hok
  have HX := Lib.hid hx
  have HC := Lib.hid hc
  have HB := Lib.hid hb
  have HRD : Hid (0 ≤ rd ∧ rd ≤ 4398046511104) := ⟨h0, h1⟩
  clear hI hok hx hc hb h0 h1
  go_enter Tryz.func144, Tryz.ntmps144
  go_upto_region 1 with fail
  generalize w.alloc (Obj.cells #[Value.int .i64 X.key, .int .i64 X.val, .int .u32 (X.left : Int), .int .u32 (X.right : Int), .int .i64 X.size, .int .i64 X.sum, .int .i64 X.mn, .int .i64 X.mx] 81) = w1 at hs0 ⊢
  generalize w.heap.size = g at hs0 ⊢
  have HS0 := Lib.hid hs0
  clear hs0
  go_wp2_with fail
  refine (HS0.out.sz HRD.out.1 HRD.out.2 HC.out HX.out HOK.out).mono ?_
  rintro e w2 ⟨rfl, hs⟩
  have HS := Lib.hid hs
  clear hs HS0
  obtain ⟨⟨x0, x1, x2, x3, x4, x5, x6, x7⟩, -⟩ := HS.out.row8 (g := g) (X := X) (by simp [ndRow])
  by_cases hc0 : c = 0
  · subst hc0
    go_wp2_with fail
    go_ret
    obtain ⟨F', hal, hI⟩ := HS.out.ends
    exact ⟨F', rd, rfl, hal, by simpa using hI, by omega, by omega⟩
  · obtain ⟨b1, b2⟩ := HB.out hc0
    obtain ⟨z, hz⟩ : ∃ z, A.sz c = z := ⟨_, rfl⟩
    rw [hz] at b1 b2 ⊢
    have d0 : decide ((c : Int) = 0) = false := decide_eq_false (by omega)
    have d1 : decide (0 < z) = true := decide_eq_true b1
    have d2 : decide (z < X.size) = true := decide_eq_true b2
    have hc1 : ¬ (c : Int) = 0 := by omega
    go_wp2_with fail
    go_ret
    obtain ⟨F', hal, hI⟩ := HS.out.ends
    rw [if_neg hc0] at hI
    exact ⟨F', rd + 1, rfl, hal, hI, by omega, by omega⟩
set_option maxHeartbeats 4000000 in
set_option maxRecDepth 100000 in
theorem sgl_any (K : ShNum) {l a b : Int} (w : World) (hl : 0 ≤ l ∧ l ≤ 2147483647) (ha : 0 ≤ a ∧ a ≤ 2147483647) (hb : 0 ≤ b ∧ b ≤ 2147483647) :
    Calls Tryz.prog 147 #[.int .i64 l, .int .i64 a, .int .i64 b] w (Calm w (.bool (sgl l a b))) := by
  have HK := Lib.hid K
  have HR : Hid ((0 ≤ l ∧ l ≤ 2147483647) ∧ (0 ≤ a ∧ a ≤ 2147483647) ∧ (0 ≤ b ∧ b ≤ 2147483647)) := ⟨hl, ha, hb⟩
  have hw1 : IntKind.i64.wrap (l + 1) = l + 1 := by rw [IntKind.wrap_i64]; omega
  have hw2 : IntKind.i64.wrap (l + 1 + a) = l + 1 + a := by rw [IntKind.wrap_i64]; omega
  clear K hl ha hb
  go_enter Tryz.func147, Tryz.ntmps147
  go_wp2_with fail
  refine (HK.out.balanced l a w (by have := HR.out; omega) (by have := HR.out; omega) (by have := HR.out; omega) (by have := HR.out; omega)).mono ?_
  rintro e w1 ⟨rfl, hb1⟩
  have HB1 := Lib.hid hb1
  clear hb1
  cases hq : Proofs.YtfihklpofmcfgaaGreat.bal l a
  · have hs : sgl l a b = false := by unfold sgl; rw [hq]; rfl
    have HSG := Lib.hid hs
    clear hs
    go_wp2_with fail
    go_ret
    exact ⟨by rw [HSG.out]; rfl, HB1.out⟩
  · have hs : sgl l a b = Proofs.YtfihklpofmcfgaaGreat.bal (l + 1 + a) b := by unfold sgl; rw [hq]; rfl
    have HSG := Lib.hid hs
    clear hs
    go_wp2_with fail
    refine (HK.out.balanced (l + 1 + a) b w1 (by have := HR.out; omega) (by have := HR.out; omega) (by have := HR.out; omega) (by have := HR.out; omega)).mono ?_
    rintro e w2 ⟨rfl, hb2⟩
    have HB2 := Lib.hid (HB1.out.trans (hb2.mono HB1.out.size))
    clear hb2
    go_wp2_with fail
    go_ret
    exact ⟨by rw [HSG.out]; rfl, HB2.out⟩
set_option maxHeartbeats 8000000 in
set_option maxRecDepth 100000 in
theorem readJ_any (I : AImpl) {p : Value} {A : Ar} {rd : Int} {F : Nat → Prop} {held : Nat → Nat} {i : Nat} {X : Nd} (w : World) (hI : I.Is w p A rd F) (hv : A.Inv [] held) (ha : A.Agg) (hon : A.σ.on i = true) (hX : A.nd i = X) (h0 : 0 ≤ rd) (h1 : rd ≤ 4398046511000) :
    Calls Tryz.prog 133 #[p, .int .u32 (i : Int)] w (ReadsTo I p A rd F 3 (.tuple #[.agg #[Value.int .i64 X.key, .int .i64 X.val, .int .u32 (X.left : Int), .int .u32 (X.right : Int), .int .i64 X.size, .int .i64 X.sum, .int .i64 X.mn, .int .i64 X.mx], .int .i64 0]) w) := by
  obtain ⟨pa, rfl⟩ := I.ptr hI
  have hin : (Tryz.prog.info? 81).map (·.size) = some 8 := by kernel_rfl
  have HINF := Lib.hid hin
  have HUN : Hid _ := Lib.hid Tryz.underlying81
  have hs0 := (Ins.start hI).box #[.int .i64 0, .int .i64 0, .int .u32 0, .int .u32 0, .int .i64 0, .int .i64 0, .int .i64 0, .int .i64 0] 81
  have HRD : Hid (0 ≤ rd ∧ rd ≤ 4398046511000) := ⟨h0, h1⟩
  have HV := Lib.hid hv
  have HON := Lib.hid hon
  have HI : Hid (i < 4294967296) := idx_lt32 hv (.inr hon)
  have HX := Lib.hid hX
  have HC : Hid (A.Idx X.left ∧ A.Idx X.right) := by have h := hv.child i hon; rw [hX] at h; exact h
  have HB : Hid ((X.left ≠ 0 → 0 < A.sz X.left ∧ A.sz X.left < X.size) ∧ (X.right ≠ 0 → 0 < A.sz X.right ∧ A.sz X.right < X.size)) := by
    have h := sz_child ha hon
    have c := hv.child i hon
    have z1 := sz_nonneg ha c.1
    have z2 := sz_nonneg ha c.2
    rw [hX] at h c z1 z2
    exact ⟨fun q => ⟨sz_pos ha hv c.1 q, by omega⟩, fun q => ⟨sz_pos ha hv c.2 q, by omega⟩⟩
  clear hI hv ha hon hX h0 h1 hin
  go_enter Tryz.func133, Tryz.ntmps133
  go_upto_region 1 with fail
  generalize w.alloc (Obj.cells #[.int .i64 0, .int .i64 0, .int .u32 0, .int .u32 0, .int .i64 0, .int .i64 0, .int .i64 0, .int .i64 0] 81) = w1 at hs0 ⊢
  generalize w.heap.size = g0 at hs0 ⊢
  have HS0 := Lib.hid hs0
  clear hs0
  go_wp2_with fail
  refine (HS0.out.node HRD.out.1 (by have := HRD.out; omega) HI.out HON.out).mono ?_
  rintro e w2 ⟨rfl, hs⟩
  rw [HX.out]
  unfold ndRow
  have hs1 := hs.box #[Value.int .i64 X.key, .int .i64 X.val, .int .u32 (X.left : Int), .int .u32 (X.right : Int), .int .i64 X.size, .int .i64 X.sum, .int .i64 X.mn, .int .i64 X.mx] 81
  clear hs HS0
  go_upto_region 2 with fail
  generalize w2.alloc (Obj.cells #[Value.int .i64 X.key, .int .i64 X.val, .int .u32 (X.left : Int), .int .u32 (X.right : Int), .int .i64 X.size, .int .i64 X.sum, .int .i64 X.mn, .int .i64 X.mx] 81) = w3 at hs1 ⊢
  generalize w2.heap.size = g at hs1 ⊢
  have HS1 := Lib.hid hs1
  clear hs1
  obtain ⟨⟨x0, x1, x2, x3, x4, x5, x6, x7⟩, -⟩ := HS1.out.row8 (g := g) (X := X) (by simp [ndRow])
  go_wp2_with fail
  refine (HS1.out.call fun F1 hI1 => isBelow_any I X w3 hI1 HV.out.ok HC.out.1 (idx_lt32 HV.out HC.out.1) HB.out.1 (by have := HRD.out; omega) (by have := HRD.out; omega)).mono ?_
  rintro e w4 ⟨rfl, rd1, hs, r1, r2⟩
  have HS2 := Lib.hid hs
  have HR1 : Hid (rd ≤ rd1 ∧ rd1 ≤ rd + 2) := ⟨by omega, by omega⟩
  clear hs r1 r2 HS1 x0 x1 x2 x3 x4 x5 x6 x7
  obtain ⟨⟨x0, x1, x2, x3, x4, x5, x6, x7⟩, -⟩ := HS2.out.row8 (g := g) (X := X) (by simp [ndRow])
  go_wp2_with fail
  refine (HS2.out.call fun F1 hI1 => isBelow_any I X w4 hI1 HV.out.ok HC.out.2 (idx_lt32 HV.out HC.out.2) HB.out.2 (by have := HRD.out; have := HR1.out; omega) (by have := HRD.out; have := HR1.out; omega)).mono ?_
  rintro e w5 ⟨rfl, rd2, hs, r1, r2⟩
  have HR2 : Hid (rd ≤ rd2 ∧ rd2 ≤ rd + 3) := ⟨by have := HR1.out; omega, by have := HR1.out; omega⟩
  have HS3 := Lib.hid hs
  clear hs r1 r2 HS2 x0 x1 x2 x3 x4 x5 x6 x7
  obtain ⟨⟨x0, x1, x2, x3, x4, x5, x6, x7⟩, -⟩ := HS3.out.row8 (g := g) (X := X) (by simp [ndRow])
  obtain ⟨⟨y0, y1, y2, y3, y4, y5, y6, y7⟩, f0, f1, f2, f3, f4, f5, f6, f7⟩ := HS3.out.row8 (g := g0) (X := Nd.zero) (by simp [ndRow, Nd.zero])
  have hne : ¬ g = g0 := (List.pairwise_cons.1 HS3.out.bb).1 (g0, Obj.cells #[.int .i64 0, .int .i64 0, .int .u32 0, .int .u32 0, .int .i64 0, .int .i64 0, .int .i64 0, .int .i64 0] 81 (0, 0)) (by simp)
  have hne2 : ¬ g0 = g := fun e => hne e.symm
  have hp := Ins.put (g := g0) (X := Nd.zero) (Y := X) (bs := [(g, Obj.cells #[Value.int .i64 X.key, .int .i64 X.val, .int .u32 (X.left : Int), .int .u32 (X.right : Int), .int .i64 X.size, .int .i64 X.sum, .int .i64 X.mn, .int .i64 X.mx] 81 (0, 0))]) (HS3.out.perm (List.Perm.swap _ _ _))
  have HE : Hid ((∃ F', Alters F F' w (put8 w5 g0 X) ∧ I.Is (put8 w5 g0 X) (.pointer (some pa)) A rd2 F') ∧ (put8 w5 g0 X).heap[g0]? = some (Obj.cells #[Value.int .i64 X.key, .int .i64 X.val, .int .u32 (X.left : Int), .int .u32 (X.right : Int), .int .i64 X.size, .int .i64 X.sum, .int .i64 X.mn, .int .i64 X.mx] 81 (0, 0))) := ⟨hp.ends, (hp.boxes _ (List.Mem.head _)).2⟩
  clear hp
  go_wp2_with fail
  refine bodyPost_ret (results_row_tmp rfl _ _ g0 81 #[Value.int .i64 X.key, .int .i64 X.val, .int .u32 (X.left : Int), .int .u32 (X.right : Int), .int .i64 X.size, .int .i64 X.sum, .int .i64 X.mn, .int .i64 X.mx] (0, 0) _ rfl HE.out.2 HUN.out rfl HINF.out) rfl ?_
  obtain ⟨F', hal, hI⟩ := HE.out.1
  exact ⟨F', rd2, rfl, hal, hI, HR2.out.1, HR2.out.2⟩
set_option maxHeartbeats 8000000 in
set_option maxRecDepth 100000 in
theorem rotateLeft_any (I : AImpl) (K : RotImpl I) (KN : ShNum) {p : Value} {A : Ar} {rd : Int} {F : Nat → Prop} {held : Nat → Nat} {i k : Nat} {l : Int} {X : Nd} {s : Bool} (w : World) (hI : I.Is w p A rd F) (hv : A.Inv [] held) (ha : A.Agg) (hwf : WfNear A i) (hm : ∀ j, held j ≤ 1048500) (h0 : 0 ≤ rd) (h1 : rd ≤ 2199023255000) (hi : i < 4294967296)
    (hx : A.Idx X.left ∧ A.Idx X.right) (hl : 0 ≤ l ∧ l ≤ 2147483647) (hs : sgl l (A.sz X.left) (A.sz X.right) = s) (hk : k = if s = true then 0 else 2) (hform : rform A k i = true) (hn : rneed k ≤ A.σ.free.length) :
    Calls Tryz.prog 138 #[p, .int .u32 (i : Int), .int .i64 l, .agg #[Value.int .i64 X.key, .int .i64 X.val, .int .u32 (X.left : Int), .int .u32 (X.right : Int), .int .i64 X.size, .int .i64 X.sum, .int .i64 X.mn, .int .i64 X.mx]] w (Mut I p F (TurnQ A rd 6 held k i) w) := by
  obtain ⟨pa, rfl⟩ := I.ptr hI
  have hs0 := (Ins.start hI).box #[Value.int .i64 X.key, .int .i64 X.val, .int .u32 (X.left : Int), .int .u32 (X.right : Int), .int .i64 X.size, .int .i64 X.sum, .int .i64 X.mn, .int .i64 X.mx] 81
  have HK := Lib.hid K
  have HKN := Lib.hid KN
  have HV := Lib.hid hv
  have HA := Lib.hid ha
  have HWF := Lib.hid hwf
  have HM := Lib.hid hm
  have HI := Lib.hid hi
  have HX := Lib.hid hx
  have HL := Lib.hid hl
  have HS := Lib.hid hs
  have HKK := Lib.hid hk
  have HFO := Lib.hid hform
  have HN := Lib.hid hn
  have HRD : Hid (0 ≤ rd ∧ rd ≤ 2199023255000) := ⟨h0, h1⟩
  clear hI hv ha hwf hm hi hx hl hs hk hform hn h0 h1 K KN
  go_enter Tryz.func138, Tryz.ntmps138
  go_upto_region 1 with fail
  generalize w.alloc (Obj.cells #[Value.int .i64 X.key, .int .i64 X.val, .int .u32 (X.left : Int), .int .u32 (X.right : Int), .int .i64 X.size, .int .i64 X.sum, .int .i64 X.mn, .int .i64 X.mx] 81) = w1 at hs0 ⊢
  generalize w.heap.size = g at hs0 ⊢
  have HCEL : Hid (∀ (wx : World) (rdx : Int), Ins I w F (.pointer (some pa)) A rdx [] [(g, Obj.cells #[Value.int .i64 X.key, .int .i64 X.val, .int .u32 (X.left : Int), .int .u32 (X.right : Int), .int .i64 X.size, .int .i64 X.sum, .int .i64 X.mn, .int .i64 X.mx] 81 (0, 0))] wx → wx.cell? ⟨g, 2, none⟩ = some (.int .u32 (X.left : Int)) ∧ wx.cell? ⟨g, 3, none⟩ = some (.int .u32 (X.right : Int))) := fun wx rdx hx => by
    obtain ⟨⟨x0, x1, x2, x3, x4, x5, x6, x7⟩, -⟩ := hx.row8 (g := g) (X := X) (by simp [ndRow])
    exact ⟨x2, x3⟩
  have hsd := hs0.calm (Below.refl _ _).drew
  clear hs0
  refine anyG_begin (S := (fun w' => w'.cell? ⟨g, 2, none⟩ = some (.int .u32 (X.left : Int)) ∧ w'.cell? ⟨g, 3, none⟩ = some (.int .u32 (X.right : Int)))) (z := 9999) (by kernel_rfl) (HCEL.out _ _ hsd) (fun hHeld => ?_)
  refine anyG_tk (v := ?_) 0 10 rfl (by kernel_rfl) (Or.inl ⟨by rfl, ?_⟩) (by assumption) ?_
  rotate_left
  · intro w hSw; (try dsimp only at hSw); go_simp; try with_reducible rfl
  (try simp only [Act.put, put_s])
  refine anyG_tk (v := ?_) 1 11 rfl (by kernel_rfl) (Or.inl ⟨by rfl, ?_⟩) (by assumption) ?_
  rotate_left
  · intro w hSw; (try dsimp only at hSw); go_simp; try with_reducible rfl
  (try simp only [Act.put, put_s])
  refine anyG_tk (v := ?_) 2 12 rfl (by kernel_rfl) (Or.inl ⟨by rfl, ?_⟩) (by assumption) ?_
  rotate_left
  · intro w hSw; (try dsimp only at hSw); go_simp; try with_reducible rfl
  (try simp only [Act.put, put_s])
  refine anyG_tk (v := ?_) 3 13 rfl (by kernel_rfl) (Or.inl ⟨by rfl, ?_⟩) (by assumption) ?_
  rotate_left
  · intro w hSw; (try dsimp only at hSw); go_simp; try with_reducible rfl
  (try simp only [Act.put, put_s])
  refine anyG_tk (v := ?_) 5 15 rfl (by kernel_rfl) (Or.inl ⟨by rfl, ?_⟩) (by assumption) ?_
  rotate_left
  · intro w hSw; (try dsimp only at hSw); go_simp; try with_reducible rfl
  (try simp only [Act.put, put_s])
  refine anyG_tk (v := ?_) 6 16 rfl (by kernel_rfl) (Or.inl ⟨by rfl, ?_⟩) (by assumption) ?_
  rotate_left
  · intro w hSw; (try dsimp only at hSw); go_simp; try with_reducible rfl
  (try simp only [Act.put, put_s])
  refine anyG_tk (v := ?_) 7 17 rfl (by kernel_rfl) (Or.inl ⟨by rfl, ?_⟩) (by assumption) ?_
  rotate_left
  · intro w hSw; (try dsimp only at hSw); go_simp; try with_reducible rfl
  (try simp only [Act.put, put_s])
  refine anyG_one (k := 4) (o := _) (by kernel_rfl) rfl (fun KT hKT => ?_)
  go_simp
  go_at_call 27
  refine (hsd.sz (by have := HRD.out; (repeat' split) <;> omega) (by have := HRD.out; (repeat' split) <;> omega) (idx_lt32 HV.out HX.out.1) HX.out.1 HV.out.ok).mono ?_
  rintro eA wA ⟨rfl, hsA⟩
  try go_wp2_with fail
  refine hKT.out _ _ (HCEL.out _ _ hsA) (fun hHeld => ?_)
  clear hKT KT
  (try simp only [Act.put, put_s])
  refine anyG_one (k := 8) (o := _) (by kernel_rfl) rfl (fun KT hKT => ?_)
  go_simp
  go_at_call 27
  refine (hsA.sz (by have := HRD.out; (repeat' split) <;> omega) (by have := HRD.out; (repeat' split) <;> omega) (idx_lt32 HV.out HX.out.2) HX.out.2 HV.out.ok).mono ?_
  rintro eB wB ⟨rfl, hsB⟩
  try go_wp2_with fail
  refine hKT.out _ _ (HCEL.out _ _ hsB) (fun hHeld => ?_)
  clear hKT KT
  (try simp only [Act.put, put_s])
  refine anyG_one (k := 9) (o := _) (by kernel_rfl) rfl (fun KT hKT => ?_)
  go_simp
  go_at_call 147
  refine (sgl_any HKN.out _ HL.out (sz_rng HA.out HX.out.1) (sz_rng HA.out HX.out.2)).mono ?_
  rintro eC wC ⟨rfl, hbC⟩
  rw [HS.out]
  have hsC := hsB.calm hbC
  try go_wp2_with fail
  refine hKT.out _ _ (HCEL.out _ _ hsC) (fun hHeld => ?_)
  clear hKT KT
  (try simp only [Act.put, put_s])
  refine anyG_done (by kernel_rfl) ?_ _
  obtain ⟨rdc, hrc⟩ : ∃ r, (rd + if X.left = 0 then 0 else 1) + (if X.right = 0 then 0 else 1) = r := ⟨_, rfl⟩
  have HRC : Hid (rd ≤ rdc ∧ rdc ≤ rd + 2) := by
    show rd ≤ rdc ∧ rdc ≤ rd + 2
    rw [← hrc]
    (repeat' split) <;> omega
  rw [hrc] at hsC
  have HSC := Lib.hid hsC
  clear hrc hsC hsB hsA hsd hbC hHeld HCEL
  have HKC := HKK.out
  cases s
  · obtain rfl : k = 2 := HKC
    go_wp2_with fail
    refine (HSC.out.mut fun F1 hI1 => RotSpec.ok (k := 2) HK.out.dleft hI1 HV.out HA.out HWF.out HM.out (by have := HRD.out; have := HRC.out; omega) (by have := HRD.out; have := HRC.out; omega) HI.out HFO.out HN.out).mono ?_
    rintro e w4 ⟨B, rd4, ⟨r0, r1, j, rfl, ht, hr⟩, hs4⟩
    have HE : Hid (∃ F', Alters F F' w w4 ∧ I.Is w4 (.pointer (some pa)) B rd4 F') := hs4.ends
    have HQ : Hid (TurnQ A rd 6 held 2 i (.returned (.tuple #[.int .u32 (j : Int), .int .i64 0])) B rd4) := ⟨by have := HRC.out; omega, by have := HRC.out; omega, j, rfl, ht, hr⟩
    clear r0 r1 ht hr hs4
    go_wp2_with fail
    go_ret2
    obtain ⟨F', hal, hI⟩ := HE.out
    exact ⟨F', B, rd4, hal, hI, HQ.out⟩
  · obtain rfl : k = 0 := HKC
    go_wp2_with fail
    refine (HSC.out.mut fun F1 hI1 => RotSpec.ok (k := 0) HK.out.left hI1 HV.out HA.out HWF.out HM.out (by have := HRD.out; have := HRC.out; omega) (by have := HRD.out; have := HRC.out; omega) HI.out HFO.out HN.out).mono ?_
    rintro e w4 ⟨B, rd4, ⟨r0, r1, j, rfl, ht, hr⟩, hs4⟩
    have HE : Hid (∃ F', Alters F F' w w4 ∧ I.Is w4 (.pointer (some pa)) B rd4 F') := hs4.ends
    have HQ : Hid (TurnQ A rd 6 held 0 i (.returned (.tuple #[.int .u32 (j : Int), .int .i64 0])) B rd4) := ⟨by have := HRC.out; omega, by have := HRC.out; omega, j, rfl, ht, hr⟩
    clear r0 r1 ht hr hs4
    go_wp2_with fail
    go_ret2
    obtain ⟨F', hal, hI⟩ := HE.out
    exact ⟨F', B, rd4, hal, hI, HQ.out⟩
set_option maxHeartbeats 8000000 in
set_option maxRecDepth 100000 in
theorem rotateRight_any (I : AImpl) (K : RotImpl I) (KN : ShNum) {p : Value} {A : Ar} {rd : Int} {F : Nat → Prop} {held : Nat → Nat} {i k : Nat} {l : Int} {X : Nd} {s : Bool} (w : World) (hI : I.Is w p A rd F) (hv : A.Inv [] held) (ha : A.Agg) (hwf : WfNear A i) (hm : ∀ j, held j ≤ 1048500) (h0 : 0 ≤ rd) (h1 : rd ≤ 2199023255000) (hi : i < 4294967296)
    (hx : A.Idx X.left ∧ A.Idx X.right) (hl : 0 ≤ l ∧ l ≤ 2147483647) (hs : sgl l (A.sz X.right) (A.sz X.left) = s) (hk : k = if s = true then 1 else 3) (hform : rform A k i = true) (hn : rneed k ≤ A.σ.free.length) :
    Calls Tryz.prog 139 #[p, .int .u32 (i : Int), .agg #[Value.int .i64 X.key, .int .i64 X.val, .int .u32 (X.left : Int), .int .u32 (X.right : Int), .int .i64 X.size, .int .i64 X.sum, .int .i64 X.mn, .int .i64 X.mx], .int .i64 l] w (Mut I p F (TurnQ A rd 6 held k i) w) := by
  obtain ⟨pa, rfl⟩ := I.ptr hI
  have hs0 := (Ins.start hI).box #[Value.int .i64 X.key, .int .i64 X.val, .int .u32 (X.left : Int), .int .u32 (X.right : Int), .int .i64 X.size, .int .i64 X.sum, .int .i64 X.mn, .int .i64 X.mx] 81
  have HK := Lib.hid K
  have HKN := Lib.hid KN
  have HV := Lib.hid hv
  have HA := Lib.hid ha
  have HWF := Lib.hid hwf
  have HM := Lib.hid hm
  have HI := Lib.hid hi
  have HX := Lib.hid hx
  have HL := Lib.hid hl
  have HS := Lib.hid hs
  have HKK := Lib.hid hk
  have HFO := Lib.hid hform
  have HN := Lib.hid hn
  have HRD : Hid (0 ≤ rd ∧ rd ≤ 2199023255000) := ⟨h0, h1⟩
  clear hI hv ha hwf hm hi hx hl hs hk hform hn h0 h1 K KN
  go_enter Tryz.func139, Tryz.ntmps139
  go_upto_region 1 with fail
  generalize w.alloc (Obj.cells #[Value.int .i64 X.key, .int .i64 X.val, .int .u32 (X.left : Int), .int .u32 (X.right : Int), .int .i64 X.size, .int .i64 X.sum, .int .i64 X.mn, .int .i64 X.mx] 81) = w1 at hs0 ⊢
  generalize w.heap.size = g at hs0 ⊢
  have HCEL : Hid (∀ (wx : World) (rdx : Int), Ins I w F (.pointer (some pa)) A rdx [] [(g, Obj.cells #[Value.int .i64 X.key, .int .i64 X.val, .int .u32 (X.left : Int), .int .u32 (X.right : Int), .int .i64 X.size, .int .i64 X.sum, .int .i64 X.mn, .int .i64 X.mx] 81 (0, 0))] wx → wx.cell? ⟨g, 2, none⟩ = some (.int .u32 (X.left : Int)) ∧ wx.cell? ⟨g, 3, none⟩ = some (.int .u32 (X.right : Int))) := fun wx rdx hx => by
    obtain ⟨⟨x0, x1, x2, x3, x4, x5, x6, x7⟩, -⟩ := hx.row8 (g := g) (X := X) (by simp [ndRow])
    exact ⟨x2, x3⟩
  have hsd := hs0.calm (Below.refl _ _).drew
  clear hs0
  refine anyG_begin (S := (fun w' => w'.cell? ⟨g, 2, none⟩ = some (.int .u32 (X.left : Int)) ∧ w'.cell? ⟨g, 3, none⟩ = some (.int .u32 (X.right : Int)))) (z := 9999) (by kernel_rfl) (HCEL.out _ _ hsd) (fun hHeld => ?_)
  refine anyG_tk (v := ?_) 0 10 rfl (by kernel_rfl) (Or.inl ⟨by rfl, ?_⟩) (by assumption) ?_
  rotate_left
  · intro w hSw; (try dsimp only at hSw); go_simp; try with_reducible rfl
  (try simp only [Act.put, put_s])
  refine anyG_tk (v := ?_) 1 11 rfl (by kernel_rfl) (Or.inl ⟨by rfl, ?_⟩) (by assumption) ?_
  rotate_left
  · intro w hSw; (try dsimp only at hSw); go_simp; try with_reducible rfl
  (try simp only [Act.put, put_s])
  refine anyG_tk (v := ?_) 2 12 rfl (by kernel_rfl) (Or.inl ⟨by rfl, ?_⟩) (by assumption) ?_
  rotate_left
  · intro w hSw; (try dsimp only at hSw); go_simp; try with_reducible rfl
  (try simp only [Act.put, put_s])
  refine anyG_tk (v := ?_) 3 13 rfl (by kernel_rfl) (Or.inl ⟨by rfl, ?_⟩) (by assumption) ?_
  rotate_left
  · intro w hSw; (try dsimp only at hSw); go_simp; try with_reducible rfl
  (try simp only [Act.put, put_s])
  refine anyG_tk (v := ?_) 5 15 rfl (by kernel_rfl) (Or.inl ⟨by rfl, ?_⟩) (by assumption) ?_
  rotate_left
  · intro w hSw; (try dsimp only at hSw); go_simp; try with_reducible rfl
  (try simp only [Act.put, put_s])
  refine anyG_tk (v := ?_) 6 16 rfl (by kernel_rfl) (Or.inl ⟨by rfl, ?_⟩) (by assumption) ?_
  rotate_left
  · intro w hSw; (try dsimp only at hSw); go_simp; try with_reducible rfl
  (try simp only [Act.put, put_s])
  refine anyG_tk (v := ?_) 7 17 rfl (by kernel_rfl) (Or.inl ⟨by rfl, ?_⟩) (by assumption) ?_
  rotate_left
  · intro w hSw; (try dsimp only at hSw); go_simp; try with_reducible rfl
  (try simp only [Act.put, put_s])
  refine anyG_one (k := 4) (o := _) (by kernel_rfl) rfl (fun KT hKT => ?_)
  go_simp
  go_at_call 27
  refine (hsd.sz (by have := HRD.out; (repeat' split) <;> omega) (by have := HRD.out; (repeat' split) <;> omega) (idx_lt32 HV.out HX.out.2) HX.out.2 HV.out.ok).mono ?_
  rintro eA wA ⟨rfl, hsA⟩
  try go_wp2_with fail
  refine hKT.out _ _ (HCEL.out _ _ hsA) (fun hHeld => ?_)
  clear hKT KT
  (try simp only [Act.put, put_s])
  refine anyG_one (k := 8) (o := _) (by kernel_rfl) rfl (fun KT hKT => ?_)
  go_simp
  go_at_call 27
  refine (hsA.sz (by have := HRD.out; (repeat' split) <;> omega) (by have := HRD.out; (repeat' split) <;> omega) (idx_lt32 HV.out HX.out.1) HX.out.1 HV.out.ok).mono ?_
  rintro eB wB ⟨rfl, hsB⟩
  try go_wp2_with fail
  refine hKT.out _ _ (HCEL.out _ _ hsB) (fun hHeld => ?_)
  clear hKT KT
  (try simp only [Act.put, put_s])
  refine anyG_one (k := 9) (o := _) (by kernel_rfl) rfl (fun KT hKT => ?_)
  go_simp
  go_at_call 147
  refine (sgl_any HKN.out _ HL.out (sz_rng HA.out HX.out.2) (sz_rng HA.out HX.out.1)).mono ?_
  rintro eC wC ⟨rfl, hbC⟩
  rw [HS.out]
  have hsC := hsB.calm hbC
  try go_wp2_with fail
  refine hKT.out _ _ (HCEL.out _ _ hsC) (fun hHeld => ?_)
  clear hKT KT
  (try simp only [Act.put, put_s])
  refine anyG_done (by kernel_rfl) ?_ _
  obtain ⟨rdc, hrc⟩ : ∃ r, (rd + if X.right = 0 then 0 else 1) + (if X.left = 0 then 0 else 1) = r := ⟨_, rfl⟩
  have HRC : Hid (rd ≤ rdc ∧ rdc ≤ rd + 2) := by
    show rd ≤ rdc ∧ rdc ≤ rd + 2
    rw [← hrc]
    (repeat' split) <;> omega
  rw [hrc] at hsC
  have HSC := Lib.hid hsC
  clear hrc hsC hsB hsA hsd hbC hHeld HCEL
  have HKC := HKK.out
  cases s
  · obtain rfl : k = 3 := HKC
    go_wp2_with fail
    refine (HSC.out.mut fun F1 hI1 => RotSpec.ok (k := 3) HK.out.dright hI1 HV.out HA.out HWF.out HM.out (by have := HRD.out; have := HRC.out; omega) (by have := HRD.out; have := HRC.out; omega) HI.out HFO.out HN.out).mono ?_
    rintro e w4 ⟨B, rd4, ⟨r0, r1, j, rfl, ht, hr⟩, hs4⟩
    have HE : Hid (∃ F', Alters F F' w w4 ∧ I.Is w4 (.pointer (some pa)) B rd4 F') := hs4.ends
    have HQ : Hid (TurnQ A rd 6 held 3 i (.returned (.tuple #[.int .u32 (j : Int), .int .i64 0])) B rd4) := ⟨by have := HRC.out; omega, by have := HRC.out; omega, j, rfl, ht, hr⟩
    clear r0 r1 ht hr hs4
    go_wp2_with fail
    go_ret2
    obtain ⟨F', hal, hI⟩ := HE.out
    exact ⟨F', B, rd4, hal, hI, HQ.out⟩
  · obtain rfl : k = 1 := HKC
    go_wp2_with fail
    refine (HSC.out.mut fun F1 hI1 => RotSpec.ok (k := 1) HK.out.right hI1 HV.out HA.out HWF.out HM.out (by have := HRD.out; have := HRC.out; omega) (by have := HRD.out; have := HRC.out; omega) HI.out HFO.out HN.out).mono ?_
    rintro e w4 ⟨B, rd4, ⟨r0, r1, j, rfl, ht, hr⟩, hs4⟩
    have HE : Hid (∃ F', Alters F F' w w4 ∧ I.Is w4 (.pointer (some pa)) B rd4 F') := hs4.ends
    have HQ : Hid (TurnQ A rd 6 held 1 i (.returned (.tuple #[.int .u32 (j : Int), .int .i64 0])) B rd4) := ⟨by have := HRC.out; omega, by have := HRC.out; omega, j, rfl, ht, hr⟩
    clear r0 r1 ht hr hs4
    go_wp2_with fail
    go_ret2
    obtain ⟨F', hal, hI⟩ := HE.out
    exact ⟨F', B, rd4, hal, hI, HQ.out⟩
end Go.Proofs.YtfihklpofmcfgaaGreat
