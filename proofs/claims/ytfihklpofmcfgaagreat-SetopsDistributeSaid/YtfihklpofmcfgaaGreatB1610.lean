/- Of the proofs of SetopsAlgebra, SetopsDistribute: JnOk2, JnOk3, JnWfo. -/
import Derived.Test.YtfihklpofmcfgaaGreatB169
set_option linter.unusedVariables false
set_option linter.unusedSimpArgs false
namespace Go.Proofs.YtfihklpofmcfgaaGreat
open Go.RowKit
set_option maxHeartbeats 16000000 in
set_option maxRecDepth 100000 in
theorem balance_any (I : AImpl) (K : RotImpl I) (KN : ShNum) {p : Value} {A : Ar} {rd : Int} {F : Nat → Prop} {held : Nat → Nat} {L R : Nat} {tl tr : Tr} {ll lr : List En} (e : En) (w : World) (hI : I.Is w p A rd F) (hv : A.Inv [] held) (ha : A.Agg) (hm : ∀ j, held j ≤ 1048490)
    (hL : At A L tl ll) (hR : At A R tr lr) (hwl : WfL ll) (hwr : WfL lr) (hwe : i64R e.key ∧ i64R e.val) (hb : HbL ll lr) (hs : ll.length + lr.length + 1 ≤ 2147483647) (h0 : 0 ≤ rd) (h1 : rd ≤ 2199023254900) (hfr : (wbL ll lr ∧ 1 ≤ A.σ.free.length) ∨ 4 ≤ A.σ.free.length) :
    Calls Tryz.prog 124 #[p, .int .u32 (L : Int), .agg #[Value.int .i64 e.key, .int .i64 e.val], .int .u32 (R : Int)] w (Mut I p F (BalQ A A rd held ll lr e) w) := by
  obtain ⟨pa, rfl⟩ := I.ptr hI
  have hs0 := (Ins.start hI).box #[Value.int .i64 e.key, .int .i64 e.val] 69
  have HK := Lib.hid K
  have HKN := Lib.hid KN
  have HV := Lib.hid hv
  have HA := Lib.hid ha
  have HM := Lib.hid hm
  have HLA := Lib.hid hL
  have HRA := Lib.hid hR
  have HWE := Lib.hid hwe
  have HB := Lib.hid hb
  have HSZ := Lib.hid hs
  have HFR := Lib.hid hfr
  have HRD : Hid (0 ≤ rd ∧ rd ≤ 2199023254900) := ⟨h0, h1⟩
  obtain ⟨i1, t1, hf⟩ : ∃ i t, A.σ.free = i :: t := by
    cases hq : A.σ.free with
    | nil => rw [hq] at hfr; simp at hfr
    | cons i t => exact ⟨i, t, rfl⟩
  have hnl := hL.sz ha
  have hnr := hR.sz ha
  have hsz : (A.node e.key e.val L R).size ≤ 2147483647 := by show 1 + A.sz L + A.sz R ≤ _; omega
  obtain ⟨m1, m2, m3, m4, m5, m6⟩ := (Mid.start hv ha).made hf (key := e.key) (val := e.val) hL.idx hR.idx hsz
  have hal := alone_made hv hf (key := e.key) (val := e.val) hL.idx hR.idx
  have hoff : A.σ.on i1 = false := ((hv.ok.free i1).1 (by rw [hf]; simp)).2.2
  have HF := Lib.hid hf
  have HMK : Hid (A.Idx L ∧ A.Idx R ∧ (A.node e.key e.val L R).size ≤ 2147483647) := ⟨hL.idx, hR.idx, hsz⟩
  obtain ⟨A1, hA1⟩ : ∃ B, A.made i1 t1 (A.node e.key e.val L R) = B := ⟨_, rfl⟩
  rw [hA1] at m1 m2 m3 m5 m6 hal
  have HM1 : Hid (Mid A held A1 [i1] ∧ A.Kept A1 ∧ A1.σ.free.length + 1 = A.σ.free.length) := ⟨m1, m2, by rw [m3, hf]; rfl⟩
  have HN1 : Hid (i1 ≠ 0 ∧ A1.σ.on i1 = true ∧ ((A1.nd i1).key = e.key ∧ (A1.nd i1).val = e.val ∧ (A1.nd i1).left = L ∧ (A1.nd i1).right = R) ∧ Alone A1 i1 ∧ A.σ.on i1 = false) := ⟨m4, m5, by rw [m6]; exact ⟨rfl, rfl, rfl, rfl⟩, hal, hoff⟩
  have HZ : Hid (A1.sz L = (ll.length : Int) ∧ A1.sz R = (lr.length : Int) ∧ A1.Idx L ∧ A1.Idx R ∧ L < 4294967296 ∧ R < 4294967296 ∧ i1 < 4294967296) := ⟨(hL.kept m2).sz m1.agg, (hR.kept m2).sz m1.agg, (hL.kept m2).idx, (hR.kept m2).idx, idx_lt32 hv hL.idx, idx_lt32 hv hR.idx, idx_lt32 m1.inv (.inr m5)⟩
  have HWL : Hid (WfL (ll ++ e :: lr)) := hwl.mid hwe hwr
  have HA1 := Lib.hid hA1
  clear hI hv ha hm hL hR hwl hwr hwe hb hs h0 h1 hfr hf hnl hnr hsz m1 m2 m3 m4 m5 m6 hal hoff hA1 K KN
  go_enter Tryz.func124, Tryz.ntmps124
  go_upto_region 1 with fail
  generalize w.alloc (Obj.cells #[Value.int .i64 e.key, .int .i64 e.val] 69) = w1 at hs0 ⊢
  generalize w.heap.size = g at hs0 ⊢
  have HS0 := Lib.hid hs0
  clear hs0
  obtain ⟨x0, x1⟩ := two_ofE (HS0.out.boxes (g, Obj.cells #[Value.int .i64 e.key, .int .i64 e.val] 69 (0, 0)) (by simp)).2
  go_wp2_with fail
  refine (HS0.out.make HV.out HA.out (fun j => Nat.le_trans (HM.out j) (by decide)) HWE.out.1 HWE.out.2 HMK.out.1 HMK.out.2.1 HMK.out.2.2 HF.out).mono ?_
  rintro en w2 ⟨rfl, hs⟩
  rw [HA1.out] at hs
  have HS1 := Lib.hid (hs.less (List.Sublist.refl _) (List.sublist_cons_self _ _))
  clear hs HS0 x0 x1
  go_wp2_with fail
  refine (HS1.out.sz HRD.out.1 (by have := HRD.out; omega) HZ.out.2.2.2.2.1 HZ.out.2.2.1 HM1.out.1.inv.ok).mono ?_
  rintro en w3 ⟨rfl, hs⟩
  rw [HZ.out.1]
  have HS2 := Lib.hid hs
  clear hs HS1
  go_wp2_with fail
  refine (HS2.out.sz (by have := HRD.out; (repeat' split) <;> omega) (by have := HRD.out; (repeat' split) <;> omega) HZ.out.2.2.2.2.2.1 HZ.out.2.2.2.1 HM1.out.1.inv.ok).mono ?_
  rintro en w4 ⟨rfl, hs⟩
  rw [HZ.out.2.1]
  obtain ⟨rd1, hrd1⟩ : ∃ r, (rd + if L = 0 then 0 else 1) + (if R = 0 then 0 else 1) = r := ⟨_, rfl⟩
  have HR1 : Hid (rd ≤ rd1 ∧ rd1 ≤ rd + 2) := by
    show rd ≤ rd1 ∧ rd1 ≤ rd + 2
    rw [← hrd1]
    (repeat' split) <;> omega
  rw [hrd1] at hs
  have HS3 := Lib.hid hs
  clear hs HS2 hrd1
  go_wp2_with fail
  refine (HKN.out.balanced (ll.length : Int) (lr.length : Int) w4 (by omega) (by have := HSZ.out; omega) (by omega) (by have := HSZ.out; omega)).mono ?_
  rintro en w5 ⟨rfl, hb5⟩
  have HS4 := Lib.hid (HS3.out.calm hb5)
  clear hb5 HS3
  obtain ⟨b, hbv⟩ : ∃ b, Proofs.YtfihklpofmcfgaaGreat.bal (ll.length : Int) (lr.length : Int) = b := ⟨_, rfl⟩
  rw [hbv]
  have HBV := Lib.hid hbv
  clear hbv
  cases b
  rotate_left
  · have hE := HS4.out.ends
    have hw := bal_wb HBV.out
    have HQ : Hid (BalQ A A rd held ll lr e (.returned (.tuple #[.int .u32 (i1 : Int), .int .i64 0])) A1 rd1) :=
      ⟨HR1.out.1, by have := HR1.out; omega, i1, _, rfl, HM1.out.1, At.join HM1.out.1.agg HN1.out.1 HN1.out.2.1 HN1.out.2.2.1 (HLA.out.kept HM1.out.2.1) (HRA.out.kept HM1.out.2.1) hw, fun _ => by have := HM1.out.2.2; omega, by have := HM1.out.2.2; omega⟩
    have HE := Lib.hid hE
    clear hE hw
    go_wp2_with fail
    go_ret2
    obtain ⟨F', hal, hI⟩ := HE.out
    exact ⟨F', A1, rd1, hal, hI, HQ.out⟩
  have hnw : ¬ wbL ll lr := fun q => by
    have h := HSZ.out
    have := wb_bal (a := ll.length) (b := lr.length) (by omega) (by omega) q
    rw [HBV.out] at this
    cases this
  have HNW := Lib.hid hnw
  have HF4 : Hid (4 ≤ A.σ.free.length) := HFR.out.resolve_left fun q => hnw q.1
  have hB2 := HB.out.resolve_left hnw
  clear hnw HFR HBV
  rcases hB2 with hB2 | hB2
  · have HH := Lib.hid hB2
    have hlt : decide ((ll.length : Int) < (lr.length : Int)) = true := decide_eq_true (by have := hB2.1; omega)
    have hlt2 : (ll.length : Int) < (lr.length : Int) := by have := hB2.1; omega
    clear hB2
    obtain ⟨g1, g2, g3, g4, g5⟩ := heavy_right HM1.out.1.inv HM1.out.1.agg HN1.out.2.1 HN1.out.2.2.1 (HLA.out.kept HM1.out.2.1) (HRA.out.kept HM1.out.2.1) HH.out.1 HH.out.2 HSZ.out
    obtain ⟨XN, hX⟩ : ∃ x, A1.nd R = x := ⟨_, rfl⟩
    rw [hX] at g2 g3 g4 g5
    have HX := Lib.hid hX
    have HON : Hid (A1.σ.on R = true) := g1
    have HXI : Hid (A1.Idx XN.left ∧ A1.Idx XN.right) := by have h := HM1.out.1.inv.child _ g1; rw [hX] at h; exact h
    obtain ⟨s, hsg⟩ : ∃ s, sgl (ll.length : Int) (A1.sz XN.left) (A1.sz XN.right) = s := ⟨_, rfl⟩
    rw [hsg] at g4 g5
    have HSG := Lib.hid hsg
    have HT : Hid (∃ k, k < 4 ∧ (k = if s = true then 0 else 2) ∧ rform A1 k i1 = true ∧ ∀ C hd' j, A1.Kept C → C.Inv [] hd' → C.Agg → RNodes A1 C k i1 j → ∃ t, At C j t (ll ++ e :: lr)) := by
      cases s
      · exact ⟨2, by decide, rfl, (g5 rfl).1, (g5 rfl).2⟩
      · exact ⟨0, by decide, rfl, (g4 rfl).1, (g4 rfl).2⟩
    have HLL : Hid (0 ≤ (ll.length : Int) ∧ (ll.length : Int) ≤ 2147483647) := ⟨by omega, by have := HSZ.out; omega⟩
    clear g1 g2 g3 g4 g5 hX hsg
    go_wp2_with fail
    refine (HS4.out.node (by have := HRD.out; have := HR1.out; omega) (by have := HRD.out; have := HR1.out; omega) HZ.out.2.2.2.2.2.1 HON.out).mono ?_
    rintro en w6 ⟨rfl, hs⟩
    rw [HX.out]
    unfold ndRow
    have hs1 := hs.box #[Value.int .i64 XN.key, .int .i64 XN.val, .int .u32 (XN.left : Int), .int .u32 (XN.right : Int), .int .i64 XN.size, .int .i64 XN.sum, .int .i64 XN.mn, .int .i64 XN.mx] 81
    clear hs HS4
    go_upto_region 8 with fail
    generalize w6.alloc (Obj.cells #[Value.int .i64 XN.key, .int .i64 XN.val, .int .u32 (XN.left : Int), .int .u32 (XN.right : Int), .int .i64 XN.size, .int .i64 XN.sum, .int .i64 XN.mn, .int .i64 XN.mx] 81) = w7 at hs1 ⊢
    generalize w6.heap.size = gx at hs1 ⊢
    have HS5 := Lib.hid hs1
    clear hs1
    obtain ⟨⟨x0, x1, x2, x3, x4, x5, x6, x7⟩, -⟩ := HS5.out.row8 (g := gx) (X := XN) (by simp [ndRow])
    obtain ⟨k, hk4, hks, hform, hres⟩ := HT.out
    have HK4 := Lib.hid hk4
    have HKS := Lib.hid hks
    have HFO := Lib.hid hform
    have HRES := Lib.hid hres
    have HRN : Hid (rneed k ≤ A1.σ.free.length) := by
      show rneed k ≤ _
      have h1 := HM1.out.2.2
      have h2 := HF4.out
      have h3 : rneed k ≤ 3 := by unfold rneed; split <;> omega
      omega
    have HWN : Hid (WfNear A1 i1) := by
      exact wf_near2 HM1.out.1.inv HN1.out.2.1 HN1.out.2.2.1 (HLA.out.kept HM1.out.2.1) (HRA.out.kept HM1.out.2.1) HWL.out HWE.out
    clear hk4 hks hform hres HT
    go_wp2_with fail
    refine (HS5.out.mut fun F1 hI1 => rotateLeft_any I HK.out HKN.out (k := k) (s := s) (X := XN) w7 hI1 HM1.out.1.inv HM1.out.1.agg HWN.out (fun j => Nat.le_trans (plL_le HM.out [i1] j) (show 1048490 + 1 ≤ 1048500 by decide)) (by have := HRD.out; have := HR1.out; omega) (by have := HRD.out; have := HR1.out; omega) HZ.out.2.2.2.2.2.2 HXI.out HLL.out HSG.out HKS.out HFO.out HRN.out).mono ?_
    rintro en w8 ⟨C, rd8, ⟨r0, r1, j, rfl, ht, hr⟩, hs8⟩
    have HS8 := Lib.hid hs8
    obtain ⟨u1, u2, u3, u4, u5⟩ := turn_end HM1.out.1 HN1.out.2.2.2.1 HN1.out.2.2.2.2 HN1.out.2.1 HFO.out HK4.out ht hr
    obtain ⟨tj, hj⟩ := HRES.out C _ j ht.kept ht.inv ht.agg hr
    have HU : Hid (C.Inv [i1] (plL held [j]) ∧ C.Idx i1) := ⟨u1, u2⟩
    have HQ : Hid (BalQ A A rd held ll lr e (.returned (.tuple #[.int .u32 (j : Int), .int .i64 0])) (C.gone i1) rd8) :=
      ⟨by have := HR1.out; omega, by have := HR1.out; omega, j, tj, rfl, u3, u5 _ _ hj, fun q => absurd q HNW.out, by have := HM1.out.2.2; omega⟩
    clear hs8 HS5 r0 r1 ht hr u1 u2 u3 u4 u5 hj x0 x1 x2 x3 x4 x5 x6 x7
    go_wp2_with fail
    refine (HS8.out.release HZ.out.2.2.2.2.2.2 HU.out.2 HU.out.1).mono ?_
    rintro en w9 ⟨rfl, hs9⟩
    have HE := Lib.hid hs9.ends
    clear hs9 HS8
    go_wp2_with fail
    go_ret2
    obtain ⟨F', hal, hI⟩ := HE.out
    exact ⟨F', _, rd8, hal, hI, HQ.out⟩
  · have HH := Lib.hid hB2
    have hlt : decide ((ll.length : Int) < (lr.length : Int)) = false := decide_eq_false (by have := hB2.1; omega)
    have hlt2 : ¬ (ll.length : Int) < (lr.length : Int) := by have := hB2.1; omega
    clear hB2
    obtain ⟨g1, g2, g3, g4, g5⟩ := heavy_left HM1.out.1.inv HM1.out.1.agg HN1.out.2.1 HN1.out.2.2.1 (HLA.out.kept HM1.out.2.1) (HRA.out.kept HM1.out.2.1) HH.out.1 HH.out.2 HSZ.out
    obtain ⟨XN, hX⟩ : ∃ x, A1.nd L = x := ⟨_, rfl⟩
    rw [hX] at g2 g3 g4 g5
    have HX := Lib.hid hX
    have HON : Hid (A1.σ.on L = true) := g1
    have HXI : Hid (A1.Idx XN.left ∧ A1.Idx XN.right) := by have h := HM1.out.1.inv.child _ g1; rw [hX] at h; exact h
    obtain ⟨s, hsg⟩ : ∃ s, sgl (lr.length : Int) (A1.sz XN.right) (A1.sz XN.left) = s := ⟨_, rfl⟩
    rw [hsg] at g4 g5
    have HSG := Lib.hid hsg
    have HT : Hid (∃ k, k < 4 ∧ (k = if s = true then 1 else 3) ∧ rform A1 k i1 = true ∧ ∀ C hd' j, A1.Kept C → C.Inv [] hd' → C.Agg → RNodes A1 C k i1 j → ∃ t, At C j t (ll ++ e :: lr)) := by
      cases s
      · exact ⟨3, by decide, rfl, (g5 rfl).1, (g5 rfl).2⟩
      · exact ⟨1, by decide, rfl, (g4 rfl).1, (g4 rfl).2⟩
    have HLL : Hid (0 ≤ (lr.length : Int) ∧ (lr.length : Int) ≤ 2147483647) := ⟨by omega, by have := HSZ.out; omega⟩
    clear g1 g2 g3 g4 g5 hX hsg
    go_wp2_with fail
    refine (HS4.out.node (by have := HRD.out; have := HR1.out; omega) (by have := HRD.out; have := HR1.out; omega) HZ.out.2.2.2.2.1 HON.out).mono ?_
    rintro en w6 ⟨rfl, hs⟩
    rw [HX.out]
    unfold ndRow
    have hs1 := hs.box #[Value.int .i64 XN.key, .int .i64 XN.val, .int .u32 (XN.left : Int), .int .u32 (XN.right : Int), .int .i64 XN.size, .int .i64 XN.sum, .int .i64 XN.mn, .int .i64 XN.mx] 81
    clear hs HS4
    go_upto_region 10 with fail
    generalize w6.alloc (Obj.cells #[Value.int .i64 XN.key, .int .i64 XN.val, .int .u32 (XN.left : Int), .int .u32 (XN.right : Int), .int .i64 XN.size, .int .i64 XN.sum, .int .i64 XN.mn, .int .i64 XN.mx] 81) = w7 at hs1 ⊢
    generalize w6.heap.size = gx at hs1 ⊢
    have HS5 := Lib.hid hs1
    clear hs1
    obtain ⟨⟨x0, x1, x2, x3, x4, x5, x6, x7⟩, -⟩ := HS5.out.row8 (g := gx) (X := XN) (by simp [ndRow])
    obtain ⟨k, hk4, hks, hform, hres⟩ := HT.out
    have HK4 := Lib.hid hk4
    have HKS := Lib.hid hks
    have HFO := Lib.hid hform
    have HRES := Lib.hid hres
    have HRN : Hid (rneed k ≤ A1.σ.free.length) := by
      show rneed k ≤ _
      have h1 := HM1.out.2.2
      have h2 := HF4.out
      have h3 : rneed k ≤ 3 := by unfold rneed; split <;> omega
      omega
    have HWN : Hid (WfNear A1 i1) := by
      exact wf_near2 HM1.out.1.inv HN1.out.2.1 HN1.out.2.2.1 (HLA.out.kept HM1.out.2.1) (HRA.out.kept HM1.out.2.1) HWL.out HWE.out
    clear hk4 hks hform hres HT
    go_wp2_with fail
    refine (HS5.out.mut fun F1 hI1 => rotateRight_any I HK.out HKN.out (k := k) (s := s) (X := XN) w7 hI1 HM1.out.1.inv HM1.out.1.agg HWN.out (fun j => Nat.le_trans (plL_le HM.out [i1] j) (show 1048490 + 1 ≤ 1048500 by decide)) (by have := HRD.out; have := HR1.out; omega) (by have := HRD.out; have := HR1.out; omega) HZ.out.2.2.2.2.2.2 HXI.out HLL.out HSG.out HKS.out HFO.out HRN.out).mono ?_
    rintro en w8 ⟨C, rd8, ⟨r0, r1, j, rfl, ht, hr⟩, hs8⟩
    have HS8 := Lib.hid hs8
    obtain ⟨u1, u2, u3, u4, u5⟩ := turn_end HM1.out.1 HN1.out.2.2.2.1 HN1.out.2.2.2.2 HN1.out.2.1 HFO.out HK4.out ht hr
    obtain ⟨tj, hj⟩ := HRES.out C _ j ht.kept ht.inv ht.agg hr
    have HU : Hid (C.Inv [i1] (plL held [j]) ∧ C.Idx i1) := ⟨u1, u2⟩
    have HQ : Hid (BalQ A A rd held ll lr e (.returned (.tuple #[.int .u32 (j : Int), .int .i64 0])) (C.gone i1) rd8) :=
      ⟨by have := HR1.out; omega, by have := HR1.out; omega, j, tj, rfl, u3, u5 _ _ hj, fun q => absurd q HNW.out, by have := HM1.out.2.2; omega⟩
    clear hs8 HS5 r0 r1 ht hr u1 u2 u3 u4 u5 hj x0 x1 x2 x3 x4 x5 x6 x7
    go_wp2_with fail
    refine (HS8.out.release HZ.out.2.2.2.2.2.2 HU.out.2 HU.out.1).mono ?_
    rintro en w9 ⟨rfl, hs9⟩
    have HE := Lib.hid hs9.ends
    clear hs9 HS8
    go_wp2_with fail
    go_ret2
    obtain ⟨F', hal, hI⟩ := HE.out
    exact ⟨F', _, rd8, hal, hI, HQ.out⟩
set_option maxHeartbeats 16000000 in
set_option maxRecDepth 100000 in
theorem withLeft_any (I : AImpl) (K : RotImpl I) (KN : ShNum) {p : Value} {A0 A : Ar} {rd : Int} {F : Nat → Prop} {held : Nat → Nat} {x : Nat} {X : Nd} {tl tr : Tr} {ll lr : List En} (w : World) (hI : I.Is w p A rd F) (hM : Mid A0 held A [x]) (hm : ∀ j, held j ≤ 1048480)
    (hL : At A x tl ll) (hR : At A X.right tr lr) (hwl : WfL ll) (hwr : WfL lr) (hwe : i64R X.key ∧ i64R X.val) (hb : HbL ll lr) (hs : ll.length + lr.length + 1 ≤ 2147483647) (h0 : 0 ≤ rd) (h1 : rd ≤ 2199023254900) (hfr : (wbL ll lr ∧ 1 ≤ A.σ.free.length) ∨ 4 ≤ A.σ.free.length) :
    Calls Tryz.prog 134 #[p, .int .u32 (x : Int), .agg #[Value.int .i64 X.key, .int .i64 X.val, .int .u32 (X.left : Int), .int .u32 (X.right : Int), .int .i64 X.size, .int .i64 X.sum, .int .i64 X.mn, .int .i64 X.mx]] w (Mut I p F (BalQ A0 A rd held ll lr ⟨X.key, X.val⟩) w) := by
  obtain ⟨pa, rfl⟩ := I.ptr hI
  have hs0 := (Ins.start hI).box #[Value.int .i64 X.key, .int .i64 X.val, .int .u32 (X.left : Int), .int .u32 (X.right : Int), .int .i64 X.size, .int .i64 X.sum, .int .i64 X.mn, .int .i64 X.mx] 81
  have HK := Lib.hid K
  have HKN := Lib.hid KN
  have HM := Lib.hid hM
  have HH := Lib.hid hm
  have HL := Lib.hid hL
  have HR := Lib.hid hR
  have HW : Hid (WfL ll ∧ WfL lr ∧ (i64R X.key ∧ i64R X.val)) := ⟨hwl, hwr, hwe⟩
  have HB := Lib.hid hb
  have HSZ := Lib.hid hs
  have HFR := Lib.hid hfr
  have HRD : Hid (0 ≤ rd ∧ rd ≤ 2199023254900) := ⟨h0, h1⟩
  clear hI hM hm hL hR hwl hwr hwe hb hs hfr h0 h1 K KN
  go_enter Tryz.func134, Tryz.ntmps134
  go_upto_region 1 with fail
  generalize w.alloc (Obj.cells #[Value.int .i64 X.key, .int .i64 X.val, .int .u32 (X.left : Int), .int .u32 (X.right : Int), .int .i64 X.size, .int .i64 X.sum, .int .i64 X.mn, .int .i64 X.mx] 81) = w1 at hs0 ⊢
  generalize w.heap.size = g at hs0 ⊢
  have HCEL : Hid (∀ {wx : World} {C : Ar} {rdx : Int}, Ins I w F (.pointer (some pa)) C rdx [] [(g, Obj.cells #[Value.int .i64 X.key, .int .i64 X.val, .int .u32 (X.left : Int), .int .u32 (X.right : Int), .int .i64 X.size, .int .i64 X.sum, .int .i64 X.mn, .int .i64 X.mx] 81 (0, 0))] wx → wx.cell? ⟨g, 0, none⟩ = some (.int .i64 X.key) ∧ wx.cell? ⟨g, 1, none⟩ = some (.int .i64 X.val) ∧ wx.cell? ⟨g, 2, none⟩ = some (.int .u32 (X.left : Int)) ∧ wx.cell? ⟨g, 3, none⟩ = some (.int .u32 (X.right : Int)) ∧ wx.cell? ⟨g, 4, none⟩ = some (.int .i64 X.size) ∧ wx.cell? ⟨g, 5, none⟩ = some (.int .i64 X.sum) ∧ wx.cell? ⟨g, 6, none⟩ = some (.int .i64 X.mn) ∧ wx.cell? ⟨g, 7, none⟩ = some (.int .i64 X.mx)) := fun {wx C rdx} hx => by
    obtain ⟨hq, -⟩ := hx.row8 (g := g) (X := X) (by simp [ndRow])
    exact hq
  have hsd := hs0.calm (Below.refl _ _).drew
  clear hs0
  refine anyG_begin (S := (fun w' => w'.cell? ⟨g, 0, none⟩ = some (.int .i64 X.key) ∧ w'.cell? ⟨g, 1, none⟩ = some (.int .i64 X.val) ∧ w'.cell? ⟨g, 2, none⟩ = some (.int .u32 (X.left : Int)) ∧ w'.cell? ⟨g, 3, none⟩ = some (.int .u32 (X.right : Int)) ∧ w'.cell? ⟨g, 4, none⟩ = some (.int .i64 X.size) ∧ w'.cell? ⟨g, 5, none⟩ = some (.int .i64 X.sum) ∧ w'.cell? ⟨g, 6, none⟩ = some (.int .i64 X.mn) ∧ w'.cell? ⟨g, 7, none⟩ = some (.int .i64 X.mx))) (z := 9999) (by kernel_rfl) (HCEL.out hsd) (fun hHeld => ?_)
  refine anyG_tk (v := ?_) 0 11 rfl (by kernel_rfl) (Or.inl ⟨by rfl, ?_⟩) (by assumption) ?_
  rotate_left
  · intro w hSw; (try dsimp only at hSw); go_simp; try with_reducible rfl
  (try simp only [Act.put, put_s])
  refine anyG_tk (v := ?_) 1 12 rfl (by kernel_rfl) (Or.inl ⟨by rfl, ?_⟩) (by assumption) ?_
  rotate_left
  · intro w hSw; (try dsimp only at hSw); go_simp; try with_reducible rfl
  (try simp only [Act.put, put_s])
  refine anyG_tk (v := ?_) 2 13 rfl (by kernel_rfl) (Or.inl ⟨by rfl, ?_⟩) (by assumption) ?_
  rotate_left
  · intro w hSw; (try dsimp only at hSw); go_simp; try with_reducible rfl
  (try simp only [Act.put, put_s])
  refine anyG_tk (v := ?_) 4 15 rfl (by kernel_rfl) (Or.inl ⟨by rfl, ?_⟩) (by assumption) ?_
  rotate_left
  · intro w hSw; (try dsimp only at hSw); go_simp; try with_reducible rfl
  (try simp only [Act.put, put_s])
  refine anyG_tk (v := ?_) 5 16 rfl (by kernel_rfl) (Or.inl ⟨by rfl, ?_⟩) (by assumption) ?_
  rotate_left
  · intro w hSw; (try dsimp only at hSw); go_simp; try with_reducible rfl
  (try simp only [Act.put, put_s])
  refine anyG_one (k := 3) (o := _) (by kernel_rfl) rfl (fun KT hKT => ?_)
  go_simp
  go_at_call 145
  refine (entryJ_any X _).mono ?_
  rintro eA wA ⟨rfl, hbA⟩
  have hsA := hsd.calm hbA
  try go_wp2_with fail
  refine hKT.out _ _ (HCEL.out hsA) (fun hHeld => ?_)
  clear hKT KT
  (try simp only [Act.put, put_s])
  refine anyG_one (k := 6) (o := _) (by kernel_rfl) rfl (fun KT hKT => ?_)
  go_simp
  go_at_call 124
  refine (hsA.mut fun F1 hI1 => balance_any I HK.out HKN.out ⟨X.key, X.val⟩ wA hI1 HM.out.inv HM.out.agg (fun j => Nat.le_trans (plL_le HH.out [x] j) (show 1048480 + 1 ≤ 1048490 by decide)) HL.out HR.out HW.out.1 HW.out.2.1 HW.out.2.2 HB.out HSZ.out HRD.out.1 HRD.out.2 HFR.out).mono ?_
  rintro eB wB ⟨B, rdB, ⟨b1, b2, j, t, rfl, b3, b4, b5, b6⟩, hsB⟩
  try go_wp2_with fail
  refine hKT.out _ _ (HCEL.out hsB) (fun hHeld => ?_)
  clear hKT KT
  (try simp only [Act.put, put_s])
  refine anyG_tk (v := ?_) 7 10 rfl (by kernel_rfl) (Or.inl ⟨by rfl, ?_⟩) (by assumption) ?_
  rotate_left
  · intro w hSw; (try dsimp only at hSw); go_simp; try with_reducible rfl
  (try simp only [Act.put, put_s])
  refine anyG_tk (v := ?_) 8 18 rfl (by kernel_rfl) (Or.inl ⟨by rfl, ?_⟩) (by assumption) ?_
  rotate_left
  · intro w hSw; (try dsimp only at hSw); go_simp; try with_reducible rfl
  (try simp only [Act.put, put_s])
  refine anyG_tk (v := ?_) 9 19 rfl (by kernel_rfl) (Or.inl ⟨by rfl, ?_⟩) (by assumption) ?_
  rotate_left
  · intro w hSw; (try dsimp only at hSw); go_simp; try with_reducible rfl
  (try simp only [Act.put, put_s])
  refine anyG_tk (v := ?_) 10 8 rfl (by kernel_rfl) (Or.inl ⟨by rfl, ?_⟩) (by assumption) ?_
  rotate_left
  · intro w hSw; (try dsimp only at hSw); go_simp; try with_reducible rfl
  (try simp only [Act.put, put_s])
  refine anyG_tk (v := ?_) 11 9 rfl (by kernel_rfl) (Or.inl ⟨by rfl, ?_⟩) (by assumption) ?_
  rotate_left
  · intro w hSw; (try dsimp only at hSw); go_simp; try with_reducible rfl
  (try simp only [Act.put, put_s])
  refine anyG_done (by kernel_rfl) ?_ _
  obtain ⟨u1, u2, u3, u4, u5⟩ := nest_give HM.out b3 b4
  have HSB := Lib.hid hsB
  have HU : Hid (B.Inv [x] (plL held [j]) ∧ B.Idx x ∧ x < 4294967296) := ⟨u1, u2, idx_lt32 b3.inv u2⟩
  have HQ : Hid (BalQ A0 A rd held ll lr ⟨X.key, X.val⟩ (.returned (.tuple #[.int .u32 (j : Int), .int .i64 0])) (B.gone x) rdB) := ⟨b1, b2, j, t, rfl, u3, u5, fun q => by have := b5 q; omega, by omega⟩
  clear hsB hsA hsd hbA hHeld HCEL b1 b2 b3 b4 b5 b6 u1 u2 u3 u4 u5
  go_wp2_with fail
  refine (HSB.out.release HU.out.2.2 HU.out.2.1 HU.out.1).mono ?_
  rintro en w9 ⟨rfl, hs9⟩
  have HE := Lib.hid hs9.ends
  clear hs9 HSB
  go_wp2_with fail
  go_ret2
  obtain ⟨F', hal, hI⟩ := HE.out
  exact ⟨F', _, rdB, hal, hI, HQ.out⟩
set_option maxHeartbeats 16000000 in
set_option maxRecDepth 100000 in
theorem withRight_any (I : AImpl) (K : RotImpl I) (KN : ShNum) {p : Value} {A0 A : Ar} {rd : Int} {F : Nat → Prop} {held : Nat → Nat} {x : Nat} {X : Nd} {tl tr : Tr} {ll lr : List En} (w : World) (hI : I.Is w p A rd F) (hM : Mid A0 held A [x]) (hm : ∀ j, held j ≤ 1048480)
    (hL : At A X.left tl ll) (hR : At A x tr lr) (hwl : WfL ll) (hwr : WfL lr) (hwe : i64R X.key ∧ i64R X.val) (hb : HbL ll lr) (hs : ll.length + lr.length + 1 ≤ 2147483647) (h0 : 0 ≤ rd) (h1 : rd ≤ 2199023254900) (hfr : (wbL ll lr ∧ 1 ≤ A.σ.free.length) ∨ 4 ≤ A.σ.free.length) :
    Calls Tryz.prog 146 #[p, .agg #[Value.int .i64 X.key, .int .i64 X.val, .int .u32 (X.left : Int), .int .u32 (X.right : Int), .int .i64 X.size, .int .i64 X.sum, .int .i64 X.mn, .int .i64 X.mx], .int .u32 (x : Int)] w (Mut I p F (BalQ A0 A rd held ll lr ⟨X.key, X.val⟩) w) := by
  obtain ⟨pa, rfl⟩ := I.ptr hI
  have hs0 := (Ins.start hI).box #[Value.int .i64 X.key, .int .i64 X.val, .int .u32 (X.left : Int), .int .u32 (X.right : Int), .int .i64 X.size, .int .i64 X.sum, .int .i64 X.mn, .int .i64 X.mx] 81
  have HK := Lib.hid K
  have HKN := Lib.hid KN
  have HM := Lib.hid hM
  have HH := Lib.hid hm
  have HL := Lib.hid hL
  have HR := Lib.hid hR
  have HW : Hid (WfL ll ∧ WfL lr ∧ (i64R X.key ∧ i64R X.val)) := ⟨hwl, hwr, hwe⟩
  have HB := Lib.hid hb
  have HSZ := Lib.hid hs
  have HFR := Lib.hid hfr
  have HRD : Hid (0 ≤ rd ∧ rd ≤ 2199023254900) := ⟨h0, h1⟩
  clear hI hM hm hL hR hwl hwr hwe hb hs hfr h0 h1 K KN
  go_enter Tryz.func146, Tryz.ntmps146
  go_upto_region 1 with fail
  generalize w.alloc (Obj.cells #[Value.int .i64 X.key, .int .i64 X.val, .int .u32 (X.left : Int), .int .u32 (X.right : Int), .int .i64 X.size, .int .i64 X.sum, .int .i64 X.mn, .int .i64 X.mx] 81) = w1 at hs0 ⊢
  generalize w.heap.size = g at hs0 ⊢
  have HCEL : Hid (∀ {wx : World} {C : Ar} {rdx : Int}, Ins I w F (.pointer (some pa)) C rdx [] [(g, Obj.cells #[Value.int .i64 X.key, .int .i64 X.val, .int .u32 (X.left : Int), .int .u32 (X.right : Int), .int .i64 X.size, .int .i64 X.sum, .int .i64 X.mn, .int .i64 X.mx] 81 (0, 0))] wx → wx.cell? ⟨g, 0, none⟩ = some (.int .i64 X.key) ∧ wx.cell? ⟨g, 1, none⟩ = some (.int .i64 X.val) ∧ wx.cell? ⟨g, 2, none⟩ = some (.int .u32 (X.left : Int)) ∧ wx.cell? ⟨g, 3, none⟩ = some (.int .u32 (X.right : Int)) ∧ wx.cell? ⟨g, 4, none⟩ = some (.int .i64 X.size) ∧ wx.cell? ⟨g, 5, none⟩ = some (.int .i64 X.sum) ∧ wx.cell? ⟨g, 6, none⟩ = some (.int .i64 X.mn) ∧ wx.cell? ⟨g, 7, none⟩ = some (.int .i64 X.mx)) := fun {wx C rdx} hx => by
    obtain ⟨hq, -⟩ := hx.row8 (g := g) (X := X) (by simp [ndRow])
    exact hq
  have hsd := hs0.calm (Below.refl _ _).drew
  clear hs0
  refine anyG_begin (S := (fun w' => w'.cell? ⟨g, 0, none⟩ = some (.int .i64 X.key) ∧ w'.cell? ⟨g, 1, none⟩ = some (.int .i64 X.val) ∧ w'.cell? ⟨g, 2, none⟩ = some (.int .u32 (X.left : Int)) ∧ w'.cell? ⟨g, 3, none⟩ = some (.int .u32 (X.right : Int)) ∧ w'.cell? ⟨g, 4, none⟩ = some (.int .i64 X.size) ∧ w'.cell? ⟨g, 5, none⟩ = some (.int .i64 X.sum) ∧ w'.cell? ⟨g, 6, none⟩ = some (.int .i64 X.mn) ∧ w'.cell? ⟨g, 7, none⟩ = some (.int .i64 X.mx))) (z := 9999) (by kernel_rfl) (HCEL.out hsd) (fun hHeld => ?_)
  refine anyG_tk (v := ?_) 0 11 rfl (by kernel_rfl) (Or.inl ⟨by rfl, ?_⟩) (by assumption) ?_
  rotate_left
  · intro w hSw; (try dsimp only at hSw); go_simp; try with_reducible rfl
  (try simp only [Act.put, put_s])
  refine anyG_tk (v := ?_) 1 12 rfl (by kernel_rfl) (Or.inl ⟨by rfl, ?_⟩) (by assumption) ?_
  rotate_left
  · intro w hSw; (try dsimp only at hSw); go_simp; try with_reducible rfl
  (try simp only [Act.put, put_s])
  refine anyG_tk (v := ?_) 2 13 rfl (by kernel_rfl) (Or.inl ⟨by rfl, ?_⟩) (by assumption) ?_
  rotate_left
  · intro w hSw; (try dsimp only at hSw); go_simp; try with_reducible rfl
  (try simp only [Act.put, put_s])
  refine anyG_tk (v := ?_) 3 14 rfl (by kernel_rfl) (Or.inl ⟨by rfl, ?_⟩) (by assumption) ?_
  rotate_left
  · intro w hSw; (try dsimp only at hSw); go_simp; try with_reducible rfl
  (try simp only [Act.put, put_s])
  refine anyG_tk (v := ?_) 5 16 rfl (by kernel_rfl) (Or.inl ⟨by rfl, ?_⟩) (by assumption) ?_
  rotate_left
  · intro w hSw; (try dsimp only at hSw); go_simp; try with_reducible rfl
  (try simp only [Act.put, put_s])
  refine anyG_one (k := 4) (o := _) (by kernel_rfl) rfl (fun KT hKT => ?_)
  go_simp
  go_at_call 145
  refine (entryJ_any X _).mono ?_
  rintro eA wA ⟨rfl, hbA⟩
  have hsA := hsd.calm hbA
  try go_wp2_with fail
  refine hKT.out _ _ (HCEL.out hsA) (fun hHeld => ?_)
  clear hKT KT
  (try simp only [Act.put, put_s])
  refine anyG_one (k := 6) (o := _) (by kernel_rfl) rfl (fun KT hKT => ?_)
  go_simp
  go_at_call 124
  refine (hsA.mut fun F1 hI1 => balance_any I HK.out HKN.out ⟨X.key, X.val⟩ wA hI1 HM.out.inv HM.out.agg (fun j => Nat.le_trans (plL_le HH.out [x] j) (show 1048480 + 1 ≤ 1048490 by decide)) HL.out HR.out HW.out.1 HW.out.2.1 HW.out.2.2 HB.out HSZ.out HRD.out.1 HRD.out.2 HFR.out).mono ?_
  rintro eB wB ⟨B, rdB, ⟨b1, b2, j, t, rfl, b3, b4, b5, b6⟩, hsB⟩
  try go_wp2_with fail
  refine hKT.out _ _ (HCEL.out hsB) (fun hHeld => ?_)
  clear hKT KT
  (try simp only [Act.put, put_s])
  refine anyG_tk (v := ?_) 7 10 rfl (by kernel_rfl) (Or.inl ⟨by rfl, ?_⟩) (by assumption) ?_
  rotate_left
  · intro w hSw; (try dsimp only at hSw); go_simp; try with_reducible rfl
  (try simp only [Act.put, put_s])
  refine anyG_tk (v := ?_) 8 18 rfl (by kernel_rfl) (Or.inl ⟨by rfl, ?_⟩) (by assumption) ?_
  rotate_left
  · intro w hSw; (try dsimp only at hSw); go_simp; try with_reducible rfl
  (try simp only [Act.put, put_s])
  refine anyG_tk (v := ?_) 9 19 rfl (by kernel_rfl) (Or.inl ⟨by rfl, ?_⟩) (by assumption) ?_
  rotate_left
  · intro w hSw; (try dsimp only at hSw); go_simp; try with_reducible rfl
  (try simp only [Act.put, put_s])
  refine anyG_tk (v := ?_) 10 8 rfl (by kernel_rfl) (Or.inl ⟨by rfl, ?_⟩) (by assumption) ?_
  rotate_left
  · intro w hSw; (try dsimp only at hSw); go_simp; try with_reducible rfl
  (try simp only [Act.put, put_s])
  refine anyG_tk (v := ?_) 11 9 rfl (by kernel_rfl) (Or.inl ⟨by rfl, ?_⟩) (by assumption) ?_
  rotate_left
  · intro w hSw; (try dsimp only at hSw); go_simp; try with_reducible rfl
  (try simp only [Act.put, put_s])
  refine anyG_done (by kernel_rfl) ?_ _
  obtain ⟨u1, u2, u3, u4, u5⟩ := nest_give HM.out b3 b4
  have HSB := Lib.hid hsB
  have HU : Hid (B.Inv [x] (plL held [j]) ∧ B.Idx x ∧ x < 4294967296) := ⟨u1, u2, idx_lt32 b3.inv u2⟩
  have HQ : Hid (BalQ A0 A rd held ll lr ⟨X.key, X.val⟩ (.returned (.tuple #[.int .u32 (j : Int), .int .i64 0])) (B.gone x) rdB) := ⟨b1, b2, j, t, rfl, u3, u5, fun q => by have := b5 q; omega, by omega⟩
  clear hsB hsA hsd hbA hHeld HCEL b1 b2 b3 b4 b5 b6 u1 u2 u3 u4 u5
  go_wp2_with fail
  refine (HSB.out.release HU.out.2.2 HU.out.2.1 HU.out.1).mono ?_
  rintro en w9 ⟨rfl, hs9⟩
  have HE := Lib.hid hs9.ends
  clear hs9 HSB
  go_wp2_with fail
  go_ret2
  obtain ⟨F', hal, hI⟩ := HE.out
  exact ⟨F', _, rdB, hal, hI, HQ.out⟩
theorem jdl_zero {n : Nat} : ∀ {t : Tr}, ¬ 3 * (n + 1) < t.size + 1 → jdl n t = 0
  | .nil, _ => rfl
  | .node i l r, h => by
    have hz : (Tr.node i l r).size = l.size + r.size + 1 := rfl
    unfold jdl
    rw [if_neg (by omega)]
theorem jdr_zero {n : Nat} : ∀ {t : Tr}, ¬ 3 * (n + 1) < t.size + 1 → jdr n t = 0
  | .nil, _ => rfl
  | .node i l r, h => by
    have hz : (Tr.node i l r).size = l.size + r.size + 1 := rfl
    unfold jdr
    rw [if_neg (by omega)]
/-- one level down on the left of the heavier tree -/
theorem jd_left {t l r : Tr} {i : Nat} (h : 3 * (t.size + 1) < (Tr.node i l r).size + 1) (hw : wb (l.size + 1) (r.size + 1)) : jd t (.node i l r) = jd t l + 1 := by
  have hz : (Tr.node i l r).size = l.size + r.size + 1 := rfl
  have h2 := hw.2
  unfold jd
  rw [if_pos h]
  have e : jdl t.size (.node i l r) = 1 + jdl t.size l := by rw [jdl, if_pos (by omega)]
  rw [e]
  by_cases hc : 3 * (t.size + 1) < l.size + 1
  · rw [if_pos hc]; omega
  · rw [if_neg hc, jdl_zero hc, jdr_zero (by omega)]
theorem jd_right {u l r : Tr} {i : Nat} (h : 3 * (u.size + 1) < (Tr.node i l r).size + 1) (hw : wb (l.size + 1) (r.size + 1)) : jd (.node i l r) u = jd r u + 1 := by
  have hz : (Tr.node i l r).size = l.size + r.size + 1 := rfl
  have h2 := hw.1
  unfold jd
  rw [if_neg (by omega)]
  have e : jdr u.size (.node i l r) = 1 + jdr u.size r := by rw [jdr, if_pos (by omega)]
  rw [e]
  by_cases hc : 3 * (r.size + 1) < u.size + 1
  · omega
  · rw [if_neg hc]; omega
/-- what link answers -/
def LnkQ (A : Ar) (rd bd : Int) (held : Nat → Nat) (L R n : Nat) (ll lr : List En) (e : En) (en : Ending) (B : Ar) (rd' : Int) : Prop :=
  rd ≤ rd' ∧ rd' ≤ rd + bd ∧ ∃ (j : Nat) (t : Tr), en = .returned (.tuple #[.int .u32 (j : Int), .int .i64 0]) ∧ Mid A held B [j] ∧ At B j t (ll ++ e :: lr) ∧ A.σ.free.length ≤ B.σ.free.length + 3 * n + 1 ∧ (wbL ll lr → (B.nd j).left = L ∧ (B.nd j).right = R ∧ B.σ.free.length + 1 = A.σ.free.length)
/-- what is given to link -/
structure LnkP (k : Int) (I : AImpl) (w : World) (p : Value) (A : Ar) (rd : Int) (F : Nat → Prop) (held : Nat → Nat) (L R : Nat) (tl tr : Tr) (ll lr : List En) (e : En) : Prop where
  is : I.Is w p A rd F
  inv : A.Inv [] held
  agg : A.Agg
  few : ∀ j, held j ≤ 1048400
  left : At A L tl ll
  right : At A R tr lr
  wfl : WfL ll
  wfr : WfL lr
  wfe : i64R e.key ∧ i64R e.val
  size : ll.length + lr.length + 1 ≤ 2147483647
  rd0 : 0 ≤ rd
  rd1 : rd + 14 * (jd tl tr : Int) + k ≤ 2199023254000
  room : 3 * jd tl tr + 4 ≤ A.σ.free.length
def LinkOk (I : AImpl) (n : Nat) : Prop := ∀ {p : Value} {A : Ar} {rd : Int} {F : Nat → Prop} {held : Nat → Nat} {L R : Nat} {tl tr : Tr} {ll lr : List En} (e : En) (w : World), LnkP 2 I w p A rd F held L R tl tr ll lr e → ll.length + lr.length < n →
    Calls Tryz.prog 123 #[p, .int .u32 (L : Int), .agg #[Value.int .i64 e.key, .int .i64 e.val], .int .u32 (R : Int)] w (Mut I p F (LnkQ A rd (14 * (jd tl tr : Int) + 2) held L R (jd tl tr) ll lr e) w)
set_option maxHeartbeats 16000000 in
set_option maxRecDepth 100000 in
theorem linkLeft_any (I : AImpl) (K : RotImpl I) (KN : ShNum) {n : Nat} (ih : LinkOk I n) {p : Value} {A : Ar} {rd : Int} {F : Nat → Prop} {held : Nat → Nat} {L R : Nat} {tl tr : Tr} {ll lr : List En} (e : En) (w : World) (hP : LnkP 0 I w p A rd F held L R tl tr ll lr e) (hn : ll.length + lr.length < n + 1) (hc : 3 * (ll.length + 1) < lr.length + 1) :
    Calls Tryz.prog 136 #[p, .int .u32 (L : Int), .agg #[Value.int .i64 e.key, .int .i64 e.val], .int .u32 (R : Int)] w (Mut I p F (LnkQ A rd (14 * (jd tl tr : Int)) held L R (jd tl tr) ll lr e) w) := by
  obtain ⟨pa, rfl⟩ := I.ptr hP.is
  have hs0 := (Ins.start hP.is).box #[Value.int .i64 e.key, .int .i64 e.val] 69
  have HK := Lib.hid K
  have HKN := Lib.hid KN
  have HIH : Hid (LinkOk I n) := @ih
  have hnw : ¬ wbL ll lr := fun q => by have h1 := q.1; have h2 := q.2; omega
  have HNW := Lib.hid hnw
  have hR0 : R ≠ 0 := fun q => by
    have := (hP.right.zero_iff (held := held)).1 q
    rw [this] at hc
    simp at hc
  have hon := hP.right.idx.resolve_left hR0
  have hsp := hP.right.split hR0
  obtain ⟨XN, hX⟩ : ∃ x, A.nd R = x := ⟨_, rfl⟩
  rw [hX] at hsp
  have HX := Lib.hid hX
  have HON := Lib.hid hon
  have HI32 : Hid (R < 4294967296) := idx_lt32 hP.inv (.inr hon)
  obtain ⟨ta, tb, la, lb, rfl, rfl, hA, hB, hab⟩ := hsp
  have hsA := hA.size
  have hsB := hB.size
  have hsL := hP.left.size
  have hlen : (la ++ (⟨XN.key, XN.val⟩ : En) :: lb).length = la.length + lb.length + 1 := by simp; omega
  have hjd : jd tl (.node R ta tb) = jd tl ta + 1 := jd_left (by show 3 * (tl.size + 1) < ta.size + tb.size + 1 + 1; omega) (by rw [hsA, hsB]; exact hab)
  have h1 := hab.1
  have h2 := hab.2
  have hin : (ll ++ e :: la).length = ll.length + la.length + 1 := by simp; omega
  have hHB : HbL (ll ++ e :: la) lb := by
    unfold HbL wbL
    rw [hin]
    by_cases hq : 3 * (lb.length + 1) < ll.length + la.length + 1 + 1
    · exact .inr (.inr ⟨hq, by have := hv_join (l := lb.length + 1) (r := la.length + 1) (x := ll.length + 1) ⟨h2, h1⟩ (by omega); rw [show ll.length + la.length + 1 + 1 = la.length + 1 + (ll.length + 1) by omega]; exact this⟩)
    · exact .inl ⟨by omega, by omega⟩
  have HHB := Lib.hid hHB
  have hww := hP.wfr
  have HWW : Hid (WfL la ∧ WfL lb ∧ (i64R XN.key ∧ i64R XN.val) ∧ WfL (ll ++ e :: la)) := ⟨hww.left, hww.right.tail, hww (⟨XN.key, XN.val⟩ : En) (by simp), hP.wfl.mid hP.wfe hww.left⟩
  have hsz := hP.size
  have HSZ : Hid (ll.length + la.length + 1 ≤ 2147483647 ∧ (ll ++ e :: la).length + lb.length + 1 ≤ 2147483647 ∧ ll.length + la.length < n) := ⟨by omega, by omega, by omega⟩
  have HJ : Hid (jd tl (.node R ta tb) = jd tl ta + 1) := hjd
  have hro := hP.room
  have hr1 := hP.rd1
  rw [hjd] at hro hr1
  have HRO : Hid (3 * jd tl ta + 7 ≤ A.σ.free.length ∧ 0 ≤ rd ∧ rd + 14 * (jd tl ta : Int) + 14 ≤ 2199023254000) := ⟨by omega, hP.rd0, by omega⟩
  have HA := Lib.hid hA
  have HB := Lib.hid hB
  have HEQ : Hid ((ll ++ e :: la) ++ (⟨XN.key, XN.val⟩ : En) :: lb = ll ++ e :: (la ++ (⟨XN.key, XN.val⟩ : En) :: lb)) := by show _ = _; rw [List.append_assoc]; rfl
  have HP : Hid (A.Inv [] held ∧ A.Agg ∧ (∀ j, held j ≤ 1048400) ∧ At A L tl ll ∧ WfL ll ∧ (i64R e.key ∧ i64R e.val)) := ⟨hP.inv, hP.agg, hP.few, hP.left, hP.wfl, hP.wfe⟩
  clear hP ih hn hc hnw hR0 hon hX hA hB hab hsA hsB hsL hlen hjd h1 h2 hin hHB hww hsz hro hr1 K KN
  go_enter Tryz.func136, Tryz.ntmps136
  go_upto_region 1 with fail
  generalize w.alloc (Obj.cells #[Value.int .i64 e.key, .int .i64 e.val] 69) = w1 at hs0 ⊢
  generalize w.heap.size = ge at hs0 ⊢
  have HS0 := Lib.hid hs0
  clear hs0
  go_wp2_with fail
  refine (HS0.out.call fun F1 hI1 => readJ_any I w1 hI1 HP.out.1 HP.out.2.1 HON.out HX.out HRO.out.2.1 (by have := HRO.out; omega)).mono ?_
  rintro en w2 ⟨rfl, rd1, hs, r1, r2⟩
  have HR1 : Hid (rd ≤ rd1 ∧ rd1 ≤ rd + 3) := ⟨r1, r2⟩
  have hs1 := hs.box #[Value.int .i64 XN.key, .int .i64 XN.val, .int .u32 (XN.left : Int), .int .u32 (XN.right : Int), .int .i64 XN.size, .int .i64 XN.sum, .int .i64 XN.mn, .int .i64 XN.mx] 81
  clear hs HS0 r1 r2
  go_upto_region 4 with fail
  generalize w2.alloc (Obj.cells #[Value.int .i64 XN.key, .int .i64 XN.val, .int .u32 (XN.left : Int), .int .u32 (XN.right : Int), .int .i64 XN.size, .int .i64 XN.sum, .int .i64 XN.mn, .int .i64 XN.mx] 81) = w3 at hs1 ⊢
  generalize w2.heap.size = gx at hs1 ⊢
  have HS1 := Lib.hid hs1
  clear hs1
  obtain ⟨⟨x0, x1, x2, x3, x4, x5, x6, x7⟩, -⟩ := HS1.out.row8 (g := gx) (X := XN) (by simp [ndRow])
  obtain ⟨y0, y1⟩ := two_ofE (HS1.out.boxes (ge, Obj.cells #[Value.int .i64 e.key, .int .i64 e.val] 69 (0, 0)) (by simp)).2
  go_wp2_with fail
  refine (HS1.out.mut fun F1 hI1 => HIH.out e w3 ⟨hI1, HP.out.1, HP.out.2.1, HP.out.2.2.1, HP.out.2.2.2.1, HA.out, HP.out.2.2.2.2.1, HWW.out.1, HP.out.2.2.2.2.2, HSZ.out.1, by have := HRO.out; have := HR1.out; omega, by have := HRO.out; have := HR1.out; omega, by have := HRO.out; omega⟩ HSZ.out.2.2).mono ?_
  rintro en w4 ⟨B, rd4, ⟨q0, q1, j, t, rfl, q2, q3, q4, -⟩, hs4⟩
  have HR4 : Hid (rd ≤ rd4 ∧ rd4 ≤ rd + 14 * (jd tl ta : Int) + 5) := ⟨by have := HR1.out; omega, by have := HR1.out; omega⟩
  have HS4 := Lib.hid hs4
  have HM4 := Lib.hid q2
  have HT4 := Lib.hid q3
  have HF4 : Hid (A.σ.free.length ≤ B.σ.free.length + 3 * jd tl ta + 1 ∧ 4 ≤ B.σ.free.length) := ⟨q4, by have := HRO.out; omega⟩
  clear q0 q1 q2 q3 q4 hs4 HS1 x0 x1 x2 x3 x4 x5 x6 x7 y0 y1
  obtain ⟨⟨x0, x1, x2, x3, x4, x5, x6, x7⟩, -⟩ := HS4.out.row8 (g := gx) (X := XN) (by simp [ndRow])
  go_wp2_with fail
  refine (HS4.out.mut fun F1 hI1 => withLeft_any I HK.out HKN.out (X := XN) w4 hI1 HM4.out (fun j => Nat.le_trans (HP.out.2.2.1 j) (by decide)) HT4.out (HB.out.kept HM4.out.kept) HWW.out.2.2.2 HWW.out.2.1 HWW.out.2.2.1 HHB.out HSZ.out.2.1 (by have := HRO.out; have := HR4.out; omega) (by have := HRO.out; have := HR4.out; omega) (.inr HF4.out.2)).mono ?_
  rintro en w5 ⟨C, rd5, ⟨q0, q1, j2, t2, rfl, q2, q3, -, q4⟩, hs5⟩
  rw [HEQ.out] at q3
  have HQ : Hid (LnkQ A rd (14 * (jd tl (.node R ta tb) : Int)) held L R (jd tl (.node R ta tb)) ll (la ++ (⟨XN.key, XN.val⟩ : En) :: lb) e (.returned (.tuple #[.int .u32 (j2 : Int), .int .i64 0])) C rd5) := by
    refine ⟨by have := HR4.out; omega, ?_, j2, t2, rfl, q2, q3, ?_, fun q => absurd q HNW.out⟩
    · have h1 := HR4.out
      rw [HJ.out]
      omega
    · have h1 := HF4.out
      rw [HJ.out]
      omega
  have HE := Lib.hid hs5.ends
  clear q0 q1 q2 q3 q4 hs5 HS4 x0 x1 x2 x3 x4 x5 x6 x7
  go_wp2_with fail
  go_ret2
  obtain ⟨F', hal, hI⟩ := HE.out
  exact ⟨F', C, rd5, hal, hI, HQ.out⟩
set_option maxHeartbeats 16000000 in
set_option maxRecDepth 100000 in
theorem linkRight_any (I : AImpl) (K : RotImpl I) (KN : ShNum) {n : Nat} (ih : LinkOk I n) {p : Value} {A : Ar} {rd : Int} {F : Nat → Prop} {held : Nat → Nat} {L R : Nat} {tl tr : Tr} {ll lr : List En} (e : En) (w : World) (hP : LnkP 0 I w p A rd F held L R tl tr ll lr e) (hn : ll.length + lr.length < n + 1) (hc : 3 * (lr.length + 1) < ll.length + 1) :
    Calls Tryz.prog 137 #[p, .int .u32 (L : Int), .agg #[Value.int .i64 e.key, .int .i64 e.val], .int .u32 (R : Int)] w (Mut I p F (LnkQ A rd (14 * (jd tl tr : Int)) held L R (jd tl tr) ll lr e) w) := by
  obtain ⟨pa, rfl⟩ := I.ptr hP.is
  have hs0 := (Ins.start hP.is).box #[Value.int .i64 e.key, .int .i64 e.val] 69
  have HK := Lib.hid K
  have HKN := Lib.hid KN
  have HIH : Hid (LinkOk I n) := @ih
  have hnw : ¬ wbL ll lr := fun q => by have h1 := q.1; have h2 := q.2; omega
  have HNW := Lib.hid hnw
  have hR0 : L ≠ 0 := fun q => by
    have := (hP.left.zero_iff (held := held)).1 q
    rw [this] at hc
    simp at hc
  have hon := hP.left.idx.resolve_left hR0
  have hsp := hP.left.split hR0
  obtain ⟨XN, hX⟩ : ∃ x, A.nd L = x := ⟨_, rfl⟩
  rw [hX] at hsp
  have HX := Lib.hid hX
  have HON := Lib.hid hon
  have HI32 : Hid (L < 4294967296) := idx_lt32 hP.inv (.inr hon)
  obtain ⟨ta, tb, la, lb, rfl, rfl, hA, hB, hab⟩ := hsp
  have hsA := hA.size
  have hsB := hB.size
  have hsL := hP.right.size
  have hlen : (la ++ (⟨XN.key, XN.val⟩ : En) :: lb).length = la.length + lb.length + 1 := by simp; omega
  have hjd : jd (.node L ta tb) tr = jd tb tr + 1 := jd_right (by show 3 * (tr.size + 1) < ta.size + tb.size + 1 + 1; omega) (by rw [hsA, hsB]; exact hab)
  have h1 := hab.1
  have h2 := hab.2
  have hin : (lb ++ e :: lr).length = lr.length + lb.length + 1 := by simp; omega
  have hHB : HbL la (lb ++ e :: lr) := by
    unfold HbL wbL
    rw [hin]
    by_cases hq : 3 * (la.length + 1) < lr.length + lb.length + 1 + 1
    · exact .inr (.inl ⟨hq, by have := hv_join (l := la.length + 1) (r := lb.length + 1) (x := lr.length + 1) ⟨h1, h2⟩ (by omega); rw [show lr.length + lb.length + 1 + 1 = lb.length + 1 + (lr.length + 1) by omega]; exact this⟩)
    · exact .inl ⟨by omega, by omega⟩
  have HHB := Lib.hid hHB
  have hww := hP.wfl
  have HWW : Hid (WfL lb ∧ WfL la ∧ (i64R XN.key ∧ i64R XN.val) ∧ WfL (lb ++ e :: lr)) := ⟨hww.right.tail, hww.left, hww (⟨XN.key, XN.val⟩ : En) (by simp), hww.right.tail.mid hP.wfe hP.wfr⟩
  have hsz := hP.size
  have HSZ : Hid (lb.length + lr.length + 1 ≤ 2147483647 ∧ la.length + (lb ++ e :: lr).length + 1 ≤ 2147483647 ∧ lb.length + lr.length < n) := ⟨by omega, by omega, by omega⟩
  have HJ : Hid (jd (.node L ta tb) tr = jd tb tr + 1) := hjd
  have hro := hP.room
  have hr1 := hP.rd1
  rw [hjd] at hro hr1
  have HRO : Hid (3 * jd tb tr + 7 ≤ A.σ.free.length ∧ 0 ≤ rd ∧ rd + 14 * (jd tb tr : Int) + 14 ≤ 2199023254000) := ⟨by omega, hP.rd0, by omega⟩
  have HA := Lib.hid hA
  have HB := Lib.hid hB
  have HEQ : Hid (la ++ (⟨XN.key, XN.val⟩ : En) :: (lb ++ e :: lr) = (la ++ (⟨XN.key, XN.val⟩ : En) :: lb) ++ e :: lr) := by show _ = _; rw [List.append_assoc]; rfl
  have HP : Hid (A.Inv [] held ∧ A.Agg ∧ (∀ j, held j ≤ 1048400) ∧ At A R tr lr ∧ WfL lr ∧ (i64R e.key ∧ i64R e.val)) := ⟨hP.inv, hP.agg, hP.few, hP.right, hP.wfr, hP.wfe⟩
  clear hP ih hn hc hnw hR0 hon hX hA hB hab hsA hsB hsL hlen hjd h1 h2 hin hHB hww hsz hro hr1 K KN
  go_enter Tryz.func137, Tryz.ntmps137
  go_upto_region 1 with fail
  generalize w.alloc (Obj.cells #[Value.int .i64 e.key, .int .i64 e.val] 69) = w1 at hs0 ⊢
  generalize w.heap.size = ge at hs0 ⊢
  have HS0 := Lib.hid hs0
  clear hs0
  go_wp2_with fail
  refine (HS0.out.call fun F1 hI1 => readJ_any I w1 hI1 HP.out.1 HP.out.2.1 HON.out HX.out HRO.out.2.1 (by have := HRO.out; omega)).mono ?_
  rintro en w2 ⟨rfl, rd1, hs, r1, r2⟩
  have HR1 : Hid (rd ≤ rd1 ∧ rd1 ≤ rd + 3) := ⟨r1, r2⟩
  have hs1 := hs.box #[Value.int .i64 XN.key, .int .i64 XN.val, .int .u32 (XN.left : Int), .int .u32 (XN.right : Int), .int .i64 XN.size, .int .i64 XN.sum, .int .i64 XN.mn, .int .i64 XN.mx] 81
  clear hs HS0 r1 r2
  go_upto_region 4 with fail
  generalize w2.alloc (Obj.cells #[Value.int .i64 XN.key, .int .i64 XN.val, .int .u32 (XN.left : Int), .int .u32 (XN.right : Int), .int .i64 XN.size, .int .i64 XN.sum, .int .i64 XN.mn, .int .i64 XN.mx] 81) = w3 at hs1 ⊢
  generalize w2.heap.size = gx at hs1 ⊢
  have HS1 := Lib.hid hs1
  clear hs1
  obtain ⟨⟨x0, x1, x2, x3, x4, x5, x6, x7⟩, -⟩ := HS1.out.row8 (g := gx) (X := XN) (by simp [ndRow])
  obtain ⟨y0, y1⟩ := two_ofE (HS1.out.boxes (ge, Obj.cells #[Value.int .i64 e.key, .int .i64 e.val] 69 (0, 0)) (by simp)).2
  go_wp2_with fail
  refine (HS1.out.mut fun F1 hI1 => HIH.out e w3 ⟨hI1, HP.out.1, HP.out.2.1, HP.out.2.2.1, HB.out, HP.out.2.2.2.1, HWW.out.1, HP.out.2.2.2.2.1, HP.out.2.2.2.2.2, HSZ.out.1, by have := HRO.out; have := HR1.out; omega, by have := HRO.out; have := HR1.out; omega, by have := HRO.out; omega⟩ HSZ.out.2.2).mono ?_
  rintro en w4 ⟨B, rd4, ⟨q0, q1, j, t, rfl, q2, q3, q4, -⟩, hs4⟩
  have HR4 : Hid (rd ≤ rd4 ∧ rd4 ≤ rd + 14 * (jd tb tr : Int) + 5) := ⟨by have := HR1.out; omega, by have := HR1.out; omega⟩
  have HS4 := Lib.hid hs4
  have HM4 := Lib.hid q2
  have HT4 := Lib.hid q3
  have HF4 : Hid (A.σ.free.length ≤ B.σ.free.length + 3 * jd tb tr + 1 ∧ 4 ≤ B.σ.free.length) := ⟨q4, by have := HRO.out; omega⟩
  clear q0 q1 q2 q3 q4 hs4 HS1 x0 x1 x2 x3 x4 x5 x6 x7 y0 y1
  obtain ⟨⟨x0, x1, x2, x3, x4, x5, x6, x7⟩, -⟩ := HS4.out.row8 (g := gx) (X := XN) (by simp [ndRow])
  go_wp2_with fail
  refine (HS4.out.mut fun F1 hI1 => withRight_any I HK.out HKN.out (X := XN) w4 hI1 HM4.out (fun j => Nat.le_trans (HP.out.2.2.1 j) (by decide)) (HA.out.kept HM4.out.kept) HT4.out HWW.out.2.1 HWW.out.2.2.2 HWW.out.2.2.1 HHB.out HSZ.out.2.1 (by have := HRO.out; have := HR4.out; omega) (by have := HRO.out; have := HR4.out; omega) (.inr HF4.out.2)).mono ?_
  rintro en w5 ⟨C, rd5, ⟨q0, q1, j2, t2, rfl, q2, q3, -, q4⟩, hs5⟩
  rw [HEQ.out] at q3
  have HQ : Hid (LnkQ A rd (14 * (jd (.node L ta tb) tr : Int)) held L R (jd (.node L ta tb) tr) (la ++ (⟨XN.key, XN.val⟩ : En) :: lb) lr e (.returned (.tuple #[.int .u32 (j2 : Int), .int .i64 0])) C rd5) := by
    refine ⟨by have := HR4.out; omega, ?_, j2, t2, rfl, q2, q3, ?_, fun q => absurd q HNW.out⟩
    · have h1 := HR4.out
      rw [HJ.out]
      omega
    · have h1 := HF4.out
      rw [HJ.out]
      omega
  have HE := Lib.hid hs5.ends
  clear q0 q1 q2 q3 q4 hs5 HS4 x0 x1 x2 x3 x4 x5 x6 x7
  go_wp2_with fail
  go_ret2
  obtain ⟨F', hal, hI⟩ := HE.out
  exact ⟨F', C, rd5, hal, hI, HQ.out⟩
set_option maxHeartbeats 16000000 in
set_option maxRecDepth 100000 in
theorem link_step (I : AImpl) (K : RotImpl I) (KN : ShNum) {n : Nat} (ih : LinkOk I n) : LinkOk I (n + 1) := by
  intro p A rd F held L R tl tr ll lr e w hP hn
  obtain ⟨pa, rfl⟩ := I.ptr hP.is
  have hs0 := (Ins.start hP.is).box #[Value.int .i64 e.key, .int .i64 e.val] 69
  have HK := Lib.hid K
  have HKN := Lib.hid KN
  have HIH : Hid (LinkOk I n) := @ih
  have HN := Lib.hid hn
  have HZ : Hid (A.sz L = (ll.length : Int) ∧ A.sz R = (lr.length : Int) ∧ A.Idx L ∧ A.Idx R ∧ L < 4294967296 ∧ R < 4294967296) := ⟨hP.left.sz hP.agg, hP.right.sz hP.agg, hP.left.idx, hP.right.idx, idx_lt32 hP.inv hP.left.idx, idx_lt32 hP.inv hP.right.idx⟩
  have HP : Hid (A.Inv [] held ∧ A.Agg ∧ (∀ j, held j ≤ 1048400) ∧ At A L tl ll ∧ At A R tr lr ∧ WfL ll ∧ WfL lr ∧ (i64R e.key ∧ i64R e.val) ∧ ll.length + lr.length + 1 ≤ 2147483647) := ⟨hP.inv, hP.agg, hP.few, hP.left, hP.right, hP.wfl, hP.wfr, hP.wfe, hP.size⟩
  have HRO : Hid (3 * jd tl tr + 4 ≤ A.σ.free.length ∧ 0 ≤ rd ∧ rd + 14 * (jd tl tr : Int) + 2 ≤ 2199023254000) := ⟨hP.room, hP.rd0, hP.rd1⟩
  clear hP ih hn K KN
  go_enter Tryz.func123, Tryz.ntmps123
  go_upto_region 1 with fail
  generalize w.alloc (Obj.cells #[Value.int .i64 e.key, .int .i64 e.val] 69) = w1 at hs0 ⊢
  generalize w.heap.size = ge at hs0 ⊢
  have HS0 := Lib.hid hs0
  clear hs0
  go_wp2_with fail
  refine (HS0.out.sz HRO.out.2.1 (by have := HRO.out; omega) HZ.out.2.2.2.2.1 HZ.out.2.2.1 HP.out.1.ok).mono ?_
  rintro en w2 ⟨rfl, hs⟩
  rw [HZ.out.1]
  have HS1 := Lib.hid hs
  clear hs HS0
  go_wp2_with fail
  refine (HS1.out.sz (by have := HRO.out; (repeat' split) <;> omega) (by have := HRO.out; (repeat' split) <;> omega) HZ.out.2.2.2.2.2 HZ.out.2.2.2.1 HP.out.1.ok).mono ?_
  rintro en w3 ⟨rfl, hs⟩
  rw [HZ.out.2.1]
  obtain ⟨rd1, hrd1⟩ : ∃ r, (rd + if L = 0 then 0 else 1) + (if R = 0 then 0 else 1) = r := ⟨_, rfl⟩
  have HR1 : Hid (rd ≤ rd1 ∧ rd1 ≤ rd + 2) := by
    show rd ≤ rd1 ∧ rd1 ≤ rd + 2
    rw [← hrd1]
    (repeat' split) <;> omega
  rw [hrd1] at hs
  have HS2 := Lib.hid hs
  clear hs HS1 hrd1
  go_wp2_with fail
  refine (HKN.out.balanced (ll.length : Int) (lr.length : Int) w3 (by omega) (by have := HP.out; omega) (by omega) (by have := HP.out; omega)).mono ?_
  rintro en w4 ⟨rfl, hb4⟩
  have HS3 := Lib.hid (HS2.out.calm hb4)
  clear hb4 HS2
  obtain ⟨y0, y1⟩ := two_ofE (HS3.out.boxes (ge, Obj.cells #[Value.int .i64 e.key, .int .i64 e.val] 69 (0, 0)) (by simp)).2
  obtain ⟨b, hbv⟩ : ∃ b, Proofs.YtfihklpofmcfgaaGreat.bal (ll.length : Int) (lr.length : Int) = b := ⟨_, rfl⟩
  rw [hbv]
  have HBV := Lib.hid hbv
  clear hbv
  cases b
  rotate_left
  · obtain ⟨i1, t1, hf⟩ : ∃ i t, A.σ.free = i :: t := by
      have h := HRO.out.1
      cases hq : A.σ.free with
      | nil => rw [hq] at h; simp at h
      | cons i t => exact ⟨i, t, rfl⟩
    have hsz : (A.node e.key e.val L R).size ≤ 2147483647 := by
      show 1 + A.sz L + A.sz R ≤ _
      rw [HZ.out.1, HZ.out.2.1]
      have := HP.out
      omega
    have HF := Lib.hid hf
    have HSZ := Lib.hid hsz
    obtain ⟨m1, m2, m3, m4, m5, m6⟩ := (Mid.start HP.out.1 HP.out.2.1).made hf (key := e.key) (val := e.val) HZ.out.2.2.1 HZ.out.2.2.2.1 hsz
    have hw := bal_wb HBV.out
    have HQ : Hid (LnkQ A rd (14 * (jd tl tr : Int) + 2) held L R (jd tl tr) ll lr e (.returned (.tuple #[.int .u32 (i1 : Int), .int .i64 0])) (A.made i1 t1 (A.node e.key e.val L R)) rd1) := by
      have hfl : (A.made i1 t1 (A.node e.key e.val L R)).σ.free.length + 1 = A.σ.free.length := by rw [m3, hf]; rfl
      refine ⟨HR1.out.1, by have := HR1.out; omega, i1, _, rfl, m1, At.join m1.agg m4 m5 (by rw [m6]; exact ⟨rfl, rfl, rfl, rfl⟩) (HP.out.2.2.2.1.kept m2) (HP.out.2.2.2.2.1.kept m2) hw, by omega, fun _ => ⟨by rw [m6]; rfl, by rw [m6]; rfl, hfl⟩⟩
    clear hf hsz m1 m2 m3 m4 m5 m6 hw
    go_wp2_with fail
    refine (HS3.out.make HP.out.1 HP.out.2.1 (fun j => Nat.le_trans (HP.out.2.2.1 j) (by decide)) HP.out.2.2.2.2.2.2.2.1.1 HP.out.2.2.2.2.2.2.2.1.2 HZ.out.2.2.1 HZ.out.2.2.2.1 HSZ.out HF.out).mono ?_
    rintro en w5 ⟨rfl, hs5⟩
    have HE := Lib.hid hs5.ends
    clear hs5 HS3 y0 y1
    go_wp2_with fail
    go_ret2
    obtain ⟨F', hal, hI⟩ := HE.out
    exact ⟨F', _, rd1, hal, hI, HQ.out⟩
  have hnw : ¬ wbL ll lr := fun q => by
    have h := HP.out.2.2.2.2.2.2.2.2
    have := wb_bal (a := ll.length) (b := lr.length) (by omega) (by omega) q
    rw [HBV.out] at this
    cases this
  have hcc : 3 * (ll.length + 1) < lr.length + 1 ∨ 3 * (lr.length + 1) < ll.length + 1 := by
    by_cases h1 : 3 * (ll.length + 1) < lr.length + 1
    · exact .inl h1
    · refine .inr ?_
      by_cases h2 : 3 * (lr.length + 1) < ll.length + 1
      · exact h2
      · exact absurd ⟨by omega, by omega⟩ hnw
  clear hnw HBV
  rcases hcc with hc | hc
  · have HC := Lib.hid hc
    have hlt : decide ((ll.length : Int) < (lr.length : Int)) = true := decide_eq_true (by omega)
    have hlt2 : (ll.length : Int) < (lr.length : Int) := by omega
    clear hc
    go_wp2_with fail
    refine (HS3.out.mut fun F1 hI1 => linkLeft_any I HK.out HKN.out HIH.out e w4 ⟨hI1, HP.out.1, HP.out.2.1, HP.out.2.2.1, HP.out.2.2.2.1, HP.out.2.2.2.2.1, HP.out.2.2.2.2.2.1, HP.out.2.2.2.2.2.2.1, HP.out.2.2.2.2.2.2.2.1, HP.out.2.2.2.2.2.2.2.2, by have := HRO.out; have := HR1.out; omega, by have := HRO.out; have := HR1.out; omega, HRO.out.1⟩ HN.out HC.out).mono ?_
    rintro en w5 ⟨B, rd5, ⟨q0, q1, j, t, rfl, q2⟩, hs5⟩
    have HQ : Hid (LnkQ A rd (14 * (jd tl tr : Int) + 2) held L R (jd tl tr) ll lr e (.returned (.tuple #[.int .u32 (j : Int), .int .i64 0])) B rd5) := ⟨by have := HR1.out; omega, by have := HR1.out; omega, j, t, rfl, q2⟩
    have HE := Lib.hid hs5.ends
    clear q0 q1 q2 hs5 HS3 y0 y1
    go_wp2_with fail
    go_ret2
    obtain ⟨F', hal, hI⟩ := HE.out
    exact ⟨F', B, rd5, hal, hI, HQ.out⟩
  · have HC := Lib.hid hc
    have hlt : decide ((ll.length : Int) < (lr.length : Int)) = false := decide_eq_false (by omega)
    have hlt2 : ¬ (ll.length : Int) < (lr.length : Int) := by omega
    clear hc
    go_wp2_with fail
    refine (HS3.out.mut fun F1 hI1 => linkRight_any I HK.out HKN.out HIH.out e w4 ⟨hI1, HP.out.1, HP.out.2.1, HP.out.2.2.1, HP.out.2.2.2.1, HP.out.2.2.2.2.1, HP.out.2.2.2.2.2.1, HP.out.2.2.2.2.2.2.1, HP.out.2.2.2.2.2.2.2.1, HP.out.2.2.2.2.2.2.2.2, by have := HRO.out; have := HR1.out; omega, by have := HRO.out; have := HR1.out; omega, HRO.out.1⟩ HN.out HC.out).mono ?_
    rintro en w5 ⟨B, rd5, ⟨q0, q1, j, t, rfl, q2⟩, hs5⟩
    have HQ : Hid (LnkQ A rd (14 * (jd tl tr : Int) + 2) held L R (jd tl tr) ll lr e (.returned (.tuple #[.int .u32 (j : Int), .int .i64 0])) B rd5) := ⟨by have := HR1.out; omega, by have := HR1.out; omega, j, t, rfl, q2⟩
    have HE := Lib.hid hs5.ends
    clear q0 q1 q2 hs5 HS3 y0 y1
    go_wp2_with fail
    go_ret2
    obtain ⟨F', hal, hI⟩ := HE.out
    exact ⟨F', B, rd5, hal, hI, HQ.out⟩
theorem link_all (I : AImpl) (K : RotImpl I) (KN : ShNum) : ∀ n, LinkOk I n
  | 0 => fun _ _ _ h => absurd h (Nat.not_lt_zero _)
  | n + 1 => link_step I K KN (link_all I K KN n)
theorem cnt_few {A : Ar} {held : Nat → Nat} (h : A.Inv [] held) (hm : ∀ j, held j ≤ 1048576) (i : Nat) : A.cnt i < 4611686018427387904 := by
  cases hi : A.σ.on i
  · rw [(h.off i hi).1]; decide
  · have h1 := h.cnt i hi
    have h2 := refs_le A i
    have h3 := hm i
    have h4 := h.ok.cap2
    simp at h1
    omega
set_option maxHeartbeats 4000000 in
set_option maxRecDepth 100000 in
theorem share_any (I : AImpl) {p : Value} {A : Ar} {rd : Int} {F : Nat → Prop} {held : Nat → Nat} {i : Nat} (w : World) (hI : I.Is w p A rd F) (hv : A.Inv [] held) (hm : ∀ j, held j ≤ 1048576) (hx : A.Idx i) :
    Calls Tryz.prog 118 #[p, .int .u32 (i : Int)] w (Mut I p F (fun en B rd' => en = .returned (.tuple #[.int .u32 (i : Int), .int .i64 0]) ∧ B = A.ret i ∧ rd' = rd) w) := by
  obtain ⟨pa, rfl⟩ := I.ptr hI
  have HS0 := Lib.hid (Ins.start hI)
  have HX : Hid (A.Idx i ∧ i < 4294967296 ∧ A.cnt i < 4611686018427387904) := ⟨hx, idx_lt32 hv hx, cnt_few hv hm i⟩
  clear hI hv hm hx
  go_enter Tryz.func118, Tryz.ntmps118
  go_wp2_with fail
  refine (HS0.out.retain HX.out.2.1 HX.out.1 HX.out.2.2).mono ?_
  rintro en w1 ⟨rfl, hs⟩
  have HE := Lib.hid hs.ends
  clear hs HS0
  go_wp2_with fail
  go_ret2
  obtain ⟨F', hal, hI⟩ := HE.out
  exact ⟨F', _, rd, hal, hI, rfl, rfl, rfl⟩
/-- what withoutFirst answers -/
def WfoQ (A : Ar) (rd : Int) (held : Nat → Nat) (t : Tr) (l : List En) (en : Ending) (B : Ar) (rd' : Int) : Prop :=
  rd ≤ rd' ∧ rd' ≤ rd + 12 * (t.ht : Int) ∧ ∃ (j : Nat) (u : Tr), en = .returned (.tuple #[.int .u32 (j : Int), .int .i64 0]) ∧ Mid A held B [j] ∧ At B j u l.tail ∧ A.σ.free.length ≤ B.σ.free.length + lossN t
structure WfoP (I : AImpl) (w : World) (p : Value) (A : Ar) (rd : Int) (F : Nat → Prop) (held : Nat → Nat) (i : Nat) (t : Tr) (l : List En) : Prop where
  is : I.Is w p A rd F
  inv : A.Inv [] held
  agg : A.Agg
  few : ∀ j, held j ≤ 1048400
  tree : At A i t l
  ne : l ≠ []
  wf : WfL l
  size : l.length ≤ 2147483646
  rd0 : 0 ≤ rd
  rd1 : rd + 12 * (t.ht : Int) ≤ 2199023254000
  room : lossN t + 1 ≤ A.σ.free.length
def WfoOk (I : AImpl) (t : Tr) : Prop := ∀ {p : Value} {A : Ar} {rd : Int} {F : Nat → Prop} {held : Nat → Nat} {i : Nat} {l : List En} (w : World), WfoP I w p A rd F held i t l →
    Calls Tryz.prog 122 #[p, .int .u32 (i : Int)] w (Mut I p F (WfoQ A rd held t l) w)
set_option maxHeartbeats 16000000 in
set_option maxRecDepth 100000 in
theorem wfo_node (I : AImpl) (K : RotImpl I) (KN : ShNum) {i' : Nat} {tl tr : Tr} (ih : WfoOk I tl) : WfoOk I (.node i' tl tr) := by
  intro p A rd F held i l w hP
  obtain ⟨pa, rfl⟩ := I.ptr hP.is
  have hs0 := Ins.start hP.is
  have hi0 : i ≠ 0 := fun q => hP.ne ((hP.tree.zero_iff (held := held)).1 q)
  have hon := hP.tree.idx.resolve_left hi0
  obtain ⟨XN, hX⟩ : ∃ x, A.nd i = x := ⟨_, rfl⟩
  obtain ⟨tl', tr', ll, lr, hnode, rfl, hA, hB, hab⟩ := hP.tree.split hi0
  rw [hX] at hA hB
  injection hnode with _ e1 e2
  subst e1 e2
  have hwf := hP.wf
  have hsz := hP.size
  have hlen : (ll ++ (⟨(A.nd i).key, (A.nd i).val⟩ : En) :: lr).length = ll.length + lr.length + 1 := by simp; omega
  rw [hlen] at hsz
  rw [hX] at hwf ⊢
  have HK := Lib.hid K
  have HKN := Lib.hid KN
  have HIH : Hid (WfoOk I tl) := @ih
  have HON := Lib.hid hon
  have HX := Lib.hid hX
  have HA := Lib.hid hA
  have HB := Lib.hid hB
  have HAB := Lib.hid hab
  have HSZ := Lib.hid hsz
  have HWF : Hid (WfL ll ∧ WfL lr ∧ (i64R XN.key ∧ i64R XN.val)) := ⟨hwf.left, hwf.right.tail, hwf (⟨XN.key, XN.val⟩ : En) (by simp)⟩
  have HHT : Hid (tl.ht + 1 ≤ (Tr.node i' tl tr).ht) := by
    have h1 : (Tr.node i' tl tr).ht = 1 + max tl.ht tr.ht := rfl
    have h2 := Nat.le_max_left tl.ht tr.ht
    show _ ≤ _
    omega
  have HLO : Hid (lossN (Tr.node i' tl tr) = lossN tl + if tl.size = 0 then 0 else if 3 * tl.size < tr.size + 1 then 3 else 1) := rfl
  have HP : Hid (A.Inv [] held ∧ A.Agg ∧ (∀ j, held j ≤ 1048400) ∧ lossN (Tr.node i' tl tr) + 1 ≤ A.σ.free.length) := ⟨hP.inv, hP.agg, hP.few, hP.room⟩
  have HRD : Hid (0 ≤ rd ∧ rd + 12 * ((Tr.node i' tl tr).ht : Int) ≤ 2199023254000) := ⟨hP.rd0, hP.rd1⟩
  have HS0 := Lib.hid hs0
  have HI32 : Hid (i < 4294967296) := idx_lt32 hP.inv (.inr hon)
  clear hP ih hi0 hon hX hA hB hab hwf hsz hlen hs0 K KN
  go_enter Tryz.func122, Tryz.ntmps122
  go_wp2_with fail
  refine (HS0.out.call fun F1 hI1 => readJ_any I w hI1 HP.out.1 HP.out.2.1 HON.out HX.out HRD.out.1 (by have := HRD.out; omega)).mono ?_
  rintro en w2 ⟨rfl, rd1, hs, r1, r2⟩
  have HR1 : Hid (rd ≤ rd1 ∧ rd1 ≤ rd + 3) := ⟨r1, r2⟩
  have hs1 := hs.box #[Value.int .i64 XN.key, .int .i64 XN.val, .int .u32 (XN.left : Int), .int .u32 (XN.right : Int), .int .i64 XN.size, .int .i64 XN.sum, .int .i64 XN.mn, .int .i64 XN.mx] 81
  clear hs HS0 r1 r2
  go_upto_region 4 with fail
  generalize w2.alloc (Obj.cells #[Value.int .i64 XN.key, .int .i64 XN.val, .int .u32 (XN.left : Int), .int .u32 (XN.right : Int), .int .i64 XN.size, .int .i64 XN.sum, .int .i64 XN.mn, .int .i64 XN.mx] 81) = w3 at hs1 ⊢
  generalize w2.heap.size = g at hs1 ⊢
  have HS1 := Lib.hid hs1
  clear hs1
  obtain ⟨⟨x0, x1, x2, x3, x4, x5, x6, x7⟩, -⟩ := HS1.out.row8 (g := g) (X := XN) (by simp [ndRow])
  by_cases hl0 : XN.left = 0
  · have hll : ll = [] := (HA.out.zero_iff (held := held)).1 hl0
    subst hll
    have hd0 : (XN.left : Int) = 0 := by omega
    have hd1 : decide ((XN.left : Int) = 0) = true := decide_eq_true hd0
    obtain ⟨m1, m2, m3, m4⟩ := (Mid.start HP.out.1 HP.out.2.1).ret HB.out.idx
    have HQ : Hid (WfoQ A rd held (.node i' tl tr) ([] ++ (⟨XN.key, XN.val⟩ : En) :: lr) (.returned (.tuple #[.int .u32 (XN.right : Int), .int .i64 0])) (A.ret XN.right) rd1) :=
      ⟨HR1.out.1, by have := HR1.out; have := HHT.out; omega, XN.right, tr, rfl, m1, HB.out.kept m2, by rw [m3]; omega⟩
    clear m1 m2 m3 m4 hl0
    go_wp2_with fail
    refine (HS1.out.mut fun F1 hI1 => share_any I w3 hI1 HP.out.1 (fun j => Nat.le_trans (HP.out.2.2.1 j) (by decide)) HB.out.idx).mono ?_
    rintro en w4 ⟨B, rd4, ⟨rfl, rfl, rfl⟩, hs4⟩
    have HE := Lib.hid hs4.ends
    clear hs4 HS1 x0 x1 x2 x3 x4 x5 x6 x7
    go_wp2_with fail
    go_ret2
    obtain ⟨F', hal, hI⟩ := HE.out
    exact ⟨F', _, _, hal, hI, HQ.out⟩
  have hd0 : ¬ (XN.left : Int) = 0 := by omega
  have hd1 : decide ((XN.left : Int) = 0) = false := decide_eq_false hd0
  have HNE : Hid (ll ≠ []) := fun q => hl0 ((HA.out.zero_iff (held := held)).2 q)
  have HTL : Hid (ll.tail.length + 1 = ll.length ∧ ll.tail ++ (⟨XN.key, XN.val⟩ : En) :: lr = (ll ++ (⟨XN.key, XN.val⟩ : En) :: lr).tail ∧ tl.size = ll.length ∧ tr.size = lr.length ∧ WfL ll.tail) := by
    refine ⟨?_, (List.tail_append_of_ne_nil HNE.out).symm, HA.out.size, HB.out.size, fun y hy => HWF.out.1 y (List.mem_of_mem_tail hy)⟩
    have : ll.length ≠ 0 := fun q => HNE.out (List.eq_nil_of_length_eq_zero q)
    rw [List.length_tail]
    omega
  have HHB : Hid (HbL ll.tail lr ∧ (wbL ll.tail lr ↔ ¬ 3 * tl.size < tr.size + 1)) := by
    have h1 := HTL.out.1
    have h2 := HAB.out.1
    have h3 := HAB.out.2
    have h4 := HTL.out.2.2.1
    have h5 := HTL.out.2.2.2.1
    have hw : wbL ll.tail lr ↔ ¬ 3 * tl.size < tr.size + 1 := by
      unfold wbL wb
      omega
    refine ⟨?_, hw⟩
    by_cases hq : 3 * tl.size < tr.size + 1
    · refine .inr (.inl ⟨by omega, ?_⟩)
      exact hv_less (l := ll.tail.length + 1) (r := lr.length + 1) ⟨by omega, by omega⟩
    · exact .inl (hw.2 hq)
  have HL2 : Hid (tl.size ≠ 0) := by
    have h1 := HTL.out
    have : ll.length ≠ 0 := fun q => HNE.out (List.eq_nil_of_length_eq_zero q)
    show tl.size ≠ 0
    omega
  clear hl0
  go_wp2_with fail
  refine (HS1.out.mut fun F1 hI1 => HIH.out w3 ⟨hI1, HP.out.1, HP.out.2.1, HP.out.2.2.1, HA.out, HNE.out, HWF.out.1, by have := HSZ.out; omega, by have := HRD.out; have := HR1.out; omega, by have := HRD.out; have := HR1.out; have := HHT.out; omega, by have := HP.out.2.2.2; have := HLO.out; omega⟩).mono ?_
  rintro en w4 ⟨B, rd4, ⟨q0, q1, j, u, rfl, q2, q3, q4⟩, hs4⟩
  have HR4 : Hid (rd ≤ rd4 ∧ rd4 ≤ rd + 3 + 12 * (tl.ht : Int)) := ⟨by have := HR1.out; omega, by have := HR1.out; omega⟩
  have HS4 := Lib.hid hs4
  have HM4 := Lib.hid q2
  have HT4 := Lib.hid q3
  have HF4 : Hid (A.σ.free.length ≤ B.σ.free.length + lossN tl) := q4
  clear q0 q1 q2 q3 q4 hs4 HS1 x0 x1 x2 x3 x4 x5 x6 x7
  have HRM : Hid ((wbL ll.tail lr ∧ 1 ≤ B.σ.free.length) ∨ 4 ≤ B.σ.free.length) := by
    have h1 := HP.out.2.2.2
    have h2 := HLO.out
    have h3 := HF4.out
    rw [if_neg HL2.out] at h2
    by_cases hq : 3 * tl.size < tr.size + 1
    · rw [if_pos hq] at h2
      exact .inr (by omega)
    · rw [if_neg hq] at h2
      exact .inl ⟨HHB.out.2.2 hq, by omega⟩
  obtain ⟨⟨x0, x1, x2, x3, x4, x5, x6, x7⟩, -⟩ := HS4.out.row8 (g := g) (X := XN) (by simp [ndRow])
  go_wp2_with fail
  refine (HS4.out.mut fun F1 hI1 => withLeft_any I HK.out HKN.out (X := XN) w4 hI1 HM4.out (fun j => Nat.le_trans (HP.out.2.2.1 j) (by decide)) HT4.out (HB.out.kept HM4.out.kept) HTL.out.2.2.2.2 HWF.out.2.1 HWF.out.2.2 HHB.out.1 (by have := HSZ.out; have := HTL.out.1; omega) (by have := HRD.out; have := HR4.out; omega) (by have := HRD.out; have := HR4.out; have := HHT.out; omega) HRM.out).mono ?_
  rintro en w5 ⟨C, rd5, ⟨q0, q1, j2, t2, rfl, q2, q3, q5, q4⟩, hs5⟩
  rw [HTL.out.2.1] at q3
  have HQ : Hid (WfoQ A rd held (.node i' tl tr) (ll ++ (⟨XN.key, XN.val⟩ : En) :: lr) (.returned (.tuple #[.int .u32 (j2 : Int), .int .i64 0])) C rd5) := by
    refine ⟨by have := HR4.out; omega, by have := HR4.out; have := HHT.out; omega, j2, t2, rfl, q2, q3, ?_⟩
    have h2 := HLO.out
    have h3 := HF4.out
    rw [if_neg HL2.out] at h2
    by_cases hq : 3 * tl.size < tr.size + 1
    · rw [if_pos hq] at h2
      omega
    · rw [if_neg hq] at h2
      have := q5 (HHB.out.2.2 hq)
      omega
  have HE := Lib.hid hs5.ends
  clear q0 q1 q2 q3 q4 q5 hs5 HS4 x0 x1 x2 x3 x4 x5 x6 x7
  go_wp2_with fail
  go_ret2
  obtain ⟨F', hal, hI⟩ := HE.out
  exact ⟨F', C, rd5, hal, hI, HQ.out⟩
theorem wfo_all (I : AImpl) (K : RotImpl I) (KN : ShNum) : ∀ t, WfoOk I t
  | .nil => fun w hP => absurd (List.eq_nil_of_length_eq_zero hP.tree.size.symm) hP.ne
  | .node _ l r => wfo_node I K KN (wfo_all I K KN l)
end Go.Proofs.YtfihklpofmcfgaaGreat
