/- Of the proofs of UpdateInserts, UpdateDeletes, JoinJoins, JoinConcatenates, JoinSplits: JnOk5, JnOk. -/
import Derived.Test.YtckkmmdibgoajaaGreatV1
import Derived.Test.YtckkmmdibgoajaaGreatV2
import Derived.Test.YtckkmmdibgoajaaGreatV3
import Derived.Test.YtckkmmdibgoajaaGreatV4
import Derived.Test.YtckkmmdibgoajaaGreatV5
import Derived.Test.YtckkmmdibgoajaaGreatV6
import Derived.Test.YtckkmmdibgoajaaGreatV7
import Derived.Test.YtckkmmdibgoajaaGreatV8
import Derived.Test.YtckkmmdibgoajaaGreatV9
import Derived.Test.YtckkmmdibgoajaaGreatV10
import Derived.Test.YtckkmmdibgoajaaGreatV11
import Derived.Test.YtckkmmdibgoajaaGreatV16
set_option linter.unusedVariables false
set_option linter.unusedSimpArgs false
namespace Go.Proofs.YtckkmmdibgoajaaGreat
open Go.RowKit
theorem Mid.two {A B : Ar} {held : Nat → Nat} (h : Mid A held B []) {x y : Nat} (hx : B.Idx x) (hy : B.Idx y) : Mid A held ((B.ret x).ret y) [y, x] ∧ B.Kept ((B.ret x).ret y) ∧ ((B.ret x).ret y).σ = B.σ := by
  obtain ⟨m1, m2, m3, m4⟩ := h.ret hx
  obtain ⟨n1, n2, n3, n4⟩ := m1.ret (i := y) (hy.imp id fun q => by rw [m3]; exact q)
  exact ⟨n1, m2.trans n2, n3.trans m3⟩
set_option maxHeartbeats 16000000 in
set_option maxRecDepth 100000 in
theorem cut_nil (I : AImpl) : CutOk I .nil := by
  intro p A rd F held i l k w hP
  obtain ⟨pa, rfl⟩ := I.ptr hP.is
  have hin : (Tryz.prog.info? 111).map (·.size) = some 4 := by kernel_rfl
  have HINF := Lib.hid hin
  have HUN : Hid _ := Lib.hid Tryz.underlying111
  have hs0 := (Ins.start hP.is).box #[.int .u32 0, .int .i64 0, .bool false, .int .u32 0] 111
  have hl : l = [] := by
    have := hP.tree.size
    exact List.eq_nil_of_length_eq_zero this.symm
  have hi : i = 0 := (hP.tree.zero_iff (held := held)).2 hl
  subst hl hi
  obtain ⟨m1, m2, m3⟩ := (Mid.start hP.inv hP.agg).two (x := 0) (y := 0) (.inl rfl) (.inl rfl)
  have e0 : (A.ret 0).ret 0 = A := by
    have e : A.ret 0 = A := if_pos rfl
    rw [e, e]
  rw [e0] at m1
  have HQ : Hid (SpQ A rd held Tr.nil.ht Tr.nil.ht [] k (.returned (.tuple #[.agg #[Value.int .u32 0, .int .i64 0, .bool false, .int .u32 0], .int .i64 0])) A rd) :=
    ⟨Int.le_refl _, 0, Nat.zero_le _, by show rd ≤ rd + 14 * 0 + 3 * 0; omega, 0, 0, .nil, .nil, rfl, m1, .nil A, .nil A, by omega⟩
  clear hP m1 m2 m3 e0 hin
  go_enter Tryz.func74, Tryz.ntmps74
  go_upto_region 1 with fail
  generalize w.alloc (Obj.cells #[.int .u32 0, .int .i64 0, .bool false, .int .u32 0] 111) = w1 at hs0 ⊢
  generalize w.heap.size = q at hs0 ⊢
  obtain ⟨⟨y0, y1, y2, y3⟩, f0, f1, f2, f3⟩ := cells4_of (hs0.boxes _ (List.Mem.head _)).2
  have hp := hs0.putP 0 0 false 0
  have HE : Hid ((∃ F', Alters F F' w (putP w1 q 0 0 false 0) ∧ I.Is (putP w1 q 0 0 false 0) (.pointer (some pa)) A rd F') ∧ (putP w1 q 0 0 false 0).heap[q]? = some (Obj.cells (ptR 0 0 false 0) 111 (0, 0))) := ⟨hp.ends, (hp.boxes _ (List.Mem.head _)).2⟩
  clear hp hs0
  go_wp2_with fail
  refine bodyPost_ret (results_row_tmp rfl _ _ q 111 #[Value.int .u32 0, .int .i64 0, .bool false, .int .u32 0] (0, 0) _ rfl HE.out.2 HUN.out rfl HINF.out) rfl ?_
  obtain ⟨F', hal, hI⟩ := HE.out.1
  exact ⟨F', _, rd, hal, hI, HQ.out⟩
set_option maxHeartbeats 16000000 in
set_option maxRecDepth 100000 in
theorem cut_node (I : AImpl) (K : RotImpl I) (KN : ShNum) {i' : Nat} {tl tr : Tr} (ihl : CutOk I tl) (ihr : CutOk I tr) : CutOk I (.node i' tl tr) := by
  intro p A rd F held i l k w hP
  obtain ⟨pa, rfl⟩ := I.ptr hP.is
  have hin : (Tryz.prog.info? 111).map (·.size) = some 4 := by kernel_rfl
  have HINF := Lib.hid hin
  have HUN : Hid _ := Lib.hid Tryz.underlying111
  have hs0 := (Ins.start hP.is).box #[.int .u32 0, .int .i64 0, .bool false, .int .u32 0] 111
  have hi0 : i ≠ 0 := fun q => by
    have h1 := (hP.tree.zero_iff (held := held)).1 q
    have h2 := hP.tree.size
    rw [h1] at h2
    have h3 : (Tr.node i' tl tr).size = tl.size + tr.size + 1 := rfl
    rw [h3] at h2
    simp at h2
  have hon := hP.tree.idx.resolve_left hi0
  obtain ⟨XN, hX⟩ : ∃ x, A.nd i = x := ⟨_, rfl⟩
  have HK := Lib.hid K
  have HKN := Lib.hid KN
  have HIL : Hid (CutOk I tl) := @ihl
  have HIR : Hid (CutOk I tr) := @ihr
  have HI0 : Hid (i ≠ 0) := hi0
  have HON := Lib.hid hon
  have HX := Lib.hid hX
  have HHT : Hid (tl.ht + 1 ≤ (Tr.node i' tl tr).ht ∧ tr.ht + 1 ≤ (Tr.node i' tl tr).ht) := by
    have h1 : (Tr.node i' tl tr).ht = 1 + max tl.ht tr.ht := rfl
    have h2 := Nat.le_max_left tl.ht tr.ht
    have h3 := Nat.le_max_right tl.ht tr.ht
    exact ⟨by omega, by omega⟩
  have HP : Hid (A.Inv [] held ∧ A.Agg ∧ (∀ j, held j ≤ 1048300) ∧ At A i (.node i' tl tr) l ∧ Up l ∧ WfL l ∧ i64R k ∧ l.length ≤ 2147483646 ∧ 3 * (xh (lowE l k).length + xh (highE l k).length + (Tr.node i' tl tr).ht) + 4 ≤ A.σ.free.length) := ⟨hP.inv, hP.agg, hP.few, hP.tree, hP.up, hP.wf, hP.wk, hP.size, hP.room⟩
  have HRD : Hid (0 ≤ rd ∧ rd + 14 * ((xh (lowE l k).length + xh (highE l k).length + (Tr.node i' tl tr).ht : Nat) : Int) + 3 * ((Tr.node i' tl tr).ht : Int) + 0 ≤ 2199023253000) := ⟨hP.rd0, hP.rd1⟩
  have hi1 : ¬ (i : Int) = 0 := by omega
  have hi2 : decide ((i : Int) = 0) = false := decide_eq_false hi1
  clear hP ihl ihr hi0 hon hX K KN hin
  go_enter Tryz.func74, Tryz.ntmps74
  go_upto_region 1 with fail
  generalize w.alloc (Obj.cells #[.int .u32 0, .int .i64 0, .bool false, .int .u32 0] 111) = w1 at hs0 ⊢
  generalize w.heap.size = q at hs0 ⊢
  have HS0 := Lib.hid hs0
  clear hs0
  go_wp2_with fail
  refine (HS0.out.call fun F1 hI1 => readJ_any I w1 hI1 HP.out.1 HP.out.2.1 HON.out HX.out HRD.out.1 (by have := HRD.out; omega)).mono ?_
  rintro en w2 ⟨rfl, rd1, hs, r1, r2⟩
  have HR1 : Hid (rd ≤ rd1 ∧ rd1 ≤ rd + 3) := ⟨r1, r2⟩
  have hs1 := hs.box #[Value.int .i64 XN.key, .int .i64 XN.val, .int .u32 (XN.left : Int), .int .u32 (XN.right : Int), .int .i64 XN.size, .int .i64 XN.sum, .int .i64 XN.mn, .int .i64 XN.mx] 64
  clear hs HS0 r1 r2
  go_upto_region 6 with fail
  generalize w2.alloc (Obj.cells #[Value.int .i64 XN.key, .int .i64 XN.val, .int .u32 (XN.left : Int), .int .u32 (XN.right : Int), .int .i64 XN.size, .int .i64 XN.sum, .int .i64 XN.mn, .int .i64 XN.mx] 64) = w3 at hs1 ⊢
  generalize w2.heap.size = g at hs1 ⊢
  have HS1 := Lib.hid hs1
  clear hs1
  rcases Int.lt_trichotomy k XN.key with hk | hk | hk
  rotate_left
  rotate_left
  · have HKK : Hid (XN.key < k) := hk
    have HSO := HS1
    clear HS1
    obtain ⟨⟨x0, x1, x2, x3, x4, x5, x6, x7⟩, -⟩ := HSO.out.row8 (g := g) (X := XN) (by simp [ndRow])
    have d1 : decide (k < XN.key) = false := decide_eq_false (by omega)
    have d2 : decide (XN.key < k) = true := decide_eq_true hk
    have d3 : ¬ k < XN.key := by omega
    go_wp2_with fail
    refine (HSO.out.mut fun F1 hI1 => cutRight_any I HK.out HKN.out HIR.out (i := i) w3 ⟨hI1, HP.out.1, HP.out.2.1, HP.out.2.2.1, HP.out.2.2.2.1, HP.out.2.2.2.2.1, HP.out.2.2.2.2.2.1, HP.out.2.2.2.2.2.2.1, HP.out.2.2.2.2.2.2.2.1, by have := HRD.out; have := HR1.out; omega, by have := HRD.out; have := HR1.out; omega, HP.out.2.2.2.2.2.2.2.2⟩ HI0.out HX.out HKK.out).mono ?_
    rintro en w4 ⟨B, rd4, ⟨q0, s, q1, q2, x, y, tx, ty, rfl, q3, q4, q5, q6⟩, hs4⟩
    obtain ⟨V, hV⟩ : ∃ V, (getE l k).elim (0 : Int) (·.val) = V := ⟨_, rfl⟩
    obtain ⟨D, hD⟩ : ∃ D, (getE l k).isSome = D := ⟨_, rfl⟩
    rw [hV, hD]
    have HQ : Hid (SpQ A rd held (Tr.node i' tl tr).ht (Tr.node i' tl tr).ht l k (.returned (.tuple #[.agg #[Value.int .u32 (x : Int), .int .i64 V, .bool D, .int .u32 (y : Int)], .int .i64 0])) B rd4) :=
      ⟨by have := HR1.out; omega, s, by have := HHT.out; omega, by have := HHT.out; have := HR1.out; omega, x, y, tx, ty, by rw [hV, hD], q3, q4, q5, q6⟩
    have hq1 := (hs4.perm (List.Perm.swap _ _ _))
    obtain ⟨⟨y0, y1, y2, y3⟩, f0, f1, f2, f3⟩ := cells4_of (hq1.boxes _ (List.Mem.head _)).2
    have hp := hq1.putP x V D y
    have HE : Hid ((∃ F', Alters F F' w (putP w4 q x V D y) ∧ I.Is (putP w4 q x V D y) (.pointer (some pa)) B rd4 F') ∧ (putP w4 q x V D y).heap[q]? = some (Obj.cells (ptR x V D y) 111 (0, 0))) := ⟨hp.ends, (hp.boxes _ (List.Mem.head _)).2⟩
    clear hp hq1 hs4 hV hD q0 q1 q2 q3 q4 q5 q6 HSO x0 x1 x2 x3 x4 x5 x6 x7
    go_wp2_with fail
    refine bodyPost_ret (results_row_tmp rfl _ _ q 111 #[Value.int .u32 (x : Int), .int .i64 V, .bool D, .int .u32 (y : Int)] (0, 0) _ rfl HE.out.2 HUN.out rfl HINF.out) rfl ?_
    obtain ⟨F', hal, hI⟩ := HE.out.1
    exact ⟨F', _, rd4, hal, hI, HQ.out⟩
  · have HKK : Hid (k < XN.key) := hk
    have HSO := HS1
    clear HS1
    obtain ⟨⟨x0, x1, x2, x3, x4, x5, x6, x7⟩, -⟩ := HSO.out.row8 (g := g) (X := XN) (by simp [ndRow])
    have d1 : decide (k < XN.key) = true := decide_eq_true hk
    go_wp2_with fail
    refine (HSO.out.mut fun F1 hI1 => cutLeft_any I HK.out HKN.out HIL.out (i := i) w3 ⟨hI1, HP.out.1, HP.out.2.1, HP.out.2.2.1, HP.out.2.2.2.1, HP.out.2.2.2.2.1, HP.out.2.2.2.2.2.1, HP.out.2.2.2.2.2.2.1, HP.out.2.2.2.2.2.2.2.1, by have := HRD.out; have := HR1.out; omega, by have := HRD.out; have := HR1.out; omega, HP.out.2.2.2.2.2.2.2.2⟩ HI0.out HX.out HKK.out).mono ?_
    rintro en w4 ⟨B, rd4, ⟨q0, s, q1, q2, x, y, tx, ty, rfl, q3, q4, q5, q6⟩, hs4⟩
    obtain ⟨V, hV⟩ : ∃ V, (getE l k).elim (0 : Int) (·.val) = V := ⟨_, rfl⟩
    obtain ⟨D, hD⟩ : ∃ D, (getE l k).isSome = D := ⟨_, rfl⟩
    rw [hV, hD]
    have HQ : Hid (SpQ A rd held (Tr.node i' tl tr).ht (Tr.node i' tl tr).ht l k (.returned (.tuple #[.agg #[Value.int .u32 (x : Int), .int .i64 V, .bool D, .int .u32 (y : Int)], .int .i64 0])) B rd4) :=
      ⟨by have := HR1.out; omega, s, by have := HHT.out; omega, by have := HHT.out; have := HR1.out; omega, x, y, tx, ty, by rw [hV, hD], q3, q4, q5, q6⟩
    have hq1 := (hs4.perm (List.Perm.swap _ _ _))
    obtain ⟨⟨y0, y1, y2, y3⟩, f0, f1, f2, f3⟩ := cells4_of (hq1.boxes _ (List.Mem.head _)).2
    have hp := hq1.putP x V D y
    have HE : Hid ((∃ F', Alters F F' w (putP w4 q x V D y) ∧ I.Is (putP w4 q x V D y) (.pointer (some pa)) B rd4 F') ∧ (putP w4 q x V D y).heap[q]? = some (Obj.cells (ptR x V D y) 111 (0, 0))) := ⟨hp.ends, (hp.boxes _ (List.Mem.head _)).2⟩
    clear hp hq1 hs4 hV hD q0 q1 q2 q3 q4 q5 q6 HSO x0 x1 x2 x3 x4 x5 x6 x7
    go_wp2_with fail
    refine bodyPost_ret (results_row_tmp rfl _ _ q 111 #[Value.int .u32 (x : Int), .int .i64 V, .bool D, .int .u32 (y : Int)] (0, 0) _ rfl HE.out.2 HUN.out rfl HINF.out) rfl ?_
    obtain ⟨F', hal, hI⟩ := HE.out.1
    exact ⟨F', _, rd4, hal, hI, HQ.out⟩
  · subst hk
    obtain ⟨⟨x0, x1, x2, x3, x4, x5, x6, x7⟩, -⟩ := HS1.out.row8 (g := g) (X := XN) (by simp [ndRow])
    obtain ⟨tl', tr', ll, lr, -, hl, hA, hB, -⟩ := HP.out.2.2.2.1.split HI0.out
    rw [HX.out] at hl hA hB
    have hup := HP.out.2.2.2.2.1
    rw [hl] at hup
    have hcm := cut_m hup
    obtain ⟨m1, m2, m3⟩ := (Mid.start HP.out.1 HP.out.2.1).two hA.idx hB.idx
    obtain ⟨n1, -, n3, -⟩ := (Mid.start HP.out.1 HP.out.2.1).ret hA.idx
    have HQ : Hid (SpQ A rd held (Tr.node i' tl tr).ht (Tr.node i' tl tr).ht l XN.key (.returned (.tuple #[.agg #[Value.int .u32 (XN.left : Int), .int .i64 XN.val, .bool true, .int .u32 (XN.right : Int)], .int .i64 0])) ((A.ret XN.left).ret XN.right) rd1) := by
      unfold SpQ
      rw [hl, hcm.1, hcm.2.1, hcm.2.2]
      exact ⟨HR1.out.1, 0, Nat.zero_le _, by have := HHT.out; have := HR1.out; omega, XN.left, XN.right, tl', tr', rfl, m1, hA.kept m2, hB.kept m2, by rw [m3]; omega⟩
    have HRT : Hid ((A.Idx XN.left ∧ XN.left < 4294967296 ∧ A.cnt XN.left < 4611686018427387904) ∧ (A.ret XN.left).Idx XN.right ∧ XN.right < 4294967296 ∧ (A.ret XN.left).cnt XN.right < 4611686018427387904) :=
      ⟨⟨hA.idx, idx_lt32 HP.out.1 hA.idx, cnt_few HP.out.1 (fun j => Nat.le_trans (HP.out.2.2.1 j) (by decide)) _⟩, hB.idx.imp id (fun q => by rw [n3]; exact q), idx_lt32 HP.out.1 hB.idx, cnt_few n1.inv (fun j => Nat.le_trans (plL_le HP.out.2.2.1 [XN.left] j) (show 1048300 + 1 ≤ 1048576 by decide)) _⟩
    clear hl hA hB hup hcm m1 m2 m3 n1 n3
    have d1 : ¬ XN.key < XN.key := by omega
    have d2 : decide (XN.key < XN.key) = false := decide_eq_false d1
    go_wp2_with fail
    refine (HS1.out.retain HRT.out.1.2.1 HRT.out.1.1 HRT.out.1.2.2).mono ?_
    rintro en w4 ⟨rfl, hs4⟩
    have HS4 := Lib.hid hs4
    clear hs4 HS1 x0 x1 x2 x3 x4 x5 x6 x7
    obtain ⟨⟨x0, x1, x2, x3, x4, x5, x6, x7⟩, -⟩ := HS4.out.row8 (g := g) (X := XN) (by simp [ndRow])
    go_wp2_with fail
    refine (HS4.out.retain HRT.out.2.2.1 HRT.out.2.1 HRT.out.2.2.2).mono ?_
    rintro en w5 ⟨rfl, hs5⟩
    have HS5 := Lib.hid hs5
    clear hs5 HS4 x0 x1 x2 x3 x4 x5 x6 x7
    obtain ⟨⟨x0, x1, x2, x3, x4, x5, x6, x7⟩, -⟩ := HS5.out.row8 (g := g) (X := XN) (by simp [ndRow])
    have hne : ¬ g = q := (List.pairwise_cons.1 HS5.out.bb).1 _ (List.Mem.head _)
    have hne2 : ¬ q = g := fun e => hne e.symm
    have hq1 := (HS5.out.perm (List.Perm.swap _ _ _))
    obtain ⟨⟨y0, y1, y2, y3⟩, f0, f1, f2, f3⟩ := cells4_of (hq1.boxes _ (List.Mem.head _)).2
    have hp := hq1.putP XN.left XN.val true XN.right
    have HE : Hid ((∃ F', Alters F F' w (putP w5 q XN.left XN.val true XN.right) ∧ I.Is (putP w5 q XN.left XN.val true XN.right) (.pointer (some pa)) ((A.ret XN.left).ret XN.right) rd1 F') ∧ (putP w5 q XN.left XN.val true XN.right).heap[q]? = some (Obj.cells (ptR XN.left XN.val true XN.right) 111 (0, 0))) := ⟨hp.ends, (hp.boxes _ (List.Mem.head _)).2⟩
    clear hp hq1 HS5
    go_wp2_with fail
    refine bodyPost_ret (results_row_tmp rfl _ _ q 111 #[Value.int .u32 (XN.left : Int), .int .i64 XN.val, .bool true, .int .u32 (XN.right : Int)] (0, 0) _ rfl HE.out.2 HUN.out rfl HINF.out) rfl ?_
    obtain ⟨F', hal, hI⟩ := HE.out.1
    exact ⟨F', _, rd1, hal, hI, HQ.out⟩
theorem cut_all (I : AImpl) (K : RotImpl I) (KN : ShNum) : ∀ t, CutOk I t
  | .nil => cut_nil I
  | .node _ l r => cut_node I K KN (cut_all I K KN l) (cut_all I K KN r)
end Go.Proofs.YtckkmmdibgoajaaGreat
set_option linter.unusedVariables false
set_option linter.unusedSimpArgs false
namespace Go.Proofs.YtckkmmdibgoajaaGreat
open Go.RowKit
theorem allLtJ {l : List En} (hu : Up l) (k : Int) : AllLt l k ↔ ∀ x, l.getLast? = some x → x.key < k := by
  constructor
  · intro h x hx
    exact h x (List.mem_of_getLast? hx)
  · intro h y hy
    obtain ⟨x, hx⟩ : ∃ x, l.getLast? = some x := ⟨_, List.getLast?_eq_some_getLast (fun e => by rw [e] at hy; cases hy)⟩
    have h0 := h x hx
    obtain ⟨i, hi, rfl⟩ := List.mem_iff_getElem.1 hy
    rw [List.getLast?_eq_getElem?] at hx
    obtain ⟨hj, rfl⟩ := List.getElem?_eq_some_iff.1 hx
    rcases Nat.lt_or_ge i (l.length - 1) with h2 | h2
    · have := List.pairwise_iff_getElem.1 hu i (l.length - 1) hi hj h2; omega
    · have h3 : i = l.length - 1 := by omega
      subst h3; exact h0
theorem allGtJ {l : List En} (hu : Up l) (k : Int) : AllGt l k ↔ ∀ x, l.head? = some x → k < x.key := by
  constructor
  · intro h x hx
    exact h x (List.mem_of_mem_head? hx)
  · intro h y hy
    cases l with
    | nil => cases hy
    | cons z t =>
      have h0 := h z rfl
      rcases List.mem_cons.1 hy with rfl | hy
      · exact h0
      · have := (List.pairwise_cons.1 hu).1 y hy; omega
theorem results_tmp5 {fn : Func} {a b c d e : Tmp} (h : fn.results = #[.tmp a, .tmp b, .tmp c, .tmp d, .tmp e]) (tmps : Array Value) (P : Program) (w : World) :
    (results fn tmps).run P w = .ok (.tuple #[tmps.getD a undef, tmps.getD b undef, tmps.getD c undef, tmps.getD d undef, tmps.getD e undef]) w := by
  simp [results, h]
theorem splitJ {n : Nat} (hn : n ≤ 65536) : splitI (n : Int) = 12 * ((xh n : Int) + 2) := by
  unfold splitI needI
  have hv : vld (n : Int) ∧ vld 0 ∧ vld 0 := by unfold vld; omega
  rw [if_pos hv, show (n : Int) + 0 + 0 + 0 = (n : Int) by omega, xhI_nat (by omega)]
  omega
set_option maxHeartbeats 32000000 in
set_option maxRecDepth 100000 in
theorem joinP_any (I : AImpl) {p : Value} {A : Ar} {rd : Int} {F : Nat → Prop} {held : Nat → Nat} {L R : Nat} {tl tr : Tr} {ll lr : List En} (e : En) (w : World) (hI : I.Is w p A rd F) (hv : A.Inv [] held) (hm : ∀ j, held j ≤ 1048000) (hL : TreeAt A L tl ll) (hR : TreeAt A R tr lr) (hwl : WfL ll) (hwr : WfL lr) (h0 : 0 ≤ rd) (h1 : rd ≤ 1099511000000) (hk : i64R e.key) (hx : i64R e.val) :
    Calls Tryz.prog 33 #[p, .int .u32 (L : Int), .agg #[.int .i64 e.key, .int .i64 e.val], .int .u32 (R : Int)] w (Mut I p F (JoinQ A rd held L R ll lr e) w) := by
  obtain ⟨pa, rfl⟩ := I.ptr hI
  have hs0 := (Ins.start hI).box #[Value.int .i64 e.key, .int .i64 e.val] 25
  have HV := Lib.hid hv
  have HM := Lib.hid hm
  have HL := Lib.hid hL
  have HR := Lib.hid hR
  have HW : Hid (WfL ll ∧ WfL lr ∧ i64R e.key ∧ i64R e.val) := ⟨hwl, hwr, hk, hx⟩
  have HRD : Hid (0 ≤ rd ∧ rd ≤ 1099511000000) := ⟨h0, h1⟩
  have hn := hL.few
  have hm' := hR.few
  have x1 := xh_up (m := ll.length) (n := ll.length + lr.length + 1) (by omega) (by omega)
  have x2 := xh_up (m := lr.length) (n := ll.length + lr.length + 1) (by omega) (by omega)
  have HN : Hid (ll.length ≤ 65536 ∧ lr.length ≤ 65536) := ⟨hn, hm'⟩
  have HJ : Hid (jd tl tr ≤ xh (ll.length + lr.length + 1)) := by
    have := jd_xh hL.bal hR.bal (by rw [hL.size, hR.size]; omega)
    rw [hL.size, hR.size] at this
    exact this
  have HB : Hid (mostI ll.length + mostI lr.length + 2 + 14 * (jd tl tr : Int) + 2 ≤ joinBd ll.length lr.length ∧ 0 ≤ mostI ll.length ∧ 0 ≤ mostI lr.length ∧ mostI ll.length ≤ 1000 ∧ mostI lr.length ≤ 1000 ∧ (jd tl tr : Int) ≤ 100 ∧ joinI (ll.length : Int) (lr.length : Int) = 4 * ((xh (ll.length + lr.length + 1) : Int) + 2)) := by
    have h1 := HJ.out
    have h2 := (xh_spec (n := ll.length + lr.length + 1) (by omega)).2.1
    refine ⟨?_, ?_, ?_, ?_, ?_, by omega, joinJ hn hm'⟩ <;> (try unfold joinBd) <;> (try unfold mostI) <;> omega
  have HZ : Hid (A.sz L = (ll.length : Int) ∧ A.sz R = (lr.length : Int) ∧ A.Idx L ∧ A.Idx R ∧ L < 4294967296 ∧ R < 4294967296) := ⟨hL.at_.sz hL.agg, hR.at_.sz hL.agg, hL.idx', hR.idx', hL.idx, hR.idx⟩
  have hlt := allLtJ hL.up e.key
  have hgt := allGtJ hR.up e.key
  obtain ⟨ol, hol⟩ : ∃ o, ll.getLast? = o := ⟨_, rfl⟩
  obtain ⟨og, hog⟩ : ∃ o, lr.head? = o := ⟨_, rfl⟩
  rw [hol] at hlt
  rw [hog] at hgt
  have HOL := Lib.hid hol
  have HOG := Lib.hid hog
  have HLT := Lib.hid hlt
  have HGT := Lib.hid hgt
  clear hI hv hm hL hR hwl hwr h0 h1 hk hx hn hm' hlt hgt hol hog x1 x2
  go_enter Tryz.func33, Tryz.ntmps33
  go_upto_region 1 with fail
  generalize w.alloc (Obj.cells #[Value.int .i64 e.key, .int .i64 e.val] 25) = w1 at hs0 ⊢
  generalize w.heap.size = ge at hs0 ⊢
  have HS0 := Lib.hid hs0
  clear hs0
  go_wp2_with fail
  refine (HS0.out.call fun F1 hI1 => (lkImpl I).last w1 hI1 HL.out HRD.out.1 (by have := HRD.out; omega) (fun y hy => (HW.out.1 y hy).1)).mono ?_
  rintro en w2 ⟨rfl, rd1, hs, r1, r2⟩
  rw [HOL.out]
  have HR1 : Hid (rd ≤ rd1 ∧ rd1 ≤ rd + mostI ll.length) := ⟨r1, r2⟩
  unfold enR enA
  have hs1 := hs.box #[Value.int .i64 (ol.elim 0 (·.key)), .int .i64 (ol.elim 0 (·.val))] 25
  clear hs HS0 r1 r2
  go_upto_region 2 with fail
  generalize w2.alloc (Obj.cells #[Value.int .i64 (ol.elim 0 (·.key)), .int .i64 (ol.elim 0 (·.val))] 25) = w3 at hs1 ⊢
  generalize w2.heap.size = ga at hs1 ⊢
  have HS1 := Lib.hid hs1
  clear hs1
  go_wp2_with fail
  refine (HS1.out.call fun F1 hI1 => (lkImpl I).first w3 hI1 HR.out (by have := HRD.out; have := HR1.out; omega) (by have := HRD.out; have := HR1.out; have := HB.out; omega) (fun y hy => (HW.out.2.1 y hy).1)).mono ?_
  rintro en w4 ⟨rfl, rd2, hs, r1, r2⟩
  rw [HOG.out]
  have HR2 : Hid (rd ≤ rd2 ∧ rd2 ≤ rd + mostI ll.length + mostI lr.length) := ⟨by have := HR1.out; omega, by have := HR1.out; omega⟩
  have hs2 := hs.box #[Value.int .i64 (og.elim 0 (·.key)), .int .i64 (og.elim 0 (·.val))] 25
  clear hs HS1 r1 r2
  unfold enR enA
  go_upto_region 3 with fail
  generalize w4.alloc (Obj.cells #[Value.int .i64 (og.elim 0 (·.key)), .int .i64 (og.elim 0 (·.val))] 25) = w5 at hs2 ⊢
  generalize w4.heap.size = gb at hs2 ⊢
  have HS2 := Lib.hid hs2
  clear hs2
  obtain ⟨y0, y1⟩ := two_ofE (HS2.out.boxes (ge, Obj.cells #[Value.int .i64 e.key, .int .i64 e.val] 25 (0, 0)) (by simp)).2
  obtain ⟨z0, z1⟩ := two_ofE (HS2.out.boxes (gb, Obj.cells #[Value.int .i64 (og.elim 0 (·.key)), .int .i64 (og.elim 0 (·.val))] 25 (0, 0)) (by simp)).2
  obtain ⟨u0, u1⟩ := two_ofE (HS2.out.boxes (ga, Obj.cells #[Value.int .i64 (ol.elim 0 (·.key)), .int .i64 (ol.elim 0 (·.val))] 25 (0, 0)) (by simp)).2
  obtain ⟨KL, hKL⟩ : ∃ K, ol.elim (0 : Int) (·.key) = K := ⟨_, rfl⟩
  obtain ⟨KG, hKG⟩ : ∃ K, og.elim (0 : Int) (·.key) = K := ⟨_, rfl⟩
  obtain ⟨BL, hBL⟩ : ∃ K, ol.isSome = K := ⟨_, rfl⟩
  obtain ⟨BG, hBG⟩ : ∃ K, og.isSome = K := ⟨_, rfl⟩
  rw [hKL] at u0
  rw [hKG] at z0
  rw [hBL, hBG]
  have HLTB : Hid (AllLt ll e.key ↔ (BL = true → KL < e.key)) := by
    have h := HLT.out
    refine h.trans ?_
    cases ol with
    | none => simp at hBL; subst hBL; simp
    | some x => simp at hBL hKL; subst hBL hKL; simp
  have HGTB : Hid (AllGt lr e.key ↔ (BG = true → e.key < KG)) := by
    have h := HGT.out
    refine h.trans ?_
    cases og with
    | none => simp at hBG; subst hBG; simp
    | some x => simp at hBG hKG; subst hBG hKG; simp
  clear hKL hKG hBL hBG
  have HEND := Lib.hid HS2.out.ends
  have hcase : (BL = true ∧ e.key ≤ KL) ∨ ((BL = true ∧ KL < e.key) ∧ (BG = true ∧ KG ≤ e.key)) ∨ (BL = false ∧ (BG = true ∧ KG ≤ e.key)) ∨ ((BL = true ∧ KL < e.key) ∧ (BG = true ∧ e.key < KG)) ∨ ((BL = true ∧ KL < e.key) ∧ BG = false) ∨ (BL = false ∧ (BG = true ∧ e.key < KG)) ∨ (BL = false ∧ BG = false) := by
    cases BL <;> cases BG <;> simp <;> omega
  have HBAD : Hid (¬ (AllLt ll e.key ∧ AllGt lr e.key) → ∀ rdx, rd ≤ rdx → rdx ≤ rd + joinBd ll.length lr.length → JoinQ A rd held L R ll lr e (.returned (.tuple #[.int .u32 0, .int .i64 7])) A rdx) := fun hn rdx h1 h2 => ⟨h1, h2, .inl ⟨hn, rfl, rfl⟩⟩
  have HRB : Hid (rd ≤ rd2 ∧ rd2 ≤ rd + joinBd ll.length lr.length) := ⟨HR2.out.1, by have := HR2.out; have := HB.out; omega⟩
  rcases hcase with ⟨rfl, hq⟩ | ⟨⟨rfl, hq⟩, rfl, hq2⟩ | ⟨rfl, rfl, hq2⟩ | hgood
  · have HQ : Hid (¬ (AllLt ll e.key ∧ AllGt lr e.key)) := fun h => by have := (HLTB.out.1 h.1) rfl; omega
    have d1 : decide (e.key ≤ KL) = true := decide_eq_true hq
    go_wp2_with fail
    go_ret2
    obtain ⟨F', hal, hI⟩ := HEND.out
    exact ⟨F', A, rd2, hal, hI, HBAD.out HQ.out rd2 HRB.out.1 HRB.out.2⟩
  · have HQ : Hid (¬ (AllLt ll e.key ∧ AllGt lr e.key)) := fun h => by have := (HGTB.out.1 h.2) rfl; omega
    have d1 : decide (e.key ≤ KL) = false := decide_eq_false (by omega)
    have d2 : decide (KG ≤ e.key) = true := decide_eq_true hq2
    have d3 : ¬ e.key ≤ KL := by omega
    go_wp2_with fail
    go_ret2
    obtain ⟨F', hal, hI⟩ := HEND.out
    exact ⟨F', A, rd2, hal, hI, HBAD.out HQ.out rd2 HRB.out.1 HRB.out.2⟩
  · have HQ : Hid (¬ (AllLt ll e.key ∧ AllGt lr e.key)) := fun h => by have := (HGTB.out.1 h.2) rfl; omega
    have d2 : decide (KG ≤ e.key) = true := decide_eq_true hq2
    go_wp2_with fail
    go_ret2
    obtain ⟨F', hal, hI⟩ := HEND.out
    exact ⟨F', A, rd2, hal, hI, HBAD.out HQ.out rd2 HRB.out.1 HRB.out.2⟩
  have HOK : Hid (AllLt ll e.key ∧ AllGt lr e.key) := by
    refine ⟨HLTB.out.2 fun h => ?_, HGTB.out.2 fun h => ?_⟩
    · rcases hgood with ⟨⟨q1, q2⟩, q3⟩ | ⟨⟨q1, q2⟩, q3⟩ | ⟨q1, q3⟩ | ⟨q1, q3⟩
      · exact q2
      · exact q2
      · rw [q1] at h; cases h
      · rw [q1] at h; cases h
    · rcases hgood with ⟨q3, q1, q2⟩ | ⟨q3, q1⟩ | ⟨q3, q1, q2⟩ | ⟨q3, q1⟩
      · exact q2
      · rw [q1] at h; cases h
      · exact q2
      · rw [q1] at h; cases h
  have HGL : Hid (ll.length + lr.length + 1 ≤ 2147483647) := by have := HN.out; show _ ≤ _; omega
  clear HBAD HLTB HGTB HEND
  rcases hgood with ⟨⟨rfl, hq⟩, rfl, hq2⟩ | ⟨⟨rfl, hq⟩, rfl⟩ | ⟨rfl, rfl, hq2⟩ | ⟨rfl, rfl⟩
  case' inl => have d1 : decide (e.key ≤ KL) = false := decide_eq_false (by omega)
  case' inl => have d3 : ¬ e.key ≤ KL := by omega
  case' inl => have d2 : decide (KG ≤ e.key) = false := decide_eq_false (by omega)
  case' inl => have d4 : ¬ KG ≤ e.key := by omega
  case' inr.inl => have d1 : decide (e.key ≤ KL) = false := decide_eq_false (by omega)
  case' inr.inl => have d3 : ¬ e.key ≤ KL := by omega
  case' inr.inr.inl => have d2 : decide (KG ≤ e.key) = false := decide_eq_false (by omega)
  case' inr.inr.inl => have d4 : ¬ KG ≤ e.key := by omega
  all_goals
    go_wp2_with fail
    refine HS2.out.free.mono ?_
    rintro en w6 ⟨rfl, hs6⟩
    have HS6 := Lib.hid hs6
    clear hs6
    go_wp2_with fail
    refine (HS6.out.sz (by have := HRD.out; have := HR2.out; omega) (by have := HRD.out; have := HR2.out; have := HB.out; omega) HZ.out.2.2.2.2.1 HZ.out.2.2.1 HV.out.ok).mono ?_
    rintro en w7 ⟨rfl, hs7⟩
    rw [HZ.out.1]
    have HS7 := Lib.hid hs7
    clear hs7
    go_wp2_with fail
    refine (HS7.out.sz (by have := HRD.out; have := HR2.out; (repeat' split) <;> omega) (by have := HRD.out; have := HR2.out; have := HB.out; (repeat' split) <;> omega) HZ.out.2.2.2.2.2 HZ.out.2.2.2.1 HV.out.ok).mono ?_
    rintro en w8 ⟨rfl, hs8⟩
    rw [HZ.out.2.1]
    obtain ⟨rd3, hrd3⟩ : ∃ r, (rd2 + if L = 0 then 0 else 1) + (if R = 0 then 0 else 1) = r := ⟨_, rfl⟩
    have HR3 : Hid (rd ≤ rd3 ∧ rd3 ≤ rd + mostI ll.length + mostI lr.length + 2) := by
      have := HR2.out
      show rd ≤ rd3 ∧ rd3 ≤ rd + mostI ll.length + mostI lr.length + 2
      rw [← hrd3]
      (repeat' split) <;> omega
    rw [hrd3] at hs8
    have HS8 := Lib.hid hs8
    clear hs8 hrd3
    go_wp2_with fail
    refine (rsJoin_any (ll.length : Int) (lr.length : Int) w8 (by have := HN.out; unfold in64; omega) (by have := HN.out; unfold in64; omega)).mono ?_
    rintro en w9 ⟨rfl, hb9⟩
    have HS9 := Lib.hid (HS8.out.calm hb9)
    clear hb9
    by_cases hfr : (A.σ.free.length : Int) < joinI (ll.length : Int) (lr.length : Int)
    · have d9 : decide ((A.σ.free.length : Int) < joinI (ll.length : Int) (lr.length : Int)) = true := decide_eq_true hfr
      have HQ : Hid (JoinQ A rd held L R ll lr e (.returned (.tuple #[.int .u32 0, .int .i64 2])) A rd3) := ⟨HR3.out.1, by have := HR3.out; have := HB.out; omega, .inr (.inl ⟨HOK.out, hfr, rfl, rfl⟩)⟩
      have HE := Lib.hid HS9.out.ends
      go_wp2_with fail
      go_ret2
      obtain ⟨F', hal, hI⟩ := HE.out
      exact ⟨F', A, rd3, hal, hI, HQ.out⟩
    have d9 : decide ((A.σ.free.length : Int) < joinI (ll.length : Int) (lr.length : Int)) = false := decide_eq_false hfr
    have HFR : Hid (joinI (ll.length : Int) (lr.length : Int) ≤ (A.σ.free.length : Int)) := by show _ ≤ _; omega
    obtain ⟨v0, v1⟩ := two_ofE (HS9.out.boxes (ge, Obj.cells #[Value.int .i64 e.key, .int .i64 e.val] 25 (0, 0)) (by simp)).2
    go_wp2_with fail
    refine (HS9.out.mut fun F1 hI1 => link_all I (rotImpl I) numJ _ e w9 ⟨hI1, HV.out, HL.out.agg, fun j => Nat.le_trans (HM.out j) (by decide), HL.out.at_, HR.out.at_, HW.out.1, HW.out.2.1, HW.out.2.2, HGL.out, by have := HRD.out; have := HR3.out; omega, by have := HRD.out; have := HR3.out; have := HB.out; omega, by have := HFR.out; have := HB.out; have := HJ.out; omega⟩ (Nat.lt_succ_self _)).mono ?_
    rintro en w10 ⟨B, rd10, ⟨q0, q1, j, t, rfl, q2, q3, q4, q5⟩, hs10⟩
    have HQ : Hid (JoinQ A rd held L R ll lr e (.returned (.tuple #[.int .u32 (j : Int), .int .i64 0])) B rd10) :=
      ⟨by have := HR3.out; omega, by have := HR3.out; have := HB.out; omega, .inr (.inr ⟨HOK.out, HFR.out, j, t, rfl, q2.got q3, fun hb => q5 (bal_wb hb)⟩)⟩
    have HE := Lib.hid hs10.ends
    clear q0 q1 q2 q3 q4 q5 hs10
    go_wp2_with fail
    go_ret2
    obtain ⟨F', hal, hI⟩ := HE.out
    exact ⟨F', B, rd10, hal, hI, HQ.out⟩
theorem whole_lo {l : List En} (hu : Up l) {f : En} {k : Int} (hf : l.head? = some f) (h : k < f.key) : getE l k = none ∧ lowE l k = [] ∧ highE l k = l := by
  have hg : AllGt l k := (allGtJ hu k).2 fun x hx => by rw [hf] at hx; cases hx; exact h
  refine ⟨getE_none fun x hx => by have := hg x hx; omega, ?_, ?_⟩
  · unfold lowE; exact fil0 fun x hx => by have := hg x hx; simp; omega
  · unfold highE; exact fil1 fun x hx => by have := hg x hx; simp; omega
theorem whole_hi {l : List En} (hu : Up l) {g : En} {k : Int} (hg : l.getLast? = some g) (h : g.key < k) : getE l k = none ∧ lowE l k = l ∧ highE l k = [] := by
  have hl : AllLt l k := (allLtJ hu k).2 fun x hx => by rw [hg] at hx; cases hx; exact h
  refine ⟨getE_none fun x hx => by have := hl x hx; omega, ?_, ?_⟩
  · unfold lowE; exact fil1 fun x hx => by have := hl x hx; simp; omega
  · unfold highE; exact fil0 fun x hx => by have := hl x hx; simp; omega
theorem not_whole {l : List En} {f g : En} {k : Int} (hf : l.head? = some f) (hg : l.getLast? = some g) (h1 : f.key ≤ k) (h2 : k ≤ g.key) : ¬ wholeE l k := by
  rintro ⟨hn, h⟩
  have mf := List.mem_of_mem_head? hf
  have mg := List.mem_of_getLast? hg
  have hne : ∀ x ∈ l, x.key ≠ k := fun x hx e => by
    have := List.find?_eq_none.1 hn x hx
    simp [e] at this
  have n1 := hne f mf
  have n2 := hne g mg
  rcases h with h | h
  · have : f ∈ lowE l k := List.mem_filter.2 ⟨mf, by simp; omega⟩
    rw [h] at this
    cases this
  · have : g ∈ highE l k := List.mem_filter.2 ⟨mg, by simp; omega⟩
    rw [h] at this
    cases this
set_option maxHeartbeats 32000000 in
set_option maxRecDepth 100000 in
theorem splitP_any (I : AImpl) {p : Value} {A : Ar} {rd : Int} {F : Nat → Prop} {held : Nat → Nat} {i : Nat} {t : Tr} {l : List En} (k : Int) (w : World) (hI : I.Is w p A rd F) (hv : A.Inv [] held) (hm : ∀ j, held j ≤ 1048000) (hT : TreeAt A i t l) (hw : WfL l) (h0 : 0 ≤ rd) (h1 : rd ≤ 1099511000000) (hk : i64R k) :
    Calls Tryz.prog 42 #[p, .int .u32 (i : Int), .int .i64 k] w (Mut I p F (SplitQ A rd held i l k) w) := by
  obtain ⟨pa, rfl⟩ := I.ptr hI
  have HS0 := Lib.hid (Ins.start hI)
  have HV := Lib.hid hv
  have HM := Lib.hid hm
  have HT := Lib.hid hT
  have HW : Hid (WfL l ∧ i64R k) := ⟨hw, hk⟩
  have HRD : Hid (0 ≤ rd ∧ rd ≤ 1099511000000) := ⟨h0, h1⟩
  have hn := hT.few
  have HN : Hid (l.length ≤ 65536) := hn
  have HB : Hid (2 * mostI l.length + 1 + 45 * (xh l.length : Int) ≤ splitBd l.length ∧ 0 ≤ mostI l.length ∧ mostI l.length ≤ 1000 ∧ (xh l.length : Int) ≤ 100 ∧ splitI (l.length : Int) = 12 * ((xh l.length : Int) + 2) ∧ t.ht ≤ xh l.length ∧ xh (lowE l k).length ≤ xh l.length ∧ xh (highE l k).length ≤ xh l.length) := by
    have h2 := (xh_spec (n := l.length) (by omega)).2.1
    refine ⟨?_, ?_, ?_, by omega, splitJ hn, hT.ht (by omega), xh_up (low_len l k) (by omega), xh_up (high_len l k) (by omega)⟩ <;> (try unfold splitBd) <;> (try unfold mostI) <;> omega
  have HZ : Hid (A.sz i = (l.length : Int) ∧ A.Idx i ∧ i < 4294967296 ∧ A.cnt i < 4611686018427387904) := ⟨hT.at_.sz hT.agg, hT.idx', hT.idx, cnt_few hv (fun j => Nat.le_trans (hm j) (by decide)) i⟩
  obtain ⟨ol, hol⟩ : ∃ o, l.getLast? = o := ⟨_, rfl⟩
  obtain ⟨og, hog⟩ : ∃ o, l.head? = o := ⟨_, rfl⟩
  have HOL := Lib.hid hol
  have HOG := Lib.hid hog
  clear hI hv hm hT hw h0 h1 hk hn hol hog
  go_enter Tryz.func42, Tryz.ntmps42
  go_wp2_with fail
  refine (HS0.out.call fun F1 hI1 => (lkImpl I).first w hI1 HT.out HRD.out.1 (by have := HRD.out; omega) (fun y hy => (HW.out.1 y hy).1)).mono ?_
  rintro en w2 ⟨rfl, rd1, hs, r1, r2⟩
  rw [HOG.out]
  have HR1 : Hid (rd ≤ rd1 ∧ rd1 ≤ rd + mostI l.length) := ⟨r1, r2⟩
  unfold enR enA
  have hs1 := hs.box #[Value.int .i64 (og.elim 0 (·.key)), .int .i64 (og.elim 0 (·.val))] 25
  clear hs HS0 r1 r2
  go_upto_region 2 with fail
  generalize w2.alloc (Obj.cells #[Value.int .i64 (og.elim 0 (·.key)), .int .i64 (og.elim 0 (·.val))] 25) = w3 at hs1 ⊢
  generalize w2.heap.size = ga at hs1 ⊢
  have HS1 := Lib.hid hs1
  clear hs1
  go_wp2_with fail
  refine (HS1.out.call fun F1 hI1 => (lkImpl I).last w3 hI1 HT.out (by have := HRD.out; have := HR1.out; omega) (by have := HRD.out; have := HR1.out; have := HB.out; omega) (fun y hy => (HW.out.1 y hy).1)).mono ?_
  rintro en w4 ⟨rfl, rd2, hs, r1, r2⟩
  rw [HOL.out]
  have HR2 : Hid (rd ≤ rd2 ∧ rd2 ≤ rd + 2 * mostI l.length) := ⟨by have := HR1.out; omega, by have := HR1.out; omega⟩
  have hs2 := hs.box #[Value.int .i64 (ol.elim 0 (·.key)), .int .i64 (ol.elim 0 (·.val))] 25
  clear hs HS1 r1 r2
  unfold enR enA
  go_upto_region 3 with fail
  generalize w4.alloc (Obj.cells #[Value.int .i64 (ol.elim 0 (·.key)), .int .i64 (ol.elim 0 (·.val))] 25) = w5 at hs2 ⊢
  generalize w4.heap.size = gb at hs2 ⊢
  have HS2 := Lib.hid hs2
  clear hs2
  cases og with
  | none =>
    have hl : l = [] := List.head?_eq_none_iff.1 HOG.out
    have HQ : Hid (SplitQ A rd held i l k (.returned (.tuple #[.int .u32 0, .int .i64 0, .bool false, .int .u32 0, .int .i64 0])) A rd2) := by
      subst hl
      obtain ⟨m1, m2, m3⟩ := (Mid.start HV.out HT.out.agg).two (x := 0) (y := 0) (.inl rfl) (.inl rfl)
      have e : A.ret 0 = A := if_pos rfl
      rw [e, e] at m1
      refine ⟨HR2.out.1, by have := HR2.out; have := HB.out; omega, .inl ⟨⟨rfl, .inl rfl⟩, 0, 0, .nil, .nil, rfl, m1.got2 (.nil A) (.nil A), fun h => absurd rfl h, fun h => absurd rfl h, rfl⟩⟩
    have HE := Lib.hid HS2.out.ends
    clear hl
    simp only [Option.isSome_none]
    go_wp2_with fail
    refine bodyPost_ret (results_tmp5 rfl _ _ _) rfl ?_
    obtain ⟨F', hal, hI⟩ := HE.out
    exact ⟨F', A, rd2, hal, hI, HQ.out⟩
  | some f =>
  obtain ⟨g, rfl⟩ : ∃ g, ol = some g := by
    cases ol with
    | some g => exact ⟨g, rfl⟩
    | none =>
      have h1 : l = [] := List.getLast?_eq_none_iff.1 HOL.out
      have h2 := HOG.out
      rw [h1] at h2
      cases h2
  simp only [Option.isSome_some]
  obtain ⟨y0, y1⟩ := two_ofE (HS2.out.boxes (ga, Obj.cells #[Value.int .i64 f.key, .int .i64 f.val] 25 (0, 0)) (by simp)).2
  obtain ⟨z0, z1⟩ := two_ofE (HS2.out.boxes (gb, Obj.cells #[Value.int .i64 g.key, .int .i64 g.val] 25 (0, 0)) (by simp)).2
  by_cases hc1 : k < f.key
  · have d1 : decide (k < f.key) = true := decide_eq_true hc1
    have hwl := whole_lo HT.out.up HOG.out hc1
    have HQ : Hid (SplitQ A rd held i l k (.returned (.tuple #[.int .u32 0, .int .i64 0, .bool false, .int .u32 (i : Int), .int .i64 0])) (A.ret i) rd2) := by
      obtain ⟨m1, m2, m3⟩ := (Mid.start HV.out HT.out.agg).two (x := 0) (y := i) (.inl rfl) HZ.out.2.1
      have e : A.ret 0 = A := if_pos rfl
      rw [e] at m1 m2 m3
      refine ⟨HR2.out.1, by have := HR2.out; have := HB.out; omega, .inl ⟨⟨hwl.1, .inl hwl.2.1⟩, 0, i, .nil, t, rfl, ?_, fun h => absurd hwl.2.1 h, fun _ => rfl, by rw [m3]⟩⟩
      rw [hwl.2.1, hwl.2.2]
      exact m1.got2 (.nil _) (HT.out.at_.kept m2)
    clear hwl
    go_wp2_with fail
    refine (HS2.out.retain HZ.out.2.2.1 HZ.out.2.1 HZ.out.2.2.2).mono ?_
    rintro en w6 ⟨rfl, hs6⟩
    have HE := Lib.hid hs6.ends
    clear hs6 HS2 y0 y1 z0 z1
    go_wp2_with fail
    refine bodyPost_ret (results_tmp5 rfl _ _ _) rfl ?_
    obtain ⟨F', hal, hI⟩ := HE.out
    exact ⟨F', A.ret i, rd2, hal, hI, HQ.out⟩
  have d1 : decide (k < f.key) = false := decide_eq_false hc1
  by_cases hc2 : g.key < k
  · have d2 : decide (g.key < k) = true := decide_eq_true hc2
    have hwl := whole_hi HT.out.up HOL.out hc2
    have HQ : Hid (SplitQ A rd held i l k (.returned (.tuple #[.int .u32 (i : Int), .int .i64 0, .bool false, .int .u32 0, .int .i64 0])) (A.ret i) rd2) := by
      obtain ⟨m1, m2, m3⟩ := (Mid.start HV.out HT.out.agg).two (x := i) (y := 0) HZ.out.2.1 (.inl rfl)
      have e : (A.ret i).ret 0 = A.ret i := if_pos rfl
      rw [e] at m1 m2 m3
      refine ⟨HR2.out.1, by have := HR2.out; have := HB.out; omega, .inl ⟨⟨hwl.1, .inr hwl.2.2⟩, i, 0, t, .nil, rfl, ?_, fun _ => rfl, fun h => absurd hwl.2.2 h, by rw [m3]⟩⟩
      rw [hwl.2.1, hwl.2.2]
      exact m1.got2 (HT.out.at_.kept m2) (.nil _)
    clear hwl
    go_wp2_with fail
    refine (HS2.out.retain HZ.out.2.2.1 HZ.out.2.1 HZ.out.2.2.2).mono ?_
    rintro en w6 ⟨rfl, hs6⟩
    have HE := Lib.hid hs6.ends
    clear hs6 HS2 y0 y1 z0 z1
    go_wp2_with fail
    refine bodyPost_ret (results_tmp5 rfl _ _ _) rfl ?_
    obtain ⟨F', hal, hI⟩ := HE.out
    exact ⟨F', A.ret i, rd2, hal, hI, HQ.out⟩
  have d2 : decide (g.key < k) = false := decide_eq_false hc2
  have HNW : Hid (¬ wholeE l k) := not_whole HOG.out HOL.out (by omega) (by omega)
  go_wp2_with fail
  refine HS2.out.free.mono ?_
  rintro en w6 ⟨rfl, hs6⟩
  have HS6 := Lib.hid hs6
  clear hs6 HS2 y0 y1 z0 z1
  go_wp2_with fail
  refine (HS6.out.sz (by have := HRD.out; have := HR2.out; omega) (by have := HRD.out; have := HR2.out; have := HB.out; omega) HZ.out.2.2.1 HZ.out.2.1 HV.out.ok).mono ?_
  rintro en w7 ⟨rfl, hs7⟩
  rw [HZ.out.1]
  obtain ⟨rd3, hrd3⟩ : ∃ r, (rd2 + if i = 0 then 0 else 1) = r := ⟨_, rfl⟩
  have HR3 : Hid (rd ≤ rd3 ∧ rd3 ≤ rd + 2 * mostI l.length + 1) := by
    have := HR2.out
    show rd ≤ rd3 ∧ rd3 ≤ rd + 2 * mostI l.length + 1
    rw [← hrd3]
    split <;> omega
  rw [hrd3] at hs7
  have HS7 := Lib.hid hs7
  clear hs7 HS6 hrd3
  go_wp2_with fail
  refine (rsSplit_any (l.length : Int) w7 (by have := HN.out; unfold in64; omega)).mono ?_
  rintro en w8 ⟨rfl, hb8⟩
  have HS8 := Lib.hid (HS7.out.calm hb8)
  clear hb8 HS7
  by_cases hfr : (A.σ.free.length : Int) < splitI (l.length : Int)
  · have d9 : decide ((A.σ.free.length : Int) < splitI (l.length : Int)) = true := decide_eq_true hfr
    have HQ : Hid (SplitQ A rd held i l k (.returned (.tuple #[.int .u32 0, .int .i64 0, .bool false, .int .u32 0, .int .i64 2])) A rd3) := ⟨HR3.out.1, by have := HR3.out; have := HB.out; omega, .inr (.inl ⟨HNW.out, hfr, rfl, rfl⟩)⟩
    have HE := Lib.hid HS8.out.ends
    go_wp2_with fail
    refine bodyPost_ret (results_tmp5 rfl _ _ _) rfl ?_
    obtain ⟨F', hal, hI⟩ := HE.out
    exact ⟨F', A, rd3, hal, hI, HQ.out⟩
  have d9 : decide ((A.σ.free.length : Int) < splitI (l.length : Int)) = false := decide_eq_false hfr
  have HFR : Hid (splitI (l.length : Int) ≤ (A.σ.free.length : Int)) := by show _ ≤ _; omega
  go_wp2_with fail
  refine (HS8.out.mut fun F1 hI1 => cut_all I (rotImpl I) numJ t w8 ⟨hI1, HV.out, HT.out.agg, fun j => Nat.le_trans (HM.out j) (by decide), HT.out.at_, HT.out.up, HW.out.1, HW.out.2, by have := HN.out; omega, by have := HRD.out; have := HR3.out; omega, by have := HRD.out; have := HR3.out; have := HB.out; omega, by have := HFR.out; have := HB.out; omega⟩).mono ?_
  rintro en w10 ⟨B, rd10, ⟨q0, s, q1, q2, x, y, tx, ty, rfl, q3, q4, q5, q6⟩, hs10⟩
  obtain ⟨V, hV⟩ : ∃ V, (getE l k).elim (0 : Int) (·.val) = V := ⟨_, rfl⟩
  obtain ⟨D, hD⟩ : ∃ D, (getE l k).isSome = D := ⟨_, rfl⟩
  rw [hV, hD]
  have HQ : Hid (SplitQ A rd held i l k (.returned (.tuple #[.int .u32 (x : Int), .int .i64 V, .bool D, .int .u32 (y : Int), .int .i64 0])) B rd10) :=
    ⟨by have := HR3.out; omega, by have := HR3.out; have := HB.out; omega, .inr (.inr ⟨HNW.out, HFR.out, x, y, tx, ty, by rw [hV, hD], q3.got2 q4 q5⟩)⟩
  have hs11 := hs10.box #[Value.int .u32 (x : Int), .int .i64 V, .bool D, .int .u32 (y : Int)] 111
  clear hV hD q0 q1 q2 q3 q4 q5 q6 hs10 HS8
  go_upto_region 12 with fail
  generalize w10.alloc (Obj.cells #[Value.int .u32 (x : Int), .int .i64 V, .bool D, .int .u32 (y : Int)] 111) = w11 at hs11 ⊢
  generalize w10.heap.size = gp at hs11 ⊢
  obtain ⟨⟨p0, p1, p2, p3⟩, -⟩ := cells4_of (hs11.boxes _ (List.Mem.head _)).2
  have HE : Hid (∀ n, ∃ F', Alters F F' w (w11.drewN n) ∧ I.Is (w11.drewN n) (.pointer (some pa)) B rd10 F') := fun n => (hs11.calm (below_drewN (Below.refl _ _) n)).ends
  clear hs11
  go_quiet (fail)
  go_wp2_with fail
  refine bodyPost_ret (results_tmp5 rfl _ _ _) rfl ?_
  obtain ⟨F', hal, hI⟩ := HE.out _
  exact ⟨F', B, rd10, hal, hI, HQ.out⟩
theorem joinImpl (I : AImpl) : JoinImpl I where
  join := fun e w hI hv hm hL hR hwl hwr h0 h1 hk hx => joinP_any I e w hI hv hm hL hR hwl hwr h0 h1 hk hx
  concat := fun w hI hv hm hL hR hwl hwr h0 h1 => concatP_any I w hI hv hm hL hR hwl hwr h0 h1
  split := fun k w hI hv hm hT hw h0 h1 hk => splitP_any I k w hI hv hm hT hw h0 h1 hk
end Go.Proofs.YtckkmmdibgoajaaGreat
