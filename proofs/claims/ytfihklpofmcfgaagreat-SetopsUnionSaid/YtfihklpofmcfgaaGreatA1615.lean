/- Of the proofs of SetopsUnion, SetopsIntersect, SetopsSubtract: StOk4, RefKept, SameSlots, SameRows, SameDump, JnDuo, StCon, BkOk2, StOk, InsPath. -/
import Derived.Test.YtfihklpofmcfgaaGreatA1614
import Derived.Deep.RegionHeld3
import Derived.Deep.QuietTactic
import Derived.Deep.DeepCutAuto
set_option linter.unusedVariables false
set_option linter.unusedSimpArgs false
namespace Go.Proofs.YtfihklpofmcfgaaGreat
open Go.RowKit
theorem low_highO (k : Int) : ∀ m : List En, (lowE m k).length + (highE m k).length ≤ m.length
  | [] => Nat.le_refl _
  | e :: t => by
    have ih := low_highO k t
    unfold lowE highE at ih ⊢
    rw [List.filter_cons, List.filter_cons]
    by_cases h1 : e.key < k
    · have h2 : ¬ k < e.key := by omega
      rw [if_pos (by simpa using h1), if_neg (by simpa using h2)]
      simp only [List.length_cons]
      omega
    · rw [if_neg (by simpa using h1)]
      split
      · simp only [List.length_cons]; omega
      · simp only [List.length_cons]; omega
/-- a tree that is the result as a whole -/
theorem wh_spec {B : Ar} {x y : Nat} {t ty : Tr} {l m : List En} {bL bR : Bool} {pol : Int} {held : Nat → Nat} {s : Nat} (hx : At B x t l) (hy : At B y ty m) (hul : Up l) (hum : Up m) (hwl : WfL l) (hwm : WfL m) (h : whR bL bR pol x y = some s) : ∃ (t' : Tr) (r : List En), At B s t' r ∧ OpL bL bR pol l m r := by
  unfold whR at h
  by_cases h1 : x = 0
  · rw [if_pos h1] at h
    cases h
    have e := (hx.zero_iff (held := held)).1 h1
    subst e
    have hq := op_nil_l (bL := bL) (bR := bR) (pol := pol) hum hwm
    cases bR with
    | true => exact ⟨ty, m, hy, hq⟩
    | false => exact ⟨.nil, [], .nil B, hq⟩
  · rw [if_neg h1] at h
    by_cases h2 : y = 0
    · rw [if_pos h2] at h
      cases h
      have e := (hy.zero_iff (held := held)).1 h2
      subst e
      have hq := op_nil_r (bL := bL) (bR := bR) (pol := pol) hul hwl
      cases bL with
      | true => exact ⟨t, l, hx, hq⟩
      | false => exact ⟨.nil, [], .nil B, hq⟩
    · rw [if_neg h2] at h
      by_cases h3 : x = y ∧ pol ≠ 3
      · rw [if_pos h3] at h
        cases h
        have e := (hx.eqH (h3.1 ▸ hy)).2
        subst e
        have hq := op_same (bL := bL) (bR := bR) hul hwl h3.2
        cases hp : polB pol with
        | true => rw [hp] at hq; exact ⟨t, l, hx, hq⟩
        | false => rw [hp] at hq; exact ⟨.nil, [], .nil B, hq⟩
      · rw [if_neg h3] at h
        cases h
structure CmbP (I : AImpl) (w : World) (F : Nat → Prop) (p : Value) (A B : Ar) (rd : Int) (rs : List Row) (bs : List (Nat × Obj)) (held : Nat → Nat) (H : List Kt) (g : Nat) (bL bR : Bool) (pol : Int) (u x y N : Nat) (t ty : Tr) (l m : List En) (wr : World) : Prop where
  ins : Ins I w F p B rd rs ((g, Obj.cells (opC p bL bR pol u) 91 (0, 0)) :: bs) wr
  hd : Hd A held B (⟨y, ty, m⟩ :: H)
  few : ∀ j, held j ≤ 1048000
  len : H.length + 2 * t.ht ≤ 170
  at_ : At A x t l
  up : Up l
  wf : WfL l
  upm : Up m
  wfm : WfL m
  unr : t.size ≤ u
  unr2 : u ≤ 65536
  bud : ktn H + l.length + m.length ≤ N
  room : N + 12 * (xh N + 2) ≤ A.σ.free.length
  rd0 : 0 ≤ rd
  rd1 : rd + 20000 * (2 * (t.size : Int) + 1) ≤ 1099510000000
/-- what combine leaves -/
def CmbQ (A : Ar) (held : Nat → Nat) (H : List Kt) (bL bR : Bool) (pol : Int) (n : Nat) (l m : List En) (rd : Int) (u : Nat) (e : Ending) (C : Ar) (rd' : Int) (u' : Nat) : Prop :=
  ∃ (j : Nat) (t : Tr) (r : List En), e = .returned (.tuple #[.int .u32 (j : Int), .int .i64 0]) ∧ Hd A held C (⟨j, t, r⟩ :: H) ∧ OpL bL bR pol l m r ∧ rd ≤ rd' ∧ rd' ≤ rd + 20000 * (2 * (n : Int) + 1) ∧ u ≤ u' + n ∧ u' ≤ u
def CmbOk (I : AImpl) (t : Tr) : Prop := ∀ {w : World} {F : Nat → Prop} {p : Value} {A B : Ar} {rd : Int} {rs : List Row} {bs : List (Nat × Obj)} {held : Nat → Nat} {H : List Kt} {g : Nat} {bL bR : Bool} {pol : Int} {u x y N : Nat} {ty : Tr} {l m : List En} (wr : World), CmbP I w F p A B rd rs bs held H g bL bR pol u x y N t ty l m wr →
    Calls Tryz.prog 82 #[.pointer (some ⟨g, 0, none⟩), .int .u32 (x : Int), .int .u32 (y : Int)] wr (fun e w' => ∃ (C : Ar) (rd' : Int) (u' : Nat), CmbQ A held H bL bR pol t.size l m rd u e C rd' u' ∧ Ins I w F p C rd' rs ((g, Obj.cells (opC p bL bR pol u') 91 (0, 0)) :: bs) w')
set_option maxHeartbeats 8000000 in
set_option maxRecDepth 100000 in
theorem cmb_whole (I : AImpl) {w wr : World} {F : Nat → Prop} {p : Value} {A B : Ar} {rd : Int} {rs : List Row} {bs : List (Nat × Obj)} {held : Nat → Nat} {H : List Kt} {g : Nat} {bL bR : Bool} {pol : Int} {u x y N s : Nat} {t ty : Tr} {l m : List En} (hP : CmbP I w F p A B rd rs bs held H g bL bR pol u x y N t ty l m wr) (hw : whR bL bR pol x y = some s) :
    Calls Tryz.prog 82 #[.pointer (some ⟨g, 0, none⟩), .int .u32 (x : Int), .int .u32 (y : Int)] wr (fun e w' => ∃ (C : Ar) (rd' : Int) (u' : Nat), CmbQ A held H bL bR pol t.size l m rd u e C rd' u' ∧ Ins I w F p C rd' rs ((g, Obj.cells (opC p bL bR pol u') 91 (0, 0)) :: bs) w') := by
  have HS0 := Lib.hid hP.ins
  obtain ⟨pa, rfl⟩ : ∃ pa, p = .pointer (some pa) := by
    obtain ⟨F1, f1, _⟩ := hP.ins.mr.has
    exact I.ptr f1
  obtain ⟨t', r, a1, a2⟩ := wh_spec (held := held) (hP.hd.of hP.at_) (hP.hd.at_ ⟨y, ty, m⟩ (List.Mem.head _)) hP.up hP.upm hP.wf hP.wfm hw
  have HA := Lib.hid a1
  have HD := Lib.hid hP.hd
  have HFEW : Hid (∀ j, plL held (kti (⟨y, ty, m⟩ :: H)) j ≤ 1048200) := hP.hd.few hP.few (by have := hP.len; simp; omega)
  have HW := Lib.hid hw
  obtain ⟨m1, m2, m3⟩ := hP.hd.ret a1
  have HG := Lib.hid (m1.perm (List.Perm.swap _ _ _)).give
  have HOP := Lib.hid a2
  have HRD := Lib.hid hP.rd0
  clear hP hw a1 a2 m1 m2 m3
  obtain ⟨⟨c0, c1, c2, c3, c4⟩, -⟩ := opC_of (HS0.out.boxes _ (List.Mem.head _)).2
  go_enter Tryz.func82, Tryz.ntmps82
  go_wp2_with fail
  refine (wholeS_any (bL := bL) (bR := bR) (pol := pol) (u := u) wr (HS0.out.boxes _ (List.Mem.head _)).2).mono ?_
  rintro e w1 ⟨rfl, rfl⟩
  rw [HW.out]
  simp only [Option.getD_some, Option.isSome_some]
  go_wp2_with fail
  refine (HS0.out.mut fun F1 hI1 => shareS_any I w1 hI1 HD.out.mid.inv (fun q => Nat.le_trans (HFEW.out q) (by decide)) HA.out.idx).mono ?_
  rintro e w2 ⟨C, rd2, ⟨rfl, rfl, hrd⟩, hs2⟩
  rw [hrd] at hs2
  have HS2 := Lib.hid hs2
  clear hrd hs2 HS0 c0 c1 c2 c3 c4
  obtain ⟨⟨c0, c1, c2, c3, c4⟩, -⟩ := opC_of (HS2.out.boxes _ (List.Mem.head _)).2
  go_wp2_with fail
  refine (HS2.out.release HG.out.2.2.1 HG.out.2.1 HG.out.1).mono ?_
  rintro e w3 ⟨rfl, hs3⟩
  have HF : Hid (CmbQ A held H bL bR pol t.size l m rd u (.returned (.tuple #[.int .u32 (s : Int), .int .i64 0])) ((B.ret s).gone y) rd u ∧ Ins I w F (.pointer (some pa)) ((B.ret s).gone y) rd rs ((g, Obj.cells (opC (.pointer (some pa)) bL bR pol u) 91 (0, 0)) :: bs) w3) :=
    ⟨⟨s, t', r, rfl, HG.out.2.2.2, HOP.out, Int.le_refl _, by omega, by omega, Nat.le_refl _⟩, hs3⟩
  clear hs3 HS2 c0 c1 c2 c3 c4
  go_wp2_with fail
  go_ret2
  exact ⟨_, rd, u, HF.out.1, HF.out.2⟩
structure SubP (I : AImpl) (w : World) (F : Nat → Prop) (p : Value) (A B : Ar) (rd : Int) (rs : List Row) (bs : List (Nat × Obj)) (held : Nat → Nat) (H : List Kt) (g : Nat) (bL bR : Bool) (pol : Int) (u lo hi N : Nat) (X : Nd) (tl tr tlo thi : Tr) (ll lr ml mh : List En) (wr : World) : Prop where
  ins : Ins I w F p B rd rs ((g, Obj.cells (opC p bL bR pol u) 91 (0, 0)) :: bs) wr
  hd : Hd A held B (⟨hi, thi, mh⟩ :: ⟨lo, tlo, ml⟩ :: H)
  few : ∀ j, held j ≤ 1048000
  len : H.length + 2 * max tl.ht tr.ht ≤ 168
  atl : At A X.left tl ll
  atr : At A X.right tr lr
  upl : Up ll
  upr : Up lr
  wfl : WfL ll
  wfr : WfL lr
  upml : Up ml
  upmh : Up mh
  wfml : WfL ml
  wfmh : WfL mh
  unr : tl.size + tr.size ≤ u
  unr2 : u ≤ 65536
  bud : ktn H + ll.length + lr.length + ml.length + mh.length ≤ N
  room : N + 12 * (xh N + 2) ≤ A.σ.free.length
  rd0 : 0 ≤ rd
  rd1 : rd + 20000 * (2 * (tl.size : Int) + 2 * (tr.size : Int) + 2) ≤ 1099510000000
def SubQ (A : Ar) (held : Nat → Nat) (H : List Kt) (bL bR : Bool) (pol : Int) (n : Nat) (ll lr ml mh : List En) (rd : Int) (u : Nat) (e : Ending) (C : Ar) (rd' : Int) (u' : Nat) : Prop :=
  ∃ (L R : Nat) (tl tr : Tr) (r1 r2 : List En), e = .returned (.tuple #[.int .u32 (L : Int), .int .u32 (R : Int), .int .i64 0]) ∧ Hd A held C (⟨R, tr, r2⟩ :: ⟨L, tl, r1⟩ :: H) ∧ OpL bL bR pol ll ml r1 ∧ OpL bL bR pol lr mh r2 ∧ rd ≤ rd' ∧ rd' ≤ rd + 20000 * (2 * (n : Int) + 2) ∧ u ≤ u' + n ∧ u' ≤ u
set_option maxHeartbeats 16000000 in
set_option maxRecDepth 100000 in
theorem sub_any (I : AImpl) {w wr : World} {F : Nat → Prop} {p : Value} {A B : Ar} {rd : Int} {rs : List Row} {bs : List (Nat × Obj)} {held : Nat → Nat} {H : List Kt} {g : Nat} {bL bR : Bool} {pol : Int} {u lo hi N : Nat} {X : Nd} {V : Int} {D : Bool} {tl tr tlo thi : Tr} {ll lr ml mh : List En} (ihl : CmbOk I tl) (ihr : CmbOk I tr) (hP : SubP I w F p A B rd rs bs held H g bL bR pol u lo hi N X tl tr tlo thi ll lr ml mh wr) :
    Calls Tryz.prog 103 #[.pointer (some ⟨g, 0, none⟩), .agg #[Value.int .i64 X.key, .int .i64 X.val, .int .u32 (X.left : Int), .int .u32 (X.right : Int), .int .i64 X.size, .int .i64 X.sum, .int .i64 X.mn, .int .i64 X.mx], .agg #[Value.int .u32 (lo : Int), .int .i64 V, .bool D, .int .u32 (hi : Int)]] wr (fun e w' => ∃ (C : Ar) (rd' : Int) (u' : Nat), SubQ A held H bL bR pol (tl.size + tr.size) ll lr ml mh rd u e C rd' u' ∧ Ins I w F p C rd' rs ((g, Obj.cells (opC p bL bR pol u') 91 (0, 0)) :: bs) w') := by
  obtain ⟨pa, rfl⟩ : ∃ pa, p = .pointer (some pa) := by
    obtain ⟨F1, f1, _⟩ := hP.ins.mr.has
    exact I.ptr f1
  have hs0 := (hP.ins.box #[Value.int .i64 X.key, .int .i64 X.val, .int .u32 (X.left : Int), .int .u32 (X.right : Int), .int .i64 X.size, .int .i64 X.sum, .int .i64 X.mn, .int .i64 X.mx] 81).box #[Value.int .u32 (lo : Int), .int .i64 V, .bool D, .int .u32 (hi : Int)] 144
  (try simp only [sz_al] at hs0)
  have HIL : Hid (CmbOk I tl) := @ihl
  have HIR : Hid (CmbOk I tr) := @ihr
  have HP := Lib.hid hP
  clear ihl ihr hP
  go_enter Tryz.func103, Tryz.ntmps103
  go_upto_region 1 with fail
  (try simp only [sz_al])
  generalize (wr.alloc (Obj.cells #[Value.int .i64 X.key, .int .i64 X.val, .int .u32 (X.left : Int), .int .u32 (X.right : Int), .int .i64 X.size, .int .i64 X.sum, .int .i64 X.mn, .int .i64 X.mx] 81)).alloc (Obj.cells #[Value.int .u32 (lo : Int), .int .i64 V, .bool D, .int .u32 (hi : Int)] 144) = w1 at hs0 ⊢
  generalize wr.heap.size + 1 = qp at hs0 ⊢
  generalize wr.heap.size = qn at hs0 ⊢
  have HS0 := Lib.hid hs0
  clear hs0
  obtain ⟨⟨p0, p1, p2, p3⟩, -⟩ := cells4_of (HS0.out.boxes _ (List.Mem.head _)).2
  obtain ⟨⟨x0, x1, x2, x3, -⟩, -⟩ := HS0.out.row8 (g := qn) (X := X) (by simp [ndRow])
  go_wp2_with fail
  refine (HIL.out w1 ⟨HS0.out.perm (List.perm_middle (l₁ := [_, _])), HP.out.hd.perm (List.Perm.swap _ _ _), HP.out.few, by have := HP.out.len; simp; omega, HP.out.atl, HP.out.upl, HP.out.wfl, HP.out.upml, HP.out.wfml, by have := HP.out.unr; omega, HP.out.unr2, by have := HP.out.bud; rw [ktn_cons]; show _ + _ + ll.length + ml.length ≤ _; simp only; omega, HP.out.room, HP.out.rd0, by have := HP.out.rd1; omega⟩).mono ?_
  rintro e w2 ⟨C, rd1, u1, ⟨L, t1, r1, rfl, b1, b2, b3, b4, b5, b6⟩, hs2⟩
  have HB : Hid (rd ≤ rd1 ∧ rd1 ≤ rd + 20000 * (2 * (tl.size : Int) + 1) ∧ u ≤ u1 + tl.size ∧ u1 ≤ u) := ⟨b3, b4, b5, b6⟩
  have HO1 := Lib.hid b2
  have HD1 := Lib.hid b1
  have HS2 := Lib.hid (hs2.perm (List.perm_middle (l₁ := [_, _])).symm)
  clear b1 b2 b3 b4 b5 b6 hs2 p0 p1 p2 p3 x0 x1 x2 x3 HS0
  obtain ⟨⟨p0, p1, p2, p3⟩, -⟩ := cells4_of (HS2.out.boxes _ (List.Mem.head _)).2
  obtain ⟨⟨x0, x1, x2, x3, -⟩, -⟩ := HS2.out.row8 (g := qn) (X := X) (by simp [ndRow])
  go_wp2_with fail
  refine (HIR.out w2 ⟨HS2.out.perm (List.perm_middle (l₁ := [_, _])), HD1.out.perm (List.Perm.swap _ _ _), HP.out.few, by have := HP.out.len; simp; omega, HP.out.atr, HP.out.upr, HP.out.wfr, HP.out.upmh, HP.out.wfmh, by have := HP.out.unr; have := HB.out; omega, by have := HP.out.unr2; have := HB.out; omega, by have := HP.out.bud; have := HO1.out.len; rw [ktn_cons]; show _ + _ + lr.length + mh.length ≤ _; simp only; omega, HP.out.room, by have := HP.out.rd0; have := HB.out; omega, by have := HP.out.rd1; have := HB.out; omega⟩).mono ?_
  rintro e w3 ⟨C2, rd2, u2, ⟨R, t2, r2, rfl, b1, b2, b3, b4, b5, b6⟩, hs3⟩
  have HF : Hid (SubQ A held H bL bR pol (tl.size + tr.size) ll lr ml mh rd u (.returned (.tuple #[.int .u32 (L : Int), .int .u32 (R : Int), .int .i64 0])) C2 rd2 u2 ∧ Ins I w F (.pointer (some pa)) C2 rd2 rs ((g, Obj.cells (opC (.pointer (some pa)) bL bR pol u2) 91 (0, 0)) :: bs) w3) :=
    ⟨⟨L, R, t1, t2, r1, r2, rfl, b1, HO1.out, b2, by have := HB.out; omega, by have := HB.out; omega, by have := HB.out; omega, by have := HB.out; omega⟩, hs3.less (List.Sublist.refl _) (.cons_cons _ (.cons _ (.cons _ (List.Sublist.refl _))))⟩
  clear b1 b2 b3 b4 b5 b6 hs3 p0 p1 p2 p3 x0 x1 x2 x3 HS2
  go_wp2_with fail
  refine bodyPost_ret (results_tmp3 rfl _ _ _) rfl ?_
  exact ⟨C2, rd2, u2, HF.out.1, HF.out.2⟩
set_option maxHeartbeats 16000000 in
set_option maxRecDepth 100000 in
theorem cmb_node (I : AImpl) {i' : Nat} {tl tr : Tr} (ihl : CmbOk I tl) (ihr : CmbOk I tr) {w wr : World} {F : Nat → Prop} {p : Value} {A B : Ar} {rd : Int} {rs : List Row} {bs : List (Nat × Obj)} {held : Nat → Nat} {H : List Kt} {g : Nat} {bL bR : Bool} {pol : Int} {u x y N : Nat} {ty : Tr} {l m : List En} (hP : CmbP I w F p A B rd rs bs held H g bL bR pol u x y N (.node i' tl tr) ty l m wr) (hw : whR bL bR pol x y = none) (hx0 : x ≠ 0) :
    Calls Tryz.prog 82 #[.pointer (some ⟨g, 0, none⟩), .int .u32 (x : Int), .int .u32 (y : Int)] wr (fun e w' => ∃ (C : Ar) (rd' : Int) (u' : Nat), CmbQ A held H bL bR pol (tl.size + tr.size + 1) l m rd u e C rd' u' ∧ Ins I w F p C rd' rs ((g, Obj.cells (opC p bL bR pol u') 91 (0, 0)) :: bs) w') := by
  have hs0 := hP.ins
  obtain ⟨pa, rfl⟩ : ∃ pa, p = .pointer (some pa) := by
    obtain ⟨F1, f1, _⟩ := hP.ins.mr.has
    exact I.ptr f1
  have hsz : (Tr.node i' tl tr).size = tl.size + tr.size + 1 := rfl
  have hht : (Tr.node i' tl tr).ht = 1 + max tl.ht tr.ht := rfl
  obtain ⟨u1, hu1⟩ : ∃ u1, u = u1 + 1 := ⟨u - 1, by have := hP.unr; omega⟩
  subst hu1
  have hon := hP.at_.idx.resolve_left hx0
  obtain ⟨X, hX⟩ : ∃ X, A.nd x = X := ⟨_, rfl⟩
  obtain ⟨tl', tr', ll, lr, hnode, rfl, hA, hB, -⟩ := hP.at_.split hx0
  rw [hX] at hA hB
  injection hnode with _ e1 e2
  subst e1 e2
  have hup := hP.up
  have hwf := hP.wf
  have hbud := hP.bud
  have hat := hP.at_
  rw [hX] at hup hwf hbud hat ⊢
  have hup2 := up_app hup
  have hlen : (ll ++ (⟨X.key, X.val⟩ : En) :: lr).length = ll.length + lr.length + 1 := by simp; omega
  rw [hlen] at hbud
  have hke : i64R X.key ∧ i64R X.val := hwf (⟨X.key, X.val⟩ : En) (by simp)
  have hN : N ≤ 65536 := by have := hP.room; have := hP.hd.mid.base.ok.len; have := hP.hd.mid.base.ok.cap2; omega
  have hlh := low_highO X.key m
  have HIL : Hid (CmbOk I tl) := @ihl
  have HIR : Hid (CmbOk I tr) := @ihr
  have HD := Lib.hid hP.hd
  have HFEW := Lib.hid hP.few
  have HW := Lib.hid hw
  have HAT : Hid (At A x (.node i' tl tr) (ll ++ (⟨X.key, X.val⟩ : En) :: lr) ∧ At A X.left tl ll ∧ At A X.right tr lr ∧ A.σ.on x = true ∧ A.nd x = X) := ⟨hat, hA, hB, hon, hX⟩
  have HUP : Hid (Up (ll ++ (⟨X.key, X.val⟩ : En) :: lr) ∧ WfL (ll ++ (⟨X.key, X.val⟩ : En) :: lr) ∧ Up ll ∧ Up lr ∧ WfL ll ∧ WfL lr) := ⟨hup, hwf, hup2.1, hup2.2.1, hwf.left, hwf.right.tail⟩
  have HM : Hid (Up m ∧ WfL m ∧ i64R X.key) := ⟨hP.upm, hP.wfm, hke.1⟩
  have HN : Hid (ktn H + ll.length + lr.length + 1 + m.length ≤ N ∧ N ≤ 65536 ∧ N + 12 * (xh N + 2) ≤ A.σ.free.length ∧ xh N < 80 ∧ H.length + 2 * max tl.ht tr.ht ≤ 168 ∧ tl.size + tr.size ≤ u1 ∧ u1 ≤ 65535 ∧ (lowE m X.key).length + (highE m X.key).length ≤ m.length) := ⟨by omega, hN, hP.room, (xh_spec (n := N) (by omega)).2.1, by have := hP.len; omega, by have := hP.unr; omega, by have := hP.unr2; omega, hlh⟩
  have HRD : Hid (0 ≤ rd ∧ rd + 20000 * (2 * (tl.size : Int) + 2 * (tr.size : Int) + 3) ≤ 1099510000000) := ⟨hP.rd0, by have := hP.rd1; rw [hsz] at this; omega⟩
  have HBD : Hid (∀ n k : Nat, n + k + 1 ≤ N → 0 ≤ splitBd n ∧ splitBd n ≤ 9840 ∧ 0 ≤ joinBd n k ∧ joinBd n k ≤ 4920 ∧ splitI (n : Int) ≤ 12 * ((xh N : Int) + 2) ∧ joinI (n : Int) (k : Int) ≤ 12 * ((xh N : Int) + 2)) := fun n k hnk => by
    have q1 := xh_up (m := n) (n := N) (by omega) (by omega)
    have q2 := xh_up (m := n + k + 1) (n := N) hnk (by omega)
    have q3 := (xh_spec (n := N) (by omega)).2.1
    have q4 := splitJ (n := n) (by omega)
    have q5 := joinJ (n := n) (m := k) (by omega) (by omega)
    unfold splitBd joinBd
    refine ⟨by omega, by omega, by omega, by omega, by omega, by omega⟩
  have HS0 := Lib.hid hs0
  clear hs0 hP ihl ihr hw hsz hht hon hX hA hB hup hwf hbud hat hup2 hlen hke hN hlh
  go_enter Tryz.func82, Tryz.ntmps82
  go_wp2_with fail
  refine (wholeS_any (bL := bL) (bR := bR) (pol := pol) (u := u1 + 1) wr (HS0.out.boxes _ (List.Mem.head _)).2).mono ?_
  rintro e w1 ⟨rfl, rfl⟩
  rw [HW.out]
  simp only [Option.getD_none, Option.isSome_none]
  go_wp2_with fail
  refine (divS_any I HS0.out HD.out HFEW.out (by have := HN.out; omega) ((HD.out.mid.kept.nd x HAT.out.2.2.2.1).trans HAT.out.2.2.2.2) (HD.out.mid.kept.on x HAT.out.2.2.2.1) HM.out.1 HM.out.2.1 HM.out.2.2 (by have := HN.out; omega) HRD.out.1 (by have := HRD.out; omega) (by have h1 := HD.out.free; rw [ktn_cons] at h1; have h2 := HN.out; have h3 := (HBD.out m.length 0 (by omega)).2.2.2.2.1; simp only at h1; omega)).mono ?_
  rintro e w2 ⟨C, rd1, lo, hi, tlo, thi, rfl, hd1, r1, r2, hs2⟩
  obtain ⟨V, hV⟩ : ∃ V, (getE m X.key).elim (0 : Int) (·.val) = V := ⟨_, rfl⟩
  obtain ⟨D, hD⟩ : ∃ D, (getE m X.key).isSome = D := ⟨_, rfl⟩
  rw [hV, hD]
  have HVD : Hid ((getE m X.key).elim (0 : Int) (·.val) = V ∧ (getE m X.key).isSome = D) := ⟨hV, hD⟩
  have HD1 := Lib.hid hd1
  have HR1 : Hid (rd ≤ rd1 ∧ rd1 ≤ rd + 9841) := ⟨r1, by have h2 := HN.out; have h3 := (HBD.out m.length 0 (by omega)).2.1; omega⟩
  unfold ptR
  have hs3 := (hs2.box #[Value.int .i64 X.key, .int .i64 X.val, .int .u32 (X.left : Int), .int .u32 (X.right : Int), .int .i64 X.size, .int .i64 X.sum, .int .i64 X.mn, .int .i64 X.mx] 81).box #[Value.int .u32 (lo : Int), .int .i64 V, .bool D, .int .u32 (hi : Int)] 144
  (try simp only [sz_al] at hs3)
  clear hd1 r1 r2 hs2 HS0 hV hD
  go_upto_region 7 with fail
  (try simp only [sz_al])
  generalize (w2.alloc (Obj.cells #[Value.int .i64 X.key, .int .i64 X.val, .int .u32 (X.left : Int), .int .u32 (X.right : Int), .int .i64 X.size, .int .i64 X.sum, .int .i64 X.mn, .int .i64 X.mx] 81)).alloc (Obj.cells #[Value.int .u32 (lo : Int), .int .i64 V, .bool D, .int .u32 (hi : Int)] 144) = w3 at hs3 ⊢
  generalize w2.heap.size + 1 = qp at hs3 ⊢
  generalize w2.heap.size = qn at hs3 ⊢
  have HS3 := Lib.hid hs3
  clear hs3
  obtain ⟨⟨p0, p1, p2, p3⟩, -⟩ := cells4_of (HS3.out.boxes _ (List.Mem.head _)).2
  obtain ⟨⟨x0, x1, x2, x3, x4, x5, x6, x7⟩, -⟩ := HS3.out.row8 (g := qn) (X := X) (by simp [ndRow])
  go_wp2_with fail
  refine (sub_any I (N := N) (V := V) (D := D) HIL.out HIR.out ⟨HS3.out.perm (List.perm_middle (l₁ := [_, _])), HD1.out, HFEW.out, HN.out.2.2.2.2.1, HAT.out.2.1, HAT.out.2.2.1, HUP.out.2.2.1, HUP.out.2.2.2.1, HUP.out.2.2.2.2.1, HUP.out.2.2.2.2.2, low_up HM.out.1 _, high_up HM.out.1 _, HM.out.2.1.low _, HM.out.2.1.high _, HN.out.2.2.2.2.2.1, by have := HN.out; omega, by have := HN.out; omega, HN.out.2.2.1, by have := HRD.out; have := HR1.out; omega, by have := HRD.out; have := HR1.out; omega⟩).mono ?_
  rintro e w4 ⟨C2, rd2, u2, ⟨L, R, t1, t2, s1, s2, rfl, b1, b2, b3, b4, b5, b6, b7⟩, hs4⟩
  have HB : Hid (rd ≤ rd2 ∧ rd2 ≤ rd + 9841 + 20000 * (2 * (tl.size : Int) + 2 * (tr.size : Int) + 2) ∧ u1 ≤ u2 + (tl.size + tr.size) ∧ u2 ≤ u1 ∧ s1.length ≤ ll.length + (lowE m X.key).length ∧ s2.length ≤ lr.length + (highE m X.key).length) := ⟨by have := HR1.out; omega, by have := HR1.out; omega, b6, b7, b2.len, b3.len⟩
  have HD2 := Lib.hid b1
  have HO : Hid (OpL bL bR pol ll (lowE m X.key) s1 ∧ OpL bL bR pol lr (highE m X.key) s2) := ⟨b2, b3⟩
  have HS4 := Lib.hid (hs4.perm (List.perm_middle (l₁ := [_, _])).symm)
  clear b1 b2 b3 b4 b5 b6 b7 hs4 p0 p1 p2 p3 x0 x1 x2 x3 x4 x5 x6 x7 HS3
  obtain ⟨⟨p0, p1, p2, p3⟩, -⟩ := cells4_of (HS4.out.boxes _ (List.Mem.head _)).2
  obtain ⟨⟨x0, x1, x2, x3, x4, x5, x6, x7⟩, -⟩ := HS4.out.row8 (g := qn) (X := X) (by simp [ndRow])
  have hasm := asmS_any I (lo := lo) (hi := hi) (HS4.out.perm (List.perm_middle (l₁ := [_, _]))) HD2.out HFEW.out (by have := HN.out; omega) (HD2.out.of HAT.out.1) (HD2.out.of HAT.out.2.1) (HD2.out.of HAT.out.2.2.1) HUP.out.1 HUP.out.2.1 HM.out.2.1 HO.out.1 HO.out.2 (by have := HRD.out; have := HB.out; omega) (by have := HRD.out; have := HB.out; omega) (by have h1 := HD2.out.free; rw [ktn_cons, ktn_cons] at h1; have h2 := HN.out; have h4 := HB.out; have h3 := (HBD.out s1.length s2.length (by omega)).2.2.2.2.2; simp only at h1; omega)
  rw [HVD.out.1, HVD.out.2] at hasm
  unfold ptR at hasm
  have HASM := Lib.hid hasm
  clear hasm
  go_wp2_with fail
  refine HASM.out.mono ?_
  rintro e w5 ⟨C3, rd3, ⟨j, t, r, rfl, d1, d2, d3, d4⟩, hs5⟩
  have HG := Lib.hid (d1.perm (List.perm_middle (l₁ := [_, _]))).give
  have HG2 := Lib.hid (HG.out.2.2.2.perm (List.Perm.swap _ _ _)).give
  have HOP := Lib.hid d2
  have HR3 : Hid (rd ≤ rd3 ∧ rd3 ≤ rd + 20000 * (2 * ((tl.size + tr.size + 1 : Nat) : Int) + 1)) := ⟨by have := HB.out; omega, by have h4 := HB.out; have h2 := HN.out; have h3 := (HBD.out s1.length s2.length (by omega)).2.2.2.1; omega⟩
  have HS5 := Lib.hid hs5
  clear hs5 d1 d2 d3 d4 HASM HS4 p0 p1 p2 p3 x0 x1 x2 x3 x4 x5 x6 x7
  obtain ⟨⟨c0, c1, c2, c3, c4⟩, -⟩ := opC_of (HS5.out.boxes _ (List.Mem.head _)).2
  go_wp2_with fail
  refine (HS5.out.release HG.out.2.2.1 HG.out.2.1 HG.out.1).mono ?_
  rintro e w6 ⟨rfl, hs6⟩
  have HS6 := Lib.hid hs6
  clear hs6 HS5 c0 c1 c2 c3 c4
  obtain ⟨⟨c0, c1, c2, c3, c4⟩, -⟩ := opC_of (HS6.out.boxes _ (List.Mem.head _)).2
  go_wp2_with fail
  refine (HS6.out.release HG2.out.2.2.1 HG2.out.2.1 HG2.out.1).mono ?_
  rintro e w7 ⟨rfl, hs7⟩
  have HF : Hid (CmbQ A held H bL bR pol (tl.size + tr.size + 1) (ll ++ (⟨X.key, X.val⟩ : En) :: lr) m rd (u1 + 1) (.returned (.tuple #[.int .u32 (j : Int), .int .i64 0])) ((C3.gone L).gone R) rd3 u2 ∧ Ins I w F (.pointer (some pa)) ((C3.gone L).gone R) rd3 rs ((g, Obj.cells (opC (.pointer (some pa)) bL bR pol u2) 91 (0, 0)) :: bs) w7) :=
    ⟨⟨j, t, r, rfl, HG2.out.2.2.2, HOP.out, HR3.out.1, HR3.out.2, by have := HB.out; omega, by have := HB.out; omega⟩, hs7.less (List.Sublist.refl _) (.cons_cons _ (.cons _ (.cons _ (List.Sublist.refl _))))⟩
  clear hs7 HS6 c0 c1 c2 c3 c4
  go_wp2_with fail
  go_ret2
  exact ⟨_, rd3, u2, HF.out.1, HF.out.2⟩
theorem wh_none {bL bR : Bool} {pol : Int} {x y : Nat} (h : whR bL bR pol x y = none) : x ≠ 0 := fun e => by
  unfold whR at h
  rw [if_pos e] at h
  cases h
theorem cmb_nil (I : AImpl) {w wr : World} {F : Nat → Prop} {p : Value} {A B : Ar} {rd : Int} {rs : List Row} {bs : List (Nat × Obj)} {held : Nat → Nat} {H : List Kt} {g : Nat} {bL bR : Bool} {pol : Int} {u x y N : Nat} {ty : Tr} {l m : List En} (hP : CmbP I w F p A B rd rs bs held H g bL bR pol u x y N .nil ty l m wr) :
    Calls Tryz.prog 82 #[.pointer (some ⟨g, 0, none⟩), .int .u32 (x : Int), .int .u32 (y : Int)] wr (fun e w' => ∃ (C : Ar) (rd' : Int) (u' : Nat), CmbQ A held H bL bR pol Tr.nil.size l m rd u e C rd' u' ∧ Ins I w F p C rd' rs ((g, Obj.cells (opC p bL bR pol u') 91 (0, 0)) :: bs) w') := by
  have h0 : x = 0 := by
    have h1 := hP.at_.sub
    cases h1 with
    | nil => rfl
  exact cmb_whole I hP (show whR bL bR pol x y = some (if bR then y else 0) from if_pos h0)
theorem cmb_step (I : AImpl) {i' : Nat} {tl tr : Tr} (ihl : CmbOk I tl) (ihr : CmbOk I tr) {w wr : World} {F : Nat → Prop} {p : Value} {A B : Ar} {rd : Int} {rs : List Row} {bs : List (Nat × Obj)} {held : Nat → Nat} {H : List Kt} {g : Nat} {bL bR : Bool} {pol : Int} {u x y N : Nat} {ty : Tr} {l m : List En} (hP : CmbP I w F p A B rd rs bs held H g bL bR pol u x y N (.node i' tl tr) ty l m wr) :
    Calls Tryz.prog 82 #[.pointer (some ⟨g, 0, none⟩), .int .u32 (x : Int), .int .u32 (y : Int)] wr (fun e w' => ∃ (C : Ar) (rd' : Int) (u' : Nat), CmbQ A held H bL bR pol (Tr.node i' tl tr).size l m rd u e C rd' u' ∧ Ins I w F p C rd' rs ((g, Obj.cells (opC p bL bR pol u') 91 (0, 0)) :: bs) w') := by
  cases hw : whR bL bR pol x y with
  | some s => exact cmb_whole I hP hw
  | none => exact cmb_node I ihl ihr hP hw (wh_none hw)
theorem cmb_all (I : AImpl) : ∀ t, CmbOk I t
  | .nil => fun wr hP => cmb_nil I hP
  | .node _ tl tr => fun wr hP => cmb_step I (cmb_all I tl) (cmb_all I tr) hP
theorem two_alloc (w : World) (x y : Array Value) (ty : TypeId) : ((w.alloc (.cells x ty)).alloc (.cells y ty)).drew.heap[w.heap.size]? = some (.cells x ty (0, 0)) ∧ ((w.alloc (.cells x ty)).alloc (.cells y ty)).drew.heap[w.heap.size + 1]? = some (.cells y ty (0, 0)) ∧ Below w.heap.size w ((w.alloc (.cells x ty)).alloc (.cells y ty)).drew := by
  have e1 : (w.alloc (.cells x ty)).heap.size = w.heap.size + 1 := by simp
  have h1 := heap_alloc_new w (.cells x ty)
  have h2 := heap_alloc_new (w.alloc (.cells x ty)) (.cells y ty)
  rw [e1] at h2
  have hb := below_newL (w.alloc (.cells x ty)) (.cells y ty)
  exact ⟨(hb.block _ (by omega)).trans h1, h2, ((below_newL w _).trans (hb.mono (by omega))).drew⟩
/-- every allocated slot is allocated later, with the same node and generation -/
def KeptS (n : Nat) (S T : Nat → Sl) : Prop := ∀ j, j < n → (S j).on = true → (T j).on = true ∧ (T j).nd = (S j).nd ∧ (T j).gen = (S j).gen
set_option maxHeartbeats 4000000 in
set_option maxRecDepth 100000 in
theorem kept_any {w : World} {a a' b b' : Option Addr} {n c c' m m' d d' : Nat} {S T : Nat → Sl} (h : SlotsAt w a n S) (h' : SlotsAt w a' n T) (hk : KeptS n S T) (hn : n ≤ 65536) :
    Calls Tryz.prog 54 #[.agg #[.slice a n c, .slice b m d], .agg #[.slice a' n c', .slice b' m' d']] w (Calm w (.bool true)) := by
  have hni : (n : Int) ≤ 65536 := by omega
  have HKK := Lib.hid hk
  have hx := (below_newL (w.alloc (Obj.cells #[.slice a n c, .slice b m d] 33)) (Obj.cells #[.slice a' n c', .slice b' m' d'] 33)).block w.heap.size (by simp) |>.trans (heap_alloc_new w (Obj.cells #[.slice a n c, .slice b m d] 33))
  have hy := heap_alloc_new (w.alloc (Obj.cells #[.slice a n c, .slice b m d] 33)) (Obj.cells #[.slice a' n c', .slice b' m' d'] 33)
  rw [show (w.alloc (Obj.cells #[.slice a n c, .slice b m d] 33)).heap.size = w.heap.size + 1 by simp] at hy
  have hb2 : Below w.heap.size w ((w.alloc (Obj.cells #[.slice a n c, .slice b m d] 33)).alloc (Obj.cells #[.slice a' n c', .slice b' m' d'] 33)) := (below_newL w _).trans ((below_newL _ _).mono (by simp))
  have hl2 : w.heap.size + 1 < ((w.alloc (Obj.cells #[.slice a n c, .slice b m d] 33)).alloc (Obj.cells #[.slice a' n c', .slice b' m' d'] 33)).heap.size := by simp
  have hS2 := h.below hb2
  have hT2 := h'.below hb2
  clear h h' hk
  go_enter Tryz.func54, Tryz.ntmps54
  go_upto_region 1 with fail
  generalize (w.alloc (Obj.cells #[.slice a n c, .slice b m d] 33)).alloc (Obj.cells #[.slice a' n c', .slice b' m' d'] 33) = w2 at hx hy hb2 hl2 hS2 hT2 ⊢
  obtain ⟨g1, hg1⟩ : ∃ g, w.heap.size = g := ⟨_, rfl⟩
  obtain ⟨g2, hg2⟩ : ∃ g, g1 + 1 = g := ⟨_, rfl⟩
  rw [hg1] at hx hy hl2 ⊢
  rw [hg2] at hy hl2 ⊢
  have HX := Lib.hid hx
  have HY := Lib.hid hy
  have HB2 := Lib.hid hb2
  have HL2 : Hid (g1 < w2.heap.size ∧ g2 < w2.heap.size) := ⟨by omega, hl2⟩
  have HS2 := Lib.hid hS2
  have HT2 := Lib.hid hT2
  clear hx hy hb2 hl2 hS2 hT2 hg1 hg2
  have HC : Hid (∀ wx, Below w2.heap.size w2 wx → wx.cell? ⟨g1, 0, none⟩ = some (.slice a n c) ∧ wx.cell? ⟨g2, 0, none⟩ = some (.slice a' n c')) := fun wx hb =>
    ⟨by rw [cell_of_row _ _ _ _ _ _ ((hb.block g1 HL2.out.1).trans HX.out)]; rfl, by rw [cell_of_row _ _ _ _ _ _ ((hb.block g2 HL2.out.2).trans HY.out)]; rfl⟩
  obtain ⟨c0, d0⟩ := HC.out w2 (Below.refl _ _)
  go_wp2_with fail
  clear c0 d0
  go_loopw [5] (fun i wr => ∃ k : Nat, k ≤ n ∧ i = .int .i64 (k : Int) ∧ Below w2.heap.size w2 wr) (fun i _ => n - (intOf i).toNat)
  case atStart => exact ⟨0, Nat.zero_le _, rfl, Below.refl _ _⟩
  case round =>
    obtain ⟨k, hk, rfl, hbr⟩ := hrel
    have HBR := Lib.hid hbr
    obtain ⟨c0, d0⟩ := HC.out wr hbr
    by_cases hlt : k < n
    · have hki : (k : Int) < (n : Int) := by omega
      have hk0 : (0 : Int) ≤ (k : Int) := by omega
      have HLT := Lib.hid hlt
      obtain ⟨p, off, hap, hp, s0, s1, s2, s3, s4, s5, s6, s7, s8, s9, s10⟩ := (HS2.out.below hbr).all hlt
      obtain ⟨p', off', hap', hp', t0, t1, t2, t3, t4, t5, t6, t7, t8, t9, t10⟩ := (HT2.out.below hbr).all hlt
      have HEQ : Hid ((S k).on = true → (T k).on = true ∧ (T k).gen = (S k).gen ∧ (T k).nd.key = (S k).nd.key ∧ (T k).nd.val = (S k).nd.val ∧ ((T k).nd.left : Int) = ((S k).nd.left : Int) ∧ ((T k).nd.right : Int) = ((S k).nd.right : Int) ∧ (T k).nd.size = (S k).nd.size ∧ (T k).nd.sum = (S k).nd.sum ∧ (T k).nd.mn = (S k).nd.mn ∧ (T k).nd.mx = (S k).nd.mx) := fun ho => by
        obtain ⟨e1, e2, e3⟩ := HKK.out k HLT.out ho
        rw [e2]
        exact ⟨e1, e3, rfl, rfl, rfl, rfl, rfl, rfl, rfl, rfl⟩
      generalize (S k).on = x0 at s0 HEQ
      generalize (S k).cnt = x1 at s1
      generalize (S k).gen = x2 at s2 HEQ
      generalize (S k).nd.key = x3 at s3 HEQ
      generalize (S k).nd.val = x4 at s4 HEQ
      generalize ((S k).nd.left : Int) = x5 at s5 HEQ
      generalize ((S k).nd.right : Int) = x6 at s6 HEQ
      generalize (S k).nd.size = x7 at s7 HEQ
      generalize (S k).nd.sum = x8 at s8 HEQ
      generalize (S k).nd.mn = x9 at s9 HEQ
      generalize (S k).nd.mx = x10 at s10 HEQ
      generalize (T k).on = y0 at t0 HEQ
      generalize (T k).cnt = y1 at t1
      generalize (T k).gen = y2 at t2 HEQ
      generalize (T k).nd.key = y3 at t3 HEQ
      generalize (T k).nd.val = y4 at t4 HEQ
      generalize ((T k).nd.left : Int) = y5 at t5 HEQ
      generalize ((T k).nd.right : Int) = y6 at t6 HEQ
      generalize (T k).nd.size = y7 at t7 HEQ
      generalize (T k).nd.sum = y8 at t8 HEQ
      generalize (T k).nd.mn = y9 at t9 HEQ
      generalize (T k).nd.mx = y10 at t10 HEQ
      subst hap
      subst hap'
      clear hk hlt hbr
      go_upto_region 6 with fail
      go_cut [6, 7] (fun s6 s7 wx => ∃ gx gy : Nat, s6 = .pointer (some ⟨gx, 0, none⟩) ∧ s7 = .pointer (some ⟨gy, 0, none⟩) ∧ wx.heap[gx]? = some (.cells #[.bool x0, .int .i64 x1, .int .u32 x2, .int .i64 x3, .int .i64 x4, .int .u32 x5, .int .u32 x6, .int .i64 x7, .int .i64 x8, .int .i64 x9, .int .i64 x10] 87 (0, 0)) ∧ wx.heap[gy]? = some (.cells #[.bool y0, .int .i64 y1, .int .u32 y2, .int .i64 y3, .int .i64 y4, .int .u32 y5, .int .u32 y6, .int .i64 y7, .int .i64 y8, .int .i64 y9, .int .i64 y10] 87 (0, 0)) ∧ Below wr.heap.size wr wx)
      case first =>
        obtain ⟨c0, d0⟩ := HC.out wr.drew HBR.out.drew
        go_region_held3 (fun w' => w'.cell? ⟨g1, 0, none⟩ = some (.slice (some ⟨p, off, none⟩) n c) ∧ w'.cell? ⟨g2, 0, none⟩ = some (.slice (some ⟨p', off', none⟩) n c') ∧ w'.cell? ⟨p, off + k * 11, none⟩ = some (.bool x0) ∧ w'.cell? ⟨p, off + k * 11 + 1, none⟩ = some (.int .i64 x1) ∧ w'.cell? ⟨p, off + k * 11 + 2, none⟩ = some (.int .u32 x2) ∧ w'.cell? ⟨p, off + k * 11 + 3, none⟩ = some (.int .i64 x3) ∧ w'.cell? ⟨p, off + k * 11 + 4, none⟩ = some (.int .i64 x4) ∧ w'.cell? ⟨p, off + k * 11 + 5, none⟩ = some (.int .u32 x5) ∧ w'.cell? ⟨p, off + k * 11 + 6, none⟩ = some (.int .u32 x6) ∧ w'.cell? ⟨p, off + k * 11 + 7, none⟩ = some (.int .i64 x7) ∧ w'.cell? ⟨p, off + k * 11 + 8, none⟩ = some (.int .i64 x8) ∧ w'.cell? ⟨p, off + k * 11 + 9, none⟩ = some (.int .i64 x9) ∧ w'.cell? ⟨p, off + k * 11 + 10, none⟩ = some (.int .i64 x10) ∧ w'.cell? ⟨p', off' + k * 11, none⟩ = some (.bool y0) ∧ w'.cell? ⟨p', off' + k * 11 + 1, none⟩ = some (.int .i64 y1) ∧ w'.cell? ⟨p', off' + k * 11 + 2, none⟩ = some (.int .u32 y2) ∧ w'.cell? ⟨p', off' + k * 11 + 3, none⟩ = some (.int .i64 y3) ∧ w'.cell? ⟨p', off' + k * 11 + 4, none⟩ = some (.int .i64 y4) ∧ w'.cell? ⟨p', off' + k * 11 + 5, none⟩ = some (.int .u32 y5) ∧ w'.cell? ⟨p', off' + k * 11 + 6, none⟩ = some (.int .u32 y6) ∧ w'.cell? ⟨p', off' + k * 11 + 7, none⟩ = some (.int .i64 y7) ∧ w'.cell? ⟨p', off' + k * 11 + 8, none⟩ = some (.int .i64 y8) ∧ w'.cell? ⟨p', off' + k * 11 + 9, none⟩ = some (.int .i64 y9) ∧ w'.cell? ⟨p', off' + k * 11 + 10, none⟩ = some (.int .i64 y10)) (go_keep) (fail)
        all_goals (go_wp2_with fail; go_meet)
        · have h := two_alloc wr #[.bool x0, .int .i64 x1, .int .u32 x2, .int .i64 x3, .int .i64 x4, .int .u32 x5, .int .u32 x6, .int .i64 x7, .int .i64 x8, .int .i64 x9, .int .i64 x10] #[.bool y0, .int .i64 y1, .int .u32 y2, .int .i64 y3, .int .i64 y4, .int .u32 y5, .int .u32 y6, .int .i64 y7, .int .i64 y8, .int .i64 y9, .int .i64 y10] 87
          exact ⟨_, _, rfl, rfl, h.1, h.2.1, h.2.2⟩
        · have h := two_alloc wr #[.bool y0, .int .i64 y1, .int .u32 y2, .int .i64 y3, .int .i64 y4, .int .u32 y5, .int .u32 y6, .int .i64 y7, .int .i64 y8, .int .i64 y9, .int .i64 y10] #[.bool x0, .int .i64 x1, .int .u32 x2, .int .i64 x3, .int .i64 x4, .int .u32 x5, .int .u32 x6, .int .i64 x7, .int .i64 x8, .int .i64 x9, .int .i64 x10] 87
          exact ⟨_, _, rfl, rfl, h.2.1, h.1, h.2.2⟩
      case' rest =>
        rename World => w5
        obtain ⟨gx, gy, rfl, rfl, hgx, hgy, hb5⟩ := hcut
        have HB5 : Hid (Below w2.heap.size w2 w5) := HBR.out.trans (hb5.mono HBR.out.size)
        have cx : ∀ j v, #[.bool x0, .int .i64 x1, .int .u32 x2, .int .i64 x3, .int .i64 x4, .int .u32 x5, .int .u32 x6, .int .i64 x7, .int .i64 x8, .int .i64 x9, .int .i64 x10][j]? = some v → w5.cell? ⟨gx, j, none⟩ = some v := fun j v hj => by rw [cell_of_row _ _ _ _ _ _ hgx]; exact hj
        have cy : ∀ j v, #[.bool y0, .int .i64 y1, .int .u32 y2, .int .i64 y3, .int .i64 y4, .int .u32 y5, .int .u32 y6, .int .i64 y7, .int .i64 y8, .int .i64 y9, .int .i64 y10][j]? = some v → w5.cell? ⟨gy, j, none⟩ = some v := fun j v hj => by rw [cell_of_row _ _ _ _ _ _ hgy]; exact hj
        have s0 : w5.cell? ⟨gx, 0, none⟩ = some (.bool x0) := cx 0 _ rfl
        have t0 : w5.cell? ⟨gy, 0, none⟩ = some (.bool y0) := cy 0 _ rfl
        have s1 : w5.cell? ⟨gx, 1, none⟩ = some (.int .i64 x1) := cx 1 _ rfl
        have t1 : w5.cell? ⟨gy, 1, none⟩ = some (.int .i64 y1) := cy 1 _ rfl
        have s2 : w5.cell? ⟨gx, 2, none⟩ = some (.int .u32 x2) := cx 2 _ rfl
        have t2 : w5.cell? ⟨gy, 2, none⟩ = some (.int .u32 y2) := cy 2 _ rfl
        have s3 : w5.cell? ⟨gx, 3, none⟩ = some (.int .i64 x3) := cx 3 _ rfl
        have t3 : w5.cell? ⟨gy, 3, none⟩ = some (.int .i64 y3) := cy 3 _ rfl
        have s4 : w5.cell? ⟨gx, 4, none⟩ = some (.int .i64 x4) := cx 4 _ rfl
        have t4 : w5.cell? ⟨gy, 4, none⟩ = some (.int .i64 y4) := cy 4 _ rfl
        have s5 : w5.cell? ⟨gx, 5, none⟩ = some (.int .u32 x5) := cx 5 _ rfl
        have t5 : w5.cell? ⟨gy, 5, none⟩ = some (.int .u32 y5) := cy 5 _ rfl
        have s6 : w5.cell? ⟨gx, 6, none⟩ = some (.int .u32 x6) := cx 6 _ rfl
        have t6 : w5.cell? ⟨gy, 6, none⟩ = some (.int .u32 y6) := cy 6 _ rfl
        have s7 : w5.cell? ⟨gx, 7, none⟩ = some (.int .i64 x7) := cx 7 _ rfl
        have t7 : w5.cell? ⟨gy, 7, none⟩ = some (.int .i64 y7) := cy 7 _ rfl
        have s8 : w5.cell? ⟨gx, 8, none⟩ = some (.int .i64 x8) := cx 8 _ rfl
        have t8 : w5.cell? ⟨gy, 8, none⟩ = some (.int .i64 y8) := cy 8 _ rfl
        have s9 : w5.cell? ⟨gx, 9, none⟩ = some (.int .i64 x9) := cx 9 _ rfl
        have t9 : w5.cell? ⟨gy, 9, none⟩ = some (.int .i64 y9) := cy 9 _ rfl
        have s10 : w5.cell? ⟨gx, 10, none⟩ = some (.int .i64 x10) := cx 10 _ rfl
        have t10 : w5.cell? ⟨gy, 10, none⟩ = some (.int .i64 y10) := cy 10 _ rfl
        clear cx cy hgx hgy hb5 c0 d0
        cases x0 with
        | false =>
          clear HEQ
          go_wp2_with fail
          exact ⟨⟨k + 1, by have := HLT.out; omega, by go_num, HB5.out⟩, by have := HLT.out; simp [intOf]; omega⟩
        | true =>
          obtain ⟨rfl, rfl, rfl, rfl, rfl, rfl, rfl, rfl, rfl, rfl⟩ := HEQ.out rfl
          clear HEQ
          have e2 : (y2 == y2) = true := by simp
          have f2 : (y2 != y2) = false := by simp
          have e3 : (y3 == y3) = true := by simp
          have f3 : (y3 != y3) = false := by simp
          have e4 : (y4 == y4) = true := by simp
          have f4 : (y4 != y4) = false := by simp
          have e5 : (y5 == y5) = true := by simp
          have f5 : (y5 != y5) = false := by simp
          have e6 : (y6 == y6) = true := by simp
          have f6 : (y6 != y6) = false := by simp
          have e7 : (y7 == y7) = true := by simp
          have f7 : (y7 != y7) = false := by simp
          have e8 : (y8 == y8) = true := by simp
          have f8 : (y8 != y8) = false := by simp
          have e9 : (y9 == y9) = true := by simp
          have f9 : (y9 != y9) = false := by simp
          have e10 : (y10 == y10) = true := by simp
          have f10 : (y10 != y10) = false := by simp
          go_wp2_with fail
          exact ⟨⟨k + 1, by have := HLT.out; omega, by go_num, HB5.out⟩, by have := HLT.out; simp [intOf]; omega⟩
    · obtain rfl : k = n := by omega
      clear hk hlt
      go_wp2_with fail
      go_ret
      exact ⟨rfl, HB2.out.trans (HBR.out.mono HB2.out.size)⟩
set_option maxHeartbeats 2000000 in
set_option maxRecDepth 100000 in
theorem same_slots {w : World} {a a' : Option Addr} {n c c' : Nat} {S : Nat → Sl} (h : SlotsAt w a n S) (h' : SlotsAt w a' n S) (hn : n ≤ 65536) :
    Calls Tryz.prog 47 #[.slice a n c, .slice a' n c'] w (Calm w (.bool true)) := by
  have hni : (n : Int) ≤ 65536 := by omega
  have HH := Lib.hid h
  have HH' := Lib.hid h'
  clear h h'
  go_enter Tryz.func47, Tryz.ntmps47
  go_wp2
  go_loopw [5] (fun i wr => ∃ k : Nat, k ≤ n ∧ i = .int .i64 (k : Int) ∧ ∃ d, wr = w.drewN d) (fun i _ => n - (intOf i).toNat)
  case atStart => exact ⟨0, Nat.zero_le _, rfl, 0, rfl⟩
  case round =>
    obtain ⟨k, hk, rfl, d, rfl⟩ := hrel
    by_cases hlt : k < n
    · have hki : (k : Int) < (n : Int) := by omega
      have hk0 : (0 : Int) ≤ (k : Int) := by omega
      obtain ⟨b, off, rfl, hb, d0, d1, d2, d3, d4, d5, d6, d7, d8, d9, d10⟩ := HH.out.all hlt
      obtain ⟨b', off', rfl, hb', e0, e1, e2, e3, e4, e5, e6, e7, e8, e9, e10⟩ := HH'.out.all hlt
      generalize (S k).on = x0 at d0 e0
      generalize (S k).cnt = x1 at d1 e1
      generalize (S k).gen = x2 at d2 e2
      generalize (S k).nd.key = x3 at d3 e3
      generalize (S k).nd.val = x4 at d4 e4
      generalize ((S k).nd.left : Int) = x5 at d5 e5
      generalize ((S k).nd.right : Int) = x6 at d6 e6
      generalize (S k).nd.size = x7 at d7 e7
      generalize (S k).nd.sum = x8 at d8 e8
      generalize (S k).nd.mn = x9 at d9 e9
      generalize (S k).nd.mx = x10 at d10 e10
      go_wp2
      go_quiet (fail)
      go_wp2
      exact ⟨⟨k + 1, by omega, by go_num, _, rfl⟩, by simp [intOf]; omega⟩
    · obtain rfl : k = n := by omega
      go_wp2
      go_ret
      exact ⟨rfl, below_drewN (Below.refl _ _) d⟩
theorem u32s_nth {l : List Nat} {j : Nat} (h : j < l.length) : (u32s l)[j]? = some (.int .u32 ((l.getD j 0 : Nat) : Int)) := by
  simp [u32s, List.getD_eq_getElem?_getD, h]
set_option maxHeartbeats 400000 in
theorem same_rows {B B' : Nat} {a a' : Option Addr} {c c' : Nat} (l : List Nat) (w : World) (hl : (l.length : Int) ≤ 65536) (h : w.ownsRow B 26 1 (.slice a l.length c) l.length (u32s l)) (h' : w.ownsRow B' 26 1 (.slice a' l.length c') l.length (u32s l)) :
    Calls Tryz.prog 48 #[.slice a l.length c, .slice a' l.length c'] w (Calm w (.bool true)) := by
  have HH := Lib.hid h
  have HH' := Lib.hid h'
  clear h h'
  obtain ⟨n, hn⟩ : ∃ n, n = l.length := ⟨_, rfl⟩
  rw [← hn] at hl ⊢
  have HN := Lib.hid hn
  clear hn
  go_enter Tryz.func48, Tryz.ntmps48
  go_wp2
  go_loopw [5] (fun i wr => ∃ k : Nat, k ≤ n ∧ i = .int .i64 k ∧ ∃ q, wr = w.drewN q) (fun i _ => n - (intOf i).toNat)
  case atStart => exact ⟨0, Nat.zero_le _, rfl, 0, rfl⟩
  case round =>
    obtain ⟨k, hk, rfl, q, rfl⟩ := hrel
    by_cases hlt : k < n
    · have hk2 : k < l.length := by rw [← HN.out]; exact hlt
      obtain ⟨b, rfl, hbb, hc⟩ := row_cell HH.out hk2
      obtain ⟨b', rfl, hbb', hc'⟩ := row_cell HH'.out hk2
      rw [u32s_nth hk2] at hc hc'
      have hlt' : (k : Int) < (n : Int) := by omega
      have hk0 : (0 : Int) ≤ (k : Int) := by omega
      generalize ((l.getD k 0 : Nat) : Int) = x at hc hc'
      have hne : (x != x) = false := by simp
      clear hk2
      go_wp2
      go_quiet (fail)
      go_wp2
      exact ⟨⟨k + 1, by omega, by go_num, _, rfl⟩, by simp [intOf]; omega⟩
    · obtain rfl : k = n := by omega
      go_wp2
      go_ret
      exact ⟨rfl, below_drewN (Below.refl _ _) q⟩
theorem same_rows_at {B B' M : Nat} {a a' : Option Addr} {c c' : Nat} (l : List Nat) {w : World} (hM : l.length = M) (hl : (M : Int) ≤ 65536) (h : w.ownsRow B 26 1 (.slice a M c) M (u32s l)) (h' : w.ownsRow B' 26 1 (.slice a' M c') M (u32s l)) :
    Calls Tryz.prog 48 #[.slice a M c, .slice a' M c'] w (Calm w (.bool true)) := by
  subst hM
  exact same_rows l w hl h h'
set_option maxHeartbeats 2000000 in
set_option maxRecDepth 100000 in
theorem same_dump {w : World} {a a' b b' : Option Addr} {c c' d d' n M B B' : Nat} {S : Nat → Sl} (fr : List Nat) (hM : fr.length = M) (h : SlotsAt w a n S) (h' : SlotsAt w a' n S) (hf : w.ownsRow B 26 1 (.slice b M d) M (u32s fr)) (hf' : w.ownsRow B' 26 1 (.slice b' M d') M (u32s fr)) (hn : n ≤ 65536) (hm : M ≤ 65536) :
    Calls Tryz.prog 13 #[.agg #[.slice a n c, .slice b M d], .agg #[.slice a' n c', .slice b' M d']] w (Calm w (.bool true)) := by
  have hb1 := below_new7 w (Obj.cells #[Value.slice a n c, Value.slice b M d] 33)
  have hb2 := below_new7 (w.alloc (Obj.cells #[Value.slice a n c, Value.slice b M d] 33)) (Obj.cells #[Value.slice a' n c', Value.slice b' M d'] 33)
  have hbb := below_chain7 hb1 hb2
  have hx1 := two_cells (heap_alloc2_old w (Obj.cells #[Value.slice a n c, Value.slice b M d] 33) (Obj.cells #[Value.slice a' n c', Value.slice b' M d'] 33))
  have hx2 := two_cells (heap_alloc2_new w (Obj.cells #[Value.slice a n c, Value.slice b M d] 33) (Obj.cells #[Value.slice a' n c', Value.slice b' M d'] 33))
  have HS := Lib.hid (h.below hbb)
  have HS' := Lib.hid (h'.below hbb)
  have HF := Lib.hid (row_below hf hbb)
  have HF' := Lib.hid (row_below hf' hbb)
  have HB := Lib.hid hbb
  have HX1 := Lib.hid (heap_alloc2_old w (Obj.cells #[Value.slice a n c, Value.slice b M d] 33) (Obj.cells #[Value.slice a' n c', Value.slice b' M d'] 33))
  have HX2 := Lib.hid (heap_alloc2_new w (Obj.cells #[Value.slice a n c, Value.slice b M d] 33) (Obj.cells #[Value.slice a' n c', Value.slice b' M d'] 33))
  obtain ⟨c0, c1⟩ := hx1
  obtain ⟨e0, e1⟩ := hx2
  clear h h' hf hf' hb1 hb2 hbb
  go_enter Tryz.func13, Tryz.ntmps13
  go_upto_region 1 with fail
  generalize (w.alloc (Obj.cells #[Value.slice a n c, Value.slice b M d] 33)).alloc (Obj.cells #[Value.slice a' n c', Value.slice b' M d'] 33) = w1 at HS HS' HF HF' HB HX1 HX2 c0 c1 e0 e1 ⊢
  have hlt1 : w.heap.size < w1.heap.size := (Array.getElem?_eq_some_iff.1 HX1.out).1
  have hlt2 : w.heap.size + 1 < w1.heap.size := (Array.getElem?_eq_some_iff.1 HX2.out).1
  obtain ⟨p, hp⟩ : ∃ p, w.heap.size = p := ⟨_, rfl⟩
  rw [hp] at HX1 HX2 HB c0 c1 e0 e1 hlt1 hlt2 ⊢
  have HPP := Lib.hid hp
  clear hp
  go_wp2_with fail
  refine (same_slots HS.out HS'.out hn).mono ?_
  rintro e w2 ⟨rfl, hb2⟩
  have hY1 := (hb2.block _ hlt1).trans HX1.out
  have hY2 := (hb2.block _ hlt2).trans HX2.out
  clear c0 c1 e0 e1
  obtain ⟨c0, c1⟩ := two_cells hY1
  obtain ⟨e0, e1⟩ := two_cells hY2
  have HG := Lib.hid (row_below HF.out hb2)
  have HG' := Lib.hid (row_below HF'.out hb2)
  have HBB := Lib.hid (HB.out.trans (hb2.mono (by rw [← HPP.out]; exact HB.out.size)))
  clear hY1 hY2 hb2 hlt1 hlt2
  go_wp2_with fail
  refine (same_rows_at fr hM (by omega) HG.out HG'.out).mono ?_
  rintro e w3 ⟨rfl, hb3⟩
  have HB3 := Lib.hid (HBB.out.trans (hb3.mono (by rw [← HPP.out]; exact HBB.out.size)))
  clear hb3 c0 c1 e0 e1
  go_wp2_with fail
  go_ret
  exact ⟨rfl, by rw [HPP.out]; exact HB3.out⟩
theorem results_tmp6 {fn : Func} {a b c d e f : Tmp} (h : fn.results = #[.tmp a, .tmp b, .tmp c, .tmp d, .tmp e, .tmp f]) (tmps : Array Value) (P : Program) (w : World) :
    (results fn tmps).run P w = .ok (.tuple #[tmps.getD a undef, tmps.getD b undef, tmps.getD c undef, tmps.getD d undef, tmps.getD e undef, tmps.getD f undef]) w := by
  simp [results, h]
theorem kept_keptS2 {A B : Ar} {n : Nat} (hk : A.Kept B) (hg : ∀ i, A.σ.on i = true → B.σ.gen i = A.σ.gen i) : KeptS n A.sl B.sl := fun x _ hx => ⟨hk.on _ hx, hk.nd _ hx, hg _ hx⟩
theorem xh_mono {m n : Nat} (h : m ≤ n) (hn : n ≤ 2147483647) : xh m ≤ xh n := xh_le hn (by have := (xh_spec (n := m) (by omega)).1; omega)
def setBd (n m : Nat) : Int := 100000 * ((n : Int) + (m : Int) + 1)
def SetQ (A : Ar) (rd : Int) (held : Nat → Nat) (l m want : List En) (same : Prop) (res : Nat) (en : Ending) (B : Ar) (rd' : Int) : Prop :=
  rd ≤ rd' ∧ rd' ≤ rd + setBd l.length m.length ∧ (
  (same ∧ rd' ≤ rd + 4 ∧ en = .returned (.tuple #[.int .u32 (res : Int), .int .i64 0]) ∧ (∃ t, Got A held B res t want) ∧ B.σ.free.length = A.σ.free.length) ∨
  (¬ same ∧ (A.σ.free.length : Int) < setI (l.length : Int) (m.length : Int) ∧ en = .returned (.tuple #[.int .u32 0, .int .i64 2]) ∧ B = A) ∨
  (¬ same ∧ setI (l.length : Int) (m.length : Int) ≤ (A.σ.free.length : Int) ∧ ∃ (j : Nat) (t : Tr), en = .returned (.tuple #[.int .u32 (j : Int), .int .i64 0]) ∧ Got A held B j t want))
theorem SetQ.ret {A B : Ar} {rd rd' : Int} {held : Nat → Nat} {l m want : List En} {same : Prop} {res : Nat} {en : Ending} (h : SetQ A rd held l m want same res en B rd') : ∃ (x : Nat) (e : Int), en = .returned (.tuple #[.int .u32 (x : Int), .int .i64 e]) := by
  obtain ⟨-, -, h⟩ := h
  rcases h with ⟨-, -, rfl, -⟩ | ⟨-, -, rfl, -⟩ | ⟨-, -, j, u, rfl, -⟩
  · exact ⟨_, _, rfl⟩
  · exact ⟨0, _, rfl⟩
  · exact ⟨_, _, rfl⟩
/-- with room -/
theorem SetQ.room {A B : Ar} {rd rd' : Int} {held : Nat → Nat} {l m want : List En} {same : Prop} {res : Nat} {en : Ending} (h : SetQ A rd held l m want same res en B rd') (hr : setI (l.length : Int) (m.length : Int) ≤ (A.σ.free.length : Int)) :
    rd ≤ rd' ∧ rd' ≤ rd + setBd l.length m.length ∧ ∃ (j : Nat) (u : Tr), en = .returned (.tuple #[.int .u32 (j : Int), .int .i64 0]) ∧ Got A held B j u want := by
  obtain ⟨h1, h2, h⟩ := h
  refine ⟨h1, h2, ?_⟩
  rcases h with ⟨-, -, rfl, ⟨u, hu⟩, -⟩ | ⟨-, q, -⟩ | ⟨-, -, j, u, rfl, hu⟩
  · exact ⟨res, u, rfl, hu⟩
  · omega
  · exact ⟨j, u, rfl, hu⟩
def polOk (p : Int) : Prop := 1 ≤ p ∧ p ≤ 5
def PolQ (A : Ar) (rd : Int) (held : Nat → Nat) (l m want : List En) (pol : Int) (same : Prop) (res : Nat) (en : Ending) (B : Ar) (rd' : Int) : Prop :=
  (¬ polOk pol ∧ en = .returned (.tuple #[.int .u32 0, .int .i64 1]) ∧ B = A ∧ rd ≤ rd' ∧ rd' ≤ rd + 16) ∨ (polOk pol ∧ SetQ A rd held l m want same res en B rd')
structure StImpl (I : AImpl) : Prop where
  union : ∀ {p : Value} {A : Ar} {rd : Int} {F : Nat → Prop} {held : Nat → Nat} {x y : Nat} {tx ty : Tr} {l m : List En} (pol : Int) (w : World), I.Is w p A rd F → A.Inv [] held → (∀ j, held j ≤ 1048000) → TreeAt A x tx l → TreeAt A y ty m → WfL l → WfL m → 0 ≤ rd → rd ≤ 1090000000000 → i64R pol →
    Calls Tryz.prog 11 #[p, .int .u32 (x : Int), .int .u32 (y : Int), .int .i64 pol] w (Mut I p F (PolQ A rd held l m (unionE l m pol) pol (x = 0 ∨ y = 0 ∨ (x = y ∧ pol ≠ 3)) (if x = 0 then y else x)) w)
  intersect : ∀ {p : Value} {A : Ar} {rd : Int} {F : Nat → Prop} {held : Nat → Nat} {x y : Nat} {tx ty : Tr} {l m : List En} (pol : Int) (w : World), I.Is w p A rd F → A.Inv [] held → (∀ j, held j ≤ 1048000) → TreeAt A x tx l → TreeAt A y ty m → WfL l → WfL m → 0 ≤ rd → rd ≤ 1090000000000 → i64R pol →
    Calls Tryz.prog 20 #[p, .int .u32 (x : Int), .int .u32 (y : Int), .int .i64 pol] w (Mut I p F (PolQ A rd held l m (intE l m pol) pol (x = 0 ∨ y = 0 ∨ (x = y ∧ pol ≠ 3)) (if x = 0 ∨ y = 0 then 0 else x)) w)
  subtract : ∀ {p : Value} {A : Ar} {rd : Int} {F : Nat → Prop} {held : Nat → Nat} {x y : Nat} {tx ty : Tr} {l m : List En} (w : World), I.Is w p A rd F → A.Inv [] held → (∀ j, held j ≤ 1048000) → TreeAt A x tx l → TreeAt A y ty m → WfL l → WfL m → 0 ≤ rd → rd ≤ 1090000000000 →
    Calls Tryz.prog 24 #[p, .int .u32 (x : Int), .int .u32 (y : Int)] w (Mut I p F (SetQ A rd held l m (subE l m) (x = 0 ∨ y = 0 ∨ x = y) (if x = y then 0 else x)) w)
  exclusive : ∀ {p : Value} {A : Ar} {rd : Int} {F : Nat → Prop} {held : Nat → Nat} {x y : Nat} {tx ty : Tr} {l m : List En} (w : World), I.Is w p A rd F → A.Inv [] held → (∀ j, held j ≤ 1048000) → TreeAt A x tx l → TreeAt A y ty m → WfL l → WfL m → 0 ≤ rd → rd ≤ 1090000000000 →
    Calls Tryz.prog 22 #[p, .int .u32 (x : Int), .int .u32 (y : Int)] w (Mut I p F (SetQ A rd held l m (excE l m) (x = 0 ∨ y = 0 ∨ x = y) (if x = y then 0 else x + y)) w)
section
variable {I : AImpl} {w wr : World} {F : Nat → Prop} {p : Value} {A : Ar} {rd : Int} {rs : List Row} {bs : List (Nat × Obj)}
theorem Ins.capacity (h : Ins I w F p A rd rs bs wr) : Calls Tryz.prog 81 #[p] wr fun e w' => e = .returned (.int .i64 (A.σ.cap : Int)) ∧ Ins I w F p A rd rs bs w' := by
  obtain ⟨F1, f1, _⟩ := h.mr.has
  exact (I.capacity p A rd F1 wr f1).mono fun e w1 ⟨h3, q, h4⟩ => ⟨h3, by subst h4; exact h.calm (below_drewN (Below.refl _ _) _)⟩
end
theorem setJ {n m : Nat} (hn : n ≤ 65536) (hm : m ≤ 65536) : setI (n : Int) (m : Int) = (n : Int) + (m : Int) + 12 * ((xh (n + m) : Int) + 2) := by
  unfold setI needI
  have hv : vld (n : Int) ∧ vld (m : Int) ∧ vld 0 := by unfold vld; omega
  rw [if_pos hv, show (n : Int) + (m : Int) + 0 + 0 = ((n + m : Nat) : Int) by omega, xhI_nat (by omega)]
/-- what run answers -/
def RunQ (A : Ar) (rd : Int) (held : Nat → Nat) (bL bR : Bool) (pol : Int) (x y : Nat) (l m : List En) (en : Ending) (B : Ar) (rd' : Int) : Prop :=
  rd ≤ rd' ∧ rd' ≤ rd + setBd l.length m.length ∧ (
  (∃ (s : Nat) (t : Tr) (r : List En), whR bL bR pol x y = some s ∧ rd' = rd ∧ en = .returned (.tuple #[.int .u32 (s : Int), .int .i64 0]) ∧ Got A held B s t r ∧ OpL bL bR pol l m r ∧ B.σ.free.length = A.σ.free.length) ∨
  (whR bL bR pol x y = none ∧ (A.σ.free.length : Int) < setI (l.length : Int) (m.length : Int) ∧ en = .returned (.tuple #[.int .u32 0, .int .i64 2]) ∧ B = A) ∨
  (whR bL bR pol x y = none ∧ setI (l.length : Int) (m.length : Int) ≤ (A.σ.free.length : Int) ∧ ∃ (j : Nat) (t : Tr) (r : List En), en = .returned (.tuple #[.int .u32 (j : Int), .int .i64 0]) ∧ Got A held B j t r ∧ OpL bL bR pol l m r))
theorem RunQ.set {A B : Ar} {rd rd' : Int} {held : Nat → Nat} {bL bR : Bool} {pol : Int} {x y : Nat} {l m want : List En} {en : Ending} {same : Prop} {res : Nat} (h : RunQ A rd held bL bR pol x y l m en B rd') (hw : ∀ r, OpL bL bR pol l m r → r = want) (h1 : same → whR bL bR pol x y = some res) (h2 : ¬ same → whR bL bR pol x y = none) : SetQ A rd held l m want same res en B rd' := by
  obtain ⟨q1, q2, h⟩ := h
  refine ⟨q1, q2, ?_⟩
  rcases h with ⟨s, t, r, hs, rfl, rfl, hg, ho, hf⟩ | ⟨hs, hf, rfl, rfl⟩ | ⟨hs, hf, j, t, r, rfl, hg, ho⟩
  · have hsm : same := Classical.byContradiction fun q => by rw [h2 q] at hs; cases hs
    rw [h1 hsm] at hs
    cases hs
    rw [hw r ho] at hg
    exact .inl ⟨hsm, by omega, rfl, ⟨t, hg⟩, hf⟩
  · have hsm : ¬ same := fun q => by rw [h1 q] at hs; cases hs
    exact .inr (.inl ⟨hsm, hf, rfl, rfl⟩)
  · have hsm : ¬ same := fun q => by rw [h1 q] at hs; cases hs
    rw [hw r ho] at hg
    exact .inr (.inr ⟨hsm, hf, j, t, rfl, hg⟩)
theorem RunQ.ret {A B : Ar} {rd rd' : Int} {held : Nat → Nat} {bL bR : Bool} {pol : Int} {x y : Nat} {l m : List En} {en : Ending} (h : RunQ A rd held bL bR pol x y l m en B rd') : ∃ (z : Nat) (ez : Int), en = .returned (.tuple #[.int .u32 (z : Int), .int .i64 ez]) := by
  obtain ⟨-, -, h⟩ := h
  rcases h with ⟨s, t, r, -, -, rfl, -⟩ | ⟨-, -, rfl, -⟩ | ⟨-, -, j, t, r, rfl, -⟩
  · exact ⟨_, _, rfl⟩
  · exact ⟨0, _, rfl⟩
  · exact ⟨_, _, rfl⟩
set_option maxHeartbeats 16000000 in
set_option maxRecDepth 100000 in
theorem run_any (I : AImpl) {p : Value} {A : Ar} {rd : Int} {F : Nat → Prop} {held : Nat → Nat} {x y : Nat} {tx ty : Tr} {l m : List En} (bL bR : Bool) (pol : Int) (w : World) (hI : I.Is w p A rd F) (hv : A.Inv [] held) (hm : ∀ j, held j ≤ 1048000) (hx : TreeAt A x tx l) (hy : TreeAt A y ty m) (hwl : WfL l) (hwm : WfL m) (h0 : 0 ≤ rd) (h1 : rd ≤ 1090000000000) :
    Calls Tryz.prog 46 #[.agg #[p, .bool bL, .bool bR, .int .i64 pol, .int .i64 0], .int .u32 (x : Int), .int .u32 (y : Int)] w (Mut I p F (RunQ A rd held bL bR pol x y l m) w) := by
  obtain ⟨pa, rfl⟩ := I.ptr hI
  have hs0 := (Ins.start hI).box #[.pointer (some pa), .bool bL, .bool bR, .int .i64 pol, .int .i64 0] 91
  have hst := Hd.start hv hx.agg
  have HV : Hid (A.Inv [] held ∧ A.Agg ∧ (∀ j, held j ≤ 1048000)) := ⟨hv, hx.agg, hm⟩
  have HX : Hid (TreeAt A x tx l ∧ TreeAt A y ty m ∧ WfL l ∧ WfL m) := ⟨hx, hy, hwl, hwm⟩
  have hn := hx.few
  have hk := hy.few
  have HN : Hid (l.length ≤ 65536 ∧ m.length ≤ 65536 ∧ tx.ht < 80 ∧ setI (l.length : Int) (m.length : Int) = (l.length : Int) + (m.length : Int) + 12 * ((xh (l.length + m.length) : Int) + 2) ∧ tx.size = l.length) := ⟨hn, hk, by have := hx.ht (by omega); have := (xh_spec (n := l.length) (by omega)).2.1; omega, setJ hn hk, hx.size⟩
  have HZ : Hid (A.sz x = (l.length : Int) ∧ A.sz y = (m.length : Int) ∧ A.Idx x ∧ A.Idx y ∧ x < 4294967296 ∧ y < 4294967296) := ⟨hx.at_.sz hx.agg, hy.at_.sz hy.agg, hx.idx', hy.idx', hx.idx, hy.idx⟩
  have HRD : Hid (0 ≤ rd ∧ rd ≤ 1090000000000) := ⟨h0, h1⟩
  have HBD : Hid (setBd l.length m.length = 100000 * ((l.length : Int) + (m.length : Int) + 1)) := rfl
  obtain ⟨U, hU⟩ : ∃ U : Nat, A.σ.cap = A.σ.free.length + U := ⟨A.σ.cap - A.σ.free.length, by have := hv.ok.len; omega⟩
  have HU : Hid (A.σ.cap = A.σ.free.length + U ∧ U ≤ 65536 ∧ tx.size ≤ U) := ⟨hU, by have := hv.ok.cap2; omega, by have := hx.held; omega⟩
  have huw : IntKind.i64.wrap ((A.σ.cap : Int) - (A.σ.free.length : Int)) = (U : Int) := by rw [IntKind.wrap_i64]; have := hv.ok.cap2; omega
  have HHD : Hid (Hd A held (A.ret y) [⟨y, ty, m⟩] ∧ (A.ret y).σ = A.σ) := ⟨(hst.ret hy.at_).1, (hst.ret hy.at_).2.2⟩
  have HWH := Lib.hid (fun s => wh_spec (held := held) (bL := bL) (bR := bR) (pol := pol) (s := s) hx.at_ hy.at_ hx.up hy.up hwl hwm)
  have HST := Lib.hid hst
  clear hI hv hm hx hy hwl hwm h0 h1 hn hk hU hst
  go_enter Tryz.func46, Tryz.ntmps46
  go_upto_region 1 with fail
  generalize w.alloc (Obj.cells #[.pointer (some pa), .bool bL, .bool bR, .int .i64 pol, .int .i64 0] 91) = w1 at hs0 ⊢
  generalize w.heap.size = g at hs0 ⊢
  have HS0 : Hid (Ins I w F (.pointer (some pa)) A rd [] [(g, Obj.cells (opC (.pointer (some pa)) bL bR pol 0) 91 (0, 0))] w1) := hs0
  clear hs0
  obtain ⟨⟨c0, c1, c2, c3, c4⟩, -⟩ := opC_of (HS0.out.boxes _ (List.Mem.head _)).2
  go_wp2_with fail
  refine (wholeS_any (bL := bL) (bR := bR) (pol := pol) (u := 0) w1 (HS0.out.boxes _ (List.Mem.head _)).2).mono ?_
  rintro e w2 ⟨rfl, rfl⟩
  cases hwh : whR bL bR pol x y with
  | some s =>
    obtain ⟨t, r, a1, a2⟩ := HWH.out s hwh
    have HA := Lib.hid a1
    have HO := Lib.hid a2
    have HW := Lib.hid hwh
    have HGOT : Hid (Got A held (A.ret s) s t r ∧ (A.ret s).σ.free.length = A.σ.free.length) := ⟨(HST.out.ret a1).1.done, by rw [(HST.out.ret a1).2.2]⟩
    simp only [Option.getD_some, Option.isSome_some]
    clear a1 a2 hwh
    go_wp2_with fail
    refine (HS0.out.mut fun F1 hI1 => shareS_any I w2 hI1 HV.out.1 (fun q => Nat.le_trans (HV.out.2.2 q) (by decide)) HA.out.idx).mono ?_
    rintro e w3 ⟨C, rd2, ⟨rfl, rfl, hrd⟩, hs3⟩
    rw [hrd] at hs3
    have HE := Lib.hid hs3.ends
    have HQ : Hid (RunQ A rd held bL bR pol x y l m (.returned (.tuple #[.int .u32 (s : Int), .int .i64 0])) (A.ret s) rd) := ⟨Int.le_refl _, by have := HBD.out; omega, .inl ⟨s, t, r, HW.out, rfl, rfl, HGOT.out.1, HO.out, HGOT.out.2⟩⟩
    clear hrd hs3 c0 c1 c2 c3 c4 HS0
    go_wp2_with fail
    go_ret2
    obtain ⟨F', hal, hI⟩ := HE.out
    exact ⟨F', _, rd, hal, hI, HQ.out⟩
  | none =>
  have HW := Lib.hid hwh
  simp only [Option.getD_none, Option.isSome_none]
  clear hwh
  go_wp2_with fail
  refine HS0.out.free.mono ?_
  rintro e w3 ⟨rfl, hs3⟩
  have HS3 := Lib.hid hs3
  clear hs3 HS0 c0 c1 c2 c3 c4
  go_wp2_with fail
  refine (HS3.out.sz HRD.out.1 (by have := HRD.out; omega) HZ.out.2.2.2.2.1 HZ.out.2.2.1 HV.out.1.ok).mono ?_
  rintro e w4 ⟨rfl, hs4⟩
  rw [HZ.out.1]
  have HS4 := Lib.hid hs4
  clear hs4 HS3
  go_wp2_with fail
  refine (HS4.out.sz (by have := HRD.out; split <;> omega) (by have := HRD.out; split <;> omega) HZ.out.2.2.2.2.2 HZ.out.2.2.2.1 HV.out.1.ok).mono ?_
  rintro e w5 ⟨rfl, hs5⟩
  rw [HZ.out.2.1]
  obtain ⟨rd3, hrd3⟩ : ∃ r, (rd + if x = 0 then 0 else 1) + (if y = 0 then 0 else 1) = r := ⟨_, rfl⟩
  have HR3 : Hid (rd ≤ rd3 ∧ rd3 ≤ rd + 2) := by
    show rd ≤ rd3 ∧ rd3 ≤ rd + 2
    rw [← hrd3]
    (repeat' split) <;> omega
  rw [hrd3] at hs5
  have HS5 := Lib.hid hs5
  clear hs5 hrd3 HS4
  go_wp2_with fail
  refine (rsSetOperation_any (l.length : Int) (m.length : Int) w5 (by have := HN.out; unfold in64; omega) (by have := HN.out; unfold in64; omega)).mono ?_
  rintro e w6 ⟨rfl, hb6⟩
  have HS6 := Lib.hid (HS5.out.calm hb6)
  clear hb6 HS5
  by_cases hfr : (A.σ.free.length : Int) < setI (l.length : Int) (m.length : Int)
  · have d9 : decide ((A.σ.free.length : Int) < setI (l.length : Int) (m.length : Int)) = true := decide_eq_true hfr
    have HQ : Hid (RunQ A rd held bL bR pol x y l m (.returned (.tuple #[.int .u32 0, .int .i64 2])) A rd3) := ⟨HR3.out.1, by have := HR3.out; have := HBD.out; omega, .inr (.inl ⟨HW.out, hfr, rfl, rfl⟩)⟩
    have HE := Lib.hid HS6.out.ends
    clear hfr HS6
    go_wp2_with fail
    go_ret2
    obtain ⟨F', hal, hI⟩ := HE.out
    exact ⟨F', A, rd3, hal, hI, HQ.out⟩
  have d9 : decide ((A.σ.free.length : Int) < setI (l.length : Int) (m.length : Int)) = false := decide_eq_false hfr
  have HFR : Hid (setI (l.length : Int) (m.length : Int) ≤ (A.σ.free.length : Int)) := by show _ ≤ _; omega
  go_wp2_with fail
  refine (HS6.out.mut fun F1 hI1 => shareS_any I w6 hI1 HV.out.1 (fun q => Nat.le_trans (HV.out.2.2 q) (by decide)) HZ.out.2.2.2.1).mono ?_
  rintro e w7 ⟨C, rd7, ⟨rfl, rfl, hrd⟩, hs7⟩
  rw [hrd] at hs7
  have HS7 := Lib.hid hs7
  clear hrd hs7 HS6 hfr d9
  go_wp2_with fail
  refine HS7.out.capacity.mono ?_
  rintro e w8 ⟨rfl, hs8⟩
  rw [HHD.out.2]
  have HS8 := Lib.hid hs8
  clear hs8 HS7
  go_wp2_with fail
  refine HS8.out.free.mono ?_
  rintro e w9 ⟨rfl, hs9⟩
  rw [HHD.out.2]
  have HS9 := Lib.hid hs9
  clear hs9 HS8
  obtain ⟨⟨c0, c1, c2, c3, c4⟩, f4⟩ := opC_of (HS9.out.boxes _ (List.Mem.head _)).2
  go_upto_region 11 with fail
  have hs10 := HS9.out.cellO (n := 4) (.int .i64 (U : Int)) (cs' := opC (.pointer (some pa)) bL bR pol U) rfl
  clear HS9 c0 c1 c2 c3 c4 f4
  generalize w9.setCell ⟨g, 4, none⟩ (.int .i64 (U : Int)) = w10 at hs10 ⊢
  have HS10 := Lib.hid hs10
  clear hs10
  go_wp2_with fail
  refine (cmb_all I tx (N := l.length + m.length) w10 ⟨HS10.out, HHD.out.1, HV.out.2.2, by have := HN.out; simp; omega, HX.out.1.at_, HX.out.1.up, HX.out.2.2.1, HX.out.2.1.up, HX.out.2.2.2, HU.out.2.2, HU.out.2.1, by show 0 + l.length + m.length ≤ _; omega, by have := HN.out; have := HFR.out; omega, by have := HRD.out; have := HR3.out; omega, by have := HRD.out; have := HR3.out; have := HN.out; omega⟩).mono ?_
  rintro e w11 ⟨C, rd11, u', ⟨j, t, r, rfl, b1, b2, b3, b4, -, -⟩, hs11⟩
  have HQ : Hid (RunQ A rd held bL bR pol x y l m (.returned (.tuple #[.int .u32 (j : Int), .int .i64 0])) C rd11) := ⟨by have := HR3.out; omega, by have := HR3.out; have := HBD.out; have := HN.out; omega, .inr (.inr ⟨HW.out, HFR.out, j, t, r, rfl, b1.done, b2⟩)⟩
  have HE := Lib.hid hs11.ends
  clear b1 b2 b3 b4 hs11 HS10
  go_wp2_with fail
  go_ret2
  obtain ⟨F', hal, hI⟩ := HE.out
  exact ⟨F', C, rd11, hal, hI, HQ.out⟩
theorem pol_iff (pol : Int) : polB pol = true ↔ polOk pol := by unfold polB polOk; simp
theorem wh_uni {pol : Int} {x y : Nat} (hp : polB pol = true) (hs : x = 0 ∨ y = 0 ∨ (x = y ∧ pol ≠ 3)) : whR true true pol x y = some (if x = 0 then y else x) := by
  unfold whR
  by_cases a1 : x = 0
  · subst a1
    by_cases a2 : y = 0
    · subst a2; simp
    · have a3 : ¬ 0 = y := fun q => a2 q.symm
      simp [a2, a3]
  · by_cases a2 : y = 0
    · subst a2; simp [a1]
    · have a3 := (hs.resolve_left a1).resolve_left a2
      rw [if_neg a1, if_neg a2, if_pos a3, if_neg a1, if_pos hp]
theorem wh_intO {pol : Int} {x y : Nat} (hp : polB pol = true) (hs : x = 0 ∨ y = 0 ∨ (x = y ∧ pol ≠ 3)) : whR false false pol x y = some (if x = 0 ∨ y = 0 then 0 else x) := by
  unfold whR
  by_cases a1 : x = 0
  · subst a1
    by_cases a2 : y = 0
    · subst a2; simp
    · have a3 : ¬ 0 = y := fun q => a2 q.symm
      simp [a2, a3]
  · by_cases a2 : y = 0
    · subst a2; simp [a1]
    · have a3 := (hs.resolve_left a1).resolve_left a2
      rw [if_neg a1, if_neg a2, if_pos a3, if_pos hp, if_neg (fun q : x = 0 ∨ y = 0 => q.elim a1 a2)]
theorem wh_subO {x y : Nat} (hs : x = 0 ∨ y = 0 ∨ x = y) : whR true false 0 x y = some (if x = y then 0 else x) := by
  unfold whR
  by_cases a1 : x = 0
  · subst a1
    by_cases a2 : y = 0
    · subst a2; simp
    · have a3 : ¬ 0 = y := fun q => a2 q.symm
      simp [a2, a3]
  · by_cases a2 : y = 0
    · subst a2; simp [a1]
    · have a3 := (hs.resolve_left a1).resolve_left a2
      rw [if_neg a1, if_neg a2, if_pos ⟨a3, by decide⟩, if_pos a3]; rfl
theorem wh_excO {x y : Nat} (hs : x = 0 ∨ y = 0 ∨ x = y) : whR true true 0 x y = some (if x = y then 0 else x + y) := by
  unfold whR
  by_cases a1 : x = 0
  · subst a1
    by_cases a2 : y = 0
    · subst a2; simp
    · have a3 : ¬ 0 = y := fun q => a2 q.symm
      simp [a2, a3]
  · by_cases a2 : y = 0
    · subst a2; simp [a1]
    · have a3 := (hs.resolve_left a1).resolve_left a2
      rw [if_neg a1, if_neg a2, if_pos ⟨a3, by decide⟩, if_pos a3]; rfl
theorem wh_noO {bL bR : Bool} {pol : Int} {x y : Nat} (hs : ¬ (x = 0 ∨ y = 0 ∨ (x = y ∧ pol ≠ 3))) : whR bL bR pol x y = none := by
  unfold whR
  rw [if_neg (fun q => hs (.inl q)), if_neg (fun q => hs (.inr (.inl q))), if_neg (fun q => hs (.inr (.inr q)))]
set_option maxHeartbeats 4000000 in
set_option maxRecDepth 100000 in
theorem unionS_anyG (I : AImpl) {p : Value} {A : Ar} {rd : Int} {F : Nat → Prop} {held : Nat → Nat} {x y : Nat} {tx ty : Tr} {l m : List En} {Q : Ending → Ar → Int → Prop} (pol : Int) (w : World) (hI : I.Is w p A rd F) (hv : A.Inv [] held) (hm : ∀ j, held j ≤ 1048000) (hx : TreeAt A x tx l) (hy : TreeAt A y ty m) (hwl : WfL l) (hwm : WfL m) (h0 : 0 ≤ rd) (h1 : rd ≤ 1090000000000)
    (hno : polB pol = false → Q (.returned (.tuple #[.int .u32 0, .int .i64 1])) A rd) (hyes : polB pol = true → ∀ e B rd', RunQ A rd held true true pol x y l m e B rd' → Q e B rd') :
    Calls Tryz.prog 11 #[p, .int .u32 (x : Int), .int .u32 (y : Int), .int .i64 pol] w (Mut I p F Q w) := by
  obtain ⟨pa, rfl⟩ := I.ptr hI
  have HE0 := Lib.hid (Ins.start hI).ends
  have HRUN := Lib.hid (run_any I true true pol w hI hv hm hx hy hwl hwm h0 h1)
  have HNO := Lib.hid hno
  have HYES := Lib.hid hyes
  clear hI hv hm hx hy hwl hwm h0 h1 hno hyes
  cases hp : polB pol with
  | false =>
    have HQ := Lib.hid (HNO.out hp)
    have HP := Lib.hid hp
    clear hp HRUN HNO HYES
    go_enter Tryz.func11, Tryz.ntmps11
    go_wp2_with fail
    refine (isPolS_any pol w).mono ?_
    rintro e w1 ⟨rfl, rfl⟩
    rw [HP.out]
    go_wp2_with fail
    go_ret2
    obtain ⟨F', hal, hI⟩ := HE0.out
    exact ⟨F', A, rd, hal, hI, HQ.out⟩
  | true =>
    have HP := Lib.hid hp
    clear hp HE0 HNO
    go_enter Tryz.func11, Tryz.ntmps11
    go_wp2_with fail
    refine (isPolS_any pol w).mono ?_
    rintro e w1 ⟨rfl, rfl⟩
    rw [HP.out]
    go_wp2_with fail
    refine HRUN.out.mono ?_
    rintro e w2 ⟨F', B, rd2, hal, hI, hq⟩
    have hqq := HYES.out HP.out e B rd2 hq
    obtain ⟨z, ez, rfl⟩ := hq.ret
    have HF : Hid (∃ F' B rd2, Alters F F' w1 w2 ∧ I.Is w2 (.pointer (some pa)) B rd2 F' ∧ Q (.returned (.tuple #[.int .u32 (z : Int), .int .i64 ez])) B rd2) := ⟨F', B, rd2, hal, hI, hqq⟩
    clear hal hI hq hqq HRUN HYES
    go_wp2_with fail
    go_ret2
    exact HF.out
theorem unionS_any (I : AImpl) {p : Value} {A : Ar} {rd : Int} {F : Nat → Prop} {held : Nat → Nat} {x y : Nat} {tx ty : Tr} {l m : List En} (pol : Int) (w : World) (hI : I.Is w p A rd F) (hv : A.Inv [] held) (hm : ∀ j, held j ≤ 1048000) (hx : TreeAt A x tx l) (hy : TreeAt A y ty m) (hwl : WfL l) (hwm : WfL m) (h0 : 0 ≤ rd) (h1 : rd ≤ 1090000000000) :
    Calls Tryz.prog 11 #[p, .int .u32 (x : Int), .int .u32 (y : Int), .int .i64 pol] w (Mut I p F (PolQ A rd held l m (unionE l m pol) pol (x = 0 ∨ y = 0 ∨ (x = y ∧ pol ≠ 3)) (if x = 0 then y else x)) w) :=
  unionS_anyG I pol w hI hv hm hx hy hwl hwm h0 h1 (fun hp => .inl ⟨fun q => (by rw [(pol_iff pol).2 q] at hp; cases hp), rfl, rfl, Int.le_refl _, by omega⟩)
    fun hp e B rd' hq => .inr ⟨(pol_iff pol).1 hp, hq.set (fun r hr => op_union hx.up hy.up hp hr) (wh_uni hp) (fun hs => wh_noO hs)⟩
set_option maxHeartbeats 4000000 in
set_option maxRecDepth 100000 in
theorem intS_anyG (I : AImpl) {p : Value} {A : Ar} {rd : Int} {F : Nat → Prop} {held : Nat → Nat} {x y : Nat} {tx ty : Tr} {l m : List En} {Q : Ending → Ar → Int → Prop} (pol : Int) (w : World) (hI : I.Is w p A rd F) (hv : A.Inv [] held) (hm : ∀ j, held j ≤ 1048000) (hx : TreeAt A x tx l) (hy : TreeAt A y ty m) (hwl : WfL l) (hwm : WfL m) (h0 : 0 ≤ rd) (h1 : rd ≤ 1090000000000)
    (hno : polB pol = false → Q (.returned (.tuple #[.int .u32 0, .int .i64 1])) A rd) (hyes : polB pol = true → ∀ e B rd', RunQ A rd held false false pol x y l m e B rd' → Q e B rd') :
    Calls Tryz.prog 20 #[p, .int .u32 (x : Int), .int .u32 (y : Int), .int .i64 pol] w (Mut I p F Q w) := by
  obtain ⟨pa, rfl⟩ := I.ptr hI
  have HE0 := Lib.hid (Ins.start hI).ends
  have HRUN := Lib.hid (run_any I false false pol w hI hv hm hx hy hwl hwm h0 h1)
  have HNO := Lib.hid hno
  have HYES := Lib.hid hyes
  clear hI hv hm hx hy hwl hwm h0 h1 hno hyes
  cases hp : polB pol with
  | false =>
    have HQ := Lib.hid (HNO.out hp)
    have HP := Lib.hid hp
    clear hp HRUN HNO HYES
    go_enter Tryz.func20, Tryz.ntmps20
    go_wp2_with fail
    refine (isPolS_any pol w).mono ?_
    rintro e w1 ⟨rfl, rfl⟩
    rw [HP.out]
    go_wp2_with fail
    go_ret2
    obtain ⟨F', hal, hI⟩ := HE0.out
    exact ⟨F', A, rd, hal, hI, HQ.out⟩
  | true =>
    have HP := Lib.hid hp
    clear hp HE0 HNO
    go_enter Tryz.func20, Tryz.ntmps20
    go_wp2_with fail
    refine (isPolS_any pol w).mono ?_
    rintro e w1 ⟨rfl, rfl⟩
    rw [HP.out]
    go_wp2_with fail
    refine HRUN.out.mono ?_
    rintro e w2 ⟨F', B, rd2, hal, hI, hq⟩
    have hqq := HYES.out HP.out e B rd2 hq
    obtain ⟨z, ez, rfl⟩ := hq.ret
    have HF : Hid (∃ F' B rd2, Alters F F' w1 w2 ∧ I.Is w2 (.pointer (some pa)) B rd2 F' ∧ Q (.returned (.tuple #[.int .u32 (z : Int), .int .i64 ez])) B rd2) := ⟨F', B, rd2, hal, hI, hqq⟩
    clear hal hI hq hqq HRUN HYES
    go_wp2_with fail
    go_ret2
    exact HF.out
theorem intS_any (I : AImpl) {p : Value} {A : Ar} {rd : Int} {F : Nat → Prop} {held : Nat → Nat} {x y : Nat} {tx ty : Tr} {l m : List En} (pol : Int) (w : World) (hI : I.Is w p A rd F) (hv : A.Inv [] held) (hm : ∀ j, held j ≤ 1048000) (hx : TreeAt A x tx l) (hy : TreeAt A y ty m) (hwl : WfL l) (hwm : WfL m) (h0 : 0 ≤ rd) (h1 : rd ≤ 1090000000000) :
    Calls Tryz.prog 20 #[p, .int .u32 (x : Int), .int .u32 (y : Int), .int .i64 pol] w (Mut I p F (PolQ A rd held l m (intE l m pol) pol (x = 0 ∨ y = 0 ∨ (x = y ∧ pol ≠ 3)) (if x = 0 ∨ y = 0 then 0 else x)) w) :=
  intS_anyG I pol w hI hv hm hx hy hwl hwm h0 h1 (fun hp => .inl ⟨fun q => (by rw [(pol_iff pol).2 q] at hp; cases hp), rfl, rfl, Int.le_refl _, by omega⟩)
    fun hp e B rd' hq => .inr ⟨(pol_iff pol).1 hp, hq.set (fun r hr => op_int hx.up hp hr) (wh_intO hp) (fun hs => wh_noO hs)⟩
set_option maxHeartbeats 4000000 in
set_option maxRecDepth 100000 in
theorem subS_anyG (I : AImpl) {p : Value} {A : Ar} {rd : Int} {F : Nat → Prop} {held : Nat → Nat} {x y : Nat} {tx ty : Tr} {l m : List En} {Q : Ending → Ar → Int → Prop} (w : World) (hI : I.Is w p A rd F) (hv : A.Inv [] held) (hm : ∀ j, held j ≤ 1048000) (hx : TreeAt A x tx l) (hy : TreeAt A y ty m) (hwl : WfL l) (hwm : WfL m) (h0 : 0 ≤ rd) (h1 : rd ≤ 1090000000000)
    (hyes : ∀ e B rd', RunQ A rd held true false 0 x y l m e B rd' → Q e B rd') :
    Calls Tryz.prog 24 #[p, .int .u32 (x : Int), .int .u32 (y : Int)] w (Mut I p F Q w) := by
  obtain ⟨pa, rfl⟩ := I.ptr hI
  have HRUN := Lib.hid (run_any I true false 0 w hI hv hm hx hy hwl hwm h0 h1)
  have HYES := Lib.hid hyes
  clear hI hv hm hx hy hwl hwm h0 h1 hyes
  go_enter Tryz.func24, Tryz.ntmps24
  go_wp2_with fail
  refine HRUN.out.mono ?_
  rintro e w2 ⟨F', B, rd2, hal, hI, hq⟩
  have hqq := HYES.out e B rd2 hq
  obtain ⟨z, ez, rfl⟩ := hq.ret
  have HF : Hid (∃ F' B rd2, Alters F F' w w2 ∧ I.Is w2 (.pointer (some pa)) B rd2 F' ∧ Q (.returned (.tuple #[.int .u32 (z : Int), .int .i64 ez])) B rd2) := ⟨F', B, rd2, hal, hI, hqq⟩
  clear hal hI hq hqq HRUN HYES
  go_wp2_with fail
  go_ret2
  exact HF.out
theorem subS_any (I : AImpl) {p : Value} {A : Ar} {rd : Int} {F : Nat → Prop} {held : Nat → Nat} {x y : Nat} {tx ty : Tr} {l m : List En} (w : World) (hI : I.Is w p A rd F) (hv : A.Inv [] held) (hm : ∀ j, held j ≤ 1048000) (hx : TreeAt A x tx l) (hy : TreeAt A y ty m) (hwl : WfL l) (hwm : WfL m) (h0 : 0 ≤ rd) (h1 : rd ≤ 1090000000000) :
    Calls Tryz.prog 24 #[p, .int .u32 (x : Int), .int .u32 (y : Int)] w (Mut I p F (SetQ A rd held l m (subE l m) (x = 0 ∨ y = 0 ∨ x = y) (if x = y then 0 else x)) w) :=
  subS_anyG I w hI hv hm hx hy hwl hwm h0 h1 fun e B rd' hq => hq.set (fun r hr => op_sub hx.up rfl hr) wh_subO (fun hs => wh_noO (fun q => hs (q.imp_right fun q => q.imp_right And.left)))
set_option maxHeartbeats 4000000 in
set_option maxRecDepth 100000 in
theorem excS_anyG (I : AImpl) {p : Value} {A : Ar} {rd : Int} {F : Nat → Prop} {held : Nat → Nat} {x y : Nat} {tx ty : Tr} {l m : List En} {Q : Ending → Ar → Int → Prop} (w : World) (hI : I.Is w p A rd F) (hv : A.Inv [] held) (hm : ∀ j, held j ≤ 1048000) (hx : TreeAt A x tx l) (hy : TreeAt A y ty m) (hwl : WfL l) (hwm : WfL m) (h0 : 0 ≤ rd) (h1 : rd ≤ 1090000000000)
    (hyes : ∀ e B rd', RunQ A rd held true true 0 x y l m e B rd' → Q e B rd') :
    Calls Tryz.prog 22 #[p, .int .u32 (x : Int), .int .u32 (y : Int)] w (Mut I p F Q w) := by
  obtain ⟨pa, rfl⟩ := I.ptr hI
  have HRUN := Lib.hid (run_any I true true 0 w hI hv hm hx hy hwl hwm h0 h1)
  have HYES := Lib.hid hyes
  clear hI hv hm hx hy hwl hwm h0 h1 hyes
  go_enter Tryz.func22, Tryz.ntmps22
  go_wp2_with fail
  refine HRUN.out.mono ?_
  rintro e w2 ⟨F', B, rd2, hal, hI, hq⟩
  have hqq := HYES.out e B rd2 hq
  obtain ⟨z, ez, rfl⟩ := hq.ret
  have HF : Hid (∃ F' B rd2, Alters F F' w w2 ∧ I.Is w2 (.pointer (some pa)) B rd2 F' ∧ Q (.returned (.tuple #[.int .u32 (z : Int), .int .i64 ez])) B rd2) := ⟨F', B, rd2, hal, hI, hqq⟩
  clear hal hI hq hqq HRUN HYES
  go_wp2_with fail
  go_ret2
  exact HF.out
theorem excS_any (I : AImpl) {p : Value} {A : Ar} {rd : Int} {F : Nat → Prop} {held : Nat → Nat} {x y : Nat} {tx ty : Tr} {l m : List En} (w : World) (hI : I.Is w p A rd F) (hv : A.Inv [] held) (hm : ∀ j, held j ≤ 1048000) (hx : TreeAt A x tx l) (hy : TreeAt A y ty m) (hwl : WfL l) (hwm : WfL m) (h0 : 0 ≤ rd) (h1 : rd ≤ 1090000000000) :
    Calls Tryz.prog 22 #[p, .int .u32 (x : Int), .int .u32 (y : Int)] w (Mut I p F (SetQ A rd held l m (excE l m) (x = 0 ∨ y = 0 ∨ x = y) (if x = y then 0 else x + y)) w) :=
  excS_anyG I w hI hv hm hx hy hwl hwm h0 h1 fun e B rd' hq => hq.set (fun r hr => op_exc hx.up hy.up rfl hr) wh_excO (fun hs => wh_noO (fun q => hs (q.imp_right fun q => q.imp_right And.left)))
theorem stImpl (I : AImpl) : StImpl I where
  union := fun pol w hI hv hm hx hy hwl hwm h0 h1 _ => unionS_any I pol w hI hv hm hx hy hwl hwm h0 h1
  intersect := fun pol w hI hv hm hx hy hwl hwm h0 h1 _ => intS_any I pol w hI hv hm hx hy hwl hwm h0 h1
  subtract := fun w hI hv hm hx hy hwl hwm h0 h1 => subS_any I w hI hv hm hx hy hwl hwm h0 h1
  exclusive := fun w hI hv hm hx hy hwl hwm h0 h1 => excS_any I w hI hv hm hx hy hwl hwm h0 h1
section
variable {I : AImpl} {w wr : World} {F F1 : Nat → Prop} {p : Value} {A : Ar} {rd : Int} {rs : List Row} {bs : List (Nat × Obj)} {a : Option Addr} {c : Nat} {P : List Nat}
/-- a call that alters the arena, and what is known of the arena's place -/
theorem Ins.mutO {f : FuncId} {args : Array Value} {Q : Ending → Ar → Int → Prop} (h : Ins I w F p A rd rs bs wr) (hc : ∀ F1, I.Is wr p A rd F1 → (∀ k, (OldI w F k ∨ SG rs bs k) → k < wr.heap.size ∧ ¬ F1 k) → Calls Tryz.prog f args wr (Mut I p F1 Q wr)) :
    Calls Tryz.prog f args wr fun e w' => ∃ A' rd', Q e A' rd' ∧ Ins I w F p A' rd' rs bs w' := by
  obtain ⟨F1, f1, f2, f3⟩ := h.mr.has
  refine (hc F1 f1 f3).mono ?_
  rintro e w1 ⟨F', A', rd', hal, hI, hq⟩
  have hst := h.mr.stepA f2 f3 hal hI
  exact ⟨A', rd', hq, hst.1, fun k hk => (hst.2 k (.inl hk)).trans (h.kp k hk), fun r hr => row_keep (h.rows r hr) fun k hk' => hst.2 k (.inr (.inl ⟨r, hr, hk'⟩)), fun b hb => ⟨(h.boxes b hb).1, (hst.2 b.1 (.inr (.inr ⟨b, hb, rfl⟩))).trans (h.boxes b hb).2⟩, h.rr, h.bb, h.rb⟩
/-- the slice (a, length of P, c) reads as P, and is none of the arena's -/
def PathAt (w : World) (F : Nat → Prop) (a : Option Addr) (c : Nat) (P : List Nat) : Prop :=
  P.length ≤ c ∧ (P = [] ∨ ∃ g o, a = some ⟨g, o, none⟩ ∧ g < w.heap.size ∧ ¬ F g ∧ ∀ (m x : Nat), P[m]? = some x → w.cell? ⟨g, o + m, none⟩ = some (.int .u32 (x : Int)))
theorem PathAt.ins (h : PathAt w F a c P) (hi : Ins I w F p A rd rs bs wr) (hF : ∀ k, (OldI w F k ∨ SG rs bs k) → k < wr.heap.size ∧ ¬ F1 k) : PathAt wr F1 a c P := by
  refine ⟨h.1, h.2.imp id ?_⟩
  rintro ⟨g, o, rfl, h1, h2, h3⟩
  have hg := hF g (.inl ⟨h1, h2⟩)
  exact ⟨g, o, rfl, hg.1, hg.2, fun m x hx => (World.cell?_of_block (hi.kp g ⟨h1, h2⟩)).trans (h3 m x hx)⟩
theorem PathAt.tail {x : Nat} (h : PathAt w F a c (x :: P)) : PathAt w F (if c = 1 then a else a.map (·.add 1)) (c - 1) P := by
  obtain ⟨h1, h2⟩ := h
  rw [List.length_cons] at h1
  refine ⟨by omega, ?_⟩
  rcases h2 with h2 | ⟨g, o, rfl, h3, h4, h5⟩
  · cases h2
  by_cases hc : c = 1
  · exact .inl (List.eq_nil_of_length_eq_zero (by omega))
  · rw [if_neg hc]
    exact .inr ⟨g, o + 1, rfl, h3, h4, fun m y hy => by have := h5 (m + 1) y (by simpa using hy); rw [show o + 1 + m = o + (m + 1) by omega]; exact this⟩
theorem PathAt.head {x : Nat} (h : PathAt w F a c (x :: P)) (hi : Ins I w F p A rd rs bs wr) : ∃ g o, a = some ⟨g, o, none⟩ ∧ wr.cell? ⟨g, o, none⟩ = some (.int .u32 (x : Int)) := by
  rcases h.2 with h2 | ⟨g, o, rfl, h3, h4, h5⟩
  · cases h2
  · exact ⟨g, o, rfl, (World.cell?_of_block (hi.kp g ⟨h3, h4⟩)).trans (h5 0 x rfl)⟩
/-- a call that reads and gives a row of indexes -/
theorem Ins.path {bd : Int} {f : FuncId} {args : Array Value} (h : Ins I w F p A rd rs bs wr) (hc : ∀ F1, I.Is wr p A rd F1 → Calls Tryz.prog f args wr (PathRes I p A rd F1 bd P wr)) :
    Calls Tryz.prog f args wr fun e w' => ∃ rd' a c, e = .returned (.slice a P.length c) ∧ Ins I w F p A rd' (⟨26, 1, .slice a P.length c, P.length, u32s P⟩ :: rs) bs w' ∧ rd ≤ rd' ∧ rd' ≤ rd + bd := by
  obtain ⟨F1, f1, f2, f3⟩ := h.mr.has
  refine (hc F1 f1).mono ?_
  rintro e w1 ⟨F', rd', a, c, rfl, hal, hI, h0, h1, hrow, hnF⟩
  have hst := h.mr.stepA f2 f3 hal hI
  refine ⟨rd', a, c, rfl, ⟨⟨⟨F', hI, fun _ _ => Nat.zero_le _, fun k hk => ?_⟩, hst.1.below, hst.1.hB⟩, fun k hk => (hst.2 k (.inl hk)).trans (h.kp k hk), fun r hr => ?_, fun b hb => ⟨(h.boxes b hb).1, (hst.2 b.1 (.inr (.inr ⟨b, hb, rfl⟩))).trans (h.boxes b hb).2⟩, List.pairwise_cons.2 ⟨fun r hr k hk e => ?_, h.rr⟩, h.bb, fun r hr b hb => ?_⟩, h0, h1⟩
  · rcases hk with hk | ⟨r, hr, hk⟩ | ⟨b, hb, rfl⟩
    · exact hal.apart f3 k (.inl hk)
    · rcases List.mem_cons.1 hr with rfl | hr
      · exact ⟨(row_lt hrow k hk).2, hnF k hk⟩
      · exact hal.apart f3 k (.inr (.inl ⟨r, hr, hk⟩))
    · exact hal.apart f3 b.1 (.inr (.inr ⟨b, hb, rfl⟩))
  · rcases List.mem_cons.1 hr with rfl | hr
    · exact row_mono hrow h.size
    · exact row_keep (h.rows r hr) fun k hk' => hst.2 k (.inr (.inl ⟨r, hr, hk'⟩))
  · have h1 := row_from hrow k hk
    have h2 := h.lt (.inl ⟨r, hr, e⟩)
    omega
  · rcases List.mem_cons.1 hr with rfl | hr
    · intro e
      have h1 := row_from hrow b.1 e
      have h2 := h.lt (.inr ⟨b, hb, rfl⟩)
      omega
    · exact h.rb r hr b hb
theorem PathAt.ofRow {B : Nat} (hr : wr.ownsRow B 26 1 (.slice a P.length c) P.length (u32s P)) (hg : ∀ g, (Value.slice a P.length c).ownBlock = some g → g < wr.heap.size ∧ ¬ F1 g) : PathAt wr F1 a c P := by
  have hle : P.length ≤ c := by
    rcases hr.2 with ⟨h1, h2⟩ | ⟨g, cap, cur, h1, _, _, h2, _⟩
    · omega
    · injection h1 with _ _ h3
      omega
  refine ⟨hle, ?_⟩
  cases P with
  | nil => exact .inl rfl
  | cons x P =>
    obtain ⟨g, rfl, h1, -⟩ := row_cell hr (j := 0) (by simp)
    refine .inr ⟨g, 0, rfl, h1, (hg g rfl).2, fun m y hy => ?_⟩
    obtain ⟨g', hgg, -, h3⟩ := row_cell hr (j := m) (List.getElem?_eq_some_iff.1 hy).1
    have hgg' : g = g' := by injection hgg with q; injection q
    subst hgg'
    rw [Nat.zero_add, h3]
    unfold u32s
    rw [List.getElem?_map, hy]
    rfl
end
end Go.Proofs.YtfihklpofmcfgaaGreat
