/- Of the proofs of SetopsAlgebra, SetopsDistribute: StOk4, Hld, StCon, StOk, EnsIn, ScnPl, StAid, StAw, RefSame, LawBkRank. -/
import Derived.Test.YtfihklpofmcfgaaGreatB1613
import Derived.Deep.QuietTactic
import Derived.Deep.DeepCutAuto
set_option linter.unusedVariables false
set_option linter.unusedSimpArgs false
namespace Go.Proofs.YtfihklpofmcfgaaGreat
open Go.RowKit
theorem low_highO (k : Int) : ∀ m : List En, (lowE m k).length + (highE m k).length ≤ m.length
  | [] => Nat.le_refl _
  | e :: t => by
    have ih := low_highO k t
    unfold lowE highE at ih ⊢
    rw [List.filter_cons, List.filter_cons]
    by_cases h1 : e.key < k
    · have h2 : ¬ k < e.key := by omega
      rw [if_pos (by simpa using h1), if_neg (by simpa using h2)]
      simp only [List.length_cons]
      omega
    · rw [if_neg (by simpa using h1)]
      split
      · simp only [List.length_cons]; omega
      · simp only [List.length_cons]; omega
/-- a tree that is the result as a whole -/
theorem wh_spec {B : Ar} {x y : Nat} {t ty : Tr} {l m : List En} {bL bR : Bool} {pol : Int} {held : Nat → Nat} {s : Nat} (hx : At B x t l) (hy : At B y ty m) (hul : Up l) (hum : Up m) (hwl : WfL l) (hwm : WfL m) (h : whR bL bR pol x y = some s) : ∃ (t' : Tr) (r : List En), At B s t' r ∧ OpL bL bR pol l m r := by
  unfold whR at h
  by_cases h1 : x = 0
  · rw [if_pos h1] at h
    cases h
    have e := (hx.zero_iff (held := held)).1 h1
    subst e
    have hq := op_nil_l (bL := bL) (bR := bR) (pol := pol) hum hwm
    cases bR with
    | true => exact ⟨ty, m, hy, hq⟩
    | false => exact ⟨.nil, [], .nil B, hq⟩
  · rw [if_neg h1] at h
    by_cases h2 : y = 0
    · rw [if_pos h2] at h
      cases h
      have e := (hy.zero_iff (held := held)).1 h2
      subst e
      have hq := op_nil_r (bL := bL) (bR := bR) (pol := pol) hul hwl
      cases bL with
      | true => exact ⟨t, l, hx, hq⟩
      | false => exact ⟨.nil, [], .nil B, hq⟩
    · rw [if_neg h2] at h
      by_cases h3 : x = y ∧ pol ≠ 3
      · rw [if_pos h3] at h
        cases h
        have e := (hx.eqH (h3.1 ▸ hy)).2
        subst e
        have hq := op_same (bL := bL) (bR := bR) hul hwl h3.2
        cases hp : polB pol with
        | true => rw [hp] at hq; exact ⟨t, l, hx, hq⟩
        | false => rw [hp] at hq; exact ⟨.nil, [], .nil B, hq⟩
      · rw [if_neg h3] at h
        cases h
structure CmbP (I : AImpl) (w : World) (F : Nat → Prop) (p : Value) (A B : Ar) (rd : Int) (rs : List Row) (bs : List (Nat × Obj)) (held : Nat → Nat) (H : List Kt) (g : Nat) (bL bR : Bool) (pol : Int) (u x y N : Nat) (t ty : Tr) (l m : List En) (wr : World) : Prop where
  ins : Ins I w F p B rd rs ((g, Obj.cells (opC p bL bR pol u) 91 (0, 0)) :: bs) wr
  hd : Hd A held B (⟨y, ty, m⟩ :: H)
  few : ∀ j, held j ≤ 1048000
  len : H.length + 2 * t.ht ≤ 170
  at_ : At A x t l
  up : Up l
  wf : WfL l
  upm : Up m
  wfm : WfL m
  unr : t.size ≤ u
  unr2 : u ≤ 65536
  bud : ktn H + l.length + m.length ≤ N
  room : N + 12 * (xh N + 2) ≤ A.σ.free.length
  rd0 : 0 ≤ rd
  rd1 : rd + 20000 * (2 * (t.size : Int) + 1) ≤ 1099510000000
/-- what combine leaves -/
def CmbQ (A : Ar) (held : Nat → Nat) (H : List Kt) (bL bR : Bool) (pol : Int) (n : Nat) (l m : List En) (rd : Int) (u : Nat) (e : Ending) (C : Ar) (rd' : Int) (u' : Nat) : Prop :=
  ∃ (j : Nat) (t : Tr) (r : List En), e = .returned (.tuple #[.int .u32 (j : Int), .int .i64 0]) ∧ Hd A held C (⟨j, t, r⟩ :: H) ∧ OpL bL bR pol l m r ∧ rd ≤ rd' ∧ rd' ≤ rd + 20000 * (2 * (n : Int) + 1) ∧ u ≤ u' + n ∧ u' ≤ u
def CmbOk (I : AImpl) (t : Tr) : Prop := ∀ {w : World} {F : Nat → Prop} {p : Value} {A B : Ar} {rd : Int} {rs : List Row} {bs : List (Nat × Obj)} {held : Nat → Nat} {H : List Kt} {g : Nat} {bL bR : Bool} {pol : Int} {u x y N : Nat} {ty : Tr} {l m : List En} (wr : World), CmbP I w F p A B rd rs bs held H g bL bR pol u x y N t ty l m wr →
    Calls Tryz.prog 82 #[.pointer (some ⟨g, 0, none⟩), .int .u32 (x : Int), .int .u32 (y : Int)] wr (fun e w' => ∃ (C : Ar) (rd' : Int) (u' : Nat), CmbQ A held H bL bR pol t.size l m rd u e C rd' u' ∧ Ins I w F p C rd' rs ((g, Obj.cells (opC p bL bR pol u') 91 (0, 0)) :: bs) w')
set_option maxHeartbeats 8000000 in
set_option maxRecDepth 100000 in
theorem cmb_whole (I : AImpl) {w wr : World} {F : Nat → Prop} {p : Value} {A B : Ar} {rd : Int} {rs : List Row} {bs : List (Nat × Obj)} {held : Nat → Nat} {H : List Kt} {g : Nat} {bL bR : Bool} {pol : Int} {u x y N s : Nat} {t ty : Tr} {l m : List En} (hP : CmbP I w F p A B rd rs bs held H g bL bR pol u x y N t ty l m wr) (hw : whR bL bR pol x y = some s) :
    Calls Tryz.prog 82 #[.pointer (some ⟨g, 0, none⟩), .int .u32 (x : Int), .int .u32 (y : Int)] wr (fun e w' => ∃ (C : Ar) (rd' : Int) (u' : Nat), CmbQ A held H bL bR pol t.size l m rd u e C rd' u' ∧ Ins I w F p C rd' rs ((g, Obj.cells (opC p bL bR pol u') 91 (0, 0)) :: bs) w') := by
  have HS0 := Lib.hid hP.ins
  obtain ⟨pa, rfl⟩ : ∃ pa, p = .pointer (some pa) := by
    obtain ⟨F1, f1, _⟩ := hP.ins.mr.has
    exact I.ptr f1
  obtain ⟨t', r, a1, a2⟩ := wh_spec (held := held) (hP.hd.of hP.at_) (hP.hd.at_ ⟨y, ty, m⟩ (List.Mem.head _)) hP.up hP.upm hP.wf hP.wfm hw
  have HA := Lib.hid a1
  have HD := Lib.hid hP.hd
  have HFEW : Hid (∀ j, plL held (kti (⟨y, ty, m⟩ :: H)) j ≤ 1048200) := hP.hd.few hP.few (by have := hP.len; simp; omega)
  have HW := Lib.hid hw
  obtain ⟨m1, m2, m3⟩ := hP.hd.ret a1
  have HG := Lib.hid (m1.perm (List.Perm.swap _ _ _)).give
  have HOP := Lib.hid a2
  have HRD := Lib.hid hP.rd0
  clear hP hw a1 a2 m1 m2 m3
  obtain ⟨⟨c0, c1, c2, c3, c4⟩, -⟩ := opC_of (HS0.out.boxes _ (List.Mem.head _)).2
  go_enter Tryz.func82, Tryz.ntmps82
  go_wp2_with fail
  refine (wholeS_any (bL := bL) (bR := bR) (pol := pol) (u := u) wr (HS0.out.boxes _ (List.Mem.head _)).2).mono ?_
  rintro e w1 ⟨rfl, rfl⟩
  rw [HW.out]
  simp only [Option.getD_some, Option.isSome_some]
  go_wp2_with fail
  refine (HS0.out.mut fun F1 hI1 => shareS_any I w1 hI1 HD.out.mid.inv (fun q => Nat.le_trans (HFEW.out q) (by decide)) HA.out.idx).mono ?_
  rintro e w2 ⟨C, rd2, ⟨rfl, rfl, hrd⟩, hs2⟩
  rw [hrd] at hs2
  have HS2 := Lib.hid hs2
  clear hrd hs2 HS0 c0 c1 c2 c3 c4
  obtain ⟨⟨c0, c1, c2, c3, c4⟩, -⟩ := opC_of (HS2.out.boxes _ (List.Mem.head _)).2
  go_wp2_with fail
  refine (HS2.out.release HG.out.2.2.1 HG.out.2.1 HG.out.1).mono ?_
  rintro e w3 ⟨rfl, hs3⟩
  have HF : Hid (CmbQ A held H bL bR pol t.size l m rd u (.returned (.tuple #[.int .u32 (s : Int), .int .i64 0])) ((B.ret s).gone y) rd u ∧ Ins I w F (.pointer (some pa)) ((B.ret s).gone y) rd rs ((g, Obj.cells (opC (.pointer (some pa)) bL bR pol u) 91 (0, 0)) :: bs) w3) :=
    ⟨⟨s, t', r, rfl, HG.out.2.2.2, HOP.out, Int.le_refl _, by omega, by omega, Nat.le_refl _⟩, hs3⟩
  clear hs3 HS2 c0 c1 c2 c3 c4
  go_wp2_with fail
  go_ret2
  exact ⟨_, rd, u, HF.out.1, HF.out.2⟩
structure SubP (I : AImpl) (w : World) (F : Nat → Prop) (p : Value) (A B : Ar) (rd : Int) (rs : List Row) (bs : List (Nat × Obj)) (held : Nat → Nat) (H : List Kt) (g : Nat) (bL bR : Bool) (pol : Int) (u lo hi N : Nat) (X : Nd) (tl tr tlo thi : Tr) (ll lr ml mh : List En) (wr : World) : Prop where
  ins : Ins I w F p B rd rs ((g, Obj.cells (opC p bL bR pol u) 91 (0, 0)) :: bs) wr
  hd : Hd A held B (⟨hi, thi, mh⟩ :: ⟨lo, tlo, ml⟩ :: H)
  few : ∀ j, held j ≤ 1048000
  len : H.length + 2 * max tl.ht tr.ht ≤ 168
  atl : At A X.left tl ll
  atr : At A X.right tr lr
  upl : Up ll
  upr : Up lr
  wfl : WfL ll
  wfr : WfL lr
  upml : Up ml
  upmh : Up mh
  wfml : WfL ml
  wfmh : WfL mh
  unr : tl.size + tr.size ≤ u
  unr2 : u ≤ 65536
  bud : ktn H + ll.length + lr.length + ml.length + mh.length ≤ N
  room : N + 12 * (xh N + 2) ≤ A.σ.free.length
  rd0 : 0 ≤ rd
  rd1 : rd + 20000 * (2 * (tl.size : Int) + 2 * (tr.size : Int) + 2) ≤ 1099510000000
def SubQ (A : Ar) (held : Nat → Nat) (H : List Kt) (bL bR : Bool) (pol : Int) (n : Nat) (ll lr ml mh : List En) (rd : Int) (u : Nat) (e : Ending) (C : Ar) (rd' : Int) (u' : Nat) : Prop :=
  ∃ (L R : Nat) (tl tr : Tr) (r1 r2 : List En), e = .returned (.tuple #[.int .u32 (L : Int), .int .u32 (R : Int), .int .i64 0]) ∧ Hd A held C (⟨R, tr, r2⟩ :: ⟨L, tl, r1⟩ :: H) ∧ OpL bL bR pol ll ml r1 ∧ OpL bL bR pol lr mh r2 ∧ rd ≤ rd' ∧ rd' ≤ rd + 20000 * (2 * (n : Int) + 2) ∧ u ≤ u' + n ∧ u' ≤ u
set_option maxHeartbeats 16000000 in
set_option maxRecDepth 100000 in
theorem sub_any (I : AImpl) {w wr : World} {F : Nat → Prop} {p : Value} {A B : Ar} {rd : Int} {rs : List Row} {bs : List (Nat × Obj)} {held : Nat → Nat} {H : List Kt} {g : Nat} {bL bR : Bool} {pol : Int} {u lo hi N : Nat} {X : Nd} {V : Int} {D : Bool} {tl tr tlo thi : Tr} {ll lr ml mh : List En} (ihl : CmbOk I tl) (ihr : CmbOk I tr) (hP : SubP I w F p A B rd rs bs held H g bL bR pol u lo hi N X tl tr tlo thi ll lr ml mh wr) :
    Calls Tryz.prog 103 #[.pointer (some ⟨g, 0, none⟩), .agg #[Value.int .i64 X.key, .int .i64 X.val, .int .u32 (X.left : Int), .int .u32 (X.right : Int), .int .i64 X.size, .int .i64 X.sum, .int .i64 X.mn, .int .i64 X.mx], .agg #[Value.int .u32 (lo : Int), .int .i64 V, .bool D, .int .u32 (hi : Int)]] wr (fun e w' => ∃ (C : Ar) (rd' : Int) (u' : Nat), SubQ A held H bL bR pol (tl.size + tr.size) ll lr ml mh rd u e C rd' u' ∧ Ins I w F p C rd' rs ((g, Obj.cells (opC p bL bR pol u') 91 (0, 0)) :: bs) w') := by
  obtain ⟨pa, rfl⟩ : ∃ pa, p = .pointer (some pa) := by
    obtain ⟨F1, f1, _⟩ := hP.ins.mr.has
    exact I.ptr f1
  have hs0 := (hP.ins.box #[Value.int .i64 X.key, .int .i64 X.val, .int .u32 (X.left : Int), .int .u32 (X.right : Int), .int .i64 X.size, .int .i64 X.sum, .int .i64 X.mn, .int .i64 X.mx] 81).box #[Value.int .u32 (lo : Int), .int .i64 V, .bool D, .int .u32 (hi : Int)] 144
  (try simp only [sz_al] at hs0)
  have HIL : Hid (CmbOk I tl) := @ihl
  have HIR : Hid (CmbOk I tr) := @ihr
  have HP := Lib.hid hP
  clear ihl ihr hP
  go_enter Tryz.func103, Tryz.ntmps103
  go_upto_region 1 with fail
  (try simp only [sz_al])
  generalize (wr.alloc (Obj.cells #[Value.int .i64 X.key, .int .i64 X.val, .int .u32 (X.left : Int), .int .u32 (X.right : Int), .int .i64 X.size, .int .i64 X.sum, .int .i64 X.mn, .int .i64 X.mx] 81)).alloc (Obj.cells #[Value.int .u32 (lo : Int), .int .i64 V, .bool D, .int .u32 (hi : Int)] 144) = w1 at hs0 ⊢
  generalize wr.heap.size + 1 = qp at hs0 ⊢
  generalize wr.heap.size = qn at hs0 ⊢
  have HS0 := Lib.hid hs0
  clear hs0
  obtain ⟨⟨p0, p1, p2, p3⟩, -⟩ := cells4_of (HS0.out.boxes _ (List.Mem.head _)).2
  obtain ⟨⟨x0, x1, x2, x3, -⟩, -⟩ := HS0.out.row8 (g := qn) (X := X) (by simp [ndRow])
  go_wp2_with fail
  refine (HIL.out w1 ⟨HS0.out.perm (List.perm_middle (l₁ := [_, _])), HP.out.hd.perm (List.Perm.swap _ _ _), HP.out.few, by have := HP.out.len; simp; omega, HP.out.atl, HP.out.upl, HP.out.wfl, HP.out.upml, HP.out.wfml, by have := HP.out.unr; omega, HP.out.unr2, by have := HP.out.bud; rw [ktn_cons]; show _ + _ + ll.length + ml.length ≤ _; simp only; omega, HP.out.room, HP.out.rd0, by have := HP.out.rd1; omega⟩).mono ?_
  rintro e w2 ⟨C, rd1, u1, ⟨L, t1, r1, rfl, b1, b2, b3, b4, b5, b6⟩, hs2⟩
  have HB : Hid (rd ≤ rd1 ∧ rd1 ≤ rd + 20000 * (2 * (tl.size : Int) + 1) ∧ u ≤ u1 + tl.size ∧ u1 ≤ u) := ⟨b3, b4, b5, b6⟩
  have HO1 := Lib.hid b2
  have HD1 := Lib.hid b1
  have HS2 := Lib.hid (hs2.perm (List.perm_middle (l₁ := [_, _])).symm)
  clear b1 b2 b3 b4 b5 b6 hs2 p0 p1 p2 p3 x0 x1 x2 x3 HS0
  obtain ⟨⟨p0, p1, p2, p3⟩, -⟩ := cells4_of (HS2.out.boxes _ (List.Mem.head _)).2
  obtain ⟨⟨x0, x1, x2, x3, -⟩, -⟩ := HS2.out.row8 (g := qn) (X := X) (by simp [ndRow])
  go_wp2_with fail
  refine (HIR.out w2 ⟨HS2.out.perm (List.perm_middle (l₁ := [_, _])), HD1.out.perm (List.Perm.swap _ _ _), HP.out.few, by have := HP.out.len; simp; omega, HP.out.atr, HP.out.upr, HP.out.wfr, HP.out.upmh, HP.out.wfmh, by have := HP.out.unr; have := HB.out; omega, by have := HP.out.unr2; have := HB.out; omega, by have := HP.out.bud; have := HO1.out.len; rw [ktn_cons]; show _ + _ + lr.length + mh.length ≤ _; simp only; omega, HP.out.room, by have := HP.out.rd0; have := HB.out; omega, by have := HP.out.rd1; have := HB.out; omega⟩).mono ?_
  rintro e w3 ⟨C2, rd2, u2, ⟨R, t2, r2, rfl, b1, b2, b3, b4, b5, b6⟩, hs3⟩
  have HF : Hid (SubQ A held H bL bR pol (tl.size + tr.size) ll lr ml mh rd u (.returned (.tuple #[.int .u32 (L : Int), .int .u32 (R : Int), .int .i64 0])) C2 rd2 u2 ∧ Ins I w F (.pointer (some pa)) C2 rd2 rs ((g, Obj.cells (opC (.pointer (some pa)) bL bR pol u2) 91 (0, 0)) :: bs) w3) :=
    ⟨⟨L, R, t1, t2, r1, r2, rfl, b1, HO1.out, b2, by have := HB.out; omega, by have := HB.out; omega, by have := HB.out; omega, by have := HB.out; omega⟩, hs3.less (List.Sublist.refl _) (.cons_cons _ (.cons _ (.cons _ (List.Sublist.refl _))))⟩
  clear b1 b2 b3 b4 b5 b6 hs3 p0 p1 p2 p3 x0 x1 x2 x3 HS2
  go_wp2_with fail
  refine bodyPost_ret (results_tmp3 rfl _ _ _) rfl ?_
  exact ⟨C2, rd2, u2, HF.out.1, HF.out.2⟩
set_option maxHeartbeats 16000000 in
set_option maxRecDepth 100000 in
theorem cmb_node (I : AImpl) {i' : Nat} {tl tr : Tr} (ihl : CmbOk I tl) (ihr : CmbOk I tr) {w wr : World} {F : Nat → Prop} {p : Value} {A B : Ar} {rd : Int} {rs : List Row} {bs : List (Nat × Obj)} {held : Nat → Nat} {H : List Kt} {g : Nat} {bL bR : Bool} {pol : Int} {u x y N : Nat} {ty : Tr} {l m : List En} (hP : CmbP I w F p A B rd rs bs held H g bL bR pol u x y N (.node i' tl tr) ty l m wr) (hw : whR bL bR pol x y = none) (hx0 : x ≠ 0) :
    Calls Tryz.prog 82 #[.pointer (some ⟨g, 0, none⟩), .int .u32 (x : Int), .int .u32 (y : Int)] wr (fun e w' => ∃ (C : Ar) (rd' : Int) (u' : Nat), CmbQ A held H bL bR pol (tl.size + tr.size + 1) l m rd u e C rd' u' ∧ Ins I w F p C rd' rs ((g, Obj.cells (opC p bL bR pol u') 91 (0, 0)) :: bs) w') := by
  have hs0 := hP.ins
  obtain ⟨pa, rfl⟩ : ∃ pa, p = .pointer (some pa) := by
    obtain ⟨F1, f1, _⟩ := hP.ins.mr.has
    exact I.ptr f1
  have hsz : (Tr.node i' tl tr).size = tl.size + tr.size + 1 := rfl
  have hht : (Tr.node i' tl tr).ht = 1 + max tl.ht tr.ht := rfl
  obtain ⟨u1, hu1⟩ : ∃ u1, u = u1 + 1 := ⟨u - 1, by have := hP.unr; omega⟩
  subst hu1
  have hon := hP.at_.idx.resolve_left hx0
  obtain ⟨X, hX⟩ : ∃ X, A.nd x = X := ⟨_, rfl⟩
  obtain ⟨tl', tr', ll, lr, hnode, rfl, hA, hB, -⟩ := hP.at_.split hx0
  rw [hX] at hA hB
  injection hnode with _ e1 e2
  subst e1 e2
  have hup := hP.up
  have hwf := hP.wf
  have hbud := hP.bud
  have hat := hP.at_
  rw [hX] at hup hwf hbud hat ⊢
  have hup2 := up_app hup
  have hlen : (ll ++ (⟨X.key, X.val⟩ : En) :: lr).length = ll.length + lr.length + 1 := by simp; omega
  rw [hlen] at hbud
  have hke : i64R X.key ∧ i64R X.val := hwf (⟨X.key, X.val⟩ : En) (by simp)
  have hN : N ≤ 65536 := by have := hP.room; have := hP.hd.mid.base.ok.len; have := hP.hd.mid.base.ok.cap2; omega
  have hlh := low_highO X.key m
  have HIL : Hid (CmbOk I tl) := @ihl
  have HIR : Hid (CmbOk I tr) := @ihr
  have HD := Lib.hid hP.hd
  have HFEW := Lib.hid hP.few
  have HW := Lib.hid hw
  have HAT : Hid (At A x (.node i' tl tr) (ll ++ (⟨X.key, X.val⟩ : En) :: lr) ∧ At A X.left tl ll ∧ At A X.right tr lr ∧ A.σ.on x = true ∧ A.nd x = X) := ⟨hat, hA, hB, hon, hX⟩
  have HUP : Hid (Up (ll ++ (⟨X.key, X.val⟩ : En) :: lr) ∧ WfL (ll ++ (⟨X.key, X.val⟩ : En) :: lr) ∧ Up ll ∧ Up lr ∧ WfL ll ∧ WfL lr) := ⟨hup, hwf, hup2.1, hup2.2.1, hwf.left, hwf.right.tail⟩
  have HM : Hid (Up m ∧ WfL m ∧ i64R X.key) := ⟨hP.upm, hP.wfm, hke.1⟩
  have HN : Hid (ktn H + ll.length + lr.length + 1 + m.length ≤ N ∧ N ≤ 65536 ∧ N + 12 * (xh N + 2) ≤ A.σ.free.length ∧ xh N < 80 ∧ H.length + 2 * max tl.ht tr.ht ≤ 168 ∧ tl.size + tr.size ≤ u1 ∧ u1 ≤ 65535 ∧ (lowE m X.key).length + (highE m X.key).length ≤ m.length) := ⟨by omega, hN, hP.room, (xh_spec (n := N) (by omega)).2.1, by have := hP.len; omega, by have := hP.unr; omega, by have := hP.unr2; omega, hlh⟩
  have HRD : Hid (0 ≤ rd ∧ rd + 20000 * (2 * (tl.size : Int) + 2 * (tr.size : Int) + 3) ≤ 1099510000000) := ⟨hP.rd0, by have := hP.rd1; rw [hsz] at this; omega⟩
  have HBD : Hid (∀ n k : Nat, n + k + 1 ≤ N → 0 ≤ splitBd n ∧ splitBd n ≤ 9840 ∧ 0 ≤ joinBd n k ∧ joinBd n k ≤ 4920 ∧ splitI (n : Int) ≤ 12 * ((xh N : Int) + 2) ∧ joinI (n : Int) (k : Int) ≤ 12 * ((xh N : Int) + 2)) := fun n k hnk => by
    have q1 := xh_up (m := n) (n := N) (by omega) (by omega)
    have q2 := xh_up (m := n + k + 1) (n := N) hnk (by omega)
    have q3 := (xh_spec (n := N) (by omega)).2.1
    have q4 := splitJ (n := n) (by omega)
    have q5 := joinJ (n := n) (m := k) (by omega) (by omega)
    unfold splitBd joinBd
    refine ⟨by omega, by omega, by omega, by omega, by omega, by omega⟩
  have HS0 := Lib.hid hs0
  clear hs0 hP ihl ihr hw hsz hht hon hX hA hB hup hwf hbud hat hup2 hlen hke hN hlh
  go_enter Tryz.func82, Tryz.ntmps82
  go_wp2_with fail
  refine (wholeS_any (bL := bL) (bR := bR) (pol := pol) (u := u1 + 1) wr (HS0.out.boxes _ (List.Mem.head _)).2).mono ?_
  rintro e w1 ⟨rfl, rfl⟩
  rw [HW.out]
  simp only [Option.getD_none, Option.isSome_none]
  go_wp2_with fail
  refine (divS_any I HS0.out HD.out HFEW.out (by have := HN.out; omega) ((HD.out.mid.kept.nd x HAT.out.2.2.2.1).trans HAT.out.2.2.2.2) (HD.out.mid.kept.on x HAT.out.2.2.2.1) HM.out.1 HM.out.2.1 HM.out.2.2 (by have := HN.out; omega) HRD.out.1 (by have := HRD.out; omega) (by have h1 := HD.out.free; rw [ktn_cons] at h1; have h2 := HN.out; have h3 := (HBD.out m.length 0 (by omega)).2.2.2.2.1; simp only at h1; omega)).mono ?_
  rintro e w2 ⟨C, rd1, lo, hi, tlo, thi, rfl, hd1, r1, r2, hs2⟩
  obtain ⟨V, hV⟩ : ∃ V, (getE m X.key).elim (0 : Int) (·.val) = V := ⟨_, rfl⟩
  obtain ⟨D, hD⟩ : ∃ D, (getE m X.key).isSome = D := ⟨_, rfl⟩
  rw [hV, hD]
  have HVD : Hid ((getE m X.key).elim (0 : Int) (·.val) = V ∧ (getE m X.key).isSome = D) := ⟨hV, hD⟩
  have HD1 := Lib.hid hd1
  have HR1 : Hid (rd ≤ rd1 ∧ rd1 ≤ rd + 9841) := ⟨r1, by have h2 := HN.out; have h3 := (HBD.out m.length 0 (by omega)).2.1; omega⟩
  unfold ptR
  have hs3 := (hs2.box #[Value.int .i64 X.key, .int .i64 X.val, .int .u32 (X.left : Int), .int .u32 (X.right : Int), .int .i64 X.size, .int .i64 X.sum, .int .i64 X.mn, .int .i64 X.mx] 81).box #[Value.int .u32 (lo : Int), .int .i64 V, .bool D, .int .u32 (hi : Int)] 144
  (try simp only [sz_al] at hs3)
  clear hd1 r1 r2 hs2 HS0 hV hD
  go_upto_region 7 with fail
  (try simp only [sz_al])
  generalize (w2.alloc (Obj.cells #[Value.int .i64 X.key, .int .i64 X.val, .int .u32 (X.left : Int), .int .u32 (X.right : Int), .int .i64 X.size, .int .i64 X.sum, .int .i64 X.mn, .int .i64 X.mx] 81)).alloc (Obj.cells #[Value.int .u32 (lo : Int), .int .i64 V, .bool D, .int .u32 (hi : Int)] 144) = w3 at hs3 ⊢
  generalize w2.heap.size + 1 = qp at hs3 ⊢
  generalize w2.heap.size = qn at hs3 ⊢
  have HS3 := Lib.hid hs3
  clear hs3
  obtain ⟨⟨p0, p1, p2, p3⟩, -⟩ := cells4_of (HS3.out.boxes _ (List.Mem.head _)).2
  obtain ⟨⟨x0, x1, x2, x3, x4, x5, x6, x7⟩, -⟩ := HS3.out.row8 (g := qn) (X := X) (by simp [ndRow])
  go_wp2_with fail
  refine (sub_any I (N := N) (V := V) (D := D) HIL.out HIR.out ⟨HS3.out.perm (List.perm_middle (l₁ := [_, _])), HD1.out, HFEW.out, HN.out.2.2.2.2.1, HAT.out.2.1, HAT.out.2.2.1, HUP.out.2.2.1, HUP.out.2.2.2.1, HUP.out.2.2.2.2.1, HUP.out.2.2.2.2.2, low_up HM.out.1 _, high_up HM.out.1 _, HM.out.2.1.low _, HM.out.2.1.high _, HN.out.2.2.2.2.2.1, by have := HN.out; omega, by have := HN.out; omega, HN.out.2.2.1, by have := HRD.out; have := HR1.out; omega, by have := HRD.out; have := HR1.out; omega⟩).mono ?_
  rintro e w4 ⟨C2, rd2, u2, ⟨L, R, t1, t2, s1, s2, rfl, b1, b2, b3, b4, b5, b6, b7⟩, hs4⟩
  have HB : Hid (rd ≤ rd2 ∧ rd2 ≤ rd + 9841 + 20000 * (2 * (tl.size : Int) + 2 * (tr.size : Int) + 2) ∧ u1 ≤ u2 + (tl.size + tr.size) ∧ u2 ≤ u1 ∧ s1.length ≤ ll.length + (lowE m X.key).length ∧ s2.length ≤ lr.length + (highE m X.key).length) := ⟨by have := HR1.out; omega, by have := HR1.out; omega, b6, b7, b2.len, b3.len⟩
  have HD2 := Lib.hid b1
  have HO : Hid (OpL bL bR pol ll (lowE m X.key) s1 ∧ OpL bL bR pol lr (highE m X.key) s2) := ⟨b2, b3⟩
  have HS4 := Lib.hid (hs4.perm (List.perm_middle (l₁ := [_, _])).symm)
  clear b1 b2 b3 b4 b5 b6 b7 hs4 p0 p1 p2 p3 x0 x1 x2 x3 x4 x5 x6 x7 HS3
  obtain ⟨⟨p0, p1, p2, p3⟩, -⟩ := cells4_of (HS4.out.boxes _ (List.Mem.head _)).2
  obtain ⟨⟨x0, x1, x2, x3, x4, x5, x6, x7⟩, -⟩ := HS4.out.row8 (g := qn) (X := X) (by simp [ndRow])
  have hasm := asmS_any I (lo := lo) (hi := hi) (HS4.out.perm (List.perm_middle (l₁ := [_, _]))) HD2.out HFEW.out (by have := HN.out; omega) (HD2.out.of HAT.out.1) (HD2.out.of HAT.out.2.1) (HD2.out.of HAT.out.2.2.1) HUP.out.1 HUP.out.2.1 HM.out.2.1 HO.out.1 HO.out.2 (by have := HRD.out; have := HB.out; omega) (by have := HRD.out; have := HB.out; omega) (by have h1 := HD2.out.free; rw [ktn_cons, ktn_cons] at h1; have h2 := HN.out; have h4 := HB.out; have h3 := (HBD.out s1.length s2.length (by omega)).2.2.2.2.2; simp only at h1; omega)
  rw [HVD.out.1, HVD.out.2] at hasm
  unfold ptR at hasm
  have HASM := Lib.hid hasm
  clear hasm
  go_wp2_with fail
  refine HASM.out.mono ?_
  rintro e w5 ⟨C3, rd3, ⟨j, t, r, rfl, d1, d2, d3, d4⟩, hs5⟩
  have HG := Lib.hid (d1.perm (List.perm_middle (l₁ := [_, _]))).give
  have HG2 := Lib.hid (HG.out.2.2.2.perm (List.Perm.swap _ _ _)).give
  have HOP := Lib.hid d2
  have HR3 : Hid (rd ≤ rd3 ∧ rd3 ≤ rd + 20000 * (2 * ((tl.size + tr.size + 1 : Nat) : Int) + 1)) := ⟨by have := HB.out; omega, by have h4 := HB.out; have h2 := HN.out; have h3 := (HBD.out s1.length s2.length (by omega)).2.2.2.1; omega⟩
  have HS5 := Lib.hid hs5
  clear hs5 d1 d2 d3 d4 HASM HS4 p0 p1 p2 p3 x0 x1 x2 x3 x4 x5 x6 x7
  obtain ⟨⟨c0, c1, c2, c3, c4⟩, -⟩ := opC_of (HS5.out.boxes _ (List.Mem.head _)).2
  go_wp2_with fail
  refine (HS5.out.release HG.out.2.2.1 HG.out.2.1 HG.out.1).mono ?_
  rintro e w6 ⟨rfl, hs6⟩
  have HS6 := Lib.hid hs6
  clear hs6 HS5 c0 c1 c2 c3 c4
  obtain ⟨⟨c0, c1, c2, c3, c4⟩, -⟩ := opC_of (HS6.out.boxes _ (List.Mem.head _)).2
  go_wp2_with fail
  refine (HS6.out.release HG2.out.2.2.1 HG2.out.2.1 HG2.out.1).mono ?_
  rintro e w7 ⟨rfl, hs7⟩
  have HF : Hid (CmbQ A held H bL bR pol (tl.size + tr.size + 1) (ll ++ (⟨X.key, X.val⟩ : En) :: lr) m rd (u1 + 1) (.returned (.tuple #[.int .u32 (j : Int), .int .i64 0])) ((C3.gone L).gone R) rd3 u2 ∧ Ins I w F (.pointer (some pa)) ((C3.gone L).gone R) rd3 rs ((g, Obj.cells (opC (.pointer (some pa)) bL bR pol u2) 91 (0, 0)) :: bs) w7) :=
    ⟨⟨j, t, r, rfl, HG2.out.2.2.2, HOP.out, HR3.out.1, HR3.out.2, by have := HB.out; omega, by have := HB.out; omega⟩, hs7.less (List.Sublist.refl _) (.cons_cons _ (.cons _ (.cons _ (List.Sublist.refl _))))⟩
  clear hs7 HS6 c0 c1 c2 c3 c4
  go_wp2_with fail
  go_ret2
  exact ⟨_, rd3, u2, HF.out.1, HF.out.2⟩
theorem wh_none {bL bR : Bool} {pol : Int} {x y : Nat} (h : whR bL bR pol x y = none) : x ≠ 0 := fun e => by
  unfold whR at h
  rw [if_pos e] at h
  cases h
theorem cmb_nil (I : AImpl) {w wr : World} {F : Nat → Prop} {p : Value} {A B : Ar} {rd : Int} {rs : List Row} {bs : List (Nat × Obj)} {held : Nat → Nat} {H : List Kt} {g : Nat} {bL bR : Bool} {pol : Int} {u x y N : Nat} {ty : Tr} {l m : List En} (hP : CmbP I w F p A B rd rs bs held H g bL bR pol u x y N .nil ty l m wr) :
    Calls Tryz.prog 82 #[.pointer (some ⟨g, 0, none⟩), .int .u32 (x : Int), .int .u32 (y : Int)] wr (fun e w' => ∃ (C : Ar) (rd' : Int) (u' : Nat), CmbQ A held H bL bR pol Tr.nil.size l m rd u e C rd' u' ∧ Ins I w F p C rd' rs ((g, Obj.cells (opC p bL bR pol u') 91 (0, 0)) :: bs) w') := by
  have h0 : x = 0 := by
    have h1 := hP.at_.sub
    cases h1 with
    | nil => rfl
  exact cmb_whole I hP (show whR bL bR pol x y = some (if bR then y else 0) from if_pos h0)
theorem cmb_step (I : AImpl) {i' : Nat} {tl tr : Tr} (ihl : CmbOk I tl) (ihr : CmbOk I tr) {w wr : World} {F : Nat → Prop} {p : Value} {A B : Ar} {rd : Int} {rs : List Row} {bs : List (Nat × Obj)} {held : Nat → Nat} {H : List Kt} {g : Nat} {bL bR : Bool} {pol : Int} {u x y N : Nat} {ty : Tr} {l m : List En} (hP : CmbP I w F p A B rd rs bs held H g bL bR pol u x y N (.node i' tl tr) ty l m wr) :
    Calls Tryz.prog 82 #[.pointer (some ⟨g, 0, none⟩), .int .u32 (x : Int), .int .u32 (y : Int)] wr (fun e w' => ∃ (C : Ar) (rd' : Int) (u' : Nat), CmbQ A held H bL bR pol (Tr.node i' tl tr).size l m rd u e C rd' u' ∧ Ins I w F p C rd' rs ((g, Obj.cells (opC p bL bR pol u') 91 (0, 0)) :: bs) w') := by
  cases hw : whR bL bR pol x y with
  | some s => exact cmb_whole I hP hw
  | none => exact cmb_node I ihl ihr hP hw (wh_none hw)
theorem cmb_all (I : AImpl) : ∀ t, CmbOk I t
  | .nil => fun wr hP => cmb_nil I hP
  | .node _ tl tr => fun wr hP => cmb_step I (cmb_all I tl) (cmb_all I tr) hP
structure Hld (A : Ar) (R : List Nat) (T : List Tr) (N : Nat) : Prop where
  inv : A.Inv [] (hof R)
  agg : A.Agg
  roots : ∀ x ∈ R, ∃ t ∈ T, Sub A x t
  cap : A.σ.cap = N
theorem Hld.free {A : Ar} {R : List Nat} {T : List Tr} {N : Nat} (h : Hld A R T N) : N ≤ A.σ.free.length + (T.map Tr.size).sum := by rw [← h.cap]; exact h.inv.used h.agg h.roots
theorem Hld.got {A B : Ar} {R : List Nat} {T : List Tr} {N j : Nat} {u : Tr} {l : List En} (h : Hld A R T N) (hg : Got A (hof R) B j u l) : Hld B (R ++ [j]) (T ++ [u]) N :=
  ⟨by have := hg.inv; rw [hof_pls] at this; exact this, hg.agg, fun x hx => by
    rcases List.mem_append.1 hx with hx | hx
    · obtain ⟨t, ht, hs⟩ := h.roots x hx
      exact ⟨t, List.mem_append_left _ ht, hs.kept hg.kept⟩
    · simp at hx
      subst hx
      exact ⟨u, by simp, hg.sub⟩, hg.kept.cap.trans h.cap⟩
theorem Hld.small {A : Ar} {R : List Nat} {T : List Tr} {N : Nat} (h : Hld A R T N) (hr : R.length ≤ 1000) (j : Nat) : hof R j ≤ 1048000 := by have := hof_le R j; omega
def setBd (n m : Nat) : Int := 100000 * ((n : Int) + (m : Int) + 1)
def SetQ (A : Ar) (rd : Int) (held : Nat → Nat) (l m want : List En) (same : Prop) (res : Nat) (en : Ending) (B : Ar) (rd' : Int) : Prop :=
  rd ≤ rd' ∧ rd' ≤ rd + setBd l.length m.length ∧ (
  (same ∧ rd' ≤ rd + 4 ∧ en = .returned (.tuple #[.int .u32 (res : Int), .int .i64 0]) ∧ (∃ t, Got A held B res t want) ∧ B.σ.free.length = A.σ.free.length) ∨
  (¬ same ∧ (A.σ.free.length : Int) < setI (l.length : Int) (m.length : Int) ∧ en = .returned (.tuple #[.int .u32 0, .int .i64 2]) ∧ B = A) ∨
  (¬ same ∧ setI (l.length : Int) (m.length : Int) ≤ (A.σ.free.length : Int) ∧ ∃ (j : Nat) (t : Tr), en = .returned (.tuple #[.int .u32 (j : Int), .int .i64 0]) ∧ Got A held B j t want))
/-- with room -/
theorem SetQ.room {A B : Ar} {rd rd' : Int} {held : Nat → Nat} {l m want : List En} {same : Prop} {res : Nat} {en : Ending} (h : SetQ A rd held l m want same res en B rd') (hr : setI (l.length : Int) (m.length : Int) ≤ (A.σ.free.length : Int)) :
    rd ≤ rd' ∧ rd' ≤ rd + setBd l.length m.length ∧ ∃ (j : Nat) (u : Tr), en = .returned (.tuple #[.int .u32 (j : Int), .int .i64 0]) ∧ Got A held B j u want := by
  obtain ⟨h1, h2, h⟩ := h
  refine ⟨h1, h2, ?_⟩
  rcases h with ⟨-, -, rfl, ⟨u, hu⟩, -⟩ | ⟨-, q, -⟩ | ⟨-, -, j, u, rfl, hu⟩
  · exact ⟨res, u, rfl, hu⟩
  · omega
  · exact ⟨j, u, rfl, hu⟩
def polOk (p : Int) : Prop := 1 ≤ p ∧ p ≤ 5
def PolQ (A : Ar) (rd : Int) (held : Nat → Nat) (l m want : List En) (pol : Int) (same : Prop) (res : Nat) (en : Ending) (B : Ar) (rd' : Int) : Prop :=
  (¬ polOk pol ∧ en = .returned (.tuple #[.int .u32 0, .int .i64 1]) ∧ B = A ∧ rd ≤ rd' ∧ rd' ≤ rd + 16) ∨ (polOk pol ∧ SetQ A rd held l m want same res en B rd')
structure StImpl (I : AImpl) : Prop where
  union : ∀ {p : Value} {A : Ar} {rd : Int} {F : Nat → Prop} {held : Nat → Nat} {x y : Nat} {tx ty : Tr} {l m : List En} (pol : Int) (w : World), I.Is w p A rd F → A.Inv [] held → (∀ j, held j ≤ 1048000) → TreeAt A x tx l → TreeAt A y ty m → WfL l → WfL m → 0 ≤ rd → rd ≤ 1090000000000 → i64R pol →
    Calls Tryz.prog 11 #[p, .int .u32 (x : Int), .int .u32 (y : Int), .int .i64 pol] w (Mut I p F (PolQ A rd held l m (unionE l m pol) pol (x = 0 ∨ y = 0 ∨ (x = y ∧ pol ≠ 3)) (if x = 0 then y else x)) w)
  intersect : ∀ {p : Value} {A : Ar} {rd : Int} {F : Nat → Prop} {held : Nat → Nat} {x y : Nat} {tx ty : Tr} {l m : List En} (pol : Int) (w : World), I.Is w p A rd F → A.Inv [] held → (∀ j, held j ≤ 1048000) → TreeAt A x tx l → TreeAt A y ty m → WfL l → WfL m → 0 ≤ rd → rd ≤ 1090000000000 → i64R pol →
    Calls Tryz.prog 20 #[p, .int .u32 (x : Int), .int .u32 (y : Int), .int .i64 pol] w (Mut I p F (PolQ A rd held l m (intE l m pol) pol (x = 0 ∨ y = 0 ∨ (x = y ∧ pol ≠ 3)) (if x = 0 ∨ y = 0 then 0 else x)) w)
  subtract : ∀ {p : Value} {A : Ar} {rd : Int} {F : Nat → Prop} {held : Nat → Nat} {x y : Nat} {tx ty : Tr} {l m : List En} (w : World), I.Is w p A rd F → A.Inv [] held → (∀ j, held j ≤ 1048000) → TreeAt A x tx l → TreeAt A y ty m → WfL l → WfL m → 0 ≤ rd → rd ≤ 1090000000000 →
    Calls Tryz.prog 24 #[p, .int .u32 (x : Int), .int .u32 (y : Int)] w (Mut I p F (SetQ A rd held l m (subE l m) (x = 0 ∨ y = 0 ∨ x = y) (if x = y then 0 else x)) w)
  exclusive : ∀ {p : Value} {A : Ar} {rd : Int} {F : Nat → Prop} {held : Nat → Nat} {x y : Nat} {tx ty : Tr} {l m : List En} (w : World), I.Is w p A rd F → A.Inv [] held → (∀ j, held j ≤ 1048000) → TreeAt A x tx l → TreeAt A y ty m → WfL l → WfL m → 0 ≤ rd → rd ≤ 1090000000000 →
    Calls Tryz.prog 22 #[p, .int .u32 (x : Int), .int .u32 (y : Int)] w (Mut I p F (SetQ A rd held l m (excE l m) (x = 0 ∨ y = 0 ∨ x = y) (if x = y then 0 else x + y)) w)
theorem setJ {n m : Nat} (hn : n ≤ 65536) (hm : m ≤ 65536) : setI (n : Int) (m : Int) = (n : Int) + (m : Int) + 12 * ((xh (n + m) : Int) + 2) := by
  unfold setI needI
  have hv : vld (n : Int) ∧ vld (m : Int) ∧ vld 0 := by unfold vld; omega
  rw [if_pos hv, show (n : Int) + (m : Int) + 0 + 0 = ((n + m : Nat) : Int) by omega, xhI_nat (by omega)]
/-- what run answers -/
def RunQ (A : Ar) (rd : Int) (held : Nat → Nat) (bL bR : Bool) (pol : Int) (x y : Nat) (l m : List En) (en : Ending) (B : Ar) (rd' : Int) : Prop :=
  rd ≤ rd' ∧ rd' ≤ rd + setBd l.length m.length ∧ (
  (∃ (s : Nat) (t : Tr) (r : List En), whR bL bR pol x y = some s ∧ rd' = rd ∧ en = .returned (.tuple #[.int .u32 (s : Int), .int .i64 0]) ∧ Got A held B s t r ∧ OpL bL bR pol l m r ∧ B.σ.free.length = A.σ.free.length) ∨
  (whR bL bR pol x y = none ∧ (A.σ.free.length : Int) < setI (l.length : Int) (m.length : Int) ∧ en = .returned (.tuple #[.int .u32 0, .int .i64 2]) ∧ B = A) ∨
  (whR bL bR pol x y = none ∧ setI (l.length : Int) (m.length : Int) ≤ (A.σ.free.length : Int) ∧ ∃ (j : Nat) (t : Tr) (r : List En), en = .returned (.tuple #[.int .u32 (j : Int), .int .i64 0]) ∧ Got A held B j t r ∧ OpL bL bR pol l m r))
theorem RunQ.set {A B : Ar} {rd rd' : Int} {held : Nat → Nat} {bL bR : Bool} {pol : Int} {x y : Nat} {l m want : List En} {en : Ending} {same : Prop} {res : Nat} (h : RunQ A rd held bL bR pol x y l m en B rd') (hw : ∀ r, OpL bL bR pol l m r → r = want) (h1 : same → whR bL bR pol x y = some res) (h2 : ¬ same → whR bL bR pol x y = none) : SetQ A rd held l m want same res en B rd' := by
  obtain ⟨q1, q2, h⟩ := h
  refine ⟨q1, q2, ?_⟩
  rcases h with ⟨s, t, r, hs, rfl, rfl, hg, ho, hf⟩ | ⟨hs, hf, rfl, rfl⟩ | ⟨hs, hf, j, t, r, rfl, hg, ho⟩
  · have hsm : same := Classical.byContradiction fun q => by rw [h2 q] at hs; cases hs
    rw [h1 hsm] at hs
    cases hs
    rw [hw r ho] at hg
    exact .inl ⟨hsm, by omega, rfl, ⟨t, hg⟩, hf⟩
  · have hsm : ¬ same := fun q => by rw [h1 q] at hs; cases hs
    exact .inr (.inl ⟨hsm, hf, rfl, rfl⟩)
  · have hsm : ¬ same := fun q => by rw [h1 q] at hs; cases hs
    rw [hw r ho] at hg
    exact .inr (.inr ⟨hsm, hf, j, t, rfl, hg⟩)
theorem RunQ.ret {A B : Ar} {rd rd' : Int} {held : Nat → Nat} {bL bR : Bool} {pol : Int} {x y : Nat} {l m : List En} {en : Ending} (h : RunQ A rd held bL bR pol x y l m en B rd') : ∃ (z : Nat) (ez : Int), en = .returned (.tuple #[.int .u32 (z : Int), .int .i64 ez]) := by
  obtain ⟨-, -, h⟩ := h
  rcases h with ⟨s, t, r, -, -, rfl, -⟩ | ⟨-, -, rfl, -⟩ | ⟨-, -, j, t, r, rfl, -⟩
  · exact ⟨_, _, rfl⟩
  · exact ⟨0, _, rfl⟩
  · exact ⟨_, _, rfl⟩
set_option maxHeartbeats 16000000 in
set_option maxRecDepth 100000 in
theorem run_any (I : AImpl) {p : Value} {A : Ar} {rd : Int} {F : Nat → Prop} {held : Nat → Nat} {x y : Nat} {tx ty : Tr} {l m : List En} (bL bR : Bool) (pol : Int) (w : World) (hI : I.Is w p A rd F) (hv : A.Inv [] held) (hm : ∀ j, held j ≤ 1048000) (hx : TreeAt A x tx l) (hy : TreeAt A y ty m) (hwl : WfL l) (hwm : WfL m) (h0 : 0 ≤ rd) (h1 : rd ≤ 1090000000000) :
    Calls Tryz.prog 46 #[.agg #[p, .bool bL, .bool bR, .int .i64 pol, .int .i64 0], .int .u32 (x : Int), .int .u32 (y : Int)] w (Mut I p F (RunQ A rd held bL bR pol x y l m) w) := by
  obtain ⟨pa, rfl⟩ := I.ptr hI
  have hs0 := (Ins.start hI).box #[.pointer (some pa), .bool bL, .bool bR, .int .i64 pol, .int .i64 0] 91
  have hst := Hd.start hv hx.agg
  have HV : Hid (A.Inv [] held ∧ A.Agg ∧ (∀ j, held j ≤ 1048000)) := ⟨hv, hx.agg, hm⟩
  have HX : Hid (TreeAt A x tx l ∧ TreeAt A y ty m ∧ WfL l ∧ WfL m) := ⟨hx, hy, hwl, hwm⟩
  have hn := hx.few
  have hk := hy.few
  have HN : Hid (l.length ≤ 65536 ∧ m.length ≤ 65536 ∧ tx.ht < 80 ∧ setI (l.length : Int) (m.length : Int) = (l.length : Int) + (m.length : Int) + 12 * ((xh (l.length + m.length) : Int) + 2) ∧ tx.size = l.length) := ⟨hn, hk, by have := hx.ht (by omega); have := (xh_spec (n := l.length) (by omega)).2.1; omega, setJ hn hk, hx.size⟩
  have HZ : Hid (A.sz x = (l.length : Int) ∧ A.sz y = (m.length : Int) ∧ A.Idx x ∧ A.Idx y ∧ x < 4294967296 ∧ y < 4294967296) := ⟨hx.at_.sz hx.agg, hy.at_.sz hy.agg, hx.idx', hy.idx', hx.idx, hy.idx⟩
  have HRD : Hid (0 ≤ rd ∧ rd ≤ 1090000000000) := ⟨h0, h1⟩
  have HBD : Hid (setBd l.length m.length = 100000 * ((l.length : Int) + (m.length : Int) + 1)) := rfl
  obtain ⟨U, hU⟩ : ∃ U : Nat, A.σ.cap = A.σ.free.length + U := ⟨A.σ.cap - A.σ.free.length, by have := hv.ok.len; omega⟩
  have HU : Hid (A.σ.cap = A.σ.free.length + U ∧ U ≤ 65536 ∧ tx.size ≤ U) := ⟨hU, by have := hv.ok.cap2; omega, by have := hx.held; omega⟩
  have huw : IntKind.i64.wrap ((A.σ.cap : Int) - (A.σ.free.length : Int)) = (U : Int) := by rw [IntKind.wrap_i64]; have := hv.ok.cap2; omega
  have HHD : Hid (Hd A held (A.ret y) [⟨y, ty, m⟩] ∧ (A.ret y).σ = A.σ) := ⟨(hst.ret hy.at_).1, (hst.ret hy.at_).2.2⟩
  have HWH := Lib.hid (fun s => wh_spec (held := held) (bL := bL) (bR := bR) (pol := pol) (s := s) hx.at_ hy.at_ hx.up hy.up hwl hwm)
  have HST := Lib.hid hst
  clear hI hv hm hx hy hwl hwm h0 h1 hn hk hU hst
  go_enter Tryz.func46, Tryz.ntmps46
  go_upto_region 1 with fail
  generalize w.alloc (Obj.cells #[.pointer (some pa), .bool bL, .bool bR, .int .i64 pol, .int .i64 0] 91) = w1 at hs0 ⊢
  generalize w.heap.size = g at hs0 ⊢
  have HS0 : Hid (Ins I w F (.pointer (some pa)) A rd [] [(g, Obj.cells (opC (.pointer (some pa)) bL bR pol 0) 91 (0, 0))] w1) := hs0
  clear hs0
  obtain ⟨⟨c0, c1, c2, c3, c4⟩, -⟩ := opC_of (HS0.out.boxes _ (List.Mem.head _)).2
  go_wp2_with fail
  refine (wholeS_any (bL := bL) (bR := bR) (pol := pol) (u := 0) w1 (HS0.out.boxes _ (List.Mem.head _)).2).mono ?_
  rintro e w2 ⟨rfl, rfl⟩
  cases hwh : whR bL bR pol x y with
  | some s =>
    obtain ⟨t, r, a1, a2⟩ := HWH.out s hwh
    have HA := Lib.hid a1
    have HO := Lib.hid a2
    have HW := Lib.hid hwh
    have HGOT : Hid (Got A held (A.ret s) s t r ∧ (A.ret s).σ.free.length = A.σ.free.length) := ⟨(HST.out.ret a1).1.done, by rw [(HST.out.ret a1).2.2]⟩
    simp only [Option.getD_some, Option.isSome_some]
    clear a1 a2 hwh
    go_wp2_with fail
    refine (HS0.out.mut fun F1 hI1 => shareS_any I w2 hI1 HV.out.1 (fun q => Nat.le_trans (HV.out.2.2 q) (by decide)) HA.out.idx).mono ?_
    rintro e w3 ⟨C, rd2, ⟨rfl, rfl, hrd⟩, hs3⟩
    rw [hrd] at hs3
    have HE := Lib.hid hs3.ends
    have HQ : Hid (RunQ A rd held bL bR pol x y l m (.returned (.tuple #[.int .u32 (s : Int), .int .i64 0])) (A.ret s) rd) := ⟨Int.le_refl _, by have := HBD.out; omega, .inl ⟨s, t, r, HW.out, rfl, rfl, HGOT.out.1, HO.out, HGOT.out.2⟩⟩
    clear hrd hs3 c0 c1 c2 c3 c4 HS0
    go_wp2_with fail
    go_ret2
    obtain ⟨F', hal, hI⟩ := HE.out
    exact ⟨F', _, rd, hal, hI, HQ.out⟩
  | none =>
  have HW := Lib.hid hwh
  simp only [Option.getD_none, Option.isSome_none]
  clear hwh
  go_wp2_with fail
  refine HS0.out.free.mono ?_
  rintro e w3 ⟨rfl, hs3⟩
  have HS3 := Lib.hid hs3
  clear hs3 HS0 c0 c1 c2 c3 c4
  go_wp2_with fail
  refine (HS3.out.sz HRD.out.1 (by have := HRD.out; omega) HZ.out.2.2.2.2.1 HZ.out.2.2.1 HV.out.1.ok).mono ?_
  rintro e w4 ⟨rfl, hs4⟩
  rw [HZ.out.1]
  have HS4 := Lib.hid hs4
  clear hs4 HS3
  go_wp2_with fail
  refine (HS4.out.sz (by have := HRD.out; split <;> omega) (by have := HRD.out; split <;> omega) HZ.out.2.2.2.2.2 HZ.out.2.2.2.1 HV.out.1.ok).mono ?_
  rintro e w5 ⟨rfl, hs5⟩
  rw [HZ.out.2.1]
  obtain ⟨rd3, hrd3⟩ : ∃ r, (rd + if x = 0 then 0 else 1) + (if y = 0 then 0 else 1) = r := ⟨_, rfl⟩
  have HR3 : Hid (rd ≤ rd3 ∧ rd3 ≤ rd + 2) := by
    show rd ≤ rd3 ∧ rd3 ≤ rd + 2
    rw [← hrd3]
    (repeat' split) <;> omega
  rw [hrd3] at hs5
  have HS5 := Lib.hid hs5
  clear hs5 hrd3 HS4
  go_wp2_with fail
  refine (rsSetOperation_any (l.length : Int) (m.length : Int) w5 (by have := HN.out; unfold in64; omega) (by have := HN.out; unfold in64; omega)).mono ?_
  rintro e w6 ⟨rfl, hb6⟩
  have HS6 := Lib.hid (HS5.out.calm hb6)
  clear hb6 HS5
  by_cases hfr : (A.σ.free.length : Int) < setI (l.length : Int) (m.length : Int)
  · have d9 : decide ((A.σ.free.length : Int) < setI (l.length : Int) (m.length : Int)) = true := decide_eq_true hfr
    have HQ : Hid (RunQ A rd held bL bR pol x y l m (.returned (.tuple #[.int .u32 0, .int .i64 2])) A rd3) := ⟨HR3.out.1, by have := HR3.out; have := HBD.out; omega, .inr (.inl ⟨HW.out, hfr, rfl, rfl⟩)⟩
    have HE := Lib.hid HS6.out.ends
    clear hfr HS6
    go_wp2_with fail
    go_ret2
    obtain ⟨F', hal, hI⟩ := HE.out
    exact ⟨F', A, rd3, hal, hI, HQ.out⟩
  have d9 : decide ((A.σ.free.length : Int) < setI (l.length : Int) (m.length : Int)) = false := decide_eq_false hfr
  have HFR : Hid (setI (l.length : Int) (m.length : Int) ≤ (A.σ.free.length : Int)) := by show _ ≤ _; omega
  go_wp2_with fail
  refine (HS6.out.mut fun F1 hI1 => shareS_any I w6 hI1 HV.out.1 (fun q => Nat.le_trans (HV.out.2.2 q) (by decide)) HZ.out.2.2.2.1).mono ?_
  rintro e w7 ⟨C, rd7, ⟨rfl, rfl, hrd⟩, hs7⟩
  rw [hrd] at hs7
  have HS7 := Lib.hid hs7
  clear hrd hs7 HS6 hfr d9
  go_wp2_with fail
  refine HS7.out.capacity.mono ?_
  rintro e w8 ⟨rfl, hs8⟩
  rw [HHD.out.2]
  have HS8 := Lib.hid hs8
  clear hs8 HS7
  go_wp2_with fail
  refine HS8.out.free.mono ?_
  rintro e w9 ⟨rfl, hs9⟩
  rw [HHD.out.2]
  have HS9 := Lib.hid hs9
  clear hs9 HS8
  obtain ⟨⟨c0, c1, c2, c3, c4⟩, f4⟩ := opC_of (HS9.out.boxes _ (List.Mem.head _)).2
  go_upto_region 11 with fail
  have hs10 := HS9.out.cellO (n := 4) (.int .i64 (U : Int)) (cs' := opC (.pointer (some pa)) bL bR pol U) rfl
  clear HS9 c0 c1 c2 c3 c4 f4
  generalize w9.setCell ⟨g, 4, none⟩ (.int .i64 (U : Int)) = w10 at hs10 ⊢
  have HS10 := Lib.hid hs10
  clear hs10
  go_wp2_with fail
  refine (cmb_all I tx (N := l.length + m.length) w10 ⟨HS10.out, HHD.out.1, HV.out.2.2, by have := HN.out; simp; omega, HX.out.1.at_, HX.out.1.up, HX.out.2.2.1, HX.out.2.1.up, HX.out.2.2.2, HU.out.2.2, HU.out.2.1, by show 0 + l.length + m.length ≤ _; omega, by have := HN.out; have := HFR.out; omega, by have := HRD.out; have := HR3.out; omega, by have := HRD.out; have := HR3.out; have := HN.out; omega⟩).mono ?_
  rintro e w11 ⟨C, rd11, u', ⟨j, t, r, rfl, b1, b2, b3, b4, -, -⟩, hs11⟩
  have HQ : Hid (RunQ A rd held bL bR pol x y l m (.returned (.tuple #[.int .u32 (j : Int), .int .i64 0])) C rd11) := ⟨by have := HR3.out; omega, by have := HR3.out; have := HBD.out; have := HN.out; omega, .inr (.inr ⟨HW.out, HFR.out, j, t, r, rfl, b1.done, b2⟩)⟩
  have HE := Lib.hid hs11.ends
  clear b1 b2 b3 b4 hs11 HS10
  go_wp2_with fail
  go_ret2
  obtain ⟨F', hal, hI⟩ := HE.out
  exact ⟨F', C, rd11, hal, hI, HQ.out⟩
theorem pol_iff (pol : Int) : polB pol = true ↔ polOk pol := by unfold polB polOk; simp
theorem wh_uni {pol : Int} {x y : Nat} (hp : polB pol = true) (hs : x = 0 ∨ y = 0 ∨ (x = y ∧ pol ≠ 3)) : whR true true pol x y = some (if x = 0 then y else x) := by
  unfold whR
  by_cases a1 : x = 0
  · subst a1
    by_cases a2 : y = 0
    · subst a2; simp
    · have a3 : ¬ 0 = y := fun q => a2 q.symm
      simp [a2, a3]
  · by_cases a2 : y = 0
    · subst a2; simp [a1]
    · have a3 := (hs.resolve_left a1).resolve_left a2
      rw [if_neg a1, if_neg a2, if_pos a3, if_neg a1, if_pos hp]
theorem wh_intO {pol : Int} {x y : Nat} (hp : polB pol = true) (hs : x = 0 ∨ y = 0 ∨ (x = y ∧ pol ≠ 3)) : whR false false pol x y = some (if x = 0 ∨ y = 0 then 0 else x) := by
  unfold whR
  by_cases a1 : x = 0
  · subst a1
    by_cases a2 : y = 0
    · subst a2; simp
    · have a3 : ¬ 0 = y := fun q => a2 q.symm
      simp [a2, a3]
  · by_cases a2 : y = 0
    · subst a2; simp [a1]
    · have a3 := (hs.resolve_left a1).resolve_left a2
      rw [if_neg a1, if_neg a2, if_pos a3, if_pos hp, if_neg (fun q : x = 0 ∨ y = 0 => q.elim a1 a2)]
theorem wh_subO {x y : Nat} (hs : x = 0 ∨ y = 0 ∨ x = y) : whR true false 0 x y = some (if x = y then 0 else x) := by
  unfold whR
  by_cases a1 : x = 0
  · subst a1
    by_cases a2 : y = 0
    · subst a2; simp
    · have a3 : ¬ 0 = y := fun q => a2 q.symm
      simp [a2, a3]
  · by_cases a2 : y = 0
    · subst a2; simp [a1]
    · have a3 := (hs.resolve_left a1).resolve_left a2
      rw [if_neg a1, if_neg a2, if_pos ⟨a3, by decide⟩, if_pos a3]; rfl
theorem wh_excO {x y : Nat} (hs : x = 0 ∨ y = 0 ∨ x = y) : whR true true 0 x y = some (if x = y then 0 else x + y) := by
  unfold whR
  by_cases a1 : x = 0
  · subst a1
    by_cases a2 : y = 0
    · subst a2; simp
    · have a3 : ¬ 0 = y := fun q => a2 q.symm
      simp [a2, a3]
  · by_cases a2 : y = 0
    · subst a2; simp [a1]
    · have a3 := (hs.resolve_left a1).resolve_left a2
      rw [if_neg a1, if_neg a2, if_pos ⟨a3, by decide⟩, if_pos a3]; rfl
theorem wh_noO {bL bR : Bool} {pol : Int} {x y : Nat} (hs : ¬ (x = 0 ∨ y = 0 ∨ (x = y ∧ pol ≠ 3))) : whR bL bR pol x y = none := by
  unfold whR
  rw [if_neg (fun q => hs (.inl q)), if_neg (fun q => hs (.inr (.inl q))), if_neg (fun q => hs (.inr (.inr q)))]
set_option maxHeartbeats 4000000 in
set_option maxRecDepth 100000 in
theorem unionS_anyG (I : AImpl) {p : Value} {A : Ar} {rd : Int} {F : Nat → Prop} {held : Nat → Nat} {x y : Nat} {tx ty : Tr} {l m : List En} {Q : Ending → Ar → Int → Prop} (pol : Int) (w : World) (hI : I.Is w p A rd F) (hv : A.Inv [] held) (hm : ∀ j, held j ≤ 1048000) (hx : TreeAt A x tx l) (hy : TreeAt A y ty m) (hwl : WfL l) (hwm : WfL m) (h0 : 0 ≤ rd) (h1 : rd ≤ 1090000000000)
    (hno : polB pol = false → Q (.returned (.tuple #[.int .u32 0, .int .i64 1])) A rd) (hyes : polB pol = true → ∀ e B rd', RunQ A rd held true true pol x y l m e B rd' → Q e B rd') :
    Calls Tryz.prog 11 #[p, .int .u32 (x : Int), .int .u32 (y : Int), .int .i64 pol] w (Mut I p F Q w) := by
  obtain ⟨pa, rfl⟩ := I.ptr hI
  have HE0 := Lib.hid (Ins.start hI).ends
  have HRUN := Lib.hid (run_any I true true pol w hI hv hm hx hy hwl hwm h0 h1)
  have HNO := Lib.hid hno
  have HYES := Lib.hid hyes
  clear hI hv hm hx hy hwl hwm h0 h1 hno hyes
  cases hp : polB pol with
  | false =>
    have HQ := Lib.hid (HNO.out hp)
    have HP := Lib.hid hp
    clear hp HRUN HNO HYES
    go_enter Tryz.func11, Tryz.ntmps11
    go_wp2_with fail
    refine (isPolS_any pol w).mono ?_
    rintro e w1 ⟨rfl, rfl⟩
    rw [HP.out]
    go_wp2_with fail
    go_ret2
    obtain ⟨F', hal, hI⟩ := HE0.out
    exact ⟨F', A, rd, hal, hI, HQ.out⟩
  | true =>
    have HP := Lib.hid hp
    clear hp HE0 HNO
    go_enter Tryz.func11, Tryz.ntmps11
    go_wp2_with fail
    refine (isPolS_any pol w).mono ?_
    rintro e w1 ⟨rfl, rfl⟩
    rw [HP.out]
    go_wp2_with fail
    refine HRUN.out.mono ?_
    rintro e w2 ⟨F', B, rd2, hal, hI, hq⟩
    have hqq := HYES.out HP.out e B rd2 hq
    obtain ⟨z, ez, rfl⟩ := hq.ret
    have HF : Hid (∃ F' B rd2, Alters F F' w1 w2 ∧ I.Is w2 (.pointer (some pa)) B rd2 F' ∧ Q (.returned (.tuple #[.int .u32 (z : Int), .int .i64 ez])) B rd2) := ⟨F', B, rd2, hal, hI, hqq⟩
    clear hal hI hq hqq HRUN HYES
    go_wp2_with fail
    go_ret2
    exact HF.out
theorem unionS_any (I : AImpl) {p : Value} {A : Ar} {rd : Int} {F : Nat → Prop} {held : Nat → Nat} {x y : Nat} {tx ty : Tr} {l m : List En} (pol : Int) (w : World) (hI : I.Is w p A rd F) (hv : A.Inv [] held) (hm : ∀ j, held j ≤ 1048000) (hx : TreeAt A x tx l) (hy : TreeAt A y ty m) (hwl : WfL l) (hwm : WfL m) (h0 : 0 ≤ rd) (h1 : rd ≤ 1090000000000) :
    Calls Tryz.prog 11 #[p, .int .u32 (x : Int), .int .u32 (y : Int), .int .i64 pol] w (Mut I p F (PolQ A rd held l m (unionE l m pol) pol (x = 0 ∨ y = 0 ∨ (x = y ∧ pol ≠ 3)) (if x = 0 then y else x)) w) :=
  unionS_anyG I pol w hI hv hm hx hy hwl hwm h0 h1 (fun hp => .inl ⟨fun q => (by rw [(pol_iff pol).2 q] at hp; cases hp), rfl, rfl, Int.le_refl _, by omega⟩)
    fun hp e B rd' hq => .inr ⟨(pol_iff pol).1 hp, hq.set (fun r hr => op_union hx.up hy.up hp hr) (wh_uni hp) (fun hs => wh_noO hs)⟩
set_option maxHeartbeats 4000000 in
set_option maxRecDepth 100000 in
theorem intS_anyG (I : AImpl) {p : Value} {A : Ar} {rd : Int} {F : Nat → Prop} {held : Nat → Nat} {x y : Nat} {tx ty : Tr} {l m : List En} {Q : Ending → Ar → Int → Prop} (pol : Int) (w : World) (hI : I.Is w p A rd F) (hv : A.Inv [] held) (hm : ∀ j, held j ≤ 1048000) (hx : TreeAt A x tx l) (hy : TreeAt A y ty m) (hwl : WfL l) (hwm : WfL m) (h0 : 0 ≤ rd) (h1 : rd ≤ 1090000000000)
    (hno : polB pol = false → Q (.returned (.tuple #[.int .u32 0, .int .i64 1])) A rd) (hyes : polB pol = true → ∀ e B rd', RunQ A rd held false false pol x y l m e B rd' → Q e B rd') :
    Calls Tryz.prog 20 #[p, .int .u32 (x : Int), .int .u32 (y : Int), .int .i64 pol] w (Mut I p F Q w) := by
  obtain ⟨pa, rfl⟩ := I.ptr hI
  have HE0 := Lib.hid (Ins.start hI).ends
  have HRUN := Lib.hid (run_any I false false pol w hI hv hm hx hy hwl hwm h0 h1)
  have HNO := Lib.hid hno
  have HYES := Lib.hid hyes
  clear hI hv hm hx hy hwl hwm h0 h1 hno hyes
  cases hp : polB pol with
  | false =>
    have HQ := Lib.hid (HNO.out hp)
    have HP := Lib.hid hp
    clear hp HRUN HNO HYES
    go_enter Tryz.func20, Tryz.ntmps20
    go_wp2_with fail
    refine (isPolS_any pol w).mono ?_
    rintro e w1 ⟨rfl, rfl⟩
    rw [HP.out]
    go_wp2_with fail
    go_ret2
    obtain ⟨F', hal, hI⟩ := HE0.out
    exact ⟨F', A, rd, hal, hI, HQ.out⟩
  | true =>
    have HP := Lib.hid hp
    clear hp HE0 HNO
    go_enter Tryz.func20, Tryz.ntmps20
    go_wp2_with fail
    refine (isPolS_any pol w).mono ?_
    rintro e w1 ⟨rfl, rfl⟩
    rw [HP.out]
    go_wp2_with fail
    refine HRUN.out.mono ?_
    rintro e w2 ⟨F', B, rd2, hal, hI, hq⟩
    have hqq := HYES.out HP.out e B rd2 hq
    obtain ⟨z, ez, rfl⟩ := hq.ret
    have HF : Hid (∃ F' B rd2, Alters F F' w1 w2 ∧ I.Is w2 (.pointer (some pa)) B rd2 F' ∧ Q (.returned (.tuple #[.int .u32 (z : Int), .int .i64 ez])) B rd2) := ⟨F', B, rd2, hal, hI, hqq⟩
    clear hal hI hq hqq HRUN HYES
    go_wp2_with fail
    go_ret2
    exact HF.out
theorem intS_any (I : AImpl) {p : Value} {A : Ar} {rd : Int} {F : Nat → Prop} {held : Nat → Nat} {x y : Nat} {tx ty : Tr} {l m : List En} (pol : Int) (w : World) (hI : I.Is w p A rd F) (hv : A.Inv [] held) (hm : ∀ j, held j ≤ 1048000) (hx : TreeAt A x tx l) (hy : TreeAt A y ty m) (hwl : WfL l) (hwm : WfL m) (h0 : 0 ≤ rd) (h1 : rd ≤ 1090000000000) :
    Calls Tryz.prog 20 #[p, .int .u32 (x : Int), .int .u32 (y : Int), .int .i64 pol] w (Mut I p F (PolQ A rd held l m (intE l m pol) pol (x = 0 ∨ y = 0 ∨ (x = y ∧ pol ≠ 3)) (if x = 0 ∨ y = 0 then 0 else x)) w) :=
  intS_anyG I pol w hI hv hm hx hy hwl hwm h0 h1 (fun hp => .inl ⟨fun q => (by rw [(pol_iff pol).2 q] at hp; cases hp), rfl, rfl, Int.le_refl _, by omega⟩)
    fun hp e B rd' hq => .inr ⟨(pol_iff pol).1 hp, hq.set (fun r hr => op_int hx.up hp hr) (wh_intO hp) (fun hs => wh_noO hs)⟩
set_option maxHeartbeats 4000000 in
set_option maxRecDepth 100000 in
theorem subS_anyG (I : AImpl) {p : Value} {A : Ar} {rd : Int} {F : Nat → Prop} {held : Nat → Nat} {x y : Nat} {tx ty : Tr} {l m : List En} {Q : Ending → Ar → Int → Prop} (w : World) (hI : I.Is w p A rd F) (hv : A.Inv [] held) (hm : ∀ j, held j ≤ 1048000) (hx : TreeAt A x tx l) (hy : TreeAt A y ty m) (hwl : WfL l) (hwm : WfL m) (h0 : 0 ≤ rd) (h1 : rd ≤ 1090000000000)
    (hyes : ∀ e B rd', RunQ A rd held true false 0 x y l m e B rd' → Q e B rd') :
    Calls Tryz.prog 24 #[p, .int .u32 (x : Int), .int .u32 (y : Int)] w (Mut I p F Q w) := by
  obtain ⟨pa, rfl⟩ := I.ptr hI
  have HRUN := Lib.hid (run_any I true false 0 w hI hv hm hx hy hwl hwm h0 h1)
  have HYES := Lib.hid hyes
  clear hI hv hm hx hy hwl hwm h0 h1 hyes
  go_enter Tryz.func24, Tryz.ntmps24
  go_wp2_with fail
  refine HRUN.out.mono ?_
  rintro e w2 ⟨F', B, rd2, hal, hI, hq⟩
  have hqq := HYES.out e B rd2 hq
  obtain ⟨z, ez, rfl⟩ := hq.ret
  have HF : Hid (∃ F' B rd2, Alters F F' w w2 ∧ I.Is w2 (.pointer (some pa)) B rd2 F' ∧ Q (.returned (.tuple #[.int .u32 (z : Int), .int .i64 ez])) B rd2) := ⟨F', B, rd2, hal, hI, hqq⟩
  clear hal hI hq hqq HRUN HYES
  go_wp2_with fail
  go_ret2
  exact HF.out
theorem subS_any (I : AImpl) {p : Value} {A : Ar} {rd : Int} {F : Nat → Prop} {held : Nat → Nat} {x y : Nat} {tx ty : Tr} {l m : List En} (w : World) (hI : I.Is w p A rd F) (hv : A.Inv [] held) (hm : ∀ j, held j ≤ 1048000) (hx : TreeAt A x tx l) (hy : TreeAt A y ty m) (hwl : WfL l) (hwm : WfL m) (h0 : 0 ≤ rd) (h1 : rd ≤ 1090000000000) :
    Calls Tryz.prog 24 #[p, .int .u32 (x : Int), .int .u32 (y : Int)] w (Mut I p F (SetQ A rd held l m (subE l m) (x = 0 ∨ y = 0 ∨ x = y) (if x = y then 0 else x)) w) :=
  subS_anyG I w hI hv hm hx hy hwl hwm h0 h1 fun e B rd' hq => hq.set (fun r hr => op_sub hx.up rfl hr) wh_subO (fun hs => wh_noO (fun q => hs (q.imp_right fun q => q.imp_right And.left)))
set_option maxHeartbeats 4000000 in
set_option maxRecDepth 100000 in
theorem excS_anyG (I : AImpl) {p : Value} {A : Ar} {rd : Int} {F : Nat → Prop} {held : Nat → Nat} {x y : Nat} {tx ty : Tr} {l m : List En} {Q : Ending → Ar → Int → Prop} (w : World) (hI : I.Is w p A rd F) (hv : A.Inv [] held) (hm : ∀ j, held j ≤ 1048000) (hx : TreeAt A x tx l) (hy : TreeAt A y ty m) (hwl : WfL l) (hwm : WfL m) (h0 : 0 ≤ rd) (h1 : rd ≤ 1090000000000)
    (hyes : ∀ e B rd', RunQ A rd held true true 0 x y l m e B rd' → Q e B rd') :
    Calls Tryz.prog 22 #[p, .int .u32 (x : Int), .int .u32 (y : Int)] w (Mut I p F Q w) := by
  obtain ⟨pa, rfl⟩ := I.ptr hI
  have HRUN := Lib.hid (run_any I true true 0 w hI hv hm hx hy hwl hwm h0 h1)
  have HYES := Lib.hid hyes
  clear hI hv hm hx hy hwl hwm h0 h1 hyes
  go_enter Tryz.func22, Tryz.ntmps22
  go_wp2_with fail
  refine HRUN.out.mono ?_
  rintro e w2 ⟨F', B, rd2, hal, hI, hq⟩
  have hqq := HYES.out e B rd2 hq
  obtain ⟨z, ez, rfl⟩ := hq.ret
  have HF : Hid (∃ F' B rd2, Alters F F' w w2 ∧ I.Is w2 (.pointer (some pa)) B rd2 F' ∧ Q (.returned (.tuple #[.int .u32 (z : Int), .int .i64 ez])) B rd2) := ⟨F', B, rd2, hal, hI, hqq⟩
  clear hal hI hq hqq HRUN HYES
  go_wp2_with fail
  go_ret2
  exact HF.out
theorem excS_any (I : AImpl) {p : Value} {A : Ar} {rd : Int} {F : Nat → Prop} {held : Nat → Nat} {x y : Nat} {tx ty : Tr} {l m : List En} (w : World) (hI : I.Is w p A rd F) (hv : A.Inv [] held) (hm : ∀ j, held j ≤ 1048000) (hx : TreeAt A x tx l) (hy : TreeAt A y ty m) (hwl : WfL l) (hwm : WfL m) (h0 : 0 ≤ rd) (h1 : rd ≤ 1090000000000) :
    Calls Tryz.prog 22 #[p, .int .u32 (x : Int), .int .u32 (y : Int)] w (Mut I p F (SetQ A rd held l m (excE l m) (x = 0 ∨ y = 0 ∨ x = y) (if x = y then 0 else x + y)) w) :=
  excS_anyG I w hI hv hm hx hy hwl hwm h0 h1 fun e B rd' hq => hq.set (fun r hr => op_exc hx.up hy.up rfl hr) wh_excO (fun hs => wh_noO (fun q => hs (q.imp_right fun q => q.imp_right And.left)))
theorem stImpl (I : AImpl) : StImpl I where
  union := fun pol w hI hv hm hx hy hwl hwm h0 h1 _ => unionS_any I pol w hI hv hm hx hy hwl hwm h0 h1
  intersect := fun pol w hI hv hm hx hy hwl hwm h0 h1 _ => intS_any I pol w hI hv hm hx hy hwl hwm h0 h1
  subtract := fun w hI hv hm hx hy hwl hwm h0 h1 => subS_any I w hI hv hm hx hy hwl hwm h0 h1
  exclusive := fun w hI hv hm hx hy hwl hwm h0 h1 => excS_any I w hI hv hm hx hy hwl hwm h0 h1
theorem ens_in {H : Type} {enc : TypeId × Value → H} {W : World} {a : Option Addr} {n cap fuel : Nat} {z : DataW H × List MemPlace}
    (h : DataW.trod enc Tryz.prog W 0 (fun _ => true) true fuel 22 (Value.slice a n cap).cells.toList = some z) : n ≤ cap ∧ cap ≤ maxLen ∧ ∃ raw : List En, raw.length = n ∧ EnsAt W a raw := by
  have hf := fields_in Tryz.underlying22 Tryz.underlying69 (by kernel_rfl) (by kernel_rfl) h
  have hx : ∀ r, r < n → ∃ e : En, (∃ b off, a = some ⟨b, off, none⟩ ∧ b < W.heap.size ∧ W.cell? ⟨b, off + r * 2, none⟩ = some (.int .i64 e.key) ∧ W.cell? ⟨b, off + r * 2 + 1, none⟩ = some (.int .i64 e.val)) ∧ i64R e.key ∧ i64R e.val := by
    intro r hr
    obtain ⟨b, off, v, y, m, rfl, hlt, h1, h2⟩ := hf.2.2 r hr 0 _ rfl
    obtain ⟨b', off', v', y', m', he, _, h1', h2'⟩ := hf.2.2 r hr 1 _ rfl
    simp only [Option.some.injEq, Addr.mk.injEq, and_true] at he
    obtain ⟨rfl, rfl⟩ := he
    obtain ⟨key, hv, _, hw⟩ := DataW.trod_int Tryz.underlying2 h2
    obtain ⟨val, hv', _, hw'⟩ := DataW.trod_int Tryz.underlying2 h2'
    simp only [List.cons.injEq, and_true] at hv hv'
    subst hv hv'
    exact ⟨⟨key, val⟩, ⟨b, off, rfl, hlt, h1, h1'⟩, bounds_i64 hw, bounds_i64 hw'⟩
  clear hf
  obtain ⟨f, hff⟩ : ∃ f : Nat → En, ∀ r, r < n → (∃ b off, a = some ⟨b, off, none⟩ ∧ b < W.heap.size ∧ W.cell? ⟨b, off + r * 2, none⟩ = some (.int .i64 (f r).key) ∧ W.cell? ⟨b, off + r * 2 + 1, none⟩ = some (.int .i64 (f r).val)) ∧ i64R (f r).key ∧ i64R (f r).val := by
    classical
    refine ⟨fun r => if h : r < n then (hx r h).choose else ⟨0, 0⟩, fun r hr => ?_⟩
    simp only [dif_pos hr]
    exact (hx r hr).choose_spec
  have hg : n ≤ cap ∧ cap ≤ maxLen := ⟨(fields_in Tryz.underlying22 Tryz.underlying69 (by kernel_rfl) (by kernel_rfl) h).1, (fields_in Tryz.underlying22 Tryz.underlying69 (by kernel_rfl) (by kernel_rfl) h).2.1⟩
  refine ⟨hg.1, hg.2, (List.range n).map f, by simp, ⟨fun j e he => ?_, fun e he => ?_⟩⟩
  · rw [List.getElem?_map] at he
    obtain ⟨x, hx1, hx2⟩ := Option.map_eq_some_iff.1 he
    have hj : j < n := by have := (List.getElem?_eq_some_iff.1 hx1).1; simpa using this
    have hxj : x = j := by rw [List.getElem?_range hj] at hx1; exact (Option.some.inj hx1).symm
    subst hxj
    rw [← hx2]
    exact (hff x hj).1
  · obtain ⟨x, hx1, hx2⟩ := List.mem_map.1 he
    rw [← hx2]
    exact (hff x (List.mem_range.1 hx1)).2
section
variable {I : AImpl} {B : Nat} {w0 w : World} {p : Value} {A : Ar} {rd : Int} {rs : List Row} {bs : List (Nat × Obj)}
/-- a tree is planted in a scene -/
theorem Scn.plant (h : Scn I B w0 w p A rd rs bs) {held : Nat → Nat} {n c : Nat} {l : List En} {a : Option Addr} {tilt : Int} (hn : l.length = n) (hv : A.Inv [] held) (ha : A.Agg) (hh : ∀ j, held j + 2 * n ≤ 1048576) (hf : n ≤ A.σ.free.length) (hE : EnsAt w a l) (hb : n ≠ 0 → ∀ b off, a = some ⟨b, off, none⟩ → b < B ∨ SG rs bs b) (hc : n ≤ c) (hcm : c ≤ maxLen) (ht0 : 0 ≤ tilt) (ht1 : tilt < 18446744073709551616) :
    Calls Tryz.prog 36 #[p, .slice a n c, .int .u64 tilt] w fun e w' => ∃ (A' : Ar) (i : Nat) (t : Tr), e = .returned (.tuple #[.int .u32 (i : Int), .bool true]) ∧ Planted A held l A' i t ∧ Scn I B w0 w' p A' rd rs bs := by
  obtain ⟨F, f1, f2, f3⟩ := h.mr.has
  refine (plant_any I n l a c tilt p A rd F held w hn f1 hv ha hh hf hE (fun h0 b off hab hFb => ?_) hc hcm ht0 ht1).mono ?_
  · rcases hb h0 b off hab with h1 | h1
    · have := f2 b hFb; omega
    · exact (f3 b h1).2 hFb
  · rintro e w1 ⟨A', i, t, F', hp, rfl, hal, hI⟩
    have hst := h.mr.stepA f2 f3 hal hI
    exact ⟨A', i, t, rfl, hp, h.stepA hst.1 hst.2⟩
end
theorem own_blk {w : World} {B s n c g off : Nat} {e : TypeId} {a : Option Addr} {xs : List Value} (h : w.ownsRow B e s (.slice a n c) n xs) (h0 : n ≠ 0) (ha : a = some ⟨g, off, none⟩) : Value.ownBlock (.slice a n c) = some g := by
  rcases h.2 with ⟨hv, hn⟩ | ⟨g2, cap, cur, hv, hB, hc, hn, hcm, hs, ht⟩
  · omega
  · simp only [Value.slice.injEq] at hv
    obtain ⟨rfl, _, _⟩ := hv
    cases ha
    rfl
theorem set_nat {n m : Nat} (h : n + m ≤ 60000) : setI (n : Int) (m : Int) = (n : Int) + (m : Int) + 12 * ((xh (n + m) : Int) + 2) := by
  unfold setI needI
  have hv : vld (n : Int) ∧ vld (m : Int) ∧ vld 0 := by unfold vld; omega
  rw [if_pos hv, show (n : Int) + (m : Int) + 0 + 0 = ((n + m : Nat) : Int) by omega, xhI_nat (by omega)]
theorem set_pos {n m : Nat} (h : n + m ≤ 60000) : 0 ≤ setI (n : Int) (m : Int) ∧ setI (n : Int) (m : Int) ≤ (n : Int) + (m : Int) + 1000 := by
  rw [set_nat h]
  have := (xh_spec (n := n + m) (by omega)).2.1
  omega
theorem set_bd {n m : Nat} (h : n + m ≤ 1000) : setBd n m ≤ 100100000 := by unfold setBd; omega
def l220 : List En := [⟨2, 20⟩]
theorem l220_up : Up l220 := by unfold Up l220; simp
theorem l220_wf : WfL l220 := by
  intro y hy
  simp [l220] at hy
  subst hy
  exact ⟨⟨by decide, by decide⟩, ⟨by decide, by decide⟩⟩
theorem l220_at (w : World) (t : TypeId) : EnsAt (w.alloc (.cells #[.int .i64 2, .int .i64 20] t)) (some ⟨w.heap.size, 0, none⟩) l220 := by
  have hr := heap_alloc_new w (.cells #[.int .i64 2, .int .i64 20] t)
  refine ⟨fun j e he => ⟨w.heap.size, 0, rfl, by simp, ?_⟩, l220_wf⟩
  match j, he with
  | 0, he => cases he; constructor <;> (rw [cell_of_row _ _ _ _ _ _ hr]; rfl)
  | j + 1, he => simp [l220] at he
set_option maxHeartbeats 4000000 in
set_option maxRecDepth 100000 in
theorem awake16_any (I : AImpl) (K : StImpl I) (w : World) : Calls Tryz.prog 9 #[] w (Calm w (.bool true)) := by
  have HK := Lib.hid K
  clear K
  have HU : Hid (setI (l1.length : Int) (l220.length : Int) ≤ 60 ∧ (unionE l1 l220 1).length = 2 ∧ i64R 1 ∧ polOk 1 ∧ setBd l1.length l220.length ≤ 1000000 ∧ Up (unionE l1 l220 1)) := ⟨by decide, by decide, ⟨by decide, by decide⟩, ⟨by decide, by decide⟩, by decide, unionE_up l1_up 1 _ _ l1_up⟩
  go_enter Tryz.func9, Tryz.ntmps9
  go_wp2_with fail
  refine (I.new_ok 200 w (by decide) (by decide)).mono ?_
  rintro e w1 ⟨p, F, rfl, hI, hF, hb1⟩
  obtain ⟨pa, rfl⟩ := I.ptr hI
  have HS1 : Hid (Scn I w.heap.size w w1 (.pointer (some pa)) (Ar.init 200) 0 [] []) := Scn.start ⟨⟨F, hI, hF, fun k hk => hk.elim⟩, hb1, hb1.size⟩
  have HAT := Lib.hid (l1_at w1 69)
  have HS2 := Lib.hid (HS1.out.box #[.int .i64 1, .int .i64 10] 69)
  have HI0 : Hid ((Ar.init 200).Inv [] (fun _ => 0) ∧ (Ar.init 200).Agg ∧ (Ar.init 200).σ.free.length = 200) := ⟨Ar.init_inv (by decide) (by decide), Ar.init_agg _, by show (List.range' 1 200).length = _; simp⟩
  clear hI hF hb1 HS1
  generalize Ar.init 200 = A at HS2 HI0
  go_wp2_with fail
  generalize w1.alloc (.cells #[.int .i64 1, .int .i64 10] 69) = w2 at HAT HS2 ⊢
  generalize w1.heap.size = g at HAT HS2 ⊢
  refine (HS2.out.plant (n := 1) (c := 1) rfl HI0.out.1 HI0.out.2.1 (fun j => by omega) (by have := HI0.out; omega) HAT.out (fun _ b off h => by simp at h; rw [← h.1]; exact .inr (.inr ⟨_, List.mem_cons_self, rfl⟩)) (by decide) (by unfold maxLen; decide) (by decide) (by decide)).mono ?_
  rintro e w3 ⟨A1, x, tx, rfl, hp1, hs3⟩
  have HP1 := Lib.hid hp1
  have HAT2 := Lib.hid (l220_at w3 69)
  have HS4 := Lib.hid (hs3.box #[.int .i64 2, .int .i64 20] 69)
  have HF1 : Hid (A1.σ.free.length = 199) := by have h1 := hp1.free; have h2 := HI0.out.2.2; have h3 : l1.length = 1 := rfl; show _ = _; omega
  clear hp1 hs3 HS2 HAT
  go_wp2_with fail
  generalize w3.alloc (.cells #[.int .i64 2, .int .i64 20] 69) = w4 at HAT2 HS4 ⊢
  generalize w3.heap.size = g2 at HAT2 HS4 ⊢
  refine (HS4.out.plant (n := 1) (c := 1) rfl HP1.out.inv HP1.out.agg (fun j => by rw [pls_at]; split <;> omega) (by have := HF1.out; omega) HAT2.out (fun _ b off h => by simp at h; rw [← h.1]; exact .inr (.inr ⟨_, List.mem_cons_self, rfl⟩)) (by decide) (by unfold maxLen; decide) (by decide) (by decide)).mono ?_
  rintro e w5 ⟨A2, y, ty, rfl, hp2, hs5⟩
  have HTX := Lib.hid ((HP1.out.tree l1_up).kept hp2.kept hp2.inv hp2.agg)
  have HTY := Lib.hid (hp2.tree l220_up)
  have HINV := Lib.hid hp2.inv
  have HS5 := Lib.hid hs5
  have HF2 : Hid (A2.σ.free.length = 198) := by have h1 := hp2.free; have h2 := HF1.out; have h3 : l220.length = 1 := rfl; show _ = _; omega
  clear hp2 hs5 HS4 HAT2
  go_wp2_with fail
  refine (HS5.out.mut fun F hI => HK.out.union 1 w5 hI HINV.out (fun j => by rw [pls_at, pls_at]; split <;> split <;> omega) HTX.out HTY.out l1_wf l220_wf (by decide) (by decide) HU.out.2.2.1).mono ?_
  rintro e w6 ⟨B, rd6, hq, hs6⟩
  rcases hq with ⟨q1, -⟩ | ⟨-, hq⟩
  · exact absurd HU.out.2.2.2.1 q1
  obtain ⟨g0, g1, j, t, rfl, hg⟩ := hq.room (by have := HU.out.1; have := HF2.out; omega)
  have HS6 := Lib.hid hs6
  have HTJ := Lib.hid (hg.tree HU.out.2.2.2.2.2)
  have HRD : Hid (0 ≤ rd6 ∧ rd6 ≤ 1000000) := ⟨g0, by have := HU.out.2.2.2.2.1; omega⟩
  clear hs6 hg g0 g1 HS5
  go_wp2_with fail
  refine (HS6.out.size HRD.out.1 (by have := HRD.out; omega) HTJ.out).mono ?_
  rintro e w7 ⟨rfl, rd7, hs7, -, -⟩
  rw [HU.out.2.1]
  have HB7 := Lib.hid hs7.below
  clear hs7 HS6
  go_wp2_with fail
  go_ret
  exact ⟨rfl, HB7.out⟩
set_option maxHeartbeats 2000000 in
set_option maxRecDepth 100000 in
theorem same_ens {w : World} {a b : Option Addr} {n c d : Nat} {l : List En} (h : EnsAt w a l) (h' : EnsAt w b l) (hn : l.length = n) (hl : n ≤ 1000000) :
    Calls Tryz.prog 28 #[.slice a n c, .slice b n d] w (Calm w (.bool true)) := by
  have hni : (n : Int) ≤ 1000000 := by omega
  have HH := Lib.hid h
  have HH' := Lib.hid h'
  have HN := Lib.hid hn
  clear h h' hn
  go_enter Tryz.func28, Tryz.ntmps28
  go_wp2_with fail
  go_loopw [5] (fun i wr => ∃ k : Nat, k ≤ n ∧ i = .int .i64 (k : Int) ∧ ∃ q, wr = w.drewN q) (fun i _ => n - (intOf i).toNat)
  case atStart => exact ⟨0, Nat.zero_le _, rfl, 0, rfl⟩
  case round =>
    obtain ⟨k, hk, rfl, q, rfl⟩ := hrel
    by_cases hlt : k < n
    · have hki : (k : Int) < (n : Int) := by omega
      have hk0 : (0 : Int) ≤ (k : Int) := by omega
      obtain ⟨e, he⟩ : ∃ e, l[k]? = some e := ⟨_, List.getElem?_eq_getElem (by have := HN.out; omega)⟩
      obtain ⟨g, off, rfl, hb, c0, c1⟩ := HH.out.at he
      obtain ⟨g', off', rfl, hb', d0, d1⟩ := HH'.out.at he
      generalize e.key = x0 at c0 d0
      generalize e.val = x1 at c1 d1
      have HLT := Lib.hid hlt
      clear he hb hb' hk hlt
      go_wp2_with fail
      go_quiet (fail)
      go_wp2_with fail
      exact ⟨⟨k + 1, by have := HLT.out; omega, by go_num, _, rfl⟩, by have := HLT.out; simp [intOf]; omega⟩
    · have hki : ¬ (k : Int) < (n : Int) := by omega
      clear hlt hk
      go_wp2_with fail
      go_ret
      exact ⟨rfl, below_drewN (Below.refl _ _) q⟩
theorem bulk_bd {n m : Nat} (h : n ≤ 200) (hm : m ≤ n) : 0 ≤ bulkBd n m ∧ bulkBd n m ≤ 2000 := by
  have h1 := (xh_spec (n := n) (by omega)).2.1
  unfold bulkBd
  exact ⟨by omega, by omega⟩
end Go.Proofs.YtfihklpofmcfgaaGreat
