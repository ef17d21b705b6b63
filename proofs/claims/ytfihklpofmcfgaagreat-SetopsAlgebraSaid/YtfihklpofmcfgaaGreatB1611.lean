/- Of the proofs of SetopsAlgebra, SetopsDistribute: JnOk4, StOp, Kt, JnOk5, StHd, StOk1. -/
import Derived.Test.YtfihklpofmcfgaaGreatB1610
set_option linter.unusedVariables false
set_option linter.unusedSimpArgs false
namespace Go.Proofs.YtfihklpofmcfgaaGreat
open Go.RowKit
section
variable {w : World} {g : Nat}
def ptR (a : Nat) (v : Int) (f : Bool) (b : Nat) : Array Value := #[Value.int .u32 (a : Int), .int .i64 v, .bool f, .int .u32 (b : Int)]
def putP (w : World) (g a : Nat) (v : Int) (f : Bool) (b : Nat) : World := (((w.setCell ⟨g, 0, none⟩ (.int .u32 (a : Int))).setCell ⟨g, 1, none⟩ (.int .i64 v)).setCell ⟨g, 2, none⟩ (.bool f)).setCell ⟨g, 3, none⟩ (.int .u32 (b : Int))
theorem putP_size (a : Nat) (v : Int) (f : Bool) (b : Nat) : (putP w g a v f b).heap.size = w.heap.size := by simp [putP, World.setCell]
theorem putP_other (a : Nat) (v : Int) (f : Bool) (b : Nat) {k : Nat} (hk : k ≠ g) : (putP w g a v f b).heap[k]? = w.heap[k]? := by
  unfold putP
  rw [heap_setCell_other _ _ _ _ hk, heap_setCell_other _ _ _ _ hk, heap_setCell_other _ _ _ _ hk, heap_setCell_other _ _ _ _ hk]
theorem putP_same {c0 c1 c2 c3 : Value} {t : TypeId} (h : w.heap[g]? = some (.cells #[c0, c1, c2, c3] t (0, 0))) (a : Nat) (v : Int) (f : Bool) (b : Nat) : (putP w g a v f b).heap[g]? = some (.cells (ptR a v f b) t (0, 0)) := by
  have h0 : (w.setCell ⟨g, 0, none⟩ (.int .u32 (a : Int))).heap[g]? = some (.cells #[.int .u32 (a : Int), c1, c2, c3] t (0, 0)) := by rw [heap_setCell_same _ _ _ _ _ _ h]; rfl
  have h1 : ((w.setCell ⟨g, 0, none⟩ (.int .u32 (a : Int))).setCell ⟨g, 1, none⟩ (.int .i64 v)).heap[g]? = some (.cells #[.int .u32 (a : Int), .int .i64 v, c2, c3] t (0, 0)) := by rw [heap_setCell_same _ _ _ _ _ _ h0]; rfl
  have h2 : (((w.setCell ⟨g, 0, none⟩ (.int .u32 (a : Int))).setCell ⟨g, 1, none⟩ (.int .i64 v)).setCell ⟨g, 2, none⟩ (.bool f)).heap[g]? = some (.cells #[.int .u32 (a : Int), .int .i64 v, .bool f, c3] t (0, 0)) := by rw [heap_setCell_same _ _ _ _ _ _ h1]; rfl
  have h3 : ((((w.setCell ⟨g, 0, none⟩ (.int .u32 (a : Int))).setCell ⟨g, 1, none⟩ (.int .i64 v)).setCell ⟨g, 2, none⟩ (.bool f)).setCell ⟨g, 3, none⟩ (.int .u32 (b : Int))).heap[g]? = some (.cells #[.int .u32 (a : Int), .int .i64 v, .bool f, .int .u32 (b : Int)] t (0, 0)) := by rw [heap_setCell_same _ _ _ _ _ _ h2]; rfl
  exact h3
theorem cells4_of {c0 c1 c2 c3 : Value} {t : TypeId} (h : w.heap[g]? = some (.cells #[c0, c1, c2, c3] t (0, 0))) :
    (w.cell? ⟨g, 0, none⟩ = some c0 ∧ w.cell? ⟨g, 1, none⟩ = some c1 ∧ w.cell? ⟨g, 2, none⟩ = some c2 ∧ w.cell? ⟨g, 3, none⟩ = some c3) ∧ w.frozen? ⟨g, 0, none⟩ = false ∧ w.frozen? ⟨g, 1, none⟩ = false ∧ w.frozen? ⟨g, 2, none⟩ = false ∧ w.frozen? ⟨g, 3, none⟩ = false :=
  ⟨⟨by rw [cell_of_row _ _ _ _ _ _ h]; rfl, by rw [cell_of_row _ _ _ _ _ _ h]; rfl, by rw [cell_of_row _ _ _ _ _ _ h]; rfl, by rw [cell_of_row _ _ _ _ _ _ h]; rfl⟩, frozen_of_row _ _ _ _ _ h, frozen_of_row _ _ _ _ _ h, frozen_of_row _ _ _ _ _ h, frozen_of_row _ _ _ _ _ h⟩
end
section
variable {I : AImpl} {w wr : World} {F : Nat → Prop} {p : Value} {A : Ar} {rd : Int} {rs : List Row} {bs : List (Nat × Obj)}
theorem Ins.putP {g : Nat} {c0 c1 c2 c3 : Value} {t : TypeId} (h : Ins I w F p A rd rs ((g, Obj.cells #[c0, c1, c2, c3] t (0, 0)) :: bs) wr) (a : Nat) (v : Int) (f : Bool) (b : Nat) : Ins I w F p A rd rs ((g, Obj.cells (ptR a v f b) t (0, 0)) :: bs) (putP wr g a v f b) :=
  h.set (putP_same (h.boxes _ (List.Mem.head _)).2 a v f b) ⟨rfl, rfl, rfl, putP_size a v f b, fun k hk => putP_other a v f b hk⟩
theorem Ins.one {g n : Nat} {cs : Array Value} {t : TypeId} (h : Ins I w F p A rd rs ((g, Obj.cells cs t (0, 0)) :: bs) wr) (x : Value) : Ins I w F p A rd rs ((g, Obj.cells (cs.setIfInBounds n x) t (0, 0)) :: bs) (wr.setCell ⟨g, n, none⟩ x) :=
  h.set (by rw [heap_setCell_same _ _ _ _ _ _ (h.boxes _ (List.Mem.head _)).2]) ⟨rfl, rfl, rfl, by simp [World.setCell], fun k hk => heap_setCell_other _ _ _ _ hk⟩
end
theorem fil0 {l : List En} {q : En → Bool} (h : ∀ e ∈ l, q e = false) : l.filter q = [] := by rw [List.filter_eq_nil_iff]; intro e he; rw [h e he]; simp
theorem fil1 {l : List En} {q : En → Bool} (h : ∀ e ∈ l, q e = true) : l.filter q = l := List.filter_eq_self.2 h
theorem cut_l {ll lr : List En} {e : En} {k : Int} (hu : Up (ll ++ e :: lr)) (hk : k < e.key) : lowE (ll ++ e :: lr) k = lowE ll k ∧ highE (ll ++ e :: lr) k = highE ll k ++ e :: lr ∧ getE (ll ++ e :: lr) k = getE ll k := by
  obtain ⟨-, -, h3, h4⟩ := up_app hu
  have hge : ∀ x ∈ e :: lr, k < x.key := fun x hx => by
    rcases List.mem_cons.1 hx with rfl | hx
    · exact hk
    · have := h4 x hx; omega
  refine ⟨?_, ?_, ?_⟩
  · unfold lowE
    rw [List.filter_append, fil0 (l := e :: lr) (fun x hx => by have := hge x hx; simp; omega), List.append_nil]
  · unfold highE
    rw [List.filter_append, fil1 (l := e :: lr) (fun x hx => by have := hge x hx; simp; omega)]
  · rw [getE_app, getE_none (l := e :: lr) (fun x hx => by have := hge x hx; omega), Option.or_none]
theorem cut_r {ll lr : List En} {e : En} {k : Int} (hu : Up (ll ++ e :: lr)) (hk : e.key < k) : lowE (ll ++ e :: lr) k = ll ++ e :: lowE lr k ∧ highE (ll ++ e :: lr) k = highE lr k ∧ getE (ll ++ e :: lr) k = getE lr k := by
  obtain ⟨-, -, h3, h4⟩ := up_app hu
  refine ⟨?_, ?_, ?_⟩
  · unfold lowE
    rw [List.filter_append, List.filter_cons, if_pos (by simp; omega), fil1 (l := ll) (fun x hx => by have := h3 x hx; simp; omega)]
  · unfold highE
    rw [List.filter_append, List.filter_cons, if_neg (by simp; omega), fil0 (l := ll) (fun x hx => by have := h3 x hx; simp; omega), List.nil_append]
  · rw [getE_app, getE_none (l := ll) (fun x hx => by have := h3 x hx; omega), Option.none_or]
    unfold getE
    rw [List.find?_cons_of_neg (by simp; omega)]
theorem cut_m {ll lr : List En} {e : En} (hu : Up (ll ++ e :: lr)) : lowE (ll ++ e :: lr) e.key = ll ∧ highE (ll ++ e :: lr) e.key = lr ∧ getE (ll ++ e :: lr) e.key = some e := by
  obtain ⟨-, -, h3, h4⟩ := up_app hu
  refine ⟨?_, ?_, ?_⟩
  · unfold lowE
    rw [List.filter_append, List.filter_cons, if_neg (by simp), fil1 (l := ll) (fun x hx => by have := h3 x hx; simp; omega), fil0 (l := lr) (fun x hx => by have := h4 x hx; simp; omega), List.append_nil]
  · unfold highE
    rw [List.filter_append, List.filter_cons, if_neg (by simp), fil0 (l := ll) (fun x hx => by have := h3 x hx; simp; omega), fil1 (l := lr) (fun x hx => by have := h4 x hx; simp; omega), List.nil_append]
  · rw [getE_app, getE_none (l := ll) (fun x hx => by have := h3 x hx; omega), Option.none_or]
    unfold getE
    rw [List.find?_cons_of_pos (by simp)]
theorem low_len (l : List En) (k : Int) : (lowE l k).length ≤ l.length := List.length_filter_le _ _
theorem high_len (l : List En) (k : Int) : (highE l k).length ≤ l.length := List.length_filter_le _ _
theorem WfL.low {l : List En} (h : WfL l) (k : Int) : WfL (lowE l k) := fun y hy => h y (List.mem_filter.1 hy).1
theorem WfL.high {l : List En} (h : WfL l) (k : Int) : WfL (highE l k) := fun y hy => h y (List.mem_filter.1 hy).1
/-- what cut answers -/
def SpQ (A : Ar) (rd : Int) (held : Nat → Nat) (hr hs : Nat) (l : List En) (k : Int) (en : Ending) (B : Ar) (rd' : Int) : Prop :=
  rd ≤ rd' ∧ ∃ s : Nat, s ≤ xh (lowE l k).length + xh (highE l k).length + hs ∧ rd' ≤ rd + 14 * (s : Int) + 3 * (hr : Int) ∧ ∃ (x y : Nat) (tx ty : Tr), en = .returned (.tuple #[.agg #[Value.int .u32 (x : Int), .int .i64 ((getE l k).elim 0 (·.val)), .bool (getE l k).isSome, .int .u32 (y : Int)], .int .i64 0]) ∧
    Mid A held B [y, x] ∧ At B x tx (lowE l k) ∧ At B y ty (highE l k) ∧ A.σ.free.length ≤ B.σ.free.length + 3 * s
structure CutP (c : Int) (I : AImpl) (w : World) (p : Value) (A : Ar) (rd : Int) (F : Nat → Prop) (held : Nat → Nat) (i : Nat) (t : Tr) (l : List En) (k : Int) : Prop where
  is : I.Is w p A rd F
  inv : A.Inv [] held
  agg : A.Agg
  few : ∀ j, held j ≤ 1048300
  tree : At A i t l
  up : Up l
  wf : WfL l
  wk : i64R k
  size : l.length ≤ 2147483646
  rd0 : 0 ≤ rd
  rd1 : rd + 14 * ((xh (lowE l k).length + xh (highE l k).length + t.ht : Nat) : Int) + 3 * (t.ht : Int) + c ≤ 2199023253000
  room : 3 * (xh (lowE l k).length + xh (highE l k).length + t.ht) + 4 ≤ A.σ.free.length
def CutOk (I : AImpl) (t : Tr) : Prop := ∀ {p : Value} {A : Ar} {rd : Int} {F : Nat → Prop} {held : Nat → Nat} {i : Nat} {l : List En} {k : Int} (w : World), CutP 0 I w p A rd F held i t l k →
    Calls Tryz.prog 141 #[p, .int .u32 (i : Int), .int .i64 k] w (Mut I p F (SpQ A rd held t.ht t.ht l k) w)
set_option maxHeartbeats 16000000 in
set_option maxRecDepth 100000 in
theorem cutLeft_any (I : AImpl) (K : RotImpl I) (KN : ShNum) {tl tr : Tr} (ih : CutOk I tl) {p : Value} {A : Ar} {rd : Int} {F : Nat → Prop} {held : Nat → Nat} {i i' : Nat} {l : List En} {k : Int} {X : Nd} (w : World) (hP : CutP (-3) I w p A rd F held i (.node i' tl tr) l k) (hi0 : i ≠ 0) (hX : A.nd i = X) (hk : k < X.key) :
    Calls Tryz.prog 152 #[p, .agg #[Value.int .i64 X.key, .int .i64 X.val, .int .u32 (X.left : Int), .int .u32 (X.right : Int), .int .i64 X.size, .int .i64 X.sum, .int .i64 X.mn, .int .i64 X.mx], .int .i64 k] w (Mut I p F (SpQ A rd held tl.ht (tl.ht + 1) l k) w) := by
  obtain ⟨pa, rfl⟩ := I.ptr hP.is
  have hin : (Tryz.prog.info? 185).map (·.size) = some 4 := by kernel_rfl
  have HINF := Lib.hid hin
  have HUN : Hid _ := Lib.hid Tryz.underlying185
  have hs0 := ((Ins.start hP.is).box #[Value.int .i64 X.key, .int .i64 X.val, .int .u32 (X.left : Int), .int .u32 (X.right : Int), .int .i64 X.size, .int .i64 X.sum, .int .i64 X.mn, .int .i64 X.mx] 81).box #[.int .u32 0, .int .i64 0, .bool false, .int .u32 0] 185
  (try simp only [sz_al] at hs0)
  have HK := Lib.hid K
  have HKN := Lib.hid KN
  have HIH : Hid (CutOk I tl) := @ih
  obtain ⟨tl', tr', ll, lr, hnode, rfl, hA, hB, hab⟩ := hP.tree.split hi0
  rw [hX] at hA hB
  injection hnode with _ e1 e2
  subst e1 e2
  have hup := hP.up
  have hwf := hP.wf
  have hsz := hP.size
  have hrd := hP.rd1
  have hro := hP.room
  rw [hX] at hup hwf hsz hrd hro ⊢
  have hht : (Tr.node i' tl tr).ht = 1 + max tl.ht tr.ht := rfl
  have hm1 := Nat.le_max_left tl.ht tr.ht
  obtain ⟨h, hh⟩ : ∃ h, (Tr.node i' tl tr).ht = h := ⟨_, rfl⟩
  rw [hh] at hrd hro hht
  have hhc : tl.ht + 1 ≤ h := by omega
  obtain ⟨c1, c2, c3⟩ := cut_l hup hk
  rw [c1, c2] at hrd hro
  have hup2 := up_app hup
  have hlen : (ll ++ (⟨X.key, X.val⟩ : En) :: lr).length = ll.length + lr.length + 1 := by simp; omega
  rw [hlen] at hsz
  have hlo := low_len ll k
  have hhi := high_len ll k
  have hmon := xh_up (m := (highE ll k).length) (n := (highE ll k ++ (⟨X.key, X.val⟩ : En) :: lr).length) (by simp) (by simp; omega)
  have hcat : (highE ll k ++ (⟨X.key, X.val⟩ : En) :: lr).length = (highE ll k).length + lr.length + 1 := by simp; omega
  have HMON := Lib.hid hmon
  have HCAT := Lib.hid hcat
  have HP : Hid (A.Inv [] held ∧ A.Agg ∧ (∀ j, held j ≤ 1048300) ∧ At A X.left tl ll ∧ Up ll ∧ WfL ll ∧ i64R k) := ⟨hP.inv, hP.agg, hP.few, by rw [← hX] at *; first | exact hA | exact hB, hup2.1, hwf.left, hP.wk⟩
  have HOT : Hid (At A X.right tr lr ∧ WfL lr ∧ (i64R X.key ∧ i64R X.val) ∧ wbL ll lr) := ⟨by first | exact hB | exact hA, hwf.right.tail, hwf (⟨X.key, X.val⟩ : En) (by simp), hab⟩
  have HSZ := Lib.hid hsz
  have HRD0 : Hid (0 ≤ rd) := hP.rd0
  have HRD := Lib.hid hrd
  have HRO := Lib.hid hro
  have HHC := Lib.hid hhc
  have HLO := Lib.hid hlo
  have HHI := Lib.hid hhi
  have HC : Hid (lowE (ll ++ (⟨X.key, X.val⟩ : En) :: lr) k = lowE ll k ∧ highE (ll ++ (⟨X.key, X.val⟩ : En) :: lr) k = highE ll k ++ (⟨X.key, X.val⟩ : En) :: lr ∧ getE (ll ++ (⟨X.key, X.val⟩ : En) :: lr) k = getE ll k) := ⟨c1, c2, c3⟩
  clear hP ih hi0 hX hk K KN hA hB hab hup hwf hsz hrd hro hht hm1 hh hhc c1 c2 c3 hup2 hlen hlo hhi hmon hcat hin
  go_enter Tryz.func152, Tryz.ntmps152
  go_upto_region 1 with fail
  try simp only [sz_al]
  generalize (w.alloc (Obj.cells #[Value.int .i64 X.key, .int .i64 X.val, .int .u32 (X.left : Int), .int .u32 (X.right : Int), .int .i64 X.size, .int .i64 X.sum, .int .i64 X.mn, .int .i64 X.mx] 81)).alloc (Obj.cells #[.int .u32 0, .int .i64 0, .bool false, .int .u32 0] 185) = w1 at hs0 ⊢
  generalize w.heap.size + 1 = q at hs0 ⊢
  generalize w.heap.size = g at hs0 ⊢
  have HS0 := Lib.hid hs0
  clear hs0
  obtain ⟨⟨x0, x1, x2, x3, x4, x5, x6, x7⟩, -⟩ := HS0.out.row8 (g := g) (X := X) (by simp [ndRow])
  go_wp2_with fail
  refine (HS0.out.mut fun F1 hI1 => HIH.out w1 ⟨hI1, HP.out.1, HP.out.2.1, HP.out.2.2.1, HP.out.2.2.2.1, HP.out.2.2.2.2.1, HP.out.2.2.2.2.2.1, HP.out.2.2.2.2.2.2, by have := HSZ.out; omega, HRD0.out, by have h1 := HRD.out; have h2 := HHC.out; have h3 := HMON.out; omega, by have h1 := HRO.out; have h2 := HHC.out; have h3 := HMON.out; omega⟩).mono ?_
  rintro en w2 ⟨B, rd2, ⟨q0, s, q1, q2, x, y, tx, ty, rfl, q3, q4, q5, q6⟩, hs2⟩
  obtain ⟨V, hV⟩ : ∃ V, (getE ll k).elim (0 : Int) (·.val) = V := ⟨_, rfl⟩
  obtain ⟨D, hD⟩ : ∃ D, (getE ll k).isSome = D := ⟨_, rfl⟩
  rw [hV, hD]
  have HVD : Hid ((getE ll k).elim (0 : Int) (·.val) = V ∧ (getE ll k).isSome = D) := ⟨hV, hD⟩
  have HQ : Hid (rd ≤ rd2 ∧ s ≤ xh (lowE ll k).length + xh (highE ll k).length + tl.ht ∧ rd2 ≤ rd + 14 * (s : Int) + 3 * (tl.ht : Int) ∧ A.σ.free.length ≤ B.σ.free.length + 3 * s) := ⟨q0, q1, q2, q6⟩
  have HM2 : Hid (Mid A held B [y, x]) := q3
  have HTX := Lib.hid q4
  have HTY := Lib.hid q5
  have hs3 := hs2.box #[Value.int .u32 (x : Int), .int .i64 V, .bool D, .int .u32 (y : Int)] 185
  clear hV hD q0 q1 q2 q3 q4 q5 q6 hs2 HS0 x0 x1 x2 x3 x4 x5 x6 x7
  go_upto_region 4 with fail
  generalize w2.alloc (Obj.cells #[Value.int .u32 (x : Int), .int .i64 V, .bool D, .int .u32 (y : Int)] 185) = w3 at hs3 ⊢
  generalize w2.heap.size = b at hs3 ⊢
  have HS3 := Lib.hid hs3
  clear hs3
  obtain ⟨⟨p0, p1, p2, p3⟩, -⟩ := cells4_of (HS3.out.boxes _ (List.Mem.head _)).2
  go_upto_region 5 with fail
  clear p0 p1 p2 p3
  have HJ : Hid (∃ J : Nat, jd ty tr = J ∧ s + (J + 1) ≤ xh (lowE ll k).length + xh (highE ll k ++ (⟨X.key, X.val⟩ : En) :: lr).length + (tl.ht + 1)) := by
    have hq := HQ.out.2.1
    have e1 := HTY.out.size
    have e2 := HOT.out.1.size
    have e3 := HSZ.out
    have e4 := HHI.out
    have e5 := HCAT.out
    have e6 := HOT.out.2.2.2.1
    refine ⟨_, rfl, ?_⟩
    have := split_step_l (t := ty) (u := tr) (lo := (lowE ll k).length) (h := tl.ht) (s := s) HTY.out.bal HOT.out.1.bal (by omega) (by omega) (by rw [e1]; exact hq)
    rw [show ty.size + tr.size + 1 = (highE ll k ++ (⟨X.key, X.val⟩ : En) :: lr).length by omega] at this
    omega
  obtain ⟨J, hJ, hsJ⟩ := HJ.out
  have HJJ := Lib.hid hJ
  have HSJ := Lib.hid hsJ
  clear HJ hJ hsJ
  have HCEL : Hid (∀ {wx : World} {C : Ar} {rdx : Int} {P : Array Value}, Ins I w F (.pointer (some pa)) C rdx [] [(b, Obj.cells P 185 (0, 0)), (q, Obj.cells #[.int .u32 0, .int .i64 0, .bool false, .int .u32 0] 185 (0, 0)), (g, Obj.cells #[Value.int .i64 X.key, .int .i64 X.val, .int .u32 (X.left : Int), .int .u32 (X.right : Int), .int .i64 X.size, .int .i64 X.sum, .int .i64 X.mn, .int .i64 X.mx] 81 (0, 0))] wx → wx.cell? ⟨g, 0, none⟩ = some (.int .i64 X.key) ∧ wx.cell? ⟨g, 1, none⟩ = some (.int .i64 X.val) ∧ wx.cell? ⟨g, 2, none⟩ = some (.int .u32 (X.left : Int)) ∧ wx.cell? ⟨g, 3, none⟩ = some (.int .u32 (X.right : Int)) ∧ wx.cell? ⟨g, 4, none⟩ = some (.int .i64 X.size) ∧ wx.cell? ⟨g, 5, none⟩ = some (.int .i64 X.sum) ∧ wx.cell? ⟨g, 6, none⟩ = some (.int .i64 X.mn) ∧ wx.cell? ⟨g, 7, none⟩ = some (.int .i64 X.mx)) := fun {wx C rdx P} hx => by
    obtain ⟨hq, -⟩ := hx.row8 (g := g) (X := X) (by simp [ndRow])
    exact hq
  have hsd := HS3.out.calm (Below.refl _ _).drew
  refine anyG_begin (S := (fun w' => w'.cell? ⟨g, 0, none⟩ = some (.int .i64 X.key) ∧ w'.cell? ⟨g, 1, none⟩ = some (.int .i64 X.val) ∧ w'.cell? ⟨g, 2, none⟩ = some (.int .u32 (X.left : Int)) ∧ w'.cell? ⟨g, 3, none⟩ = some (.int .u32 (X.right : Int)) ∧ w'.cell? ⟨g, 4, none⟩ = some (.int .i64 X.size) ∧ w'.cell? ⟨g, 5, none⟩ = some (.int .i64 X.sum) ∧ w'.cell? ⟨g, 6, none⟩ = some (.int .i64 X.mn) ∧ w'.cell? ⟨g, 7, none⟩ = some (.int .i64 X.mx))) (z := 9999) (by kernel_rfl) (HCEL.out hsd) (fun hHeld => ?_)
  refine anyG_tk (v := ?_) 0 26 rfl (by kernel_rfl) (Or.inl ⟨by rfl, ?_⟩) (by assumption) ?_
  rotate_left
  · intro w hSw; (try dsimp only at hSw); go_simp; try with_reducible rfl
  (try simp only [Act.put, put_s])
  refine anyG_tk (v := ?_) 1 27 rfl (by kernel_rfl) (Or.inl ⟨by rfl, ?_⟩) (by assumption) ?_
  rotate_left
  · intro w hSw; (try dsimp only at hSw); go_simp; try with_reducible rfl
  (try simp only [Act.put, put_s])
  refine anyG_tk (v := ?_) 2 28 rfl (by kernel_rfl) (Or.inl ⟨by rfl, ?_⟩) (by assumption) ?_
  rotate_left
  · intro w hSw; (try dsimp only at hSw); go_simp; try with_reducible rfl
  (try simp only [Act.put, put_s])
  refine anyG_tk (v := ?_) 4 30 rfl (by kernel_rfl) (Or.inl ⟨by rfl, ?_⟩) (by assumption) ?_
  rotate_left
  · intro w hSw; (try dsimp only at hSw); go_simp; try with_reducible rfl
  (try simp only [Act.put, put_s])
  refine anyG_tk (v := ?_) 5 31 rfl (by kernel_rfl) (Or.inl ⟨by rfl, ?_⟩) (by assumption) ?_
  rotate_left
  · intro w hSw; (try dsimp only at hSw); go_simp; try with_reducible rfl
  (try simp only [Act.put, put_s])
  refine anyG_one (k := 3) (o := _) (by kernel_rfl) rfl (fun KT hKT => ?_)
  go_simp
  go_at_call 145
  refine (entryJ_any X _).mono ?_
  rintro eA wA ⟨rfl, hbA⟩
  have hsA := hsd.calm hbA
  try go_wp2_with fail
  refine hKT.out _ _ (HCEL.out hsA) (fun hHeld => ?_)
  clear hKT KT
  (try simp only [Act.put, put_s])
  refine anyG_one (k := 6) (o := _) (by kernel_rfl) rfl (fun KT hKT => ?_)
  go_simp
  go_at_call 123
  refine (hsA.mut fun F1 hI1 => link_all I HK.out HKN.out _ ⟨X.key, X.val⟩ wA ⟨hI1, HM2.out.inv, HM2.out.agg, fun j => Nat.le_trans (plL_le HP.out.2.2.1 [y, x] j) (show 1048300 + 2 ≤ 1048400 by decide), (HTY.out), (HOT.out.1.kept HM2.out.kept), (HP.out.2.2.2.2.2.1.high k), (HOT.out.2.1), HOT.out.2.2.1, by have := HSZ.out; have := HHI.out; omega, by have h1 := HRD0.out; have h2 := HQ.out; omega, by have h1 := HRD.out; have h2 := HQ.out; have h3 := HSJ.out; have h4 := HHC.out; rw [HJJ.out]; omega, by have h1 := HRO.out; have h2 := HQ.out; have h3 := HSJ.out; have h4 := HHC.out; rw [HJJ.out]; omega⟩ (Nat.lt_succ_self _)).mono ?_
  rintro eB wB ⟨C, rdC, ⟨b1, b2, j, t, rfl, b3, b4, b5, -⟩, hsB⟩
  rw [HJJ.out] at b2 b5
  try go_wp2_with fail
  refine hKT.out _ _ (HCEL.out hsB) (fun hHeld => ?_)
  clear hKT KT
  (try simp only [Act.put, put_s])
  refine anyG_tk (v := ?_) 7 25 rfl (by kernel_rfl) (Or.inl ⟨by rfl, ?_⟩) (by assumption) ?_
  rotate_left
  · intro w hSw; (try dsimp only at hSw); go_simp; try with_reducible rfl
  (try simp only [Act.put, put_s])
  refine anyG_tk (v := ?_) 8 33 rfl (by kernel_rfl) (Or.inl ⟨by rfl, ?_⟩) (by assumption) ?_
  rotate_left
  · intro w hSw; (try dsimp only at hSw); go_simp; try with_reducible rfl
  (try simp only [Act.put, put_s])
  refine anyG_tk (v := ?_) 9 34 rfl (by kernel_rfl) (Or.inl ⟨by rfl, ?_⟩) (by assumption) ?_
  rotate_left
  · intro w hSw; (try dsimp only at hSw); go_simp; try with_reducible rfl
  (try simp only [Act.put, put_s])
  refine anyG_tk (v := ?_) 10 35 rfl (by kernel_rfl) (Or.inl ⟨by rfl, ?_⟩) (by assumption) ?_
  rotate_left
  · intro w hSw; (try dsimp only at hSw); go_simp; try with_reducible rfl
  (try simp only [Act.put, put_s])
  refine anyG_one (k := 11) (o := _) (by kernel_rfl) rfl (fun KT hKT => ?_)
  obtain ⟨⟨y0, y1, y2, y3⟩, f0, f1, f2, f3⟩ := cells4_of (hsB.boxes _ (List.Mem.head _)).2
  go_simp
  have hsC := Ins.one (n := 3) hsB (.int .u32 (j : Int))
  try go_wp2_with fail
  refine hKT.out _ _ (HCEL.out hsC) (fun hHeld => ?_)
  clear hKT KT
  (try simp only [Act.put, put_s])
  refine anyG_tk (v := ?_) 12 9 rfl (by kernel_rfl) (Or.inl ⟨by rfl, ?_⟩) (by assumption) ?_
  rotate_left
  · intro w hSw; (try dsimp only at hSw); go_simp; try with_reducible rfl
  (try simp only [Act.put, put_s])
  refine anyG_done (by kernel_rfl) ?_ _
  have hn : Mid A held C ([j] ++ [y, x]) := HM2.out.nest b3
  obtain ⟨u1, u2, u3, u4, u5, u6⟩ := (hn.perm (List.Perm.swap y j [x])).give
  have hcl : C.Idx x := HTX.out.idx.imp id fun h => b3.kept.on _ h
  have HSC := Lib.hid hsC
  have HU : Hid (C.Inv [y] (plL held [j, x]) ∧ C.Idx y ∧ y < 4294967296) := ⟨u1, u2, idx_lt32 b3.inv u2⟩
  have HQ2 : Hid (SpQ A rd held tl.ht (tl.ht + 1) (ll ++ (⟨X.key, X.val⟩ : En) :: lr) k (.returned (.tuple #[.agg #[Value.int .u32 (x : Int), .int .i64 V, .bool D, .int .u32 (j : Int)], .int .i64 0])) (C.gone y) rdC) := by
    unfold SpQ
    rw [HC.out.1, HC.out.2.1, HC.out.2.2]
    have hq := HQ.out
    refine ⟨by omega, s + (J + 1), HSJ.out, by omega, x, j, tx, t, by rw [HVD.out.1, HVD.out.2], u3, (HTX.out.kept b3.kept).gone u3.inv (u5 x (by simp) hcl), b4.gone u3.inv (u5 j (by simp) b4.idx), by omega⟩
  clear hsC hsB hsA hsd hbA hHeld HCEL b1 b2 b3 b4 b5 hn u1 u2 u3 u4 u5 u6 hcl HS3
  obtain ⟨⟨p0, p1, p2, p3⟩, -⟩ := cells4_of (HSC.out.boxes _ (List.Mem.head _)).2
  go_wp2_with fail
  refine (HSC.out.release HU.out.2.2 HU.out.2.1 HU.out.1).mono ?_
  rintro en w9 ⟨rfl, hs9⟩
  have HS9 := Lib.hid hs9
  clear hs9 HSC p0 p1 p2 p3
  obtain ⟨⟨p0, p1, p2, p3⟩, -⟩ := cells4_of (HS9.out.boxes _ (List.Mem.head _)).2
  have hq1 := (HS9.out.perm (List.Perm.swap _ _ _))
  obtain ⟨⟨y0, y1, y2, y3⟩, f0, f1, f2, f3⟩ := cells4_of (hq1.boxes _ (List.Mem.head _)).2
  have hne : ¬ b = q := (List.pairwise_cons.1 HS9.out.bb).1 _ (List.Mem.head _)
  have hne2 : ¬ q = b := fun e => hne e.symm
  have hp := hq1.putP x V D j
  have HE : Hid ((∃ F', Alters F F' w (putP w9 q x V D j) ∧ I.Is (putP w9 q x V D j) (.pointer (some pa)) (C.gone y) rdC F') ∧ (putP w9 q x V D j).heap[q]? = some (Obj.cells (ptR x V D j) 185 (0, 0))) := ⟨hp.ends, (hp.boxes _ (List.Mem.head _)).2⟩
  clear hp hq1
  go_wp2_with fail
  refine bodyPost_ret (results_row_tmp rfl _ _ q 185 #[Value.int .u32 (x : Int), .int .i64 V, .bool D, .int .u32 (j : Int)] (0, 0) _ rfl HE.out.2 HUN.out rfl HINF.out) rfl ?_
  obtain ⟨F', hal, hI⟩ := HE.out.1
  exact ⟨F', _, rdC, hal, hI, HQ2.out⟩
set_option maxHeartbeats 16000000 in
set_option maxRecDepth 100000 in
theorem cutRight_any (I : AImpl) (K : RotImpl I) (KN : ShNum) {tl tr : Tr} (ih : CutOk I tr) {p : Value} {A : Ar} {rd : Int} {F : Nat → Prop} {held : Nat → Nat} {i i' : Nat} {l : List En} {k : Int} {X : Nd} (w : World) (hP : CutP (-3) I w p A rd F held i (.node i' tl tr) l k) (hi0 : i ≠ 0) (hX : A.nd i = X) (hk : X.key < k) :
    Calls Tryz.prog 153 #[p, .agg #[Value.int .i64 X.key, .int .i64 X.val, .int .u32 (X.left : Int), .int .u32 (X.right : Int), .int .i64 X.size, .int .i64 X.sum, .int .i64 X.mn, .int .i64 X.mx], .int .i64 k] w (Mut I p F (SpQ A rd held tr.ht (tr.ht + 1) l k) w) := by
  obtain ⟨pa, rfl⟩ := I.ptr hP.is
  have hin : (Tryz.prog.info? 185).map (·.size) = some 4 := by kernel_rfl
  have HINF := Lib.hid hin
  have HUN : Hid _ := Lib.hid Tryz.underlying185
  have hs0 := ((Ins.start hP.is).box #[Value.int .i64 X.key, .int .i64 X.val, .int .u32 (X.left : Int), .int .u32 (X.right : Int), .int .i64 X.size, .int .i64 X.sum, .int .i64 X.mn, .int .i64 X.mx] 81).box #[.int .u32 0, .int .i64 0, .bool false, .int .u32 0] 185
  (try simp only [sz_al] at hs0)
  have HK := Lib.hid K
  have HKN := Lib.hid KN
  have HIH : Hid (CutOk I tr) := @ih
  obtain ⟨tl', tr', ll, lr, hnode, rfl, hA, hB, hab⟩ := hP.tree.split hi0
  rw [hX] at hA hB
  injection hnode with _ e1 e2
  subst e1 e2
  have hup := hP.up
  have hwf := hP.wf
  have hsz := hP.size
  have hrd := hP.rd1
  have hro := hP.room
  rw [hX] at hup hwf hsz hrd hro ⊢
  have hht : (Tr.node i' tl tr).ht = 1 + max tl.ht tr.ht := rfl
  have hm1 := Nat.le_max_right tl.ht tr.ht
  obtain ⟨h, hh⟩ : ∃ h, (Tr.node i' tl tr).ht = h := ⟨_, rfl⟩
  rw [hh] at hrd hro hht
  have hhc : tr.ht + 1 ≤ h := by omega
  obtain ⟨c1, c2, c3⟩ := cut_r hup hk
  rw [c1, c2] at hrd hro
  have hup2 := up_app hup
  have hlen : (ll ++ (⟨X.key, X.val⟩ : En) :: lr).length = ll.length + lr.length + 1 := by simp; omega
  rw [hlen] at hsz
  have hlo := low_len lr k
  have hhi := high_len lr k
  have hmon := xh_up (m := (lowE lr k).length) (n := (ll ++ (⟨X.key, X.val⟩ : En) :: lowE lr k).length) (by simp; omega) (by simp; omega)
  have hcat : (ll ++ (⟨X.key, X.val⟩ : En) :: lowE lr k).length = ll.length + (lowE lr k).length + 1 := by simp; omega
  have HMON := Lib.hid hmon
  have HCAT := Lib.hid hcat
  have HP : Hid (A.Inv [] held ∧ A.Agg ∧ (∀ j, held j ≤ 1048300) ∧ At A X.right tr lr ∧ Up lr ∧ WfL lr ∧ i64R k) := ⟨hP.inv, hP.agg, hP.few, by rw [← hX] at *; first | exact hA | exact hB, hup2.2.1, hwf.right.tail, hP.wk⟩
  have HOT : Hid (At A X.left tl ll ∧ WfL ll ∧ (i64R X.key ∧ i64R X.val) ∧ wbL ll lr) := ⟨by first | exact hB | exact hA, hwf.left, hwf (⟨X.key, X.val⟩ : En) (by simp), hab⟩
  have HSZ := Lib.hid hsz
  have HRD0 : Hid (0 ≤ rd) := hP.rd0
  have HRD := Lib.hid hrd
  have HRO := Lib.hid hro
  have HHC := Lib.hid hhc
  have HLO := Lib.hid hlo
  have HHI := Lib.hid hhi
  have HC : Hid (lowE (ll ++ (⟨X.key, X.val⟩ : En) :: lr) k = ll ++ (⟨X.key, X.val⟩ : En) :: lowE lr k ∧ highE (ll ++ (⟨X.key, X.val⟩ : En) :: lr) k = highE lr k ∧ getE (ll ++ (⟨X.key, X.val⟩ : En) :: lr) k = getE lr k) := ⟨c1, c2, c3⟩
  clear hP ih hi0 hX hk K KN hA hB hab hup hwf hsz hrd hro hht hm1 hh hhc c1 c2 c3 hup2 hlen hlo hhi hmon hcat hin
  go_enter Tryz.func153, Tryz.ntmps153
  go_upto_region 1 with fail
  try simp only [sz_al]
  generalize (w.alloc (Obj.cells #[Value.int .i64 X.key, .int .i64 X.val, .int .u32 (X.left : Int), .int .u32 (X.right : Int), .int .i64 X.size, .int .i64 X.sum, .int .i64 X.mn, .int .i64 X.mx] 81)).alloc (Obj.cells #[.int .u32 0, .int .i64 0, .bool false, .int .u32 0] 185) = w1 at hs0 ⊢
  generalize w.heap.size + 1 = q at hs0 ⊢
  generalize w.heap.size = g at hs0 ⊢
  have HS0 := Lib.hid hs0
  clear hs0
  obtain ⟨⟨x0, x1, x2, x3, x4, x5, x6, x7⟩, -⟩ := HS0.out.row8 (g := g) (X := X) (by simp [ndRow])
  go_wp2_with fail
  refine (HS0.out.mut fun F1 hI1 => HIH.out w1 ⟨hI1, HP.out.1, HP.out.2.1, HP.out.2.2.1, HP.out.2.2.2.1, HP.out.2.2.2.2.1, HP.out.2.2.2.2.2.1, HP.out.2.2.2.2.2.2, by have := HSZ.out; omega, HRD0.out, by have h1 := HRD.out; have h2 := HHC.out; have h3 := HMON.out; omega, by have h1 := HRO.out; have h2 := HHC.out; have h3 := HMON.out; omega⟩).mono ?_
  rintro en w2 ⟨B, rd2, ⟨q0, s, q1, q2, x, y, tx, ty, rfl, q3, q4, q5, q6⟩, hs2⟩
  obtain ⟨V, hV⟩ : ∃ V, (getE lr k).elim (0 : Int) (·.val) = V := ⟨_, rfl⟩
  obtain ⟨D, hD⟩ : ∃ D, (getE lr k).isSome = D := ⟨_, rfl⟩
  rw [hV, hD]
  have HVD : Hid ((getE lr k).elim (0 : Int) (·.val) = V ∧ (getE lr k).isSome = D) := ⟨hV, hD⟩
  have HQ : Hid (rd ≤ rd2 ∧ s ≤ xh (lowE lr k).length + xh (highE lr k).length + tr.ht ∧ rd2 ≤ rd + 14 * (s : Int) + 3 * (tr.ht : Int) ∧ A.σ.free.length ≤ B.σ.free.length + 3 * s) := ⟨q0, q1, q2, q6⟩
  have HM2 : Hid (Mid A held B [y, x]) := q3
  have HTX := Lib.hid q4
  have HTY := Lib.hid q5
  have hs3 := hs2.box #[Value.int .u32 (x : Int), .int .i64 V, .bool D, .int .u32 (y : Int)] 185
  clear hV hD q0 q1 q2 q3 q4 q5 q6 hs2 HS0 x0 x1 x2 x3 x4 x5 x6 x7
  go_upto_region 4 with fail
  generalize w2.alloc (Obj.cells #[Value.int .u32 (x : Int), .int .i64 V, .bool D, .int .u32 (y : Int)] 185) = w3 at hs3 ⊢
  generalize w2.heap.size = b at hs3 ⊢
  have HS3 := Lib.hid hs3
  clear hs3
  obtain ⟨⟨p0, p1, p2, p3⟩, -⟩ := cells4_of (HS3.out.boxes _ (List.Mem.head _)).2
  go_upto_region 5 with fail
  clear p0 p1 p2 p3
  have HJ : Hid (∃ J : Nat, jd tl tx = J ∧ s + (J + 1) ≤ xh (ll ++ (⟨X.key, X.val⟩ : En) :: lowE lr k).length + xh (highE lr k).length + (tr.ht + 1)) := by
    have hq := HQ.out.2.1
    have e1 := HTX.out.size
    have e2 := HOT.out.1.size
    have e3 := HSZ.out
    have e4 := HLO.out
    have e5 := HCAT.out
    have e6 := HOT.out.2.2.2.2
    refine ⟨_, rfl, ?_⟩
    have := split_step_r (t := tl) (u := tx) (hi := (highE lr k).length) (h := tr.ht) (s := s) HOT.out.1.bal HTX.out.bal (by omega) (by omega) (by rw [e1]; exact hq)
    rw [show tl.size + tx.size + 1 = (ll ++ (⟨X.key, X.val⟩ : En) :: lowE lr k).length by omega] at this
    omega
  obtain ⟨J, hJ, hsJ⟩ := HJ.out
  have HJJ := Lib.hid hJ
  have HSJ := Lib.hid hsJ
  clear HJ hJ hsJ
  have HCEL : Hid (∀ {wx : World} {C : Ar} {rdx : Int} {P : Array Value}, Ins I w F (.pointer (some pa)) C rdx [] [(b, Obj.cells P 185 (0, 0)), (q, Obj.cells #[.int .u32 0, .int .i64 0, .bool false, .int .u32 0] 185 (0, 0)), (g, Obj.cells #[Value.int .i64 X.key, .int .i64 X.val, .int .u32 (X.left : Int), .int .u32 (X.right : Int), .int .i64 X.size, .int .i64 X.sum, .int .i64 X.mn, .int .i64 X.mx] 81 (0, 0))] wx → wx.cell? ⟨g, 0, none⟩ = some (.int .i64 X.key) ∧ wx.cell? ⟨g, 1, none⟩ = some (.int .i64 X.val) ∧ wx.cell? ⟨g, 2, none⟩ = some (.int .u32 (X.left : Int)) ∧ wx.cell? ⟨g, 3, none⟩ = some (.int .u32 (X.right : Int)) ∧ wx.cell? ⟨g, 4, none⟩ = some (.int .i64 X.size) ∧ wx.cell? ⟨g, 5, none⟩ = some (.int .i64 X.sum) ∧ wx.cell? ⟨g, 6, none⟩ = some (.int .i64 X.mn) ∧ wx.cell? ⟨g, 7, none⟩ = some (.int .i64 X.mx)) := fun {wx C rdx P} hx => by
    obtain ⟨hq, -⟩ := hx.row8 (g := g) (X := X) (by simp [ndRow])
    exact hq
  have hsd := HS3.out.calm (Below.refl _ _).drew
  refine anyG_begin (S := (fun w' => w'.cell? ⟨g, 0, none⟩ = some (.int .i64 X.key) ∧ w'.cell? ⟨g, 1, none⟩ = some (.int .i64 X.val) ∧ w'.cell? ⟨g, 2, none⟩ = some (.int .u32 (X.left : Int)) ∧ w'.cell? ⟨g, 3, none⟩ = some (.int .u32 (X.right : Int)) ∧ w'.cell? ⟨g, 4, none⟩ = some (.int .i64 X.size) ∧ w'.cell? ⟨g, 5, none⟩ = some (.int .i64 X.sum) ∧ w'.cell? ⟨g, 6, none⟩ = some (.int .i64 X.mn) ∧ w'.cell? ⟨g, 7, none⟩ = some (.int .i64 X.mx))) (z := 9999) (by kernel_rfl) (HCEL.out hsd) (fun hHeld => ?_)
  refine anyG_tk (v := ?_) 0 26 rfl (by kernel_rfl) (Or.inl ⟨by rfl, ?_⟩) (by assumption) ?_
  rotate_left
  · intro w hSw; (try dsimp only at hSw); go_simp; try with_reducible rfl
  (try simp only [Act.put, put_s])
  refine anyG_tk (v := ?_) 1 27 rfl (by kernel_rfl) (Or.inl ⟨by rfl, ?_⟩) (by assumption) ?_
  rotate_left
  · intro w hSw; (try dsimp only at hSw); go_simp; try with_reducible rfl
  (try simp only [Act.put, put_s])
  refine anyG_tk (v := ?_) 2 28 rfl (by kernel_rfl) (Or.inl ⟨by rfl, ?_⟩) (by assumption) ?_
  rotate_left
  · intro w hSw; (try dsimp only at hSw); go_simp; try with_reducible rfl
  (try simp only [Act.put, put_s])
  refine anyG_tk (v := ?_) 3 29 rfl (by kernel_rfl) (Or.inl ⟨by rfl, ?_⟩) (by assumption) ?_
  rotate_left
  · intro w hSw; (try dsimp only at hSw); go_simp; try with_reducible rfl
  (try simp only [Act.put, put_s])
  refine anyG_tk (v := ?_) 5 31 rfl (by kernel_rfl) (Or.inl ⟨by rfl, ?_⟩) (by assumption) ?_
  rotate_left
  · intro w hSw; (try dsimp only at hSw); go_simp; try with_reducible rfl
  (try simp only [Act.put, put_s])
  refine anyG_one (k := 4) (o := _) (by kernel_rfl) rfl (fun KT hKT => ?_)
  go_simp
  go_at_call 145
  refine (entryJ_any X _).mono ?_
  rintro eA wA ⟨rfl, hbA⟩
  have hsA := hsd.calm hbA
  try go_wp2_with fail
  refine hKT.out _ _ (HCEL.out hsA) (fun hHeld => ?_)
  clear hKT KT
  (try simp only [Act.put, put_s])
  refine anyG_one (k := 6) (o := _) (by kernel_rfl) rfl (fun KT hKT => ?_)
  go_simp
  go_at_call 123
  refine (hsA.mut fun F1 hI1 => link_all I HK.out HKN.out _ ⟨X.key, X.val⟩ wA ⟨hI1, HM2.out.inv, HM2.out.agg, fun j => Nat.le_trans (plL_le HP.out.2.2.1 [y, x] j) (show 1048300 + 2 ≤ 1048400 by decide), (HOT.out.1.kept HM2.out.kept), (HTX.out), (HOT.out.2.1), (HP.out.2.2.2.2.2.1.low k), HOT.out.2.2.1, by have := HSZ.out; have := HLO.out; omega, by have h1 := HRD0.out; have h2 := HQ.out; omega, by have h1 := HRD.out; have h2 := HQ.out; have h3 := HSJ.out; have h4 := HHC.out; rw [HJJ.out]; omega, by have h1 := HRO.out; have h2 := HQ.out; have h3 := HSJ.out; have h4 := HHC.out; rw [HJJ.out]; omega⟩ (Nat.lt_succ_self _)).mono ?_
  rintro eB wB ⟨C, rdC, ⟨b1, b2, j, t, rfl, b3, b4, b5, -⟩, hsB⟩
  rw [HJJ.out] at b2 b5
  try go_wp2_with fail
  refine hKT.out _ _ (HCEL.out hsB) (fun hHeld => ?_)
  clear hKT KT
  (try simp only [Act.put, put_s])
  refine anyG_tk (v := ?_) 7 25 rfl (by kernel_rfl) (Or.inl ⟨by rfl, ?_⟩) (by assumption) ?_
  rotate_left
  · intro w hSw; (try dsimp only at hSw); go_simp; try with_reducible rfl
  (try simp only [Act.put, put_s])
  refine anyG_tk (v := ?_) 8 33 rfl (by kernel_rfl) (Or.inl ⟨by rfl, ?_⟩) (by assumption) ?_
  rotate_left
  · intro w hSw; (try dsimp only at hSw); go_simp; try with_reducible rfl
  (try simp only [Act.put, put_s])
  refine anyG_tk (v := ?_) 9 34 rfl (by kernel_rfl) (Or.inl ⟨by rfl, ?_⟩) (by assumption) ?_
  rotate_left
  · intro w hSw; (try dsimp only at hSw); go_simp; try with_reducible rfl
  (try simp only [Act.put, put_s])
  refine anyG_tk (v := ?_) 10 35 rfl (by kernel_rfl) (Or.inl ⟨by rfl, ?_⟩) (by assumption) ?_
  rotate_left
  · intro w hSw; (try dsimp only at hSw); go_simp; try with_reducible rfl
  (try simp only [Act.put, put_s])
  refine anyG_one (k := 11) (o := _) (by kernel_rfl) rfl (fun KT hKT => ?_)
  obtain ⟨⟨y0, y1, y2, y3⟩, f0, f1, f2, f3⟩ := cells4_of (hsB.boxes _ (List.Mem.head _)).2
  go_simp
  have hsC := Ins.one (n := 0) hsB (.int .u32 (j : Int))
  try go_wp2_with fail
  refine hKT.out _ _ (HCEL.out hsC) (fun hHeld => ?_)
  clear hKT KT
  (try simp only [Act.put, put_s])
  refine anyG_tk (v := ?_) 12 9 rfl (by kernel_rfl) (Or.inl ⟨by rfl, ?_⟩) (by assumption) ?_
  rotate_left
  · intro w hSw; (try dsimp only at hSw); go_simp; try with_reducible rfl
  (try simp only [Act.put, put_s])
  refine anyG_done (by kernel_rfl) ?_ _
  have hn : Mid A held C ([j] ++ [y, x]) := HM2.out.nest b3
  obtain ⟨u1, u2, u3, u4, u5, u6⟩ := (hn.perm (((List.Perm.swap y j [x]).trans ((List.Perm.swap x j []).cons y)).trans (List.Perm.swap x y [j]))).give
  have hcl : C.Idx y := HTY.out.idx.imp id fun h => b3.kept.on _ h
  have HSC := Lib.hid hsC
  have HU : Hid (C.Inv [x] (plL held [y, j]) ∧ C.Idx x ∧ x < 4294967296) := ⟨u1, u2, idx_lt32 b3.inv u2⟩
  have HQ2 : Hid (SpQ A rd held tr.ht (tr.ht + 1) (ll ++ (⟨X.key, X.val⟩ : En) :: lr) k (.returned (.tuple #[.agg #[Value.int .u32 (j : Int), .int .i64 V, .bool D, .int .u32 (y : Int)], .int .i64 0])) (C.gone x) rdC) := by
    unfold SpQ
    rw [HC.out.1, HC.out.2.1, HC.out.2.2]
    have hq := HQ.out
    refine ⟨by omega, s + (J + 1), HSJ.out, by omega, j, y, t, ty, by rw [HVD.out.1, HVD.out.2], u3, b4.gone u3.inv (u5 j (by simp) b4.idx), (HTY.out.kept b3.kept).gone u3.inv (u5 y (by simp) hcl), by omega⟩
  clear hsC hsB hsA hsd hbA hHeld HCEL b1 b2 b3 b4 b5 hn u1 u2 u3 u4 u5 u6 hcl HS3
  obtain ⟨⟨p0, p1, p2, p3⟩, -⟩ := cells4_of (HSC.out.boxes _ (List.Mem.head _)).2
  go_wp2_with fail
  refine (HSC.out.release HU.out.2.2 HU.out.2.1 HU.out.1).mono ?_
  rintro en w9 ⟨rfl, hs9⟩
  have HS9 := Lib.hid hs9
  clear hs9 HSC p0 p1 p2 p3
  obtain ⟨⟨p0, p1, p2, p3⟩, -⟩ := cells4_of (HS9.out.boxes _ (List.Mem.head _)).2
  have hq1 := (HS9.out.perm (List.Perm.swap _ _ _))
  obtain ⟨⟨y0, y1, y2, y3⟩, f0, f1, f2, f3⟩ := cells4_of (hq1.boxes _ (List.Mem.head _)).2
  have hne : ¬ b = q := (List.pairwise_cons.1 HS9.out.bb).1 _ (List.Mem.head _)
  have hne2 : ¬ q = b := fun e => hne e.symm
  have hp := hq1.putP j V D y
  have HE : Hid ((∃ F', Alters F F' w (putP w9 q j V D y) ∧ I.Is (putP w9 q j V D y) (.pointer (some pa)) (C.gone x) rdC F') ∧ (putP w9 q j V D y).heap[q]? = some (Obj.cells (ptR j V D y) 185 (0, 0))) := ⟨hp.ends, (hp.boxes _ (List.Mem.head _)).2⟩
  clear hp hq1
  go_wp2_with fail
  refine bodyPost_ret (results_row_tmp rfl _ _ q 185 #[Value.int .u32 (j : Int), .int .i64 V, .bool D, .int .u32 (y : Int)] (0, 0) _ rfl HE.out.2 HUN.out rfl HINF.out) rfl ?_
  obtain ⟨F', hal, hI⟩ := HE.out.1
  exact ⟨F', _, rdC, hal, hI, HQ2.out⟩
end Go.Proofs.YtfihklpofmcfgaaGreat
namespace Go.Proofs.YtfihklpofmcfgaaGreat
def polB (p : Int) : Bool := decide (1 ≤ p ∧ p ≤ 5)
/-- the entry of the result at a key -/
def opG (bL bR : Bool) (pol : Int) : Option En → Option En → Option En
  | none, none => none
  | some x, none => if bL then some x else none
  | none, some y => if bR then some y else none
  | some x, some y => if polB pol then some ⟨x.key, chooseV pol x.val y.val⟩ else none
/-- r is the result for l and m -/
structure OpL (bL bR : Bool) (pol : Int) (l m r : List En) : Prop where
  up : Up r
  wf : WfL r
  get : ∀ k, getE r k = opG bL bR pol (getE l k) (getE m k)
theorem nodup_sub {α : Type} [DecidableEq α] : ∀ (l m : List α), l.Nodup → (∀ x ∈ l, x ∈ m) → l.length ≤ m.length
  | [], m, _, _ => Nat.zero_le _
  | x :: t, m, hn, hs => by
    rw [List.nodup_cons] at hn
    have h1 := nodup_sub t (m.erase x) hn.2 fun y hy => (List.mem_erase_of_ne (fun (e : y = x) => hn.1 (e ▸ hy))).2 (hs y (by simp [hy]))
    have hx : x ∈ m := hs x (by simp)
    rw [List.length_erase_of_mem hx] at h1
    have := List.length_pos_of_mem hx
    rw [List.length_cons]
    omega
theorem up_keys {l : List En} (h : Up l) : (l.map (·.key)).Nodup := by
  rw [List.nodup_iff_pairwise_ne, List.pairwise_map]
  exact h.imp fun {a b} q => Int.ne_of_lt q
theorem getE_has {l : List En} {k : Int} (h : getE l k ≠ none) : k ∈ l.map (·.key) := by
  cases hg : getE l k with
  | none => exact absurd hg h
  | some e => exact List.mem_map.2 ⟨e, List.mem_of_find?_eq_some hg, getE_key hg⟩
theorem OpL.has {bL bR : Bool} {pol : Int} {l m r : List En} (h : OpL bL bR pol l m r) {k : Int} (hk : getE r k ≠ none) : getE l k ≠ none ∨ getE m k ≠ none := by
  rw [h.get] at hk
  cases h1 : getE l k with
  | some x => exact .inl (by simp)
  | none => cases h2 : getE m k with
    | some y => exact .inr (by simp)
    | none => rw [h1, h2] at hk; exact absurd rfl hk
theorem OpL.len {bL bR : Bool} {pol : Int} {l m r : List En} (h : OpL bL bR pol l m r) : r.length ≤ l.length + m.length := by
  have h1 := nodup_sub (r.map (·.key)) (l.map (·.key) ++ m.map (·.key)) (up_keys h.up) fun k hk => by
    obtain ⟨e, he, rfl⟩ := List.mem_map.1 hk
    rw [List.mem_append]
    exact (h.has (k := e.key) (by rw [getE_found0 h.up he]; simp)).imp getE_has getE_has
  rw [List.length_append, List.length_map, List.length_map, List.length_map] at h1
  exact h1
theorem OpL.lt {bL bR : Bool} {pol : Int} {l m r : List En} (h : OpL bL bR pol l m r) {k : Int} (hl : ∀ y ∈ l, y.key < k) (hm : ∀ y ∈ m, y.key < k) : ∀ y ∈ r, y.key < k := fun y hy => by
  rcases h.has (k := y.key) (by rw [getE_found0 h.up hy]; simp) with h1 | h1
  · obtain ⟨e, he, h2⟩ := List.mem_map.1 (getE_has h1)
    have := hl e he
    rw [← h2]; exact this
  · obtain ⟨e, he, h2⟩ := List.mem_map.1 (getE_has h1)
    have := hm e he
    rw [← h2]; exact this
theorem OpL.gt {bL bR : Bool} {pol : Int} {l m r : List En} (h : OpL bL bR pol l m r) {k : Int} (hl : ∀ y ∈ l, k < y.key) (hm : ∀ y ∈ m, k < y.key) : ∀ y ∈ r, k < y.key := fun y hy => by
  rcases h.has (k := y.key) (by rw [getE_found0 h.up hy]; simp) with h1 | h1
  · obtain ⟨e, he, h2⟩ := List.mem_map.1 (getE_has h1)
    have := hl e he
    rw [← h2]; exact this
  · obtain ⟨e, he, h2⟩ := List.mem_map.1 (getE_has h1)
    have := hm e he
    rw [← h2]; exact this
theorem getE_nil (k : Int) : getE [] k = none := rfl
theorem op_nil_l {bL bR : Bool} {pol : Int} {m : List En} (hu : Up m) (hw : WfL m) : OpL bL bR pol [] m (if bR then m else []) := by
  cases bR with
  | true => exact ⟨hu, hw, fun k => by rw [getE_nil]; cases h : getE m k <;> simp [opG, h]⟩
  | false => exact ⟨List.Pairwise.nil, fun y hy => (by cases hy), fun k => by rw [getE_nil]; cases h : getE m k <;> simp [opG, getE_nil]⟩
theorem op_nil_r {bL bR : Bool} {pol : Int} {l : List En} (hu : Up l) (hw : WfL l) : OpL bL bR pol l [] (if bL then l else []) := by
  cases bL with
  | true => exact ⟨hu, hw, fun k => by rw [getE_nil]; cases h : getE l k <;> simp [opG, h]⟩
  | false => exact ⟨List.Pairwise.nil, fun y hy => (by cases hy), fun k => by rw [getE_nil]; cases h : getE l k <;> simp [opG, getE_nil]⟩
theorem chooseV_same {p v : Int} (h : p ≠ 3) : chooseV p v v = v := by
  unfold chooseV
  rw [if_neg h]
  simp
theorem op_same {bL bR : Bool} {pol : Int} {l : List En} (hu : Up l) (hw : WfL l) (h : pol ≠ 3) : OpL bL bR pol l l (if polB pol then l else []) := by
  cases hp : polB pol with
  | true => exact ⟨hu, hw, fun k => by cases h1 : getE l k <;> simp [opG, h1, hp, chooseV_same h]⟩
  | false => exact ⟨List.Pairwise.nil, fun y hy => (by cases hy), fun k => by cases h1 : getE l k <;> simp [opG, getE_nil, hp]⟩
theorem get_lowO (m : List En) (K k : Int) : getE (lowE m K) k = if k < K then getE m k else none := by
  unfold getE lowE
  rw [List.find?_filter]
  by_cases h : k < K
  · rw [if_pos h]
    congr 1
    funext y
    by_cases hy : y.key = k
    · simp [hy, h]
    · simp [hy]
  · rw [if_neg h]
    refine List.find?_eq_none.2 fun y hy => ?_
    by_cases hy : y.key = k
    · simp [hy]; omega
    · simp [hy]
theorem get_highO (m : List En) (K k : Int) : getE (highE m K) k = if K < k then getE m k else none := by
  unfold getE highE
  rw [List.find?_filter]
  by_cases h : K < k
  · rw [if_pos h]
    congr 1
    funext y
    by_cases hy : y.key = k
    · simp [hy, h]
    · simp [hy]
  · rw [if_neg h]
    refine List.find?_eq_none.2 fun y hy => ?_
    by_cases hy : y.key = k
    · simp [hy]; omega
    · simp [hy]
/-- both sides of a key, and the key itself -/
theorem op_node {bL bR : Bool} {pol : Int} {ll lr m r1 r2 : List En} {e : En} {o : Option En} (hu : Up (ll ++ e :: lr)) (h1 : OpL bL bR pol ll (lowE m e.key) r1) (h2 : OpL bL bR pol lr (highE m e.key) r2) (ho : opG bL bR pol (some e) (getE m e.key) = o) (hw : ∀ f, o = some f → f.key = e.key ∧ i64R f.key ∧ i64R f.val) :
    (∀ y ∈ r1, y.key < e.key) ∧ (∀ y ∈ r2, e.key < y.key) ∧ OpL bL bR pol (ll ++ e :: lr) m (r1 ++ (o.toList ++ r2)) := by
  obtain ⟨u1, u2, u3, u4⟩ := up_app hu
  have k1 : ∀ y ∈ r1, y.key < e.key := h1.lt u3 fun y hy => by have := (List.mem_filter.1 hy).2; simpa using this
  have k2 : ∀ y ∈ r2, e.key < y.key := h2.gt u4 fun y hy => by have := (List.mem_filter.1 hy).2; simpa using this
  have ko : ∀ y ∈ o.toList, y.key = e.key ∧ i64R y.key ∧ i64R y.val := fun y hy => hw y (by simpa using hy)
  refine ⟨k1, k2, List.pairwise_append.2 ⟨h1.up, List.pairwise_append.2 ⟨?_, h2.up, fun x hx y hy => ?_⟩, fun x hx y hy => ?_⟩, fun y hy => ?_, fun k => ?_⟩
  · cases o with
    | none => exact List.Pairwise.nil
    | some f => exact List.pairwise_singleton _ _
  · have := (ko x hx).1; have := k2 y hy; omega
  · have := k1 x hx
    rcases List.mem_append.1 hy with hy | hy
    · have := (ko y hy).1; omega
    · have := k2 y hy; omega
  · rcases List.mem_append.1 hy with hy | hy
    · exact h1.wf y hy
    · rcases List.mem_append.1 hy with hy | hy
      · exact (ko y hy).2
      · exact h2.wf y hy
  · rw [getE_app, getE_app, getE_app, getE_cons]
    have n1 : ¬ k < e.key → getE r1 k = none ∧ getE ll k = none := fun h => ⟨getE_none fun y hy => by have := k1 y hy; omega, getE_none fun y hy => by have := u3 y hy; omega⟩
    have n2 : ¬ e.key < k → getE r2 k = none ∧ getE lr k = none := fun h => ⟨getE_none fun y hy => by have := k2 y hy; omega, getE_none fun y hy => by have := u4 y hy; omega⟩
    have no : e.key ≠ k → getE o.toList k = none := fun h => getE_none fun y hy => by have := (ko y hy).1; omega
    rcases Int.lt_trichotomy k e.key with h | h | h
    · have hq := n2 (by omega)
      rw [hq.1, hq.2, no (by omega), if_neg (by omega), h1.get, get_lowO, if_pos h]
      simp
    · subst h
      have hq := n1 (by omega)
      have hq2 := n2 (by omega)
      rw [hq.1, hq.2, hq2.1, if_pos rfl]
      have : getE o.toList e.key = o := by
        cases o with
        | none => rfl
        | some f =>
          have := (hw f rfl).1
          show getE [f] e.key = _
          rw [getE_cons, if_pos this]
      rw [this]
      simp [ho]
    · have hq := n1 (by omega)
      rw [hq.1, hq.2, no (by omega), if_neg (by omega), h2.get, get_highO, if_pos h]
      simp
/-- the four operations -/
theorem op_union {pol : Int} {l m r : List En} (hl : Up l) (hm : Up m) (hp : polB pol = true) (h : OpL true true pol l m r) : r = unionE l m pol := by
  refine up_get_ext h.up (unionE_up hl _ _ _ hl) fun k => ?_
  rw [h.get, get_union hl hm]
  cases h1 : getE l k with
  | none => cases h2 : getE m k with
    | none => rfl
    | some y =>
      have k2 := getE_key h2
      simp [opG, mixE, k2, h1]
      cases y; simp at k2; simp [k2]
  | some x =>
    have k1 := getE_key h1
    cases h2 : getE m k with
    | none => simp [opG]
    | some y => have k2 := getE_key h2; simp [opG, mixE, k1, k2, h1, hp]
theorem op_int {pol : Int} {l m r : List En} (hl : Up l) (hp : polB pol = true) (h : OpL false false pol l m r) : r = intE l m pol := by
  refine up_get_ext h.up (intE_up hl m pol) fun k => ?_
  rw [h.get, get_int hl]
  cases h1 : getE l k with
  | none => cases h2 : getE m k <;> simp [opG]
  | some x =>
    have k1 := getE_key h1
    cases h2 : getE m k with
    | none => simp [opG, bothE, k1, h2]
    | some y => simp [opG, bothE, k1, h2, hp]
theorem op_sub {pol : Int} {l m r : List En} (hl : Up l) (hp : polB pol = false) (h : OpL true false pol l m r) : r = subE l m := by
  refine up_get_ext h.up (subE_up hl m) fun k => ?_
  rw [h.get, get_sub hl]
  cases h1 : getE l k with
  | none => cases h2 : getE m k <;> simp [opG]
  | some x => cases h2 : getE m k <;> simp [opG, hp]
theorem op_exc {pol : Int} {l m r : List En} (hl : Up l) (hm : Up m) (hp : polB pol = false) (h : OpL true true pol l m r) : r = excE l m := by
  refine up_get_ext h.up (excE_up hl) fun k => ?_
  rw [h.get]
  unfold excE
  rw [get_union (subE_up hl m) (subE_up hm l), get_sub hl, get_sub hm]
  cases h1 : getE l k with
  | none => cases h2 : getE m k with
    | none => rfl
    | some y =>
      have k2 := getE_key h2
      simp [opG, mixE, k2, h1, get_sub hl]
      cases y; simp at k2; simp [k2]
  | some x =>
    have k1 := getE_key h1
    cases h2 : getE m k with
    | none => simp [opG]
    | some y => simp [opG, hp]
structure Kt where
  i : Nat
  t : Tr
  l : List En
def kti (H : List Kt) : List Nat := H.map (·.i)
def ktn (H : List Kt) : Nat := (H.map fun h => h.l.length).sum
theorem ktn_cons (H : List Kt) (d : Kt) : ktn (d :: H) = d.l.length + ktn H := by simp [ktn]
theorem kti_len (H : List Kt) : (kti H).length = H.length := List.length_map _
open Go.RowKit
theorem Mid.two {A B : Ar} {held : Nat → Nat} (h : Mid A held B []) {x y : Nat} (hx : B.Idx x) (hy : B.Idx y) : Mid A held ((B.ret x).ret y) [y, x] ∧ B.Kept ((B.ret x).ret y) ∧ ((B.ret x).ret y).σ = B.σ := by
  obtain ⟨m1, m2, m3, m4⟩ := h.ret hx
  obtain ⟨n1, n2, n3, n4⟩ := m1.ret (i := y) (hy.imp id fun q => by rw [m3]; exact q)
  exact ⟨n1, m2.trans n2, n3.trans m3⟩
set_option maxHeartbeats 16000000 in
set_option maxRecDepth 100000 in
theorem cut_nil (I : AImpl) : CutOk I .nil := by
  intro p A rd F held i l k w hP
  obtain ⟨pa, rfl⟩ := I.ptr hP.is
  have hin : (Tryz.prog.info? 185).map (·.size) = some 4 := by kernel_rfl
  have HINF := Lib.hid hin
  have HUN : Hid _ := Lib.hid Tryz.underlying185
  have hs0 := (Ins.start hP.is).box #[.int .u32 0, .int .i64 0, .bool false, .int .u32 0] 185
  have hl : l = [] := by
    have := hP.tree.size
    exact List.eq_nil_of_length_eq_zero this.symm
  have hi : i = 0 := (hP.tree.zero_iff (held := held)).2 hl
  subst hl hi
  obtain ⟨m1, m2, m3⟩ := (Mid.start hP.inv hP.agg).two (x := 0) (y := 0) (.inl rfl) (.inl rfl)
  have e0 : (A.ret 0).ret 0 = A := by
    have e : A.ret 0 = A := if_pos rfl
    rw [e, e]
  rw [e0] at m1
  have HQ : Hid (SpQ A rd held Tr.nil.ht Tr.nil.ht [] k (.returned (.tuple #[.agg #[Value.int .u32 0, .int .i64 0, .bool false, .int .u32 0], .int .i64 0])) A rd) :=
    ⟨Int.le_refl _, 0, Nat.zero_le _, by show rd ≤ rd + 14 * 0 + 3 * 0; omega, 0, 0, .nil, .nil, rfl, m1, .nil A, .nil A, by omega⟩
  clear hP m1 m2 m3 e0 hin
  go_enter Tryz.func141, Tryz.ntmps141
  go_upto_region 1 with fail
  generalize w.alloc (Obj.cells #[.int .u32 0, .int .i64 0, .bool false, .int .u32 0] 185) = w1 at hs0 ⊢
  generalize w.heap.size = q at hs0 ⊢
  obtain ⟨⟨y0, y1, y2, y3⟩, f0, f1, f2, f3⟩ := cells4_of (hs0.boxes _ (List.Mem.head _)).2
  have hp := hs0.putP 0 0 false 0
  have HE : Hid ((∃ F', Alters F F' w (putP w1 q 0 0 false 0) ∧ I.Is (putP w1 q 0 0 false 0) (.pointer (some pa)) A rd F') ∧ (putP w1 q 0 0 false 0).heap[q]? = some (Obj.cells (ptR 0 0 false 0) 185 (0, 0))) := ⟨hp.ends, (hp.boxes _ (List.Mem.head _)).2⟩
  clear hp hs0
  go_wp2_with fail
  refine bodyPost_ret (results_row_tmp rfl _ _ q 185 #[Value.int .u32 0, .int .i64 0, .bool false, .int .u32 0] (0, 0) _ rfl HE.out.2 HUN.out rfl HINF.out) rfl ?_
  obtain ⟨F', hal, hI⟩ := HE.out.1
  exact ⟨F', _, rd, hal, hI, HQ.out⟩
set_option maxHeartbeats 16000000 in
set_option maxRecDepth 100000 in
theorem cut_node (I : AImpl) (K : RotImpl I) (KN : ShNum) {i' : Nat} {tl tr : Tr} (ihl : CutOk I tl) (ihr : CutOk I tr) : CutOk I (.node i' tl tr) := by
  intro p A rd F held i l k w hP
  obtain ⟨pa, rfl⟩ := I.ptr hP.is
  have hin : (Tryz.prog.info? 185).map (·.size) = some 4 := by kernel_rfl
  have HINF := Lib.hid hin
  have HUN : Hid _ := Lib.hid Tryz.underlying185
  have hs0 := (Ins.start hP.is).box #[.int .u32 0, .int .i64 0, .bool false, .int .u32 0] 185
  have hi0 : i ≠ 0 := fun q => by
    have h1 := (hP.tree.zero_iff (held := held)).1 q
    have h2 := hP.tree.size
    rw [h1] at h2
    have h3 : (Tr.node i' tl tr).size = tl.size + tr.size + 1 := rfl
    rw [h3] at h2
    simp at h2
  have hon := hP.tree.idx.resolve_left hi0
  obtain ⟨XN, hX⟩ : ∃ x, A.nd i = x := ⟨_, rfl⟩
  have HK := Lib.hid K
  have HKN := Lib.hid KN
  have HIL : Hid (CutOk I tl) := @ihl
  have HIR : Hid (CutOk I tr) := @ihr
  have HI0 : Hid (i ≠ 0) := hi0
  have HON := Lib.hid hon
  have HX := Lib.hid hX
  have HHT : Hid (tl.ht + 1 ≤ (Tr.node i' tl tr).ht ∧ tr.ht + 1 ≤ (Tr.node i' tl tr).ht) := by
    have h1 : (Tr.node i' tl tr).ht = 1 + max tl.ht tr.ht := rfl
    have h2 := Nat.le_max_left tl.ht tr.ht
    have h3 := Nat.le_max_right tl.ht tr.ht
    exact ⟨by omega, by omega⟩
  have HP : Hid (A.Inv [] held ∧ A.Agg ∧ (∀ j, held j ≤ 1048300) ∧ At A i (.node i' tl tr) l ∧ Up l ∧ WfL l ∧ i64R k ∧ l.length ≤ 2147483646 ∧ 3 * (xh (lowE l k).length + xh (highE l k).length + (Tr.node i' tl tr).ht) + 4 ≤ A.σ.free.length) := ⟨hP.inv, hP.agg, hP.few, hP.tree, hP.up, hP.wf, hP.wk, hP.size, hP.room⟩
  have HRD : Hid (0 ≤ rd ∧ rd + 14 * ((xh (lowE l k).length + xh (highE l k).length + (Tr.node i' tl tr).ht : Nat) : Int) + 3 * ((Tr.node i' tl tr).ht : Int) + 0 ≤ 2199023253000) := ⟨hP.rd0, hP.rd1⟩
  have hi1 : ¬ (i : Int) = 0 := by omega
  have hi2 : decide ((i : Int) = 0) = false := decide_eq_false hi1
  clear hP ihl ihr hi0 hon hX K KN hin
  go_enter Tryz.func141, Tryz.ntmps141
  go_upto_region 1 with fail
  generalize w.alloc (Obj.cells #[.int .u32 0, .int .i64 0, .bool false, .int .u32 0] 185) = w1 at hs0 ⊢
  generalize w.heap.size = q at hs0 ⊢
  have HS0 := Lib.hid hs0
  clear hs0
  go_wp2_with fail
  refine (HS0.out.call fun F1 hI1 => readJ_any I w1 hI1 HP.out.1 HP.out.2.1 HON.out HX.out HRD.out.1 (by have := HRD.out; omega)).mono ?_
  rintro en w2 ⟨rfl, rd1, hs, r1, r2⟩
  have HR1 : Hid (rd ≤ rd1 ∧ rd1 ≤ rd + 3) := ⟨r1, r2⟩
  have hs1 := hs.box #[Value.int .i64 XN.key, .int .i64 XN.val, .int .u32 (XN.left : Int), .int .u32 (XN.right : Int), .int .i64 XN.size, .int .i64 XN.sum, .int .i64 XN.mn, .int .i64 XN.mx] 81
  clear hs HS0 r1 r2
  go_upto_region 6 with fail
  generalize w2.alloc (Obj.cells #[Value.int .i64 XN.key, .int .i64 XN.val, .int .u32 (XN.left : Int), .int .u32 (XN.right : Int), .int .i64 XN.size, .int .i64 XN.sum, .int .i64 XN.mn, .int .i64 XN.mx] 81) = w3 at hs1 ⊢
  generalize w2.heap.size = g at hs1 ⊢
  have HS1 := Lib.hid hs1
  clear hs1
  rcases Int.lt_trichotomy k XN.key with hk | hk | hk
  rotate_left
  rotate_left
  · have HKK : Hid (XN.key < k) := hk
    have HSO := HS1
    clear HS1
    obtain ⟨⟨x0, x1, x2, x3, x4, x5, x6, x7⟩, -⟩ := HSO.out.row8 (g := g) (X := XN) (by simp [ndRow])
    have d1 : decide (k < XN.key) = false := decide_eq_false (by omega)
    have d2 : decide (XN.key < k) = true := decide_eq_true hk
    have d3 : ¬ k < XN.key := by omega
    go_wp2_with fail
    refine (HSO.out.mut fun F1 hI1 => cutRight_any I HK.out HKN.out HIR.out (i := i) w3 ⟨hI1, HP.out.1, HP.out.2.1, HP.out.2.2.1, HP.out.2.2.2.1, HP.out.2.2.2.2.1, HP.out.2.2.2.2.2.1, HP.out.2.2.2.2.2.2.1, HP.out.2.2.2.2.2.2.2.1, by have := HRD.out; have := HR1.out; omega, by have := HRD.out; have := HR1.out; omega, HP.out.2.2.2.2.2.2.2.2⟩ HI0.out HX.out HKK.out).mono ?_
    rintro en w4 ⟨B, rd4, ⟨q0, s, q1, q2, x, y, tx, ty, rfl, q3, q4, q5, q6⟩, hs4⟩
    obtain ⟨V, hV⟩ : ∃ V, (getE l k).elim (0 : Int) (·.val) = V := ⟨_, rfl⟩
    obtain ⟨D, hD⟩ : ∃ D, (getE l k).isSome = D := ⟨_, rfl⟩
    rw [hV, hD]
    have HQ : Hid (SpQ A rd held (Tr.node i' tl tr).ht (Tr.node i' tl tr).ht l k (.returned (.tuple #[.agg #[Value.int .u32 (x : Int), .int .i64 V, .bool D, .int .u32 (y : Int)], .int .i64 0])) B rd4) :=
      ⟨by have := HR1.out; omega, s, by have := HHT.out; omega, by have := HHT.out; have := HR1.out; omega, x, y, tx, ty, by rw [hV, hD], q3, q4, q5, q6⟩
    have hq1 := (hs4.perm (List.Perm.swap _ _ _))
    obtain ⟨⟨y0, y1, y2, y3⟩, f0, f1, f2, f3⟩ := cells4_of (hq1.boxes _ (List.Mem.head _)).2
    have hp := hq1.putP x V D y
    have HE : Hid ((∃ F', Alters F F' w (putP w4 q x V D y) ∧ I.Is (putP w4 q x V D y) (.pointer (some pa)) B rd4 F') ∧ (putP w4 q x V D y).heap[q]? = some (Obj.cells (ptR x V D y) 185 (0, 0))) := ⟨hp.ends, (hp.boxes _ (List.Mem.head _)).2⟩
    clear hp hq1 hs4 hV hD q0 q1 q2 q3 q4 q5 q6 HSO x0 x1 x2 x3 x4 x5 x6 x7
    go_wp2_with fail
    refine bodyPost_ret (results_row_tmp rfl _ _ q 185 #[Value.int .u32 (x : Int), .int .i64 V, .bool D, .int .u32 (y : Int)] (0, 0) _ rfl HE.out.2 HUN.out rfl HINF.out) rfl ?_
    obtain ⟨F', hal, hI⟩ := HE.out.1
    exact ⟨F', _, rd4, hal, hI, HQ.out⟩
  · have HKK : Hid (k < XN.key) := hk
    have HSO := HS1
    clear HS1
    obtain ⟨⟨x0, x1, x2, x3, x4, x5, x6, x7⟩, -⟩ := HSO.out.row8 (g := g) (X := XN) (by simp [ndRow])
    have d1 : decide (k < XN.key) = true := decide_eq_true hk
    go_wp2_with fail
    refine (HSO.out.mut fun F1 hI1 => cutLeft_any I HK.out HKN.out HIL.out (i := i) w3 ⟨hI1, HP.out.1, HP.out.2.1, HP.out.2.2.1, HP.out.2.2.2.1, HP.out.2.2.2.2.1, HP.out.2.2.2.2.2.1, HP.out.2.2.2.2.2.2.1, HP.out.2.2.2.2.2.2.2.1, by have := HRD.out; have := HR1.out; omega, by have := HRD.out; have := HR1.out; omega, HP.out.2.2.2.2.2.2.2.2⟩ HI0.out HX.out HKK.out).mono ?_
    rintro en w4 ⟨B, rd4, ⟨q0, s, q1, q2, x, y, tx, ty, rfl, q3, q4, q5, q6⟩, hs4⟩
    obtain ⟨V, hV⟩ : ∃ V, (getE l k).elim (0 : Int) (·.val) = V := ⟨_, rfl⟩
    obtain ⟨D, hD⟩ : ∃ D, (getE l k).isSome = D := ⟨_, rfl⟩
    rw [hV, hD]
    have HQ : Hid (SpQ A rd held (Tr.node i' tl tr).ht (Tr.node i' tl tr).ht l k (.returned (.tuple #[.agg #[Value.int .u32 (x : Int), .int .i64 V, .bool D, .int .u32 (y : Int)], .int .i64 0])) B rd4) :=
      ⟨by have := HR1.out; omega, s, by have := HHT.out; omega, by have := HHT.out; have := HR1.out; omega, x, y, tx, ty, by rw [hV, hD], q3, q4, q5, q6⟩
    have hq1 := (hs4.perm (List.Perm.swap _ _ _))
    obtain ⟨⟨y0, y1, y2, y3⟩, f0, f1, f2, f3⟩ := cells4_of (hq1.boxes _ (List.Mem.head _)).2
    have hp := hq1.putP x V D y
    have HE : Hid ((∃ F', Alters F F' w (putP w4 q x V D y) ∧ I.Is (putP w4 q x V D y) (.pointer (some pa)) B rd4 F') ∧ (putP w4 q x V D y).heap[q]? = some (Obj.cells (ptR x V D y) 185 (0, 0))) := ⟨hp.ends, (hp.boxes _ (List.Mem.head _)).2⟩
    clear hp hq1 hs4 hV hD q0 q1 q2 q3 q4 q5 q6 HSO x0 x1 x2 x3 x4 x5 x6 x7
    go_wp2_with fail
    refine bodyPost_ret (results_row_tmp rfl _ _ q 185 #[Value.int .u32 (x : Int), .int .i64 V, .bool D, .int .u32 (y : Int)] (0, 0) _ rfl HE.out.2 HUN.out rfl HINF.out) rfl ?_
    obtain ⟨F', hal, hI⟩ := HE.out.1
    exact ⟨F', _, rd4, hal, hI, HQ.out⟩
  · subst hk
    obtain ⟨⟨x0, x1, x2, x3, x4, x5, x6, x7⟩, -⟩ := HS1.out.row8 (g := g) (X := XN) (by simp [ndRow])
    obtain ⟨tl', tr', ll, lr, -, hl, hA, hB, -⟩ := HP.out.2.2.2.1.split HI0.out
    rw [HX.out] at hl hA hB
    have hup := HP.out.2.2.2.2.1
    rw [hl] at hup
    have hcm := cut_m hup
    obtain ⟨m1, m2, m3⟩ := (Mid.start HP.out.1 HP.out.2.1).two hA.idx hB.idx
    obtain ⟨n1, -, n3, -⟩ := (Mid.start HP.out.1 HP.out.2.1).ret hA.idx
    have HQ : Hid (SpQ A rd held (Tr.node i' tl tr).ht (Tr.node i' tl tr).ht l XN.key (.returned (.tuple #[.agg #[Value.int .u32 (XN.left : Int), .int .i64 XN.val, .bool true, .int .u32 (XN.right : Int)], .int .i64 0])) ((A.ret XN.left).ret XN.right) rd1) := by
      unfold SpQ
      rw [hl, hcm.1, hcm.2.1, hcm.2.2]
      exact ⟨HR1.out.1, 0, Nat.zero_le _, by have := HHT.out; have := HR1.out; omega, XN.left, XN.right, tl', tr', rfl, m1, hA.kept m2, hB.kept m2, by rw [m3]; omega⟩
    have HRT : Hid ((A.Idx XN.left ∧ XN.left < 4294967296 ∧ A.cnt XN.left < 4611686018427387904) ∧ (A.ret XN.left).Idx XN.right ∧ XN.right < 4294967296 ∧ (A.ret XN.left).cnt XN.right < 4611686018427387904) :=
      ⟨⟨hA.idx, idx_lt32 HP.out.1 hA.idx, cnt_few HP.out.1 (fun j => Nat.le_trans (HP.out.2.2.1 j) (by decide)) _⟩, hB.idx.imp id (fun q => by rw [n3]; exact q), idx_lt32 HP.out.1 hB.idx, cnt_few n1.inv (fun j => Nat.le_trans (plL_le HP.out.2.2.1 [XN.left] j) (show 1048300 + 1 ≤ 1048576 by decide)) _⟩
    clear hl hA hB hup hcm m1 m2 m3 n1 n3
    have d1 : ¬ XN.key < XN.key := by omega
    have d2 : decide (XN.key < XN.key) = false := decide_eq_false d1
    go_wp2_with fail
    refine (HS1.out.retain HRT.out.1.2.1 HRT.out.1.1 HRT.out.1.2.2).mono ?_
    rintro en w4 ⟨rfl, hs4⟩
    have HS4 := Lib.hid hs4
    clear hs4 HS1 x0 x1 x2 x3 x4 x5 x6 x7
    obtain ⟨⟨x0, x1, x2, x3, x4, x5, x6, x7⟩, -⟩ := HS4.out.row8 (g := g) (X := XN) (by simp [ndRow])
    go_wp2_with fail
    refine (HS4.out.retain HRT.out.2.2.1 HRT.out.2.1 HRT.out.2.2.2).mono ?_
    rintro en w5 ⟨rfl, hs5⟩
    have HS5 := Lib.hid hs5
    clear hs5 HS4 x0 x1 x2 x3 x4 x5 x6 x7
    obtain ⟨⟨x0, x1, x2, x3, x4, x5, x6, x7⟩, -⟩ := HS5.out.row8 (g := g) (X := XN) (by simp [ndRow])
    have hne : ¬ g = q := (List.pairwise_cons.1 HS5.out.bb).1 _ (List.Mem.head _)
    have hne2 : ¬ q = g := fun e => hne e.symm
    have hq1 := (HS5.out.perm (List.Perm.swap _ _ _))
    obtain ⟨⟨y0, y1, y2, y3⟩, f0, f1, f2, f3⟩ := cells4_of (hq1.boxes _ (List.Mem.head _)).2
    have hp := hq1.putP XN.left XN.val true XN.right
    have HE : Hid ((∃ F', Alters F F' w (putP w5 q XN.left XN.val true XN.right) ∧ I.Is (putP w5 q XN.left XN.val true XN.right) (.pointer (some pa)) ((A.ret XN.left).ret XN.right) rd1 F') ∧ (putP w5 q XN.left XN.val true XN.right).heap[q]? = some (Obj.cells (ptR XN.left XN.val true XN.right) 185 (0, 0))) := ⟨hp.ends, (hp.boxes _ (List.Mem.head _)).2⟩
    clear hp hq1 HS5
    go_wp2_with fail
    refine bodyPost_ret (results_row_tmp rfl _ _ q 185 #[Value.int .u32 (XN.left : Int), .int .i64 XN.val, .bool true, .int .u32 (XN.right : Int)] (0, 0) _ rfl HE.out.2 HUN.out rfl HINF.out) rfl ?_
    obtain ⟨F', hal, hI⟩ := HE.out.1
    exact ⟨F', _, rd1, hal, hI, HQ.out⟩
theorem cut_all (I : AImpl) (K : RotImpl I) (KN : ShNum) : ∀ t, CutOk I t
  | .nil => cut_nil I
  | .node _ l r => cut_node I K KN (cut_all I K KN l) (cut_all I K KN r)
end Go.Proofs.YtfihklpofmcfgaaGreat
namespace Go.Proofs.YtfihklpofmcfgaaGreat
structure Hd (A : Ar) (held : Nat → Nat) (B : Ar) (H : List Kt) : Prop where
  mid : Mid A held B (kti H)
  at_ : ∀ d ∈ H, At B d.i d.t d.l
theorem hof_mem {X : List Nat} {i : Nat} (h : 0 < hof X i) : i ∈ X := by
  unfold hof at h
  split at h
  · cases h
  · exact List.count_pos_iff.1 h
/-- all that is reached was there or lies in the trees -/
theorem reach_hd {A B : Ar} {held : Nat → Nat} {X : List Nat} {ts : List Tr} (hM : Mid A held B X) (hT : ∀ x ∈ X, ∃ t ∈ ts, Sub B x t) {k : Nat} (h : B.Reach (plL held X) k) : k = 0 ∨ A.σ.on k = true ∨ ∃ t ∈ ts, (∃ i, Sub B i t) ∧ k ∈ t.idxs := by
  induction h with
  | root i hi =>
    have hi' : 0 < held i + hof X i := hi
    by_cases h0 : 0 < held i
    · exact .inr (.inl (hM.base.held i h0))
    · obtain ⟨t, ht, hs⟩ := hT i (hof_mem (by omega))
      rcases hs.top_mem with h1 | h1
      · exact .inl h1
      · exact .inr (.inr ⟨t, ht, ⟨i, hs⟩, h1⟩)
  | left k hon hk ih =>
    rcases ih with rfl | h1 | ⟨t, ht, ⟨i, hs⟩, hm⟩
    · exact absurd (hM.inv.ok.on 0 hon).1 (by decide)
    · rw [hM.kept.nd k h1]
      rcases (hM.base.child k h1).1 with h2 | h2
      · exact .inl h2
      · exact .inr (.inl h2)
    · rcases (hs.closed k hm).1 with h2 | h2
      · exact .inl h2
      · exact .inr (.inr ⟨t, ht, ⟨i, hs⟩, h2⟩)
  | right k hon hk ih =>
    rcases ih with rfl | h1 | ⟨t, ht, ⟨i, hs⟩, hm⟩
    · exact absurd (hM.inv.ok.on 0 hon).1 (by decide)
    · rw [hM.kept.nd k h1]
      rcases (hM.base.child k h1).2 with h2 | h2
      · exact .inl h2
      · exact .inr (.inl h2)
    · rcases (hs.closed k hm).2 with h2 | h2
      · exact .inl h2
      · exact .inr (.inr ⟨t, ht, ⟨i, hs⟩, h2⟩)
section
variable {A B C : Ar} {held : Nat → Nat} {H : List Kt}
theorem Hd.free (h : Hd A held B H) : A.σ.free.length ≤ B.σ.free.length + ktn H := by
  have hT : ∀ x ∈ kti H, ∃ t ∈ H.map (·.t), Sub B x t := fun x hx => by
    obtain ⟨d, hd, rfl⟩ := List.mem_map.1 hx
    exact ⟨d.t, List.mem_map.2 ⟨d, hd, rfl⟩, (h.at_ d hd).sub⟩
  have h1 : A.σ.free.length ≤ (B.σ.free ++ (H.map (·.t)).flatMap Tr.idxs).length := sub_len _ _ h.mid.base.ok.nodup fun x hx => by
    have hx' := (h.mid.base.ok.free x).1 hx
    rw [List.mem_append]
    cases ho : B.σ.on x with
    | false => exact .inl ((h.mid.inv.ok.free x).2 ⟨hx'.1, by rw [h.mid.kept.cap]; exact hx'.2.1, ho⟩)
    | true =>
      have hr := Ar.reach_all h.mid.inv h.mid.agg 2147483648 x ho (by have := (h.mid.agg.size x ho).1; omega)
      rcases reach_hd h.mid hT hr with rfl | h2 | ⟨t, ht, -, hm⟩
      · omega
      · rw [hx'.2.2] at h2; cases h2
      · exact .inr (List.mem_flatMap.2 ⟨t, ht, hm⟩)
  rw [List.length_append, List.length_flatMap] at h1
  have h2 : (List.map (fun t => t.idxs.length) (H.map (·.t))).sum = ktn H := by
    unfold ktn
    rw [List.map_map]
    congr 1
    exact List.map_congr_left fun d hd => (Tr.idxs_len d.t).trans (h.at_ d hd).size
  have h3 : (List.map (List.length ∘ Tr.idxs) (H.map (·.t))).sum = ktn H := h2
  omega
theorem Hd.perm {K : List Kt} (h : Hd A held B H) (hp : H.Perm K) : Hd A held B K := ⟨h.mid.perm (hp.map _), fun d hd => h.at_ d (hp.mem_iff.2 hd)⟩
theorem Hd.start (hv : A.Inv [] held) (ha : A.Agg) : Hd A held A [] := ⟨Mid.start hv ha, fun d hd => (by cases hd)⟩
/-- a reference more -/
theorem Hd.ret (h : Hd A held B H) {i : Nat} {t : Tr} {l : List En} (hi : At B i t l) : Hd A held (B.ret i) (⟨i, t, l⟩ :: H) ∧ B.Kept (B.ret i) ∧ (B.ret i).σ = B.σ := by
  obtain ⟨m1, m2, m3, m4⟩ := h.mid.ret hi.idx
  refine ⟨⟨m1, fun d hd => ?_⟩, m2, m3⟩
  rcases List.mem_cons.1 hd with rfl | hd
  · exact hi.kept m2
  · exact (h.at_ d hd).kept m2
/-- a reference less -/
theorem Hd.give {d : Kt} (h : Hd A held B (d :: H)) : B.Inv [d.i] (plL held (kti H)) ∧ B.Idx d.i ∧ d.i < 4294967296 ∧ Hd A held (B.gone d.i) H := by
  obtain ⟨g1, g2, g3, g4, g5, g6⟩ := h.mid.give (x := d.i) (X := kti H)
  refine ⟨g1, g2, idx_lt32B h.mid.inv g2, g3, fun x hx => ?_⟩
  have hx' : x.i ∈ kti H := List.mem_map.2 ⟨x, hx, rfl⟩
  exact (h.at_ x (List.mem_cons_of_mem _ hx)).gone g3.inv (g5 x.i hx' (h.at_ x (List.mem_cons_of_mem _ hx)).idx)
/-- a new tree -/
theorem Hd.got {j : Nat} {t : Tr} {l : List En} (h : Hd A held B H) (hg : Got B (plL held (kti H)) C j t l) : Hd A held C (⟨j, t, l⟩ :: H) := by
  have hm : Mid B (plL held (kti H)) C [j] := ⟨h.mid.inv, h.mid.agg, hg.kept, hg.gen, by rw [plL_cons, plL_nil]; exact hg.inv, hg.agg⟩
  refine ⟨h.mid.nest hm, fun d hd => ?_⟩
  rcases List.mem_cons.1 hd with rfl | hd
  · exact ⟨hg.sub, hg.bal, hg.ents⟩
  · exact (h.at_ d hd).kept hg.kept
theorem Hd.got2 {j k : Nat} {t u : Tr} {l m : List En} (h : Hd A held B H) (hg : Got2 B (plL held (kti H)) C j t l k u m) : Hd A held C (⟨k, u, m⟩ :: ⟨j, t, l⟩ :: H) := by
  have hm : Mid B (plL held (kti H)) C [k, j] := ⟨h.mid.inv, h.mid.agg, hg.kept, hg.gen, by rw [plL_cons, plL_cons, plL_nil]; exact hg.inv, hg.agg⟩
  refine ⟨h.mid.nest hm, fun d hd => ?_⟩
  rcases List.mem_cons.1 hd with rfl | hd
  · exact ⟨hg.sub2, hg.bal2, hg.ents2⟩
  · rcases List.mem_cons.1 hd with rfl | hd
    · exact ⟨hg.sub, hg.bal, hg.ents⟩
    · exact (h.at_ d hd).kept hg.kept
theorem Hd.tree (h : Hd A held B H) {i : Nat} {t : Tr} {l : List En} (hi : At B i t l) (hu : Up l) : TreeAt B i t l := ⟨⟨_, h.mid.inv⟩, h.mid.agg, hi.sub, hi.bal, hi.ents, hu⟩
theorem Hd.of (h : Hd A held B H) {i : Nat} {t : Tr} {l : List En} (hi : At A i t l) : At B i t l := hi.kept h.mid.kept
theorem Hd.few (h : Hd A held B H) (hm : ∀ j, held j ≤ 1048000) (hl : H.length ≤ 200) (j : Nat) : plL held (kti H) j ≤ 1048200 := by
  have h1 := plL_le hm (kti H) j
  rw [kti_len] at h1
  omega
/-- the call ends with one tree -/
theorem Hd.done {d : Kt} (h : Hd A held B [d]) : Got A held B d.i d.t d.l := Mid.got (j := d.i) h.mid (h.at_ d (by simp))
end
theorem At.eqH {A : Ar} {i : Nat} {t u : Tr} {l m : List En} (h : At A i t l) (h' : At A i u m) : t = u ∧ l = m := by
  have e := h.sub.unique h'.sub
  subst e
  exact ⟨rfl, h.ents.symm.trans h'.ents⟩
open Go.RowKit
theorem results_2row_tmp {P : Program} {fn : Func} {p q u : Tmp} {ty tq : TypeId} (h : fn.results = #[.cell p ty, .cell q tq, .tmp u]) (tmps : Array Value) (w : World) (g k : Nat) (t tk : TypeId) (cs ck : Array Value) (fr fk : Nat × Nat) (d dk : TypeDesc)
    (hp : tmps.getD p undef = .pointer (some ⟨g, 0, none⟩)) (hg : w.heap[g]? = some (.cells cs t fr))
    (hu : P.underlying ty = some d) (hd : (match d with | .struct _ | .array _ _ => true | _ => false) = true) (hi : (P.info? ty).map (·.size) = some cs.size)
    (hq : tmps.getD q undef = .pointer (some ⟨k, 0, none⟩)) (hk : w.heap[k]? = some (.cells ck tk fk))
    (huk : P.underlying tq = some dk) (hdk : (match dk with | .struct _ | .array _ _ => true | _ => false) = true) (hik : (P.info? tq).map (·.size) = some ck.size) :
    (results fn tmps).run P w = .ok (.tuple #[.agg cs, .agg ck, tmps.getD u undef]) w := by
  have e : (results fn tmps).run P w = ((asAddr (tmps.getD p undef)).run P w).andThen fun a w₁ => ((loadVar ty a).run P w₁).andThen fun x w₂ => ((asAddr (tmps.getD q undef)).run P w₂).andThen fun b w₃ => ((loadVar tq b).run P w₃).andThen fun y w₄ => .ok (.tuple #[x, y, tmps.getD u undef]) w₄ := by
    simp only [results, h]
    simp [Sem.run_bind, Result.andThen]
  rw [e]
  simp [hp, hq, asAddr, Result.andThen, run_loadVar_row w g t ty cs fr d hg hu hd hi, run_loadVar_row w k tk tq ck fk dk hk huk hdk hik]
def opC (p : Value) (bL bR : Bool) (pol : Int) (u : Nat) : Array Value := #[p, .bool bL, .bool bR, .int .i64 pol, .int .i64 (u : Int)]
theorem cells5_of {w : World} {g : Nat} {c0 c1 c2 c3 c4 : Value} {t : TypeId} (h : w.heap[g]? = some (.cells #[c0, c1, c2, c3, c4] t (0, 0))) :
    (w.cell? ⟨g, 0, none⟩ = some c0 ∧ w.cell? ⟨g, 1, none⟩ = some c1 ∧ w.cell? ⟨g, 2, none⟩ = some c2 ∧ w.cell? ⟨g, 3, none⟩ = some c3 ∧ w.cell? ⟨g, 4, none⟩ = some c4) ∧ w.frozen? ⟨g, 4, none⟩ = false :=
  ⟨⟨by rw [cell_of_row _ _ _ _ _ _ h]; rfl, by rw [cell_of_row _ _ _ _ _ _ h]; rfl, by rw [cell_of_row _ _ _ _ _ _ h]; rfl, by rw [cell_of_row _ _ _ _ _ _ h]; rfl, by rw [cell_of_row _ _ _ _ _ _ h]; rfl⟩, frozen_of_row _ _ _ _ _ h⟩
theorem opC_of {w : World} {g : Nat} {p : Value} {bL bR : Bool} {pol : Int} {u : Nat} {t : TypeId} (h : w.heap[g]? = some (.cells (opC p bL bR pol u) t (0, 0))) :
    (w.cell? ⟨g, 0, none⟩ = some p ∧ w.cell? ⟨g, 1, none⟩ = some (.bool bL) ∧ w.cell? ⟨g, 2, none⟩ = some (.bool bR) ∧ w.cell? ⟨g, 3, none⟩ = some (.int .i64 pol) ∧ w.cell? ⟨g, 4, none⟩ = some (.int .i64 (u : Int))) ∧ w.frozen? ⟨g, 4, none⟩ = false := cells5_of h
/-- the first box's cell n is written -/
theorem Ins.cellO {I : AImpl} {w wr : World} {F : Nat → Prop} {p : Value} {A : Ar} {rd : Int} {rs : List Row} {bs : List (Nat × Obj)} {g n : Nat} {cs cs' : Array Value} {t : TypeId} (h : Ins I w F p A rd rs ((g, Obj.cells cs t (0, 0)) :: bs) wr) (x : Value) (hc : cs.setIfInBounds n x = cs') : Ins I w F p A rd rs ((g, Obj.cells cs' t (0, 0)) :: bs) (wr.setCell ⟨g, n, none⟩ x) := by
  subst hc
  exact h.set (by rw [heap_setCell_same _ _ _ _ _ _ (h.boxes _ (List.Mem.head _)).2]) ⟨rfl, rfl, rfl, by simp [World.setCell], fun k hk => heap_setCell_other _ _ _ _ hk⟩
/-- one more key's value -/
def mrgV (pol v u : Int) : Int := if polB pol then chooseV pol v u else 0
set_option maxHeartbeats 2000000 in
set_option maxRecDepth 100000 in
theorem mergedS_any (pol v u : Int) (w : World) : Calls Tryz.prog 77 #[.int .i64 pol, .int .i64 v, .int .i64 u] w (fun e w' => e = .returned (.tuple #[.int .i64 (mrgV pol v u), .bool (polB pol)]) ∧ w' = w) := by
  by_cases h1 : pol = 1
  · subst h1
    go_enter Tryz.func77, Tryz.ntmps77
    go_wp2_with fail
    all_goals
      go_ret2
      exact ⟨by simp [mrgV, polB, chooseV], rfl⟩
  by_cases h2 : pol = 2
  · subst h2
    go_enter Tryz.func77, Tryz.ntmps77
    go_wp2_with fail
    all_goals
      go_ret2
      exact ⟨by simp [mrgV, polB, chooseV], rfl⟩
  by_cases h3 : pol = 3
  · subst h3
    go_enter Tryz.func77, Tryz.ntmps77
    go_wp2_with fail
    all_goals
      go_ret2
      exact ⟨by simp [mrgV, polB, chooseV]; rw [IntKind.wrap_i64]; unfold wrap64; rfl, rfl⟩
  by_cases h4 : pol = 4
  · subst h4
    go_enter Tryz.func77, Tryz.ntmps77
    go_wp2_with fail
    all_goals
      go_ret2
      exact ⟨by simp [mrgV, polB, chooseV]; omega, rfl⟩
  by_cases h5 : pol = 5
  · subst h5
    go_enter Tryz.func77, Tryz.ntmps77
    go_wp2_with fail
    all_goals
      go_ret2
      exact ⟨by simp [mrgV, polB, chooseV]; omega, rfl⟩
  have HQ : Hid (mrgV pol v u = 0 ∧ polB pol = false) := by
    have : polB pol = false := decide_eq_false (by omega)
    exact ⟨by unfold mrgV; rw [this]; rfl, this⟩
  go_enter Tryz.func77, Tryz.ntmps77
  go_wp2_with fail
  go_ret2
  exact ⟨by rw [HQ.out.1, HQ.out.2]; rfl, rfl⟩
set_option maxHeartbeats 2000000 in
set_option maxRecDepth 100000 in
theorem isPolS_any (pol : Int) (w : World) : Calls Tryz.prog 45 #[.int .i64 pol] w (fun e w' => e = .returned (.bool (polB pol)) ∧ w' = w) := by
  go_enter Tryz.func45, Tryz.ntmps45
  go_wp2_with fail
  refine (mergedS_any pol 0 0 w).mono ?_
  rintro e w1 ⟨rfl, rfl⟩
  go_wp2_with fail
  go_ret
  exact ⟨rfl, rfl⟩
set_option maxHeartbeats 2000000 in
set_option maxRecDepth 100000 in
theorem onlyIf_any (b : Bool) (i : Nat) (w : World) : Calls Tryz.prog 101 #[.bool b, .int .u32 (i : Int)] w (fun e w' => e = .returned (.int .u32 ((if b then i else 0 : Nat) : Int)) ∧ w' = w) := by
  cases b with
  | true =>
    go_enter Tryz.func101, Tryz.ntmps101
    go_wp2_with fail
    go_ret
    exact ⟨rfl, rfl⟩
  | false =>
    go_enter Tryz.func101, Tryz.ntmps101
    go_wp2_with fail
    go_ret
    exact ⟨rfl, rfl⟩
set_option maxHeartbeats 4000000 in
set_option maxRecDepth 100000 in
theorem shareS_any (I : AImpl) {p : Value} {A : Ar} {rd : Int} {F : Nat → Prop} {held : Nat → Nat} {i : Nat} (w : World) (hI : I.Is w p A rd F) (hv : A.Inv [] held) (hm : ∀ j, held j ≤ 1048576) (hx : A.Idx i) :
    Calls Tryz.prog 79 #[p, .int .u32 (i : Int)] w (Mut I p F (fun en B rd' => en = .returned (.tuple #[.int .u32 (i : Int), .int .i64 0]) ∧ B = A.ret i ∧ rd' = rd) w) := by
  obtain ⟨pa, rfl⟩ := I.ptr hI
  have HS0 := Lib.hid (Ins.start hI)
  have HX : Hid (A.Idx i ∧ i < 4294967296 ∧ A.cnt i < 4611686018427387904) := ⟨hx, idx_lt32B hv hx, cnt_few hv hm i⟩
  clear hI hv hm hx
  go_enter Tryz.func79, Tryz.ntmps79
  go_wp2_with fail
  refine (HS0.out.retain HX.out.2.1 HX.out.1 HX.out.2.2).mono ?_
  rintro en w1 ⟨rfl, hs⟩
  have HE := Lib.hid hs.ends
  clear hs HS0
  go_wp2_with fail
  go_ret2
  obtain ⟨F', hal, hI⟩ := HE.out
  exact ⟨F', _, rd, hal, hI, rfl, rfl, rfl⟩
/-- the result, where it is known before a node is read -/
def whR (bL bR : Bool) (pol : Int) (x y : Nat) : Option Nat := if x = 0 then some (if bR then y else 0) else if y = 0 then some (if bL then x else 0) else if x = y ∧ pol ≠ 3 then some (if polB pol then x else 0) else none
set_option maxHeartbeats 4000000 in
set_option maxRecDepth 100000 in
theorem wholeS_any {g : Nat} {p : Value} {bL bR : Bool} {pol : Int} {u x y : Nat} (w : World) (hb : w.heap[g]? = some (.cells (opC p bL bR pol u) 91 (0, 0))) :
    Calls Tryz.prog 78 #[.pointer (some ⟨g, 0, none⟩), .int .u32 (x : Int), .int .u32 (y : Int)] w (fun e w' => e = .returned (.tuple #[.int .u32 (((whR bL bR pol x y).getD 0 : Nat) : Int), .bool (whR bL bR pol x y).isSome]) ∧ w' = w) := by
  obtain ⟨⟨c0, c1, c2, c3, c4⟩, -⟩ := opC_of hb
  clear hb
  by_cases hx : x = 0
  · have HQ : Hid (whR bL bR pol x y = some (if bR then y else 0)) := if_pos hx
    have q1 : (x : Int) = 0 := by omega
    subst hx
    go_enter Tryz.func78, Tryz.ntmps78
    go_wp2_with fail
    refine (onlyIf_any bR y w).mono ?_
    rintro e w1 ⟨rfl, rfl⟩
    generalize (if bR then y else 0 : Nat) = R at HQ ⊢
    go_wp2_with fail
    go_ret2
    exact ⟨by rw [HQ.out]; rfl, rfl⟩
  have q1 : ¬ (x : Int) = 0 := by omega
  by_cases hy : y = 0
  · have HQ : Hid (whR bL bR pol x y = some (if bL then x else 0)) := by show _ = _; unfold whR; rw [if_neg hx, if_pos hy]
    have q2 : (y : Int) = 0 := by omega
    subst hy
    clear hx
    go_enter Tryz.func78, Tryz.ntmps78
    go_wp2_with fail
    refine (onlyIf_any bL x w).mono ?_
    rintro e w1 ⟨rfl, rfl⟩
    generalize (if bL then x else 0 : Nat) = R at HQ ⊢
    go_wp2_with fail
    go_ret2
    exact ⟨by rw [HQ.out]; rfl, rfl⟩
  have q2 : ¬ (y : Int) = 0 := by omega
  by_cases he : x = y
  · by_cases hp : pol = 3
    · have HQ : Hid (whR bL bR pol x y = none) := by show _ = _; unfold whR; rw [if_neg hx, if_neg hy, if_neg (fun q => q.2 hp)]
      have q3 : (x : Int) = (y : Int) := by omega
      have q5 : decide ((x : Int) = (y : Int)) = true := decide_eq_true q3
      subst hp
      subst he
      clear hx hy
      go_enter Tryz.func78, Tryz.ntmps78
      go_wp2_with fail
      go_ret2
      exact ⟨by rw [HQ.out]; rfl, rfl⟩
    · have HQ : Hid (whR bL bR pol x y = some (if polB pol then x else 0)) := by show _ = _; unfold whR; rw [if_neg hx, if_neg hy, if_pos ⟨he, hp⟩]
      have q3 : (x : Int) = (y : Int) := by omega
      have q5 : decide ((x : Int) = (y : Int)) = true := decide_eq_true q3
      have q4 : decide (pol = 3) = false := decide_eq_false hp
      have q6 : (pol != 3) = true := by simpa using hp
      subst he
      clear hx hy
      go_enter Tryz.func78, Tryz.ntmps78
      go_wp2_with fail
      refine (isPolS_any pol w).mono ?_
      rintro e w1 ⟨rfl, rfl⟩
      go_wp2_with fail
      refine (onlyIf_any (polB pol) x w1).mono ?_
      rintro e w2 ⟨rfl, rfl⟩
      generalize (if polB pol then x else 0 : Nat) = R at HQ ⊢
      go_wp2_with fail
      go_ret2
      exact ⟨by rw [HQ.out]; rfl, rfl⟩
  · have HQ : Hid (whR bL bR pol x y = none) := by show _ = _; unfold whR; rw [if_neg hx, if_neg hy, if_neg (fun q => he q.1)]
    have q3 : ¬ (x : Int) = (y : Int) := by omega
    have q5 : decide ((x : Int) = (y : Int)) = false := decide_eq_false q3
    clear hx hy
    go_enter Tryz.func78, Tryz.ntmps78
    go_wp2_with fail
    go_ret2
    exact ⟨by rw [HQ.out]; rfl, rfl⟩
set_option maxHeartbeats 8000000 in
set_option maxRecDepth 100000 in
theorem readS_any (I : AImpl) {w wr : World} {F : Nat → Prop} {p : Value} {A : Ar} {rd : Int} {rs : List Row} {bs : List (Nat × Obj)} {g : Nat} {bL bR : Bool} {pol : Int} {u i : Nat} {X : Nd} (hs : Ins I w F p A rd rs ((g, Obj.cells (opC p bL bR pol (u + 1)) 91 (0, 0)) :: bs) wr) (hX : A.nd i = X) (hon : A.σ.on i = true) (hi : i < 4294967296) (h0 : 0 ≤ rd) (h1 : rd ≤ 2199023255552) (hu : u ≤ 65536) :
    Calls Tryz.prog 125 #[.pointer (some ⟨g, 0, none⟩), .int .u32 (i : Int)] wr (fun e w' => e = .returned (.tuple #[.agg (ndRow X), .int .i64 0]) ∧ Ins I w F p A (rd + 1) rs ((g, Obj.cells (opC p bL bR pol u) 91 (0, 0)) :: bs) w') := by
  obtain ⟨pa, rfl⟩ : ∃ pa, p = .pointer (some pa) := by
    obtain ⟨F1, f1, _⟩ := hs.mr.has
    exact I.ptr f1
  have hin : (Tryz.prog.info? 81).map (·.size) = some 8 := by kernel_rfl
  have HINF := Lib.hid hin
  have HUN : Hid _ := Lib.hid Tryz.underlying81
  have HN : Hid (A.nd i = X ∧ A.σ.on i = true ∧ i < 4294967296 ∧ 0 ≤ rd ∧ rd ≤ 2199023255552) := ⟨hX, hon, hi, h0, h1⟩
  have hw4 : IntKind.i64.wrap (((u + 1 : Nat) : Int) - 1) = (u : Int) := by rw [IntKind.wrap_i64]; omega
  have hu1 : ¬ ((u + 1 : Nat) : Int) = 0 := by omega
  have hu2 : decide (((u + 1 : Nat) : Int) = 0) = false := decide_eq_false hu1
  have hu0 : ¬ u + 1 = 0 := by omega
  have hw5 : IntKind.i64.wrap ((u : Int) + 1 - 1) = (u : Int) := by rw [IntKind.wrap_i64]; omega
  have hw6 : IntKind.i64.wrap (u : Int) = (u : Int) := by rw [IntKind.wrap_i64]; omega
  obtain ⟨Y, hY⟩ : ∃ Y : Array Value, ndRow X = Y := ⟨_, rfl⟩
  have hs0 := hs.box #[Value.int .i64 0, .int .i64 0, .int .u32 0, .int .u32 0, .int .i64 0, .int .i64 0, .int .i64 0, .int .i64 0] 81
  clear hs hX hon hi h0 h1 hu hin
  go_enter Tryz.func125, Tryz.ntmps125
  go_upto_region 1 with fail
  generalize wr.alloc (Obj.cells #[Value.int .i64 0, .int .i64 0, .int .u32 0, .int .u32 0, .int .i64 0, .int .i64 0, .int .i64 0, .int .i64 0] 81) = w1 at hs0 ⊢
  generalize wr.heap.size = q at hs0 ⊢
  have HS0 := Lib.hid hs0
  obtain ⟨⟨c0, c1, c2, c3, c4⟩, f4⟩ := opC_of (HS0.out.boxes _ (List.Mem.tail _ (List.Mem.head _))).2
  clear hs0
  go_wp2_with fail
  refine (HS0.out.node HN.out.2.2.2.1 (by have := HN.out; omega) HN.out.2.2.1 HN.out.2.1).mono ?_
  rintro e w2 ⟨rfl, hs2⟩
  rw [HN.out.1]
  have hs3 := hs2.box #[Value.int .i64 X.key, .int .i64 X.val, .int .u32 (X.left : Int), .int .u32 (X.right : Int), .int .i64 X.size, .int .i64 X.sum, .int .i64 X.mn, .int .i64 X.mx] 81
  clear hs2 HS0 c0 c1 c2 c3 c4 f4
  unfold ndRow
  go_upto_region 2 with fail
  generalize w2.alloc (Obj.cells #[Value.int .i64 X.key, .int .i64 X.val, .int .u32 (X.left : Int), .int .u32 (X.right : Int), .int .i64 X.size, .int .i64 X.sum, .int .i64 X.mn, .int .i64 X.mx] 81) = w3 at hs3 ⊢
  generalize w2.heap.size = b at hs3 ⊢
  have HS3 := Lib.hid hs3
  obtain ⟨⟨c0, c1, c2, c3, c4⟩, f4⟩ := opC_of (HS3.out.boxes _ (List.Mem.tail _ (List.Mem.tail _ (List.Mem.head _)))).2
  clear hs3
  have hne0 : ¬ q = g := (List.pairwise_cons.1 (List.pairwise_cons.1 HS3.out.bb).2).1 _ (List.Mem.head _)
  have hne1 : ¬ g = q := fun e => hne0 e.symm
  go_upto_region 5 with fail
  have hs4 := Ins.cellO (n := 4) (HS3.out.perm ((List.Perm.cons _ (List.Perm.swap _ _ _)).trans (List.Perm.swap _ _ _))) (.int .i64 (u : Int)) (cs' := opC (.pointer (some pa)) bL bR pol u) rfl
  have hs5 := hs4.perm ((List.Perm.swap _ _ _).trans (List.Perm.cons _ (List.Perm.swap _ _ _)))
  clear hs4 HS3 c0 c1 c2 c3 c4 f4
  generalize w3.setCell ⟨g, 4, none⟩ (.int .i64 (u : Int)) = w4 at hs5 ⊢
  have HS5 := Lib.hid hs5
  clear hs5
  obtain ⟨⟨x0, x1, x2, x3, x4, x5, x6, x7⟩, -⟩ := HS5.out.row8 (g := b) (X := X) (by simp [ndRow])
  obtain ⟨⟨y0, y1, y2, y3, y4, y5, y6, y7⟩, f0, f1, f2, f3, f4, f5, f6, f7⟩ := HS5.out.row8 (g := q) (X := Nd.zero) (by simp [ndRow, Nd.zero])
  have hne : ¬ b = q := (List.pairwise_cons.1 HS5.out.bb).1 _ (List.Mem.head _)
  have hne2 : ¬ q = b := fun e => hne e.symm
  have hp := Ins.put (g := q) (X := Nd.zero) (Y := X) (HS5.out.perm (List.Perm.swap _ _ _))
  have HE : Hid (Ins I w F (.pointer (some pa)) A (rd + 1) rs ((g, Obj.cells (opC (.pointer (some pa)) bL bR pol u) 91 (0, 0)) :: bs) (put8 w4 q X) ∧ (put8 w4 q X).heap[q]? = some (Obj.cells #[Value.int .i64 X.key, .int .i64 X.val, .int .u32 (X.left : Int), .int .u32 (X.right : Int), .int .i64 X.size, .int .i64 X.sum, .int .i64 X.mn, .int .i64 X.mx] 81 (0, 0))) := ⟨hp.less (List.Sublist.refl _) ((List.sublist_cons_self _ _).trans (List.sublist_cons_self _ _)), (hp.boxes _ (List.Mem.head _)).2⟩
  clear hp
  go_wp2_with fail
  refine bodyPost_ret (results_row_tmp rfl _ _ q 81 #[Value.int .i64 X.key, .int .i64 X.val, .int .u32 (X.left : Int), .int .u32 (X.right : Int), .int .i64 X.size, .int .i64 X.sum, .int .i64 X.mn, .int .i64 X.mx] (0, 0) _ rfl HE.out.2 HUN.out rfl HINF.out) rfl ?_
  exact ⟨rfl, HE.out.1⟩
end Go.Proofs.YtfihklpofmcfgaaGreat
