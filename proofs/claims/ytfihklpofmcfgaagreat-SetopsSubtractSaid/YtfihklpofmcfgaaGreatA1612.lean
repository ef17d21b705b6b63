/- Of the proofs of SetopsUnion, SetopsIntersect, SetopsSubtract: StOk1, OrdAb, LkOk1, LkOk2. -/
import Derived.Test.YtfihklpofmcfgaaGreatA1611
import Derived.OwnWalk
import Derived.Deep.DeepCutAuto
set_option linter.unusedVariables false
set_option linter.unusedSimpArgs false
namespace Go.Proofs.YtfihklpofmcfgaaGreat
open Go.RowKit
theorem results_2row_tmp {P : Program} {fn : Func} {p q u : Tmp} {ty tq : TypeId} (h : fn.results = #[.cell p ty, .cell q tq, .tmp u]) (tmps : Array Value) (w : World) (g k : Nat) (t tk : TypeId) (cs ck : Array Value) (fr fk : Nat × Nat) (d dk : TypeDesc)
    (hp : tmps.getD p undef = .pointer (some ⟨g, 0, none⟩)) (hg : w.heap[g]? = some (.cells cs t fr))
    (hu : P.underlying ty = some d) (hd : (match d with | .struct _ | .array _ _ => true | _ => false) = true) (hi : (P.info? ty).map (·.size) = some cs.size)
    (hq : tmps.getD q undef = .pointer (some ⟨k, 0, none⟩)) (hk : w.heap[k]? = some (.cells ck tk fk))
    (huk : P.underlying tq = some dk) (hdk : (match dk with | .struct _ | .array _ _ => true | _ => false) = true) (hik : (P.info? tq).map (·.size) = some ck.size) :
    (results fn tmps).run P w = .ok (.tuple #[.agg cs, .agg ck, tmps.getD u undef]) w := by
  have e : (results fn tmps).run P w = ((asAddr (tmps.getD p undef)).run P w).andThen fun a w₁ => ((loadVar ty a).run P w₁).andThen fun x w₂ => ((asAddr (tmps.getD q undef)).run P w₂).andThen fun b w₃ => ((loadVar tq b).run P w₃).andThen fun y w₄ => .ok (.tuple #[x, y, tmps.getD u undef]) w₄ := by
    simp only [results, h]
    simp [Sem.run_bind, Result.andThen]
  rw [e]
  simp [hp, hq, asAddr, Result.andThen, run_loadVar_row w g t ty cs fr d hg hu hd hi, run_loadVar_row w k tk tq ck fk dk hk huk hdk hik]
def opC (p : Value) (bL bR : Bool) (pol : Int) (u : Nat) : Array Value := #[p, .bool bL, .bool bR, .int .i64 pol, .int .i64 (u : Int)]
theorem cells5_of {w : World} {g : Nat} {c0 c1 c2 c3 c4 : Value} {t : TypeId} (h : w.heap[g]? = some (.cells #[c0, c1, c2, c3, c4] t (0, 0))) :
    (w.cell? ⟨g, 0, none⟩ = some c0 ∧ w.cell? ⟨g, 1, none⟩ = some c1 ∧ w.cell? ⟨g, 2, none⟩ = some c2 ∧ w.cell? ⟨g, 3, none⟩ = some c3 ∧ w.cell? ⟨g, 4, none⟩ = some c4) ∧ w.frozen? ⟨g, 4, none⟩ = false :=
  ⟨⟨by rw [cell_of_row _ _ _ _ _ _ h]; rfl, by rw [cell_of_row _ _ _ _ _ _ h]; rfl, by rw [cell_of_row _ _ _ _ _ _ h]; rfl, by rw [cell_of_row _ _ _ _ _ _ h]; rfl, by rw [cell_of_row _ _ _ _ _ _ h]; rfl⟩, frozen_of_row _ _ _ _ _ h⟩
theorem opC_of {w : World} {g : Nat} {p : Value} {bL bR : Bool} {pol : Int} {u : Nat} {t : TypeId} (h : w.heap[g]? = some (.cells (opC p bL bR pol u) t (0, 0))) :
    (w.cell? ⟨g, 0, none⟩ = some p ∧ w.cell? ⟨g, 1, none⟩ = some (.bool bL) ∧ w.cell? ⟨g, 2, none⟩ = some (.bool bR) ∧ w.cell? ⟨g, 3, none⟩ = some (.int .i64 pol) ∧ w.cell? ⟨g, 4, none⟩ = some (.int .i64 (u : Int))) ∧ w.frozen? ⟨g, 4, none⟩ = false := cells5_of h
/-- the first box's cell n is written -/
theorem Ins.cellO {I : AImpl} {w wr : World} {F : Nat → Prop} {p : Value} {A : Ar} {rd : Int} {rs : List Row} {bs : List (Nat × Obj)} {g n : Nat} {cs cs' : Array Value} {t : TypeId} (h : Ins I w F p A rd rs ((g, Obj.cells cs t (0, 0)) :: bs) wr) (x : Value) (hc : cs.setIfInBounds n x = cs') : Ins I w F p A rd rs ((g, Obj.cells cs' t (0, 0)) :: bs) (wr.setCell ⟨g, n, none⟩ x) := by
  subst hc
  exact h.set (by rw [heap_setCell_same _ _ _ _ _ _ (h.boxes _ (List.Mem.head _)).2]) ⟨rfl, rfl, rfl, by simp [World.setCell], fun k hk => heap_setCell_other _ _ _ _ hk⟩
/-- one more key's value -/
def mrgV (pol v u : Int) : Int := if polB pol then chooseV pol v u else 0
set_option maxHeartbeats 2000000 in
set_option maxRecDepth 100000 in
theorem mergedS_any (pol v u : Int) (w : World) : Calls Tryz.prog 77 #[.int .i64 pol, .int .i64 v, .int .i64 u] w (fun e w' => e = .returned (.tuple #[.int .i64 (mrgV pol v u), .bool (polB pol)]) ∧ w' = w) := by
  by_cases h1 : pol = 1
  · subst h1
    go_enter Tryz.func77, Tryz.ntmps77
    go_wp2_with fail
    all_goals
      go_ret2
      exact ⟨by simp [mrgV, polB, chooseV], rfl⟩
  by_cases h2 : pol = 2
  · subst h2
    go_enter Tryz.func77, Tryz.ntmps77
    go_wp2_with fail
    all_goals
      go_ret2
      exact ⟨by simp [mrgV, polB, chooseV], rfl⟩
  by_cases h3 : pol = 3
  · subst h3
    go_enter Tryz.func77, Tryz.ntmps77
    go_wp2_with fail
    all_goals
      go_ret2
      exact ⟨by simp [mrgV, polB, chooseV]; rw [IntKind.wrap_i64]; unfold wrap64; rfl, rfl⟩
  by_cases h4 : pol = 4
  · subst h4
    go_enter Tryz.func77, Tryz.ntmps77
    go_wp2_with fail
    all_goals
      go_ret2
      exact ⟨by simp [mrgV, polB, chooseV]; omega, rfl⟩
  by_cases h5 : pol = 5
  · subst h5
    go_enter Tryz.func77, Tryz.ntmps77
    go_wp2_with fail
    all_goals
      go_ret2
      exact ⟨by simp [mrgV, polB, chooseV]; omega, rfl⟩
  have HQ : Hid (mrgV pol v u = 0 ∧ polB pol = false) := by
    have : polB pol = false := decide_eq_false (by omega)
    exact ⟨by unfold mrgV; rw [this]; rfl, this⟩
  go_enter Tryz.func77, Tryz.ntmps77
  go_wp2_with fail
  go_ret2
  exact ⟨by rw [HQ.out.1, HQ.out.2]; rfl, rfl⟩
set_option maxHeartbeats 2000000 in
set_option maxRecDepth 100000 in
theorem isPolS_any (pol : Int) (w : World) : Calls Tryz.prog 45 #[.int .i64 pol] w (fun e w' => e = .returned (.bool (polB pol)) ∧ w' = w) := by
  go_enter Tryz.func45, Tryz.ntmps45
  go_wp2_with fail
  refine (mergedS_any pol 0 0 w).mono ?_
  rintro e w1 ⟨rfl, rfl⟩
  go_wp2_with fail
  go_ret
  exact ⟨rfl, rfl⟩
set_option maxHeartbeats 2000000 in
set_option maxRecDepth 100000 in
theorem onlyIf_any (b : Bool) (i : Nat) (w : World) : Calls Tryz.prog 101 #[.bool b, .int .u32 (i : Int)] w (fun e w' => e = .returned (.int .u32 ((if b then i else 0 : Nat) : Int)) ∧ w' = w) := by
  cases b with
  | true =>
    go_enter Tryz.func101, Tryz.ntmps101
    go_wp2_with fail
    go_ret
    exact ⟨rfl, rfl⟩
  | false =>
    go_enter Tryz.func101, Tryz.ntmps101
    go_wp2_with fail
    go_ret
    exact ⟨rfl, rfl⟩
set_option maxHeartbeats 4000000 in
set_option maxRecDepth 100000 in
theorem shareS_any (I : AImpl) {p : Value} {A : Ar} {rd : Int} {F : Nat → Prop} {held : Nat → Nat} {i : Nat} (w : World) (hI : I.Is w p A rd F) (hv : A.Inv [] held) (hm : ∀ j, held j ≤ 1048576) (hx : A.Idx i) :
    Calls Tryz.prog 79 #[p, .int .u32 (i : Int)] w (Mut I p F (fun en B rd' => en = .returned (.tuple #[.int .u32 (i : Int), .int .i64 0]) ∧ B = A.ret i ∧ rd' = rd) w) := by
  obtain ⟨pa, rfl⟩ := I.ptr hI
  have HS0 := Lib.hid (Ins.start hI)
  have HX : Hid (A.Idx i ∧ i < 4294967296 ∧ A.cnt i < 4611686018427387904) := ⟨hx, idx_lt32B hv hx, cnt_few hv hm i⟩
  clear hI hv hm hx
  go_enter Tryz.func79, Tryz.ntmps79
  go_wp2_with fail
  refine (HS0.out.retain HX.out.2.1 HX.out.1 HX.out.2.2).mono ?_
  rintro en w1 ⟨rfl, hs⟩
  have HE := Lib.hid hs.ends
  clear hs HS0
  go_wp2_with fail
  go_ret2
  obtain ⟨F', hal, hI⟩ := HE.out
  exact ⟨F', _, rd, hal, hI, rfl, rfl, rfl⟩
/-- the result, where it is known before a node is read -/
def whR (bL bR : Bool) (pol : Int) (x y : Nat) : Option Nat := if x = 0 then some (if bR then y else 0) else if y = 0 then some (if bL then x else 0) else if x = y ∧ pol ≠ 3 then some (if polB pol then x else 0) else none
set_option maxHeartbeats 4000000 in
set_option maxRecDepth 100000 in
theorem wholeS_any {g : Nat} {p : Value} {bL bR : Bool} {pol : Int} {u x y : Nat} (w : World) (hb : w.heap[g]? = some (.cells (opC p bL bR pol u) 91 (0, 0))) :
    Calls Tryz.prog 78 #[.pointer (some ⟨g, 0, none⟩), .int .u32 (x : Int), .int .u32 (y : Int)] w (fun e w' => e = .returned (.tuple #[.int .u32 (((whR bL bR pol x y).getD 0 : Nat) : Int), .bool (whR bL bR pol x y).isSome]) ∧ w' = w) := by
  obtain ⟨⟨c0, c1, c2, c3, c4⟩, -⟩ := opC_of hb
  clear hb
  by_cases hx : x = 0
  · have HQ : Hid (whR bL bR pol x y = some (if bR then y else 0)) := if_pos hx
    have q1 : (x : Int) = 0 := by omega
    subst hx
    go_enter Tryz.func78, Tryz.ntmps78
    go_wp2_with fail
    refine (onlyIf_any bR y w).mono ?_
    rintro e w1 ⟨rfl, rfl⟩
    generalize (if bR then y else 0 : Nat) = R at HQ ⊢
    go_wp2_with fail
    go_ret2
    exact ⟨by rw [HQ.out]; rfl, rfl⟩
  have q1 : ¬ (x : Int) = 0 := by omega
  by_cases hy : y = 0
  · have HQ : Hid (whR bL bR pol x y = some (if bL then x else 0)) := by show _ = _; unfold whR; rw [if_neg hx, if_pos hy]
    have q2 : (y : Int) = 0 := by omega
    subst hy
    clear hx
    go_enter Tryz.func78, Tryz.ntmps78
    go_wp2_with fail
    refine (onlyIf_any bL x w).mono ?_
    rintro e w1 ⟨rfl, rfl⟩
    generalize (if bL then x else 0 : Nat) = R at HQ ⊢
    go_wp2_with fail
    go_ret2
    exact ⟨by rw [HQ.out]; rfl, rfl⟩
  have q2 : ¬ (y : Int) = 0 := by omega
  by_cases he : x = y
  · by_cases hp : pol = 3
    · have HQ : Hid (whR bL bR pol x y = none) := by show _ = _; unfold whR; rw [if_neg hx, if_neg hy, if_neg (fun q => q.2 hp)]
      have q3 : (x : Int) = (y : Int) := by omega
      have q5 : decide ((x : Int) = (y : Int)) = true := decide_eq_true q3
      subst hp
      subst he
      clear hx hy
      go_enter Tryz.func78, Tryz.ntmps78
      go_wp2_with fail
      go_ret2
      exact ⟨by rw [HQ.out]; rfl, rfl⟩
    · have HQ : Hid (whR bL bR pol x y = some (if polB pol then x else 0)) := by show _ = _; unfold whR; rw [if_neg hx, if_neg hy, if_pos ⟨he, hp⟩]
      have q3 : (x : Int) = (y : Int) := by omega
      have q5 : decide ((x : Int) = (y : Int)) = true := decide_eq_true q3
      have q4 : decide (pol = 3) = false := decide_eq_false hp
      have q6 : (pol != 3) = true := by simpa using hp
      subst he
      clear hx hy
      go_enter Tryz.func78, Tryz.ntmps78
      go_wp2_with fail
      refine (isPolS_any pol w).mono ?_
      rintro e w1 ⟨rfl, rfl⟩
      go_wp2_with fail
      refine (onlyIf_any (polB pol) x w1).mono ?_
      rintro e w2 ⟨rfl, rfl⟩
      generalize (if polB pol then x else 0 : Nat) = R at HQ ⊢
      go_wp2_with fail
      go_ret2
      exact ⟨by rw [HQ.out]; rfl, rfl⟩
  · have HQ : Hid (whR bL bR pol x y = none) := by show _ = _; unfold whR; rw [if_neg hx, if_neg hy, if_neg (fun q => he q.1)]
    have q3 : ¬ (x : Int) = (y : Int) := by omega
    have q5 : decide ((x : Int) = (y : Int)) = false := decide_eq_false q3
    clear hx hy
    go_enter Tryz.func78, Tryz.ntmps78
    go_wp2_with fail
    go_ret2
    exact ⟨by rw [HQ.out]; rfl, rfl⟩
set_option maxHeartbeats 8000000 in
set_option maxRecDepth 100000 in
theorem readS_any (I : AImpl) {w wr : World} {F : Nat → Prop} {p : Value} {A : Ar} {rd : Int} {rs : List Row} {bs : List (Nat × Obj)} {g : Nat} {bL bR : Bool} {pol : Int} {u i : Nat} {X : Nd} (hs : Ins I w F p A rd rs ((g, Obj.cells (opC p bL bR pol (u + 1)) 91 (0, 0)) :: bs) wr) (hX : A.nd i = X) (hon : A.σ.on i = true) (hi : i < 4294967296) (h0 : 0 ≤ rd) (h1 : rd ≤ 2199023255552) (hu : u ≤ 65536) :
    Calls Tryz.prog 125 #[.pointer (some ⟨g, 0, none⟩), .int .u32 (i : Int)] wr (fun e w' => e = .returned (.tuple #[.agg (ndRow X), .int .i64 0]) ∧ Ins I w F p A (rd + 1) rs ((g, Obj.cells (opC p bL bR pol u) 91 (0, 0)) :: bs) w') := by
  obtain ⟨pa, rfl⟩ : ∃ pa, p = .pointer (some pa) := by
    obtain ⟨F1, f1, _⟩ := hs.mr.has
    exact I.ptr f1
  have hin : (Tryz.prog.info? 81).map (·.size) = some 8 := by kernel_rfl
  have HINF := Lib.hid hin
  have HUN : Hid _ := Lib.hid Tryz.underlying81
  have HN : Hid (A.nd i = X ∧ A.σ.on i = true ∧ i < 4294967296 ∧ 0 ≤ rd ∧ rd ≤ 2199023255552) := ⟨hX, hon, hi, h0, h1⟩
  have hw4 : IntKind.i64.wrap (((u + 1 : Nat) : Int) - 1) = (u : Int) := by rw [IntKind.wrap_i64]; omega
  have hu1 : ¬ ((u + 1 : Nat) : Int) = 0 := by omega
  have hu2 : decide (((u + 1 : Nat) : Int) = 0) = false := decide_eq_false hu1
  have hu0 : ¬ u + 1 = 0 := by omega
  have hw5 : IntKind.i64.wrap ((u : Int) + 1 - 1) = (u : Int) := by rw [IntKind.wrap_i64]; omega
  have hw6 : IntKind.i64.wrap (u : Int) = (u : Int) := by rw [IntKind.wrap_i64]; omega
  obtain ⟨Y, hY⟩ : ∃ Y : Array Value, ndRow X = Y := ⟨_, rfl⟩
  have hs0 := hs.box #[Value.int .i64 0, .int .i64 0, .int .u32 0, .int .u32 0, .int .i64 0, .int .i64 0, .int .i64 0, .int .i64 0] 81
  clear hs hX hon hi h0 h1 hu hin
  go_enter Tryz.func125, Tryz.ntmps125
  go_upto_region 1 with fail
  generalize wr.alloc (Obj.cells #[Value.int .i64 0, .int .i64 0, .int .u32 0, .int .u32 0, .int .i64 0, .int .i64 0, .int .i64 0, .int .i64 0] 81) = w1 at hs0 ⊢
  generalize wr.heap.size = q at hs0 ⊢
  have HS0 := Lib.hid hs0
  obtain ⟨⟨c0, c1, c2, c3, c4⟩, f4⟩ := opC_of (HS0.out.boxes _ (List.Mem.tail _ (List.Mem.head _))).2
  clear hs0
  go_wp2_with fail
  refine (HS0.out.node HN.out.2.2.2.1 (by have := HN.out; omega) HN.out.2.2.1 HN.out.2.1).mono ?_
  rintro e w2 ⟨rfl, hs2⟩
  rw [HN.out.1]
  have hs3 := hs2.box #[Value.int .i64 X.key, .int .i64 X.val, .int .u32 (X.left : Int), .int .u32 (X.right : Int), .int .i64 X.size, .int .i64 X.sum, .int .i64 X.mn, .int .i64 X.mx] 81
  clear hs2 HS0 c0 c1 c2 c3 c4 f4
  unfold ndRow
  go_upto_region 2 with fail
  generalize w2.alloc (Obj.cells #[Value.int .i64 X.key, .int .i64 X.val, .int .u32 (X.left : Int), .int .u32 (X.right : Int), .int .i64 X.size, .int .i64 X.sum, .int .i64 X.mn, .int .i64 X.mx] 81) = w3 at hs3 ⊢
  generalize w2.heap.size = b at hs3 ⊢
  have HS3 := Lib.hid hs3
  obtain ⟨⟨c0, c1, c2, c3, c4⟩, f4⟩ := opC_of (HS3.out.boxes _ (List.Mem.tail _ (List.Mem.tail _ (List.Mem.head _)))).2
  clear hs3
  have hne0 : ¬ q = g := (List.pairwise_cons.1 (List.pairwise_cons.1 HS3.out.bb).2).1 _ (List.Mem.head _)
  have hne1 : ¬ g = q := fun e => hne0 e.symm
  go_upto_region 5 with fail
  have hs4 := Ins.cellO (n := 4) (HS3.out.perm ((List.Perm.cons _ (List.Perm.swap _ _ _)).trans (List.Perm.swap _ _ _))) (.int .i64 (u : Int)) (cs' := opC (.pointer (some pa)) bL bR pol u) rfl
  have hs5 := hs4.perm ((List.Perm.swap _ _ _).trans (List.Perm.cons _ (List.Perm.swap _ _ _)))
  clear hs4 HS3 c0 c1 c2 c3 c4 f4
  generalize w3.setCell ⟨g, 4, none⟩ (.int .i64 (u : Int)) = w4 at hs5 ⊢
  have HS5 := Lib.hid hs5
  clear hs5
  obtain ⟨⟨x0, x1, x2, x3, x4, x5, x6, x7⟩, -⟩ := HS5.out.row8 (g := b) (X := X) (by simp [ndRow])
  obtain ⟨⟨y0, y1, y2, y3, y4, y5, y6, y7⟩, f0, f1, f2, f3, f4, f5, f6, f7⟩ := HS5.out.row8 (g := q) (X := Nd.zero) (by simp [ndRow, Nd.zero])
  have hne : ¬ b = q := (List.pairwise_cons.1 HS5.out.bb).1 _ (List.Mem.head _)
  have hne2 : ¬ q = b := fun e => hne e.symm
  have hp := Ins.put (g := q) (X := Nd.zero) (Y := X) (HS5.out.perm (List.Perm.swap _ _ _))
  have HE : Hid (Ins I w F (.pointer (some pa)) A (rd + 1) rs ((g, Obj.cells (opC (.pointer (some pa)) bL bR pol u) 91 (0, 0)) :: bs) (put8 w4 q X) ∧ (put8 w4 q X).heap[q]? = some (Obj.cells #[Value.int .i64 X.key, .int .i64 X.val, .int .u32 (X.left : Int), .int .u32 (X.right : Int), .int .i64 X.size, .int .i64 X.sum, .int .i64 X.mn, .int .i64 X.mx] 81 (0, 0))) := ⟨hp.less (List.Sublist.refl _) ((List.sublist_cons_self _ _).trans (List.sublist_cons_self _ _)), (hp.boxes _ (List.Mem.head _)).2⟩
  clear hp
  go_wp2_with fail
  refine bodyPost_ret (results_row_tmp rfl _ _ q 81 #[Value.int .i64 X.key, .int .i64 X.val, .int .u32 (X.left : Int), .int .u32 (X.right : Int), .int .i64 X.size, .int .i64 X.sum, .int .i64 X.mn, .int .i64 X.mx] (0, 0) _ rfl HE.out.2 HUN.out rfl HINF.out) rfl ?_
  exact ⟨rfl, HE.out.1⟩
end Go.Proofs.YtfihklpofmcfgaaGreat
namespace Go.Proofs.YtfihklpofmcfgaaGreat
/-- a tree in order has no more nodes than slots are allocated -/
theorem ord_above {A : Ar} (hok : A.σ.Ok) {i : Nat} {t : Tr} (h : Sub A i t) : ∀ {s s' : Option Int}, ordT A.nd t s = some s' → A.above s' + t.size ≤ A.above s := by
  induction h with
  | nil =>
    intro s s' h
    cases h
    simp [Tr.size]
  | node i l r h0 h1 hl hr ihl ihr =>
    intro s s' h
    unfold ordT at h
    show A.above s' + (l.size + r.size + 1) ≤ _
    cases hL : ordT A.nd l s with
    | none => rw [hL] at h; cases h
    | some s1 =>
      rw [hL] at h
      have e1 := ihl hL
      cases s1 with
      | none =>
        have e2 := ihr h
        have e3 := A.above_step (s := none) hok h1 (fun k hk => by cases hk)
        omega
      | some k =>
        by_cases hle : (A.nd i).key ≤ k
        · simp only [if_pos hle] at h; cases h
        · simp only [if_neg hle] at h
          have e2 := ihr h
          have e3 := A.above_step (s := some k) hok h1 (fun k' hk => by cases hk; omega)
          omega
theorem above_free {A : Ar} (hok : A.σ.Ok) : A.above none + A.σ.free.length ≤ A.σ.cap := by
  have h := St.nodup_le A.σ.cap (((List.range' 1 A.σ.cap).filter fun i => A.σ.on i && true) ++ A.σ.free) (by
    rw [List.nodup_append]
    refine ⟨List.Pairwise.filter _ List.nodup_range', hok.nodup, fun x hx y hy hxy => ?_⟩
    subst hxy
    have h1 := (hok.free x).1 hy
    have h2 := (List.mem_filter.1 hx).2
    rw [h1.2.2] at h2
    cases h2) (fun x hx => by
    rcases List.mem_append.1 hx with hx | hx
    · have := List.mem_range'_1.1 (List.mem_filter.1 hx).1
      omega
    · have := (hok.free x).1 hx
      omega)
  rw [List.length_append] at h
  exact h
open Go.RowKit
/-- what lay there and is none of the arena's -/
def OldG (w : World) (F : Nat → Prop) (k : Nat) : Prop := k < w.heap.size ∧ ¬ F k
/-- inside a call that began in w: the arena, what lay there, and boxes X -/
structure In (I : AImpl) (w : World) (F : Nat → Prop) (p : Value) (A : Ar) (rd : Int) (X : Nat → Prop) (wr : World) : Prop where
  mr : MR I 0 w wr p A rd (fun k => OldG w F k ∨ X k)
  kp : Keeps (OldG w F) w wr
section
variable {I : AImpl} {w wr wx : World} {F : Nat → Prop} {p : Value} {A : Ar} {rd : Int} {X : Nat → Prop}
theorem In.start (h : I.Is w p A rd F) : In I w F p A rd (fun _ => False) w :=
  ⟨⟨⟨F, h, fun _ _ => Nat.zero_le _, fun k hk => by (rcases hk with hk | hk; exact hk; exact hk.elim)⟩, Below.refl _ _, Nat.zero_le _⟩, fun _ _ => rfl⟩
theorem In.calm (h : In I w F p A rd X wr) (hb : Below wr.heap.size wr wx) : In I w F p A rd X wx := ⟨h.mr.calm hb, fun k hk => (h.mr.keeps hb k (.inl hk)).trans (h.kp k hk)⟩
theorem In.keeps (h : In I w F p A rd X wr) (hb : Below wr.heap.size wr wx) : Keeps X wr wx := fun k hk => h.mr.keeps hb k (.inr hk)
theorem In.alloc (h : In I w F p A rd X wr) (o : Obj) : In I w F p A rd (fun k => X k ∨ k = wr.heap.size) (wr.alloc o) :=
  ⟨(h.mr.alloc o).less fun k hk => by (rcases hk with hk | hk | hk; exact .inl (.inl hk); exact .inl (.inr hk); exact .inr hk), (h.calm (below_new7 wr o)).kp⟩
theorem In.less {Y : Nat → Prop} (h : In I w F p A rd X wr) (hY : ∀ k, Y k → X k) : In I w F p A rd Y wr := ⟨h.mr.less fun k hk => hk.imp_right (hY k), h.kp⟩
theorem In.node (h : In I w F p A rd X wr) (h0 : 0 ≤ rd) (h1 : rd ≤ 4398046511104) {i : Nat} (hi : i < 4294967296) (hon : A.σ.on i = true) :
    Calls Tryz.prog 95 #[p, .int .u32 (i : Int)] wr fun e w' => e = .returned (.tuple #[.agg (ndRow (A.nd i)), .bool true]) ∧ In I w F p A (rd + 1) X w' ∧ Keeps X wr w' := by
  obtain ⟨F1, f1, f2, f3⟩ := h.mr.has
  refine (I.node p A rd F1 i wr f1 h0 (by omega) hi).mono ?_
  rintro e w1 ⟨F', hal, _, h6⟩
  obtain ⟨rfl, h7⟩ := h6 hon
  have hst := h.mr.step f2 f3 hal h7
  exact ⟨rfl, ⟨hst.1, fun k hk => (hst.2 k (.inl hk)).trans (h.kp k hk)⟩, fun k hk => hst.2 k (.inr hk)⟩
theorem In.off (h : In I w F p A rd X wr) (h0 : 0 ≤ rd) (h1 : rd ≤ 4398046511104) :
    Calls Tryz.prog 95 #[p, .int .u32 0] wr fun e w' => e = .returned (.tuple #[.agg (ndRow Nd.zero), .bool false]) ∧ In I w F p A rd X w' ∧ Keeps X wr w' := by
  obtain ⟨F1, f1, f2, f3⟩ := h.mr.has
  have hon : A.σ.on 0 = false := by
    cases hc : A.σ.on 0 with
    | false => rfl
    | true => have := (I.ok f1).on 0 hc; omega
  refine (I.node p A rd F1 0 wr f1 h0 (by omega) (by omega)).mono ?_
  rintro e w1 ⟨F', hal, h6, _⟩
  obtain ⟨rfl, h7⟩ := h6 hon
  have hst := h.mr.step f2 f3 hal h7
  exact ⟨rfl, ⟨hst.1, fun k hk => (hst.2 k (.inl hk)).trans (h.kp k hk)⟩, fun k hk => hst.2 k (.inr hk)⟩
theorem In.ends {rd0 bd : Int} {v : Value} (h : In I w F p A rd X wr) (h0 : rd0 ≤ rd) (h1 : rd ≤ rd0 + bd) : ReadsTo I p A rd0 F bd v w (.returned v) wr := by
  obtain ⟨F', f1, f2, f3⟩ := h.mr.has
  refine ⟨F', rd, rfl, ⟨h.mr.below.os, h.mr.below.tape, h.mr.below.output, h.mr.below.size, fun k hlt hF => h.kp k ⟨hlt, hF⟩, fun k hF' => ?_⟩, f1, h0, h1⟩
  by_cases hlt : k < w.heap.size
  · by_cases hF : F k
    · exact .inl hF
    · exact absurd hF' (f3 k (.inl ⟨hlt, hF⟩)).2
  · exact .inr (by omega)
end
theorem TreeAt.bound {A : Ar} {i : Nat} {t : Tr} {l : List En} (h : TreeAt A i t l) : (t.ht : Int) ≤ mostI l.length ∧ t.ht ≤ 65536 := by
  obtain ⟨held, hv⟩ := h.inv
  have h1 := h.sub.ht_cap hv.ok h.agg
  have h2 := hv.ok.cap2
  have h3 : l.length ≤ 2147483647 := by
    rw [← h.size]
    have := h.sub.size h.agg
    cases h.sub with
    | nil => simp [Tr.size]
    | node i l r h0 hon _ _ =>
      have h4 := (h.agg.size i hon).2
      unfold Ar.sz at this
      rw [if_neg h0] at this
      omega
  have h4 := h.ht h3
  unfold mostI
  exact ⟨by omega, by omega⟩
/-- a tree has no more nodes than slots are allocated -/
theorem TreeAt.held {A : Ar} {i : Nat} {t : Tr} {l : List En} (h : TreeAt A i t l) : t.size + A.σ.free.length ≤ A.σ.cap := by
  obtain ⟨held, hv⟩ := h.inv
  have hu : Asc none (t.keys A.nd) := by rw [Tr.ents_keys, h.ents]; exact up_asc l none h.up (fun k hk => by cases hk)
  have h1 := ord_above hv.ok h.sub ((ordT_spec A.nd t none).1 hu)
  have h2 := above_free hv.ok
  omega
theorem longest_any (I : AImpl) {p : Value} {A : Ar} {rd : Int} {F : Nat → Prop} {U : Nat} (w : World) (hI : I.Is w p A rd F) (hU : U + A.σ.free.length = A.σ.cap) :
    Calls Tryz.prog 94 #[p] w (Calm w (.int .i64 (U : Int))) := by
  obtain ⟨pa, rfl⟩ := I.ptr hI
  have hcap := (I.ok hI).cap2
  have hw64 : IntKind.i64.wrap ((A.σ.cap : Int) - (A.σ.free.length : Int)) = (U : Int) := by rw [IntKind.wrap_i64]; omega
  have HCP : Hid (∀ w', Below w.heap.size w w' → Calls Tryz.prog 81 #[.pointer (some pa)] w' (Quiet w' (.int .i64 (A.σ.cap : Int)))) := fun w' hb => I.capacity _ _ _ _ _ (I.below hI hb)
  have HFR : Hid (∀ w', Below w.heap.size w w' → Calls Tryz.prog 51 #[.pointer (some pa)] w' (Quiet w' (.int .i64 (A.σ.free.length : Int)))) := fun w' hb => I.freeN _ _ _ _ _ (I.below hI hb)
  clear hI hU hcap
  go_enter Tryz.func94, Tryz.ntmps94
  go_wp2_with fail
  refine (HCP.out w (Below.refl _ _)).mono ?_
  rintro e w2 ⟨rfl, n2, hn2⟩
  have hb2 : Below w.heap.size w w2 := by rw [hn2]; exact below_drewN (Below.refl _ _) n2
  clear hn2
  go_wp2_with fail
  refine (HFR.out w2 hb2).mono ?_
  rintro e w3 ⟨rfl, n3, hn3⟩
  have hb3 : Below w.heap.size w w3 := hb2.trans ((by rw [hn3]; exact below_drewN (Below.refl _ _) n3 : Below w2.heap.size w2 w3).mono hb2.size)
  have HB3 := Lib.hid hb3
  clear hn3 hb2 hb3 HCP HFR
  go_wp2_with fail
  go_ret
  exact ⟨rfl, HB3.out⟩
/-- the child below which a key can be -/
def twd (x : Nd) (k : Int) : Nat := if k < x.key then x.left else x.right
set_option maxRecDepth 100000 in
theorem towards_any (x : Nd) (k : Int) (w : World) : Calls Tryz.prog 96 #[.agg (ndRow x), .int .i64 k] w (Calm w (.int .u32 (twd x k : Int))) := by
  have hb := below_new7 w (Obj.cells (ndRow x) 81)
  have hbx := heap_alloc_new w (Obj.cells (ndRow x) 81)
  go_enter Tryz.func96, Tryz.ntmps96
  unfold ndRow
  go_upto_region 1 with fail
  rw [show #[Value.int .i64 x.key, .int .i64 x.val, .int .u32 (x.left : Int), .int .u32 (x.right : Int), .int .i64 x.size, .int .i64 x.sum, .int .i64 x.mn, .int .i64 x.mx] = ndRow x from rfl]
  generalize w.alloc (Obj.cells (ndRow x) 81) = w2 at hb hbx ⊢
  generalize hg : w.heap.size = g at hb hbx ⊢
  have x0 : w2.cell? ⟨g, 0, none⟩ = some (.int .i64 x.key) := by rw [cell_of_row _ _ _ _ _ _ hbx]; rfl
  have x2 : w2.cell? ⟨g, 2, none⟩ = some (.int .u32 (x.left : Int)) := by rw [cell_of_row _ _ _ _ _ _ hbx]; rfl
  have x3 : w2.cell? ⟨g, 3, none⟩ = some (.int .u32 (x.right : Int)) := by rw [cell_of_row _ _ _ _ _ _ hbx]; rfl
  have HB := Lib.hid hb
  have HGG := Lib.hid hg
  clear hb hbx hg
  by_cases hkl : k < x.key
  · have hlt : decide (k < x.key) = true := decide_eq_true hkl
    have HE : Hid (Calm w (.int .u32 (twd x k : Int)) (.returned (.int .u32 (x.left : Int))) w2) := ⟨by rw [show twd x k = x.left from if_pos hkl], by rw [HGG.out]; exact HB.out⟩
    clear hkl
    go_wp2_with fail
    go_ret
    exact HE.out
  · have hlt : decide (k < x.key) = false := decide_eq_false hkl
    have HE : Hid (Calm w (.int .u32 (twd x k : Int)) (.returned (.int .u32 (x.right : Int))) w2) := ⟨by rw [show twd x k = x.right from if_neg hkl], by rw [HGG.out]; exact HB.out⟩
    clear hkl
    go_wp2_with fail
    go_ret
    exact HE.out
def WayM (I : AImpl) (w : World) (F : Nat → Prop) (p : Value) (A : Ar) (rd0 k : Int) (R : Option En) (top : Int) (U : Nat) (x c : Value) (wr : World) : Prop :=
  ∃ (i n : Nat) (u : Tr) (rd : Int), x = .int .u32 (i : Int) ∧ c = .int .i64 (n : Int) ∧ Sub A i u ∧ getT A.nd k u = R ∧ rd0 ≤ rd ∧ rd + (u.ht : Int) ≤ top ∧ n + u.size ≤ U ∧ In I w F p A rd (fun _ => False) wr
set_option maxHeartbeats 4000000 in
set_option maxRecDepth 100000 in
theorem getP_any (I : AImpl) {p : Value} {A : Ar} {rd : Int} {F : Nat → Prop} {i : Nat} {t : Tr} {l : List En} (k : Int) (w : World) (hI : I.Is w p A rd F) (hT : TreeAt A i t l) (h0 : 0 ≤ rd) (h1 : rd ≤ 1099511627776) (hk : i64R k) :
    Calls Tryz.prog 67 #[p, .int .u32 (i : Int), .int .i64 k] w (ReadsTo I p A rd F (mostI l.length) (.tuple #[.int .i64 ((getE l k).elim 0 (·.val)), .bool (getE l k).isSome]) w) := by
  obtain ⟨pa, rfl⟩ := I.ptr hI
  have hb := hT.bound
  have hg : getT A.nd k t = getE l k := by rw [getT_spec A.nd k t (by rw [hT.ents]; exact hT.up), hT.ents]
  obtain ⟨R, hR⟩ : ∃ R, getE l k = R := ⟨_, rfl⟩
  rw [hR] at hg ⊢
  obtain ⟨M, hM⟩ : ∃ M, mostI l.length = M := ⟨_, rfl⟩
  rw [hM] at hb ⊢
  obtain ⟨held, hv⟩ := hT.inv
  have hcap := hv.ok.cap2
  have hhd := hT.held
  obtain ⟨U, hU⟩ : ∃ U, U + A.σ.free.length = A.σ.cap := ⟨A.σ.cap - A.σ.free.length, by omega⟩
  have HLP := Lib.hid (longest_any I w hI hU)
  have HU : Hid (U ≤ 65536 ∧ t.size ≤ U) := ⟨by omega, by omega⟩
  have HAG := Lib.hid hT.agg
  have HOK := Lib.hid hv.ok
  have HRD : Hid (0 ≤ rd ∧ rd ≤ 1099511627776 ∧ (t.ht : Int) ≤ M ∧ t.ht ≤ 65536) := ⟨h0, h1, hb.1, hb.2⟩
  have HW0 : Hid (∀ w', Below w.heap.size w w' → WayM I w F (.pointer (some pa)) A rd k R (rd + (t.ht : Int)) U (.int .u32 (i : Int)) (.int .i64 0) w') := fun w' hb' => ⟨i, 0, t, rd, rfl, rfl, hT.sub, hg, Int.le_refl _, Int.le_refl _, by omega, (In.start hI).calm hb'⟩
  clear hI hT h0 h1 hk hb hg hR hM hv hcap hhd hU
  go_enter Tryz.func67, Tryz.ntmps67
  go_wp2_with fail
  refine HLP.out.mono ?_
  rintro e w0 ⟨rfl, hb0⟩
  have HW1 := Lib.hid (HW0.out w0 hb0)
  clear hb0 HW0 HLP
  go_wp2_with fail
  go_loopw [8, 14] (fun x c wr => WayM I w F (.pointer (some pa)) A rd k R (rd + (t.ht : Int)) U x c wr) (fun _ c _ => U - (intOf c).toNat)
  case atStart => exact HW1.out
  case round =>
    clear HW1
    obtain ⟨i, n, u, rd1, rfl, rfl, hu, hg, hr0, hr1, hn, hin⟩ := hrel
    rcases Nat.lt_or_ge n U with hnu | hnu
    rotate_left
    · have hnu2 : decide ((n : Int) < (U : Int)) = false := decide_eq_false (by omega)
      have hu0 : u = .nil := by
        cases u with
        | nil => rfl
        | node i l r =>
          have : (Tr.node i l r).size = l.size + r.size + 1 := rfl
          omega
      subst hu0
      have HE : Hid (ReadsTo I (.pointer (some pa)) A rd F M (.tuple #[.int .i64 (R.elim 0 (·.val)), .bool R.isSome]) w (.returned (.tuple #[.int .i64 0, .bool false])) wr) := by
        rw [show R = none from hg.symm]
        exact hin.ends hr0 (by have := HRD.out; omega)
      have hUn : ¬ n < U := Nat.not_lt.2 hnu
      clear hu hg hr0 hr1 hin hn hnu
      go_wp2_with fail
      go_ret2
      exact HE.out
    have hnu2 : decide ((n : Int) < (U : Int)) = true := decide_eq_true (by omega)
    have hnu3 : (n : Int) < (U : Int) := by omega
    have hU4 : (U : Int) ≤ 65536 := by have := HU.out.1; omega
    have hn0 : (0 : Int) ≤ (n : Int) := by omega
    cases u with
    | nil =>
      obtain rfl : i = 0 := by
        cases hu with
        | nil => rfl
      have hRn : R = none := hg.symm
      subst hRn
      have HR1 : Hid (rd ≤ rd1 ∧ rd1 ≤ rd + (t.ht : Int)) := ⟨hr0, by have : (Tr.nil.ht : Nat) = 0 := rfl; omega⟩
      have HIN := Lib.hid hin
      clear hu hg hr0 hr1 hin hn
      go_wp2_with fail
      refine (HIN.out.off (by have := HR1.out; have := HRD.out; omega) (by have := HR1.out; have := HRD.out; omega)).mono ?_
      rintro e w1 ⟨rfl, hin1, -⟩
      have HIN1 := Lib.hid (hin1.calm (below_new7 w1 (Obj.cells (ndRow Nd.zero) 81)))
      clear hin1 HIN
      unfold ndRow
      go_upto_region 5 with fail
      rw [show #[Value.int .i64 Nd.zero.key, .int .i64 Nd.zero.val, .int .u32 (Nd.zero.left : Int), .int .u32 (Nd.zero.right : Int), .int .i64 Nd.zero.size, .int .i64 Nd.zero.sum, .int .i64 Nd.zero.mn, .int .i64 Nd.zero.mx] = ndRow Nd.zero from rfl]
      generalize w1.alloc (Obj.cells (ndRow Nd.zero) 81) = w2 at HIN1 ⊢
      have HE : Hid (ReadsTo I (.pointer (some pa)) A rd F M (.tuple #[.int .i64 ((none : Option En).elim 0 (·.val)), .bool (none : Option En).isSome]) w (.returned (.tuple #[.int .i64 0, .bool false])) w2) := HIN1.out.ends HR1.out.1 (by have := HR1.out; have := HRD.out; omega)
      clear HIN1
      go_wp2_with fail
      go_ret2
      exact HE.out
    | node i2 l2 r2 =>
      obtain ⟨rfl, h0, hon, hsl, hsr⟩ : i2 = i ∧ i ≠ 0 ∧ A.σ.on i = true ∧ Sub A (A.nd i).left l2 ∧ Sub A (A.nd i).right r2 := by
        cases hu with
        | node _ _ _ h1 h2 h3 h4 => exact ⟨rfl, h1, h2, h3, h4⟩
      have hi4 : i2 < 4294967296 := by have := HOK.out.on i2 hon; have := HOK.out.cap2; omega
      have hht : (Tr.node i2 l2 r2).ht = 1 + max l2.ht r2.ht := rfl
      rw [show (Tr.node i2 l2 r2).size = l2.size + r2.size + 1 from rfl] at hn
      have HSL := Lib.hid hsl
      have HSR := Lib.hid hsr
      have HON := Lib.hid hon
      have HI4 := Lib.hid hi4
      have HNN := Lib.hid hn
      have HR1 : Hid (rd ≤ rd1 ∧ rd1 + 1 + (l2.ht : Int) ≤ rd + (t.ht : Int) ∧ rd1 + 1 + (r2.ht : Int) ≤ rd + (t.ht : Int)) := ⟨hr0, by omega, by omega⟩
      have HIN := Lib.hid hin
      unfold getT at hg
      have HG := Lib.hid hg
      clear hu hg hr0 hr1 hin h0 hon hsl hsr hi4 hht hn
      go_wp2_with fail
      refine (HIN.out.node (by have := HR1.out; have := HRD.out; omega) (by have := HR1.out; have := HRD.out; omega) HI4.out HON.out).mono ?_
      rintro e w1 ⟨rfl, hin1, -⟩
      have HIN1 := Lib.hid hin1
      clear hin1 HIN
      unfold ndRow
      go_upto_region 5 with fail
      rw [show #[Value.int .i64 (A.nd i2).key, .int .i64 (A.nd i2).val, .int .u32 ((A.nd i2).left : Int), .int .u32 ((A.nd i2).right : Int), .int .i64 (A.nd i2).size, .int .i64 (A.nd i2).sum, .int .i64 (A.nd i2).mn, .int .i64 (A.nd i2).mx] = ndRow (A.nd i2) from rfl]
      have hin2 := HIN1.out.calm (below_new7 w1 (Obj.cells (ndRow (A.nd i2)) 81))
      have hbx := heap_alloc_new w1 (Obj.cells (ndRow (A.nd i2)) 81)
      generalize w1.alloc (Obj.cells (ndRow (A.nd i2)) 81) = w2 at hin2 hbx ⊢
      generalize w1.heap.size = g at hbx ⊢
      have x0 : w2.cell? ⟨g, 0, none⟩ = some (.int .i64 (A.nd i2).key) := by rw [cell_of_row _ _ _ _ _ _ hbx]; rfl
      have x1 : w2.cell? ⟨g, 1, none⟩ = some (.int .i64 (A.nd i2).val) := by rw [cell_of_row _ _ _ _ _ _ hbx]; rfl
      have x2 : w2.cell? ⟨g, 2, none⟩ = some (.int .u32 ((A.nd i2).left : Int)) := by rw [cell_of_row _ _ _ _ _ _ hbx]; rfl
      have x3 : w2.cell? ⟨g, 3, none⟩ = some (.int .u32 ((A.nd i2).right : Int)) := by rw [cell_of_row _ _ _ _ _ _ hbx]; rfl
      have x4 : w2.cell? ⟨g, 4, none⟩ = some (.int .i64 (A.nd i2).size) := by rw [cell_of_row _ _ _ _ _ _ hbx]; rfl
      have x5 : w2.cell? ⟨g, 5, none⟩ = some (.int .i64 (A.nd i2).sum) := by rw [cell_of_row _ _ _ _ _ _ hbx]; rfl
      have x6 : w2.cell? ⟨g, 6, none⟩ = some (.int .i64 (A.nd i2).mn) := by rw [cell_of_row _ _ _ _ _ _ hbx]; rfl
      have x7 : w2.cell? ⟨g, 7, none⟩ = some (.int .i64 (A.nd i2).mx) := by rw [cell_of_row _ _ _ _ _ _ hbx]; rfl
      have HIN2 := Lib.hid hin2
      clear hin2 hbx HIN1
      have hg := HG.out
      by_cases hke : k = (A.nd i2).key
      · have hlt : ((A.nd i2).key == k) = true := by rw [hke]; simp
        rw [if_pos hke] at hg
        have HE : Hid (ReadsTo I (.pointer (some pa)) A rd F M (.tuple #[.int .i64 (R.elim 0 (·.val)), .bool R.isSome]) w (.returned (.tuple #[.int .i64 (A.nd i2).val, .bool true])) w2) := by
          rw [← hg]
          exact HIN2.out.ends (by have := HR1.out; omega) (by have := HR1.out; have := HRD.out; omega)
        clear hke hg
        go_wp2_with fail
        go_ret2
        exact HE.out
      · have hlt : ((A.nd i2).key == k) = false := by simp; exact fun e => hke e.symm
        rw [if_neg hke] at hg
        have HT := Lib.hid (towards_any (A.nd i2) k w2)
        have HE : Hid (∀ w3, Below w2.heap.size w2 w3 → WayM I w F (.pointer (some pa)) A rd k R (rd + (t.ht : Int)) U (.int .u32 (twd (A.nd i2) k : Int)) (.int .i64 ((n + 1 : Nat) : Int)) w3) := fun w3 hb3 => by
          have := HNN.out
          by_cases hkl : k < (A.nd i2).key
          · rw [if_pos hkl] at hg
            rw [show twd (A.nd i2) k = (A.nd i2).left from if_pos hkl]
            exact ⟨_, n + 1, l2, rd1 + 1, rfl, rfl, HSL.out, hg, by have := HR1.out; omega, HR1.out.2.1, by omega, HIN2.out.calm hb3⟩
          · rw [if_neg hkl] at hg
            rw [show twd (A.nd i2) k = (A.nd i2).right from if_neg hkl]
            exact ⟨_, n + 1, r2, rd1 + 1, rfl, rfl, HSR.out, hg, by have := HR1.out; omega, HR1.out.2.2, by omega, HIN2.out.calm hb3⟩
        clear hke hg
        go_wp2_with fail
        refine HT.out.mono ?_
        rintro e w3 ⟨rfl, hb3⟩
        have HE3 := Lib.hid (HE.out w3 hb3)
        clear hb3 HE HT
        go_wp2_with fail
        exact ⟨by rw [show ((n : Int) + 1) = ((n + 1 : Nat) : Int) by omega]; exact HE3.out, by simp [intOf]; omega⟩
section
variable {I : AImpl} {w wr wx : World} {F : Nat → Prop} {p : Value} {A : Ar} {rd : Int} {X : Nat → Prop}
theorem In.set2 (h : In I w F p A rd X wr) {g : Nat} (hg : X g) (hn : w.heap.size ≤ g) (x y : Value) : In I w F p A rd X ((wr.setCell ⟨g, 0, none⟩ x).setCell ⟨g, 1, none⟩ y) := by
  obtain ⟨F1, f1, f2, f3⟩ := h.mr.has
  have ho : ∀ k, k ≠ g → ((wr.setCell ⟨g, 0, none⟩ x).setCell ⟨g, 1, none⟩ y).heap[k]? = wr.heap[k]? := fun k hk => by rw [heap_setCell_other _ _ _ _ hk, heap_setCell_other _ _ _ _ hk]
  have hsz : ((wr.setCell ⟨g, 0, none⟩ x).setCell ⟨g, 1, none⟩ y).heap.size = wr.heap.size := by simp [World.setCell]
  refine ⟨⟨⟨F1, I.keep f1 fun k hk => ho k fun e => (f3 g (.inr hg)).2 (e ▸ hk), f2, fun k hk => ⟨by rw [hsz]; exact (f3 k hk).1, (f3 k hk).2⟩⟩, ?_, Nat.zero_le _⟩, fun k hk => ?_⟩
  · exact h.mr.below.trans ⟨rfl, rfl, rfl, Nat.le_of_eq hsz.symm, fun k hk => by omega⟩
  · have hne : k ≠ g := fun e => by have := hk.1; omega
    exact (ho k hne).trans (h.kp k hk)
theorem In.call {bd : Int} {v : Value} {f : FuncId} {args : Array Value} (h : In I w F p A rd X wr) (hc : ∀ F1, I.Is wr p A rd F1 → Calls Tryz.prog f args wr (ReadsTo I p A rd F1 bd v wr)) :
    Calls Tryz.prog f args wr fun e w' => e = .returned v ∧ ∃ rd', In I w F p A rd' X w' ∧ Keeps X wr w' ∧ rd ≤ rd' ∧ rd' ≤ rd + bd := by
  refine (mr_call h.mr hc).mono ?_
  rintro e w1 ⟨he, rd', h1, h2, h3, h4⟩
  exact ⟨he, rd', ⟨h1, fun k hk => (h2 k (.inl hk)).trans (h.kp k hk)⟩, fun k hk => h2 k (.inr hk), h3, h4⟩
end
/-- the result's box and the best entry's box -/
structure BB (I : AImpl) (w : World) (F : Nat → Prop) (p : Value) (A : Ar) (rd : Int) (r b : Nat) (o : Option En) (wr : World) : Prop where
  ins : In I w F p A rd (fun k => k = r ∨ k = b) wr
  hr : wr.heap[r]? = some (.cells #[.int .i64 0, .int .i64 0] 69 (0, 0))
  hb : wr.heap[b]? = some (.cells #[.int .i64 (o.elim 0 (·.key)), .int .i64 (o.elim 0 (·.val))] 69 (0, 0))
  ne : r ≠ b
  old : w.heap.size ≤ r ∧ w.heap.size ≤ b
section
variable {I : AImpl} {w wr wx : World} {F : Nat → Prop} {p : Value} {A : Ar} {rd rd' : Int} {r b : Nat} {o : Option En}
theorem BB.start (h : I.Is w p A rd F) : BB I w F p A rd w.heap.size (w.heap.size + 1) none ((w.alloc (.cells #[.int .i64 0, .int .i64 0] 69)).alloc (.cells #[.int .i64 0, .int .i64 0] 69)) := by
  have h1 := (In.start h).alloc (.cells #[.int .i64 0, .int .i64 0] 69)
  have h2 := h1.alloc (.cells #[.int .i64 0, .int .i64 0] 69)
  refine ⟨h2.less fun k hk => ?_, ?_, ?_, by omega, by omega⟩
  · rcases hk with rfl | rfl
    · exact .inl (.inr rfl)
    · exact .inr (by simp)
  · exact (h1.keeps (below_new7 _ _) _ (.inr rfl)).trans (heap_alloc_new w _)
  · have := heap_alloc_new (w.alloc (.cells #[.int .i64 0, .int .i64 0] 69)) (.cells #[.int .i64 0, .int .i64 0] 69)
    rw [World.size_alloc] at this
    exact this
theorem BB.calm (h : BB I w F p A rd r b o wr) (hb : Below wr.heap.size wr wx) : BB I w F p A rd r b o wx :=
  ⟨h.ins.calm hb, (h.ins.keeps hb r (.inl rfl)).trans h.hr, (h.ins.keeps hb b (.inr rfl)).trans h.hb, h.ne, h.old⟩
theorem BB.step (h : BB I w F p A rd r b o wr) (hi : In I w F p A rd' (fun k => k = r ∨ k = b) wx) (hk : Keeps (fun k => k = r ∨ k = b) wr wx) : BB I w F p A rd' r b o wx :=
  ⟨hi, (hk r (.inl rfl)).trans h.hr, (hk b (.inr rfl)).trans h.hb, h.ne, h.old⟩
theorem BB.put (h : BB I w F p A rd r b o wr) (e : En) : BB I w F p A rd r b (some e) ((wr.setCell ⟨b, 0, none⟩ (.int .i64 e.key)).setCell ⟨b, 1, none⟩ (.int .i64 e.val)) :=
  ⟨h.ins.set2 (.inr rfl) h.old.2 _ _, by rw [heap_setCell_other _ _ _ _ h.ne, heap_setCell_other _ _ _ _ h.ne]; exact h.hr, by rw [heap_setCell_same _ b 1 _ _ _ (heap_setCell_same wr b 0 _ _ _ h.hb)]; rfl, h.ne, h.old⟩
theorem BB.ends {rd0 bd : Int} (h : BB I w F p A rd r b o wr) (h0 : rd0 ≤ rd) (h1 : rd ≤ rd0 + bd) :
    ReadsTo I p A rd0 F bd (enR o) w (.returned (.tuple #[.agg #[.int .i64 (o.elim 0 (·.key)), .int .i64 (o.elim 0 (·.val))], .bool o.isSome])) ((wr.setCell ⟨r, 0, none⟩ (.int .i64 (o.elim 0 (·.key)))).setCell ⟨r, 1, none⟩ (.int .i64 (o.elim 0 (·.val)))) ∧
    ((wr.setCell ⟨r, 0, none⟩ (.int .i64 (o.elim 0 (·.key)))).setCell ⟨r, 1, none⟩ (.int .i64 (o.elim 0 (·.val)))).heap[r]? = some (.cells #[.int .i64 (o.elim 0 (·.key)), .int .i64 (o.elim 0 (·.val))] 69 (0, 0)) :=
  ⟨(h.ins.set2 (.inl rfl) h.old.1 _ _).ends h0 h1, by rw [heap_setCell_same _ r 1 _ _ _ (heap_setCell_same wr r 0 _ _ _ h.hr)]; rfl⟩
end
set_option maxRecDepth 100000 in
theorem entry_any (x : Nd) (w : World) : Calls Tryz.prog 154 #[.agg (ndRow x)] w (Calm w (.agg #[.int .i64 x.key, .int .i64 x.val])) := by
  have hin : (Tryz.prog.info? 69).map (·.size) = some 2 := by kernel_rfl
  have HINF := Lib.hid hin
  have HU : Hid _ := Lib.hid Tryz.underlying69
  have hb := below_new7 w (Obj.cells (ndRow x) 81)
  have hbx := heap_alloc_new w (Obj.cells (ndRow x) 81)
  clear hin
  go_enter Tryz.func154, Tryz.ntmps154
  unfold ndRow
  go_upto_region 1 with fail
  rw [show #[Value.int .i64 x.key, .int .i64 x.val, .int .u32 (x.left : Int), .int .u32 (x.right : Int), .int .i64 x.size, .int .i64 x.sum, .int .i64 x.mn, .int .i64 x.mx] = ndRow x from rfl]
  have hsz : w.heap.size < (w.alloc (Obj.cells (ndRow x) 81)).heap.size := by simp
  have hs1 : (w.alloc (Obj.cells (ndRow x) 81)).heap.size = w.heap.size + 1 := World.size_alloc _ _
  generalize w.alloc (Obj.cells (ndRow x) 81) = w2 at hb hbx hsz hs1 ⊢
  generalize hg : w.heap.size = g at hb hbx hsz hs1 ⊢
  have hb3 := below_new7 w2 (Obj.cells #[.int .i64 0, .int .i64 0] 69)
  have hr3 := heap_alloc_new w2 (Obj.cells #[.int .i64 0, .int .i64 0] 69)
  have hx3 := (hb3.block g hsz).trans hbx
  have hb4 := hb.trans (hb3.mono (Nat.le_of_lt hsz))
  (try rw [World.size_alloc])
  generalize w2.alloc (Obj.cells #[.int .i64 0, .int .i64 0] 69) = w3 at hr3 hx3 hb4 ⊢
  clear hb3
  (try rw [hg])
  rw [hs1] at hr3
  generalize hq : g + 1 = q at hr3 ⊢
  have x0 : w3.cell? ⟨g, 0, none⟩ = some (.int .i64 x.key) := by rw [cell_of_row _ _ _ _ _ _ hx3]; rfl
  have x1 : w3.cell? ⟨g, 1, none⟩ = some (.int .i64 x.val) := by rw [cell_of_row _ _ _ _ _ _ hx3]; rfl
  obtain ⟨r0, r1⟩ := two_ofE hr3
  have f0 := frozen_of_row _ _ 0 _ _ hr3
  have f1 := frozen_of_row _ _ 1 _ _ hr3
  have hgq : g ≠ q := by omega
  have HFIN : Hid (Below g w ((w3.setCell ⟨q, 0, none⟩ (.int .i64 x.key)).setCell ⟨q, 1, none⟩ (.int .i64 x.val)) ∧ ((w3.setCell ⟨q, 0, none⟩ (.int .i64 x.key)).setCell ⟨q, 1, none⟩ (.int .i64 x.val)).heap[q]? = some (.cells #[.int .i64 x.key, .int .i64 x.val] 69 (0, 0))) :=
    ⟨(hb4.setCell (by show g ≤ q; omega) _).setCell (by show g ≤ q; omega) _, by rw [heap_setCell_same _ q 1 _ _ _ (heap_setCell_same w3 q 0 _ _ _ hr3)]; rfl⟩
  have HGG := Lib.hid hg
  clear hb hbx hsz hs1 hr3 hx3 hb4 hg hq
  go_wp2_with fail
  refine bodyPost_ret (results_cell_row rfl _ _ q 69 #[.int .i64 x.key, .int .i64 x.val] (0, 0) _ rfl HFIN.out.2 HU.out rfl HINF.out) rfl ?_
  exact ⟨rfl, by rw [HGG.out]; exact HFIN.out.1⟩
def Waybefore (I : AImpl) (w : World) (F : Nat → Prop) (p : Value) (A : Ar) (rd0 : Int) (k : Int) (eq : Bool) (R : Option En) (top : Int) (r b U : Nat) (fd x c : Value) (wr : World) : Prop :=
  ∃ (i n : Nat) (u : Tr) (rd : Int) (o : Option En), fd = .bool o.isSome ∧ x = .int .u32 (i : Int) ∧ c = .int .i64 (n : Int) ∧ Sub A i u ∧ bef A.nd (k + if eq then 1 else 0) u o = R ∧ rd0 ≤ rd ∧ rd + (u.ht : Int) ≤ top ∧ n + u.size ≤ U ∧ BB I w F p A rd r b o wr
set_option maxHeartbeats 4000000 in
set_option maxRecDepth 100000 in
theorem beforeH_any (I : AImpl) {p : Value} {A : Ar} {rd : Int} {F : Nat → Prop} {i : Nat} {t : Tr} {l : List En} (bd : Int) (k : Int) (eq : Bool) (w : World) (hI : I.Is w p A rd F) (hT : TreeAt A i t l) (h0 : 0 ≤ rd) (h1 : rd ≤ 1099511627776) (hbd : (t.ht : Int) ≤ bd) :
    Calls Tryz.prog 142 #[p, .int .u32 (i : Int), .int .i64 k, .bool eq] w (ReadsTo I p A rd F (bd) (enR (bef A.nd (k + if eq then 1 else 0) t none)) w) := by
  obtain ⟨pa, rfl⟩ := I.ptr hI
  have hin : (Tryz.prog.info? 69).map (·.size) = some 2 := by kernel_rfl
  have HINF := Lib.hid hin
  have HU : Hid _ := Lib.hid Tryz.underlying69
  have hb : (t.ht : Int) ≤ bd ∧ t.ht ≤ 65536 := ⟨hbd, hT.bound.2⟩
  clear hbd
  obtain ⟨R, hR⟩ : ∃ R, bef A.nd (k + if eq then 1 else 0) t none = R := ⟨_, rfl⟩
  rw [hR]
  obtain ⟨M, hM⟩ : ∃ M, bd = M := ⟨_, rfl⟩
  rw [hM] at hb ⊢
  obtain ⟨held, hv⟩ := hT.inv
  have hcap := hv.ok.cap2
  have hhd := hT.held
  obtain ⟨U, hUU⟩ : ∃ U, U + A.σ.free.length = A.σ.cap := ⟨A.σ.cap - A.σ.free.length, by omega⟩
  have HUU : Hid (U ≤ 65536 ∧ t.size ≤ U) := ⟨by omega, by omega⟩
  have HOK := Lib.hid hv.ok
  have HRD : Hid (0 ≤ rd ∧ rd ≤ 1099511627776 ∧ (t.ht : Int) ≤ M ∧ t.ht ≤ 65536) := ⟨h0, h1, hb.1, hb.2⟩
  have hbb := BB.start hI
  have HLP : Hid (∀ wx F1, I.Is wx (.pointer (some pa)) A rd F1 → Calls Tryz.prog 94 #[.pointer (some pa)] wx (Calm wx (.int .i64 (U : Int)))) := fun wx F1 h => longest_any I wx h hUU
  have HSUB := Lib.hid hT.sub
  have HRR := Lib.hid hR
  clear hI hT h0 h1 hb hR hM hv hin hcap hhd hUU
  go_enter Tryz.func142, Tryz.ntmps142
  go_upto_region 2 with fail
  generalize (w.alloc (Obj.cells #[.int .i64 0, .int .i64 0] 69)).alloc (Obj.cells #[.int .i64 0, .int .i64 0] 69) = w1 at hbb ⊢
  obtain ⟨r, hr⟩ : ∃ r, w.heap.size = r := ⟨_, rfl⟩
  rw [hr] at hbb ⊢
  generalize hb1 : r + 1 = b at hbb ⊢
  have HBB := Lib.hid hbb
  clear hbb hr hb1
  go_wp2_with fail
  obtain ⟨F1, f1, -, -⟩ := HBB.out.ins.mr.has
  refine (HLP.out w1 F1 f1).mono ?_
  rintro e w1' ⟨rfl, hb1'⟩
  have HW0 : Hid (Waybefore I w F (.pointer (some pa)) A rd k eq R (rd + (t.ht : Int)) r b U (.bool false) (.int .u32 (i : Int)) (.int .i64 0) w1') := ⟨i, 0, t, rd, none, rfl, rfl, rfl, HSUB.out, HRR.out, Int.le_refl _, Int.le_refl _, by have := HUU.out; omega, HBB.out.calm hb1'⟩
  clear f1 hb1' HBB HLP
  go_wp2_with fail
  go_loopw [11, 12, 18] (fun fd x c wr => Waybefore I w F (.pointer (some pa)) A rd k eq R (rd + (t.ht : Int)) r b U fd x c wr) (fun _ _ c _ => U - (intOf c).toNat)
  case atStart => exact HW0.out
  case round =>
    clear HW0
    obtain ⟨i, n, u, rd1, o, rfl, rfl, rfl, hu, hg, hr0, hr1, hn, hB⟩ := hrel
    rcases Nat.lt_or_ge n U with hnu | hnu
    rotate_left
    · have hnu2 : decide ((n : Int) < (U : Int)) = false := decide_eq_false (by omega)
      have hu0 : u = .nil := by
        cases u with
        | nil => rfl
        | node i l r =>
          have : (Tr.node i l r).size = l.size + r.size + 1 := rfl
          omega
      subst hu0
      have ho : o = R := hg
      subst ho
      have he := hB.ends hr0 (bd := M) (by have := HRD.out; omega)
      have hUn : ¬ n < U := Nat.not_lt.2 hnu
      clear hu hg hr0 hr1 hn hnu
      have HE := Lib.hid he
      obtain ⟨c0, c1⟩ := two_ofE hB.hb
      obtain ⟨r0, r1⟩ := two_ofE hB.hr
      have f0 := frozen_of_row _ _ 0 _ _ hB.hr
      have f1 := frozen_of_row _ _ 1 _ _ hB.hr
      have hne := hB.ne
      have hne2 : b ≠ r := fun e => hne e.symm
      obtain ⟨X, hX⟩ : ∃ X, o.elim (0 : Int) (·.key) = X := ⟨_, rfl⟩
      obtain ⟨Y, hY⟩ : ∃ Y, o.elim (0 : Int) (·.val) = Y := ⟨_, rfl⟩
      rw [hX] at c0 HE
      rw [hY] at c1 HE
      clear hB he hX hY
      go_wp2_with fail
      refine bodyPost_ret (results_row_tmp rfl _ _ r 69 #[.int .i64 X, .int .i64 Y] (0, 0) _ rfl HE.out.2 HU.out rfl HINF.out) rfl ?_
      exact HE.out.1
    have hnu2 : decide ((n : Int) < (U : Int)) = true := decide_eq_true (by omega)
    have hnu3 : (n : Int) < (U : Int) := by omega
    have hU4 : (U : Int) ≤ 65536 := by have := HUU.out.1; omega
    have hn0 : (0 : Int) ≤ (n : Int) := by omega
    cases u with
    | nil =>
      obtain rfl : i = 0 := by
        cases hu with
        | nil => rfl
      have ho : o = R := hg
      subst ho
      have HR1 : Hid (rd ≤ rd1 ∧ rd1 ≤ rd + (t.ht : Int)) := ⟨hr0, by have : (Tr.nil.ht : Nat) = 0 := rfl; omega⟩
      have HBB := Lib.hid hB
      clear hu hg hr0 hr1 hB hn
      go_wp2_with fail
      refine (HBB.out.ins.off (by have := HR1.out; have := HRD.out; omega) (by have := HR1.out; have := HRD.out; omega)).mono ?_
      rintro e w2 ⟨rfl, hin2, hk2⟩
      have hB2 := (HBB.out.step hin2 hk2).calm (below_new7 w2 (Obj.cells (ndRow Nd.zero) 81))
      clear hin2 hk2 HBB
      unfold ndRow
      go_upto_region 7 with fail
      rw [show #[Value.int .i64 Nd.zero.key, .int .i64 Nd.zero.val, .int .u32 (Nd.zero.left : Int), .int .u32 (Nd.zero.right : Int), .int .i64 Nd.zero.size, .int .i64 Nd.zero.sum, .int .i64 Nd.zero.mn, .int .i64 Nd.zero.mx] = ndRow Nd.zero from rfl]
      generalize w2.alloc (Obj.cells (ndRow Nd.zero) 81) = w3 at hB2 ⊢
      have hB := hB2
      clear hB2
      have he := hB.ends (rd0 := rd) (bd := M) HR1.out.1 (by have := HR1.out; have := HRD.out; omega)
      generalize w2.heap.size = g
      have HE := Lib.hid he
      obtain ⟨c0, c1⟩ := two_ofE hB.hb
      obtain ⟨r0, r1⟩ := two_ofE hB.hr
      have f0 := frozen_of_row _ _ 0 _ _ hB.hr
      have f1 := frozen_of_row _ _ 1 _ _ hB.hr
      have hne := hB.ne
      have hne2 : b ≠ r := fun e => hne e.symm
      obtain ⟨X, hX⟩ : ∃ X, o.elim (0 : Int) (·.key) = X := ⟨_, rfl⟩
      obtain ⟨Y, hY⟩ : ∃ Y, o.elim (0 : Int) (·.val) = Y := ⟨_, rfl⟩
      rw [hX] at c0 HE
      rw [hY] at c1 HE
      clear hB he hX hY
      go_wp2_with fail
      refine bodyPost_ret (results_row_tmp rfl _ _ r 69 #[.int .i64 X, .int .i64 Y] (0, 0) _ rfl HE.out.2 HU.out rfl HINF.out) rfl ?_
      exact HE.out.1
    | node i2 l2 r2 =>
      obtain ⟨rfl, h0, hon, hsl, hsr⟩ : i2 = i ∧ i ≠ 0 ∧ A.σ.on i = true ∧ Sub A (A.nd i).left l2 ∧ Sub A (A.nd i).right r2 := by
        cases hu with
        | node _ _ _ h1 h2 h3 h4 => exact ⟨rfl, h1, h2, h3, h4⟩
      have hi4 : i2 < 4294967296 := by have := HOK.out.on i2 hon; have := HOK.out.cap2; omega
      have hht : (Tr.node i2 l2 r2).ht = 1 + max l2.ht r2.ht := rfl
      rw [show (Tr.node i2 l2 r2).size = l2.size + r2.size + 1 from rfl] at hn
      have HNL : Hid (n + 1 + l2.size ≤ U) := by show _ ≤ _; omega
      have HNR : Hid (n + 1 + r2.size ≤ U) := by show _ ≤ _; omega
      have HSL := Lib.hid hsl
      have HSR := Lib.hid hsr
      have HON := Lib.hid hon
      have HI4 := Lib.hid hi4
      have HR1 : Hid (rd ≤ rd1 ∧ rd1 + 1 + (l2.ht : Int) ≤ rd + (t.ht : Int) ∧ rd1 + 1 + (r2.ht : Int) ≤ rd + (t.ht : Int)) := ⟨hr0, by omega, by omega⟩
      have HBB := Lib.hid hB
      unfold bef at hg
      have HG := Lib.hid hg
      clear hu hg hr0 hr1 hB h0 hon hsl hsr hi4 hht hn
      go_wp2_with fail
      refine (HBB.out.ins.node (by have := HR1.out; have := HRD.out; omega) (by have := HR1.out; have := HRD.out; omega) HI4.out HON.out).mono ?_
      rintro e w2 ⟨rfl, hin2, hk2⟩
      have HB2 := Lib.hid (HBB.out.step hin2 hk2)
      clear hin2 hk2 HBB
      unfold ndRow
      go_upto_region 7 with fail
      rw [show #[Value.int .i64 (A.nd i2).key, .int .i64 (A.nd i2).val, .int .u32 ((A.nd i2).left : Int), .int .u32 ((A.nd i2).right : Int), .int .i64 (A.nd i2).size, .int .i64 (A.nd i2).sum, .int .i64 (A.nd i2).mn, .int .i64 (A.nd i2).mx] = ndRow (A.nd i2) from rfl]
      have hB3 := HB2.out.calm (below_new7 w2 (Obj.cells (ndRow (A.nd i2)) 81))
      have hbx := heap_alloc_new w2 (Obj.cells (ndRow (A.nd i2)) 81)
      have hgb : b < w2.heap.size := HB2.out.ins.mr.lt (.inr (.inr rfl))
      have hgl : w2.heap.size < (w2.alloc (Obj.cells (ndRow (A.nd i2)) 81)).heap.size := by simp
      generalize w2.alloc (Obj.cells (ndRow (A.nd i2)) 81) = w3 at hB3 hbx hgl ⊢
      generalize w2.heap.size = g at hbx hgb hgl ⊢
      have x0 : w3.cell? ⟨g, 0, none⟩ = some (.int .i64 (A.nd i2).key) := by rw [cell_of_row _ _ _ _ _ _ hbx]; rfl
      have x1 : w3.cell? ⟨g, 1, none⟩ = some (.int .i64 (A.nd i2).val) := by rw [cell_of_row _ _ _ _ _ _ hbx]; rfl
      have x2 : w3.cell? ⟨g, 2, none⟩ = some (.int .u32 ((A.nd i2).left : Int)) := by rw [cell_of_row _ _ _ _ _ _ hbx]; rfl
      have x3 : w3.cell? ⟨g, 3, none⟩ = some (.int .u32 ((A.nd i2).right : Int)) := by rw [cell_of_row _ _ _ _ _ _ hbx]; rfl
      have x4 : w3.cell? ⟨g, 4, none⟩ = some (.int .i64 (A.nd i2).size) := by rw [cell_of_row _ _ _ _ _ _ hbx]; rfl
      have x5 : w3.cell? ⟨g, 5, none⟩ = some (.int .i64 (A.nd i2).sum) := by rw [cell_of_row _ _ _ _ _ _ hbx]; rfl
      have x6 : w3.cell? ⟨g, 6, none⟩ = some (.int .i64 (A.nd i2).mn) := by rw [cell_of_row _ _ _ _ _ _ hbx]; rfl
      have x7 : w3.cell? ⟨g, 7, none⟩ = some (.int .i64 (A.nd i2).mx) := by rw [cell_of_row _ _ _ _ _ _ hbx]; rfl
      have HX := Lib.hid hbx
      have HGL : Hid (b < g ∧ g < w3.heap.size) := ⟨hgb, hgl⟩
      have HB3 := Lib.hid hB3
      have HEN := Lib.hid (entry_any (A.nd i2) w3)
      have hg := HG.out
      clear hB3 hbx hgb hgl HB2 HG
      cases eq with
      | true =>
        rw [show k + (if true = true then 1 else 0) = k + 1 from rfl] at hg
        rcases Int.lt_trichotomy (A.nd i2).key k with h | h | h
        · have q1 : decide ((A.nd i2).key < k) = true := decide_eq_true (by omega)
          have q2 : decide ((A.nd i2).key > k) = false := decide_eq_false (by omega)
          have q3 : decide (k < (A.nd i2).key) = false := decide_eq_false (by omega)
          have q4 : ((A.nd i2).key == k) = false := by simp; omega
          rw [if_pos (by omega)] at hg
          clear h
          have HG := Lib.hid hg
          clear hg
          go_wp2_with fail
          refine HEN.out.mono ?_
          rintro e w4 ⟨rfl, hb4⟩
          have hx4 := (hb4.block g HGL.out.2).trans HX.out
          have hB4 := HB3.out.calm hb4
          clear x0 x1 x2 x3 x4 x5 x6 x7 hb4
          have x2 : w4.cell? ⟨g, 2, none⟩ = some (.int .u32 ((A.nd i2).left : Int)) := by rw [cell_of_row _ _ _ _ _ _ hx4]; rfl
          have x3 : w4.cell? ⟨g, 3, none⟩ = some (.int .u32 ((A.nd i2).right : Int)) := by rw [cell_of_row _ _ _ _ _ _ hx4]; rfl
          obtain ⟨c0, c1⟩ := two_ofE hB4.hb
          have f0 := frozen_of_row _ _ 0 _ _ hB4.hb
          have f1 := frozen_of_row _ _ 1 _ _ hB4.hb
          have hgne : g ≠ b := by have := HGL.out; omega
          have hgne2 : b ≠ g := by have := HGL.out; omega
          obtain ⟨X, hX⟩ : ∃ X, o.elim (0 : Int) (·.key) = X := ⟨_, rfl⟩
          obtain ⟨Y, hY⟩ : ∃ Y, o.elim (0 : Int) (·.val) = Y := ⟨_, rfl⟩
          rw [hX] at c0
          rw [hY] at c1
          have HE : Hid (Waybefore I w F (.pointer (some pa)) A rd k true R (rd + (t.ht : Int)) r b U (.bool true) (.int .u32 ((A.nd i2).right : Int)) (.int .i64 ((n + 1 : Nat) : Int)) ((w4.setCell ⟨b, 0, none⟩ (.int .i64 (A.nd i2).key)).setCell ⟨b, 1, none⟩ (.int .i64 (A.nd i2).val))) := ⟨_, n + 1, r2, rd1 + 1, some (ndE (A.nd i2)), rfl, rfl, rfl, HSR.out, HG.out, by have := HR1.out; omega, HR1.out.2.2, HNR.out, hB4.put (ndE (A.nd i2))⟩
          clear hx4 hB4 hX hY HX HB3 HEN HG
          go_wp2_with fail
          exact ⟨by rw [show ((n : Int) + 1) = ((n + 1 : Nat) : Int) by omega]; exact HE.out, by simp [intOf]; omega⟩
        · have q1 : decide ((A.nd i2).key < k) = false := decide_eq_false (by omega)
          have q2 : decide ((A.nd i2).key > k) = false := decide_eq_false (by omega)
          have q3 : decide (k < (A.nd i2).key) = false := decide_eq_false (by omega)
          have q4 : ((A.nd i2).key == k) = true := by simp; omega
          rw [if_pos (by omega)] at hg
          clear h
          have HG := Lib.hid hg
          clear hg
          go_wp2_with fail
          refine HEN.out.mono ?_
          rintro e w4 ⟨rfl, hb4⟩
          have hx4 := (hb4.block g HGL.out.2).trans HX.out
          have hB4 := HB3.out.calm hb4
          clear x0 x1 x2 x3 x4 x5 x6 x7 hb4
          have x2 : w4.cell? ⟨g, 2, none⟩ = some (.int .u32 ((A.nd i2).left : Int)) := by rw [cell_of_row _ _ _ _ _ _ hx4]; rfl
          have x3 : w4.cell? ⟨g, 3, none⟩ = some (.int .u32 ((A.nd i2).right : Int)) := by rw [cell_of_row _ _ _ _ _ _ hx4]; rfl
          obtain ⟨c0, c1⟩ := two_ofE hB4.hb
          have f0 := frozen_of_row _ _ 0 _ _ hB4.hb
          have f1 := frozen_of_row _ _ 1 _ _ hB4.hb
          have hgne : g ≠ b := by have := HGL.out; omega
          have hgne2 : b ≠ g := by have := HGL.out; omega
          obtain ⟨X, hX⟩ : ∃ X, o.elim (0 : Int) (·.key) = X := ⟨_, rfl⟩
          obtain ⟨Y, hY⟩ : ∃ Y, o.elim (0 : Int) (·.val) = Y := ⟨_, rfl⟩
          rw [hX] at c0
          rw [hY] at c1
          have HE : Hid (Waybefore I w F (.pointer (some pa)) A rd k true R (rd + (t.ht : Int)) r b U (.bool true) (.int .u32 ((A.nd i2).right : Int)) (.int .i64 ((n + 1 : Nat) : Int)) ((w4.setCell ⟨b, 0, none⟩ (.int .i64 (A.nd i2).key)).setCell ⟨b, 1, none⟩ (.int .i64 (A.nd i2).val))) := ⟨_, n + 1, r2, rd1 + 1, some (ndE (A.nd i2)), rfl, rfl, rfl, HSR.out, HG.out, by have := HR1.out; omega, HR1.out.2.2, HNR.out, hB4.put (ndE (A.nd i2))⟩
          clear hx4 hB4 hX hY HX HB3 HEN HG
          go_wp2_with fail
          exact ⟨by rw [show ((n : Int) + 1) = ((n + 1 : Nat) : Int) by omega]; exact HE.out, by simp [intOf]; omega⟩
        · have q1 : decide ((A.nd i2).key < k) = false := decide_eq_false (by omega)
          have q2 : decide ((A.nd i2).key > k) = true := decide_eq_true (by omega)
          have q3 : decide (k < (A.nd i2).key) = true := decide_eq_true (by omega)
          have q4 : ((A.nd i2).key == k) = false := by simp; omega
          rw [if_neg (by omega)] at hg
          clear h
          have HE : Hid (Waybefore I w F (.pointer (some pa)) A rd k true R (rd + (t.ht : Int)) r b U (.bool o.isSome) (.int .u32 ((A.nd i2).left : Int)) (.int .i64 ((n + 1 : Nat) : Int)) w3) := ⟨_, n + 1, l2, rd1 + 1, o, rfl, rfl, rfl, HSL.out, hg, by have := HR1.out; omega, HR1.out.2.1, HNL.out, HB3.out⟩
          generalize o.isSome = ob at HE ⊢
          clear hg HX HB3 HEN
          go_wp2_with fail
          exact ⟨by rw [show ((n : Int) + 1) = ((n + 1 : Nat) : Int) by omega]; exact HE.out, by simp [intOf]; omega⟩
      | false =>
        rw [show k + (if false = true then 1 else 0) = k + 0 from rfl] at hg
        rcases Int.lt_trichotomy (A.nd i2).key k with h | h | h
        · have q1 : decide ((A.nd i2).key < k) = true := decide_eq_true (by omega)
          have q2 : decide ((A.nd i2).key > k) = false := decide_eq_false (by omega)
          have q3 : decide (k < (A.nd i2).key) = false := decide_eq_false (by omega)
          have q4 : ((A.nd i2).key == k) = false := by simp; omega
          rw [if_pos (by omega)] at hg
          clear h
          have HG := Lib.hid hg
          clear hg
          go_wp2_with fail
          refine HEN.out.mono ?_
          rintro e w4 ⟨rfl, hb4⟩
          have hx4 := (hb4.block g HGL.out.2).trans HX.out
          have hB4 := HB3.out.calm hb4
          clear x0 x1 x2 x3 x4 x5 x6 x7 hb4
          have x2 : w4.cell? ⟨g, 2, none⟩ = some (.int .u32 ((A.nd i2).left : Int)) := by rw [cell_of_row _ _ _ _ _ _ hx4]; rfl
          have x3 : w4.cell? ⟨g, 3, none⟩ = some (.int .u32 ((A.nd i2).right : Int)) := by rw [cell_of_row _ _ _ _ _ _ hx4]; rfl
          obtain ⟨c0, c1⟩ := two_ofE hB4.hb
          have f0 := frozen_of_row _ _ 0 _ _ hB4.hb
          have f1 := frozen_of_row _ _ 1 _ _ hB4.hb
          have hgne : g ≠ b := by have := HGL.out; omega
          have hgne2 : b ≠ g := by have := HGL.out; omega
          obtain ⟨X, hX⟩ : ∃ X, o.elim (0 : Int) (·.key) = X := ⟨_, rfl⟩
          obtain ⟨Y, hY⟩ : ∃ Y, o.elim (0 : Int) (·.val) = Y := ⟨_, rfl⟩
          rw [hX] at c0
          rw [hY] at c1
          have HE : Hid (Waybefore I w F (.pointer (some pa)) A rd k false R (rd + (t.ht : Int)) r b U (.bool true) (.int .u32 ((A.nd i2).right : Int)) (.int .i64 ((n + 1 : Nat) : Int)) ((w4.setCell ⟨b, 0, none⟩ (.int .i64 (A.nd i2).key)).setCell ⟨b, 1, none⟩ (.int .i64 (A.nd i2).val))) := ⟨_, n + 1, r2, rd1 + 1, some (ndE (A.nd i2)), rfl, rfl, rfl, HSR.out, HG.out, by have := HR1.out; omega, HR1.out.2.2, HNR.out, hB4.put (ndE (A.nd i2))⟩
          clear hx4 hB4 hX hY HX HB3 HEN HG
          go_wp2_with fail
          exact ⟨by rw [show ((n : Int) + 1) = ((n + 1 : Nat) : Int) by omega]; exact HE.out, by simp [intOf]; omega⟩
        · have q1 : decide ((A.nd i2).key < k) = false := decide_eq_false (by omega)
          have q2 : decide ((A.nd i2).key > k) = false := decide_eq_false (by omega)
          have q3 : decide (k < (A.nd i2).key) = false := decide_eq_false (by omega)
          have q4 : ((A.nd i2).key == k) = true := by simp; omega
          rw [if_neg (by omega)] at hg
          clear h
          have HE : Hid (Waybefore I w F (.pointer (some pa)) A rd k false R (rd + (t.ht : Int)) r b U (.bool o.isSome) (.int .u32 ((A.nd i2).left : Int)) (.int .i64 ((n + 1 : Nat) : Int)) w3) := ⟨_, n + 1, l2, rd1 + 1, o, rfl, rfl, rfl, HSL.out, hg, by have := HR1.out; omega, HR1.out.2.1, HNL.out, HB3.out⟩
          generalize o.isSome = ob at HE ⊢
          clear hg HX HB3 HEN
          go_wp2_with fail
          exact ⟨by rw [show ((n : Int) + 1) = ((n + 1 : Nat) : Int) by omega]; exact HE.out, by simp [intOf]; omega⟩
        · have q1 : decide ((A.nd i2).key < k) = false := decide_eq_false (by omega)
          have q2 : decide ((A.nd i2).key > k) = true := decide_eq_true (by omega)
          have q3 : decide (k < (A.nd i2).key) = true := decide_eq_true (by omega)
          have q4 : ((A.nd i2).key == k) = false := by simp; omega
          rw [if_neg (by omega)] at hg
          clear h
          have HE : Hid (Waybefore I w F (.pointer (some pa)) A rd k false R (rd + (t.ht : Int)) r b U (.bool o.isSome) (.int .u32 ((A.nd i2).left : Int)) (.int .i64 ((n + 1 : Nat) : Int)) w3) := ⟨_, n + 1, l2, rd1 + 1, o, rfl, rfl, rfl, HSL.out, hg, by have := HR1.out; omega, HR1.out.2.1, HNL.out, HB3.out⟩
          generalize o.isSome = ob at HE ⊢
          clear hg HX HB3 HEN
          go_wp2_with fail
          exact ⟨by rw [show ((n : Int) + 1) = ((n + 1 : Nat) : Int) by omega]; exact HE.out, by simp [intOf]; omega⟩
def Wayafter (I : AImpl) (w : World) (F : Nat → Prop) (p : Value) (A : Ar) (rd0 : Int) (k : Int) (eq : Bool) (R : Option En) (top : Int) (r b U : Nat) (fd x c : Value) (wr : World) : Prop :=
  ∃ (i n : Nat) (u : Tr) (rd : Int) (o : Option En), fd = .bool o.isSome ∧ x = .int .u32 (i : Int) ∧ c = .int .i64 (n : Int) ∧ Sub A i u ∧ aft A.nd (k + if eq then 0 else 1) u o = R ∧ rd0 ≤ rd ∧ rd + (u.ht : Int) ≤ top ∧ n + u.size ≤ U ∧ BB I w F p A rd r b o wr
set_option maxHeartbeats 4000000 in
set_option maxRecDepth 100000 in
theorem afterH_any (I : AImpl) {p : Value} {A : Ar} {rd : Int} {F : Nat → Prop} {i : Nat} {t : Tr} {l : List En} (bd : Int) (k : Int) (eq : Bool) (w : World) (hI : I.Is w p A rd F) (hT : TreeAt A i t l) (h0 : 0 ≤ rd) (h1 : rd ≤ 1099511627776) (hbd : (t.ht : Int) ≤ bd) :
    Calls Tryz.prog 143 #[p, .int .u32 (i : Int), .int .i64 k, .bool eq] w (ReadsTo I p A rd F (bd) (enR (aft A.nd (k + if eq then 0 else 1) t none)) w) := by
  obtain ⟨pa, rfl⟩ := I.ptr hI
  have hin : (Tryz.prog.info? 69).map (·.size) = some 2 := by kernel_rfl
  have HINF := Lib.hid hin
  have HU : Hid _ := Lib.hid Tryz.underlying69
  have hb : (t.ht : Int) ≤ bd ∧ t.ht ≤ 65536 := ⟨hbd, hT.bound.2⟩
  clear hbd
  obtain ⟨R, hR⟩ : ∃ R, aft A.nd (k + if eq then 0 else 1) t none = R := ⟨_, rfl⟩
  rw [hR]
  obtain ⟨M, hM⟩ : ∃ M, bd = M := ⟨_, rfl⟩
  rw [hM] at hb ⊢
  obtain ⟨held, hv⟩ := hT.inv
  have hcap := hv.ok.cap2
  have hhd := hT.held
  obtain ⟨U, hUU⟩ : ∃ U, U + A.σ.free.length = A.σ.cap := ⟨A.σ.cap - A.σ.free.length, by omega⟩
  have HUU : Hid (U ≤ 65536 ∧ t.size ≤ U) := ⟨by omega, by omega⟩
  have HOK := Lib.hid hv.ok
  have HRD : Hid (0 ≤ rd ∧ rd ≤ 1099511627776 ∧ (t.ht : Int) ≤ M ∧ t.ht ≤ 65536) := ⟨h0, h1, hb.1, hb.2⟩
  have hbb := BB.start hI
  have HLP : Hid (∀ wx F1, I.Is wx (.pointer (some pa)) A rd F1 → Calls Tryz.prog 94 #[.pointer (some pa)] wx (Calm wx (.int .i64 (U : Int)))) := fun wx F1 h => longest_any I wx h hUU
  have HSUB := Lib.hid hT.sub
  have HRR := Lib.hid hR
  clear hI hT h0 h1 hb hR hM hv hin hcap hhd hUU
  go_enter Tryz.func143, Tryz.ntmps143
  go_upto_region 2 with fail
  generalize (w.alloc (Obj.cells #[.int .i64 0, .int .i64 0] 69)).alloc (Obj.cells #[.int .i64 0, .int .i64 0] 69) = w1 at hbb ⊢
  obtain ⟨r, hr⟩ : ∃ r, w.heap.size = r := ⟨_, rfl⟩
  rw [hr] at hbb ⊢
  generalize hb1 : r + 1 = b at hbb ⊢
  have HBB := Lib.hid hbb
  clear hbb hr hb1
  go_wp2_with fail
  obtain ⟨F1, f1, -, -⟩ := HBB.out.ins.mr.has
  refine (HLP.out w1 F1 f1).mono ?_
  rintro e w1' ⟨rfl, hb1'⟩
  have HW0 : Hid (Wayafter I w F (.pointer (some pa)) A rd k eq R (rd + (t.ht : Int)) r b U (.bool false) (.int .u32 (i : Int)) (.int .i64 0) w1') := ⟨i, 0, t, rd, none, rfl, rfl, rfl, HSUB.out, HRR.out, Int.le_refl _, Int.le_refl _, by have := HUU.out; omega, HBB.out.calm hb1'⟩
  clear f1 hb1' HBB HLP
  go_wp2_with fail
  go_loopw [11, 12, 18] (fun fd x c wr => Wayafter I w F (.pointer (some pa)) A rd k eq R (rd + (t.ht : Int)) r b U fd x c wr) (fun _ _ c _ => U - (intOf c).toNat)
  case atStart => exact HW0.out
  case round =>
    clear HW0
    obtain ⟨i, n, u, rd1, o, rfl, rfl, rfl, hu, hg, hr0, hr1, hn, hB⟩ := hrel
    rcases Nat.lt_or_ge n U with hnu | hnu
    rotate_left
    · have hnu2 : decide ((n : Int) < (U : Int)) = false := decide_eq_false (by omega)
      have hu0 : u = .nil := by
        cases u with
        | nil => rfl
        | node i l r =>
          have : (Tr.node i l r).size = l.size + r.size + 1 := rfl
          omega
      subst hu0
      have ho : o = R := hg
      subst ho
      have he := hB.ends hr0 (bd := M) (by have := HRD.out; omega)
      have hUn : ¬ n < U := Nat.not_lt.2 hnu
      clear hu hg hr0 hr1 hn hnu
      have HE := Lib.hid he
      obtain ⟨c0, c1⟩ := two_ofE hB.hb
      obtain ⟨r0, r1⟩ := two_ofE hB.hr
      have f0 := frozen_of_row _ _ 0 _ _ hB.hr
      have f1 := frozen_of_row _ _ 1 _ _ hB.hr
      have hne := hB.ne
      have hne2 : b ≠ r := fun e => hne e.symm
      obtain ⟨X, hX⟩ : ∃ X, o.elim (0 : Int) (·.key) = X := ⟨_, rfl⟩
      obtain ⟨Y, hY⟩ : ∃ Y, o.elim (0 : Int) (·.val) = Y := ⟨_, rfl⟩
      rw [hX] at c0 HE
      rw [hY] at c1 HE
      clear hB he hX hY
      go_wp2_with fail
      refine bodyPost_ret (results_row_tmp rfl _ _ r 69 #[.int .i64 X, .int .i64 Y] (0, 0) _ rfl HE.out.2 HU.out rfl HINF.out) rfl ?_
      exact HE.out.1
    have hnu2 : decide ((n : Int) < (U : Int)) = true := decide_eq_true (by omega)
    have hnu3 : (n : Int) < (U : Int) := by omega
    have hU4 : (U : Int) ≤ 65536 := by have := HUU.out.1; omega
    have hn0 : (0 : Int) ≤ (n : Int) := by omega
    cases u with
    | nil =>
      obtain rfl : i = 0 := by
        cases hu with
        | nil => rfl
      have ho : o = R := hg
      subst ho
      have HR1 : Hid (rd ≤ rd1 ∧ rd1 ≤ rd + (t.ht : Int)) := ⟨hr0, by have : (Tr.nil.ht : Nat) = 0 := rfl; omega⟩
      have HBB := Lib.hid hB
      clear hu hg hr0 hr1 hB hn
      go_wp2_with fail
      refine (HBB.out.ins.off (by have := HR1.out; have := HRD.out; omega) (by have := HR1.out; have := HRD.out; omega)).mono ?_
      rintro e w2 ⟨rfl, hin2, hk2⟩
      have hB2 := (HBB.out.step hin2 hk2).calm (below_new7 w2 (Obj.cells (ndRow Nd.zero) 81))
      clear hin2 hk2 HBB
      unfold ndRow
      go_upto_region 7 with fail
      rw [show #[Value.int .i64 Nd.zero.key, .int .i64 Nd.zero.val, .int .u32 (Nd.zero.left : Int), .int .u32 (Nd.zero.right : Int), .int .i64 Nd.zero.size, .int .i64 Nd.zero.sum, .int .i64 Nd.zero.mn, .int .i64 Nd.zero.mx] = ndRow Nd.zero from rfl]
      generalize w2.alloc (Obj.cells (ndRow Nd.zero) 81) = w3 at hB2 ⊢
      have hB := hB2
      clear hB2
      have he := hB.ends (rd0 := rd) (bd := M) HR1.out.1 (by have := HR1.out; have := HRD.out; omega)
      generalize w2.heap.size = g
      have HE := Lib.hid he
      obtain ⟨c0, c1⟩ := two_ofE hB.hb
      obtain ⟨r0, r1⟩ := two_ofE hB.hr
      have f0 := frozen_of_row _ _ 0 _ _ hB.hr
      have f1 := frozen_of_row _ _ 1 _ _ hB.hr
      have hne := hB.ne
      have hne2 : b ≠ r := fun e => hne e.symm
      obtain ⟨X, hX⟩ : ∃ X, o.elim (0 : Int) (·.key) = X := ⟨_, rfl⟩
      obtain ⟨Y, hY⟩ : ∃ Y, o.elim (0 : Int) (·.val) = Y := ⟨_, rfl⟩
      rw [hX] at c0 HE
      rw [hY] at c1 HE
      clear hB he hX hY
      go_wp2_with fail
      refine bodyPost_ret (results_row_tmp rfl _ _ r 69 #[.int .i64 X, .int .i64 Y] (0, 0) _ rfl HE.out.2 HU.out rfl HINF.out) rfl ?_
      exact HE.out.1
    | node i2 l2 r2 =>
      obtain ⟨rfl, h0, hon, hsl, hsr⟩ : i2 = i ∧ i ≠ 0 ∧ A.σ.on i = true ∧ Sub A (A.nd i).left l2 ∧ Sub A (A.nd i).right r2 := by
        cases hu with
        | node _ _ _ h1 h2 h3 h4 => exact ⟨rfl, h1, h2, h3, h4⟩
      have hi4 : i2 < 4294967296 := by have := HOK.out.on i2 hon; have := HOK.out.cap2; omega
      have hht : (Tr.node i2 l2 r2).ht = 1 + max l2.ht r2.ht := rfl
      rw [show (Tr.node i2 l2 r2).size = l2.size + r2.size + 1 from rfl] at hn
      have HNL : Hid (n + 1 + l2.size ≤ U) := by show _ ≤ _; omega
      have HNR : Hid (n + 1 + r2.size ≤ U) := by show _ ≤ _; omega
      have HSL := Lib.hid hsl
      have HSR := Lib.hid hsr
      have HON := Lib.hid hon
      have HI4 := Lib.hid hi4
      have HR1 : Hid (rd ≤ rd1 ∧ rd1 + 1 + (l2.ht : Int) ≤ rd + (t.ht : Int) ∧ rd1 + 1 + (r2.ht : Int) ≤ rd + (t.ht : Int)) := ⟨hr0, by omega, by omega⟩
      have HBB := Lib.hid hB
      unfold aft at hg
      have HG := Lib.hid hg
      clear hu hg hr0 hr1 hB h0 hon hsl hsr hi4 hht hn
      go_wp2_with fail
      refine (HBB.out.ins.node (by have := HR1.out; have := HRD.out; omega) (by have := HR1.out; have := HRD.out; omega) HI4.out HON.out).mono ?_
      rintro e w2 ⟨rfl, hin2, hk2⟩
      have HB2 := Lib.hid (HBB.out.step hin2 hk2)
      clear hin2 hk2 HBB
      unfold ndRow
      go_upto_region 7 with fail
      rw [show #[Value.int .i64 (A.nd i2).key, .int .i64 (A.nd i2).val, .int .u32 ((A.nd i2).left : Int), .int .u32 ((A.nd i2).right : Int), .int .i64 (A.nd i2).size, .int .i64 (A.nd i2).sum, .int .i64 (A.nd i2).mn, .int .i64 (A.nd i2).mx] = ndRow (A.nd i2) from rfl]
      have hB3 := HB2.out.calm (below_new7 w2 (Obj.cells (ndRow (A.nd i2)) 81))
      have hbx := heap_alloc_new w2 (Obj.cells (ndRow (A.nd i2)) 81)
      have hgb : b < w2.heap.size := HB2.out.ins.mr.lt (.inr (.inr rfl))
      have hgl : w2.heap.size < (w2.alloc (Obj.cells (ndRow (A.nd i2)) 81)).heap.size := by simp
      generalize w2.alloc (Obj.cells (ndRow (A.nd i2)) 81) = w3 at hB3 hbx hgl ⊢
      generalize w2.heap.size = g at hbx hgb hgl ⊢
      have x0 : w3.cell? ⟨g, 0, none⟩ = some (.int .i64 (A.nd i2).key) := by rw [cell_of_row _ _ _ _ _ _ hbx]; rfl
      have x1 : w3.cell? ⟨g, 1, none⟩ = some (.int .i64 (A.nd i2).val) := by rw [cell_of_row _ _ _ _ _ _ hbx]; rfl
      have x2 : w3.cell? ⟨g, 2, none⟩ = some (.int .u32 ((A.nd i2).left : Int)) := by rw [cell_of_row _ _ _ _ _ _ hbx]; rfl
      have x3 : w3.cell? ⟨g, 3, none⟩ = some (.int .u32 ((A.nd i2).right : Int)) := by rw [cell_of_row _ _ _ _ _ _ hbx]; rfl
      have x4 : w3.cell? ⟨g, 4, none⟩ = some (.int .i64 (A.nd i2).size) := by rw [cell_of_row _ _ _ _ _ _ hbx]; rfl
      have x5 : w3.cell? ⟨g, 5, none⟩ = some (.int .i64 (A.nd i2).sum) := by rw [cell_of_row _ _ _ _ _ _ hbx]; rfl
      have x6 : w3.cell? ⟨g, 6, none⟩ = some (.int .i64 (A.nd i2).mn) := by rw [cell_of_row _ _ _ _ _ _ hbx]; rfl
      have x7 : w3.cell? ⟨g, 7, none⟩ = some (.int .i64 (A.nd i2).mx) := by rw [cell_of_row _ _ _ _ _ _ hbx]; rfl
      have HX := Lib.hid hbx
      have HGL : Hid (b < g ∧ g < w3.heap.size) := ⟨hgb, hgl⟩
      have HB3 := Lib.hid hB3
      have HEN := Lib.hid (entry_any (A.nd i2) w3)
      have hg := HG.out
      clear hB3 hbx hgb hgl HB2 HG
      cases eq with
      | true =>
        rw [show k + (if true = true then 0 else 1) = k + 0 from rfl] at hg
        rcases Int.lt_trichotomy (A.nd i2).key k with h | h | h
        · have q1 : decide ((A.nd i2).key < k) = true := decide_eq_true (by omega)
          have q2 : decide ((A.nd i2).key > k) = false := decide_eq_false (by omega)
          have q3 : decide (k < (A.nd i2).key) = false := decide_eq_false (by omega)
          have q4 : ((A.nd i2).key == k) = false := by simp; omega
          rw [if_pos (by omega)] at hg
          clear h
          have HE : Hid (Wayafter I w F (.pointer (some pa)) A rd k true R (rd + (t.ht : Int)) r b U (.bool o.isSome) (.int .u32 ((A.nd i2).right : Int)) (.int .i64 ((n + 1 : Nat) : Int)) w3) := ⟨_, n + 1, r2, rd1 + 1, o, rfl, rfl, rfl, HSR.out, hg, by have := HR1.out; omega, HR1.out.2.2, HNR.out, HB3.out⟩
          generalize o.isSome = ob at HE ⊢
          clear hg HX HB3 HEN
          go_wp2_with fail
          exact ⟨by rw [show ((n : Int) + 1) = ((n + 1 : Nat) : Int) by omega]; exact HE.out, by simp [intOf]; omega⟩
        · have q1 : decide ((A.nd i2).key < k) = false := decide_eq_false (by omega)
          have q2 : decide ((A.nd i2).key > k) = false := decide_eq_false (by omega)
          have q3 : decide (k < (A.nd i2).key) = false := decide_eq_false (by omega)
          have q4 : ((A.nd i2).key == k) = true := by simp; omega
          rw [if_neg (by omega)] at hg
          clear h
          have HG := Lib.hid hg
          clear hg
          go_wp2_with fail
          refine HEN.out.mono ?_
          rintro e w4 ⟨rfl, hb4⟩
          have hx4 := (hb4.block g HGL.out.2).trans HX.out
          have hB4 := HB3.out.calm hb4
          clear x0 x1 x2 x3 x4 x5 x6 x7 hb4
          have x2 : w4.cell? ⟨g, 2, none⟩ = some (.int .u32 ((A.nd i2).left : Int)) := by rw [cell_of_row _ _ _ _ _ _ hx4]; rfl
          have x3 : w4.cell? ⟨g, 3, none⟩ = some (.int .u32 ((A.nd i2).right : Int)) := by rw [cell_of_row _ _ _ _ _ _ hx4]; rfl
          obtain ⟨c0, c1⟩ := two_ofE hB4.hb
          have f0 := frozen_of_row _ _ 0 _ _ hB4.hb
          have f1 := frozen_of_row _ _ 1 _ _ hB4.hb
          have hgne : g ≠ b := by have := HGL.out; omega
          have hgne2 : b ≠ g := by have := HGL.out; omega
          obtain ⟨X, hX⟩ : ∃ X, o.elim (0 : Int) (·.key) = X := ⟨_, rfl⟩
          obtain ⟨Y, hY⟩ : ∃ Y, o.elim (0 : Int) (·.val) = Y := ⟨_, rfl⟩
          rw [hX] at c0
          rw [hY] at c1
          have HE : Hid (Wayafter I w F (.pointer (some pa)) A rd k true R (rd + (t.ht : Int)) r b U (.bool true) (.int .u32 ((A.nd i2).left : Int)) (.int .i64 ((n + 1 : Nat) : Int)) ((w4.setCell ⟨b, 0, none⟩ (.int .i64 (A.nd i2).key)).setCell ⟨b, 1, none⟩ (.int .i64 (A.nd i2).val))) := ⟨_, n + 1, l2, rd1 + 1, some (ndE (A.nd i2)), rfl, rfl, rfl, HSL.out, HG.out, by have := HR1.out; omega, HR1.out.2.1, HNL.out, hB4.put (ndE (A.nd i2))⟩
          clear hx4 hB4 hX hY HX HB3 HEN HG
          go_wp2_with fail
          exact ⟨by rw [show ((n : Int) + 1) = ((n + 1 : Nat) : Int) by omega]; exact HE.out, by simp [intOf]; omega⟩
        · have q1 : decide ((A.nd i2).key < k) = false := decide_eq_false (by omega)
          have q2 : decide ((A.nd i2).key > k) = true := decide_eq_true (by omega)
          have q3 : decide (k < (A.nd i2).key) = true := decide_eq_true (by omega)
          have q4 : ((A.nd i2).key == k) = false := by simp; omega
          rw [if_neg (by omega)] at hg
          clear h
          have HG := Lib.hid hg
          clear hg
          go_wp2_with fail
          refine HEN.out.mono ?_
          rintro e w4 ⟨rfl, hb4⟩
          have hx4 := (hb4.block g HGL.out.2).trans HX.out
          have hB4 := HB3.out.calm hb4
          clear x0 x1 x2 x3 x4 x5 x6 x7 hb4
          have x2 : w4.cell? ⟨g, 2, none⟩ = some (.int .u32 ((A.nd i2).left : Int)) := by rw [cell_of_row _ _ _ _ _ _ hx4]; rfl
          have x3 : w4.cell? ⟨g, 3, none⟩ = some (.int .u32 ((A.nd i2).right : Int)) := by rw [cell_of_row _ _ _ _ _ _ hx4]; rfl
          obtain ⟨c0, c1⟩ := two_ofE hB4.hb
          have f0 := frozen_of_row _ _ 0 _ _ hB4.hb
          have f1 := frozen_of_row _ _ 1 _ _ hB4.hb
          have hgne : g ≠ b := by have := HGL.out; omega
          have hgne2 : b ≠ g := by have := HGL.out; omega
          obtain ⟨X, hX⟩ : ∃ X, o.elim (0 : Int) (·.key) = X := ⟨_, rfl⟩
          obtain ⟨Y, hY⟩ : ∃ Y, o.elim (0 : Int) (·.val) = Y := ⟨_, rfl⟩
          rw [hX] at c0
          rw [hY] at c1
          have HE : Hid (Wayafter I w F (.pointer (some pa)) A rd k true R (rd + (t.ht : Int)) r b U (.bool true) (.int .u32 ((A.nd i2).left : Int)) (.int .i64 ((n + 1 : Nat) : Int)) ((w4.setCell ⟨b, 0, none⟩ (.int .i64 (A.nd i2).key)).setCell ⟨b, 1, none⟩ (.int .i64 (A.nd i2).val))) := ⟨_, n + 1, l2, rd1 + 1, some (ndE (A.nd i2)), rfl, rfl, rfl, HSL.out, HG.out, by have := HR1.out; omega, HR1.out.2.1, HNL.out, hB4.put (ndE (A.nd i2))⟩
          clear hx4 hB4 hX hY HX HB3 HEN HG
          go_wp2_with fail
          exact ⟨by rw [show ((n : Int) + 1) = ((n + 1 : Nat) : Int) by omega]; exact HE.out, by simp [intOf]; omega⟩
      | false =>
        rw [show k + (if false = true then 0 else 1) = k + 1 from rfl] at hg
        rcases Int.lt_trichotomy (A.nd i2).key k with h | h | h
        · have q1 : decide ((A.nd i2).key < k) = true := decide_eq_true (by omega)
          have q2 : decide ((A.nd i2).key > k) = false := decide_eq_false (by omega)
          have q3 : decide (k < (A.nd i2).key) = false := decide_eq_false (by omega)
          have q4 : ((A.nd i2).key == k) = false := by simp; omega
          rw [if_pos (by omega)] at hg
          clear h
          have HE : Hid (Wayafter I w F (.pointer (some pa)) A rd k false R (rd + (t.ht : Int)) r b U (.bool o.isSome) (.int .u32 ((A.nd i2).right : Int)) (.int .i64 ((n + 1 : Nat) : Int)) w3) := ⟨_, n + 1, r2, rd1 + 1, o, rfl, rfl, rfl, HSR.out, hg, by have := HR1.out; omega, HR1.out.2.2, HNR.out, HB3.out⟩
          generalize o.isSome = ob at HE ⊢
          clear hg HX HB3 HEN
          go_wp2_with fail
          exact ⟨by rw [show ((n : Int) + 1) = ((n + 1 : Nat) : Int) by omega]; exact HE.out, by simp [intOf]; omega⟩
        · have q1 : decide ((A.nd i2).key < k) = false := decide_eq_false (by omega)
          have q2 : decide ((A.nd i2).key > k) = false := decide_eq_false (by omega)
          have q3 : decide (k < (A.nd i2).key) = false := decide_eq_false (by omega)
          have q4 : ((A.nd i2).key == k) = true := by simp; omega
          rw [if_pos (by omega)] at hg
          clear h
          have HE : Hid (Wayafter I w F (.pointer (some pa)) A rd k false R (rd + (t.ht : Int)) r b U (.bool o.isSome) (.int .u32 ((A.nd i2).right : Int)) (.int .i64 ((n + 1 : Nat) : Int)) w3) := ⟨_, n + 1, r2, rd1 + 1, o, rfl, rfl, rfl, HSR.out, hg, by have := HR1.out; omega, HR1.out.2.2, HNR.out, HB3.out⟩
          generalize o.isSome = ob at HE ⊢
          clear hg HX HB3 HEN
          go_wp2_with fail
          exact ⟨by rw [show ((n : Int) + 1) = ((n + 1 : Nat) : Int) by omega]; exact HE.out, by simp [intOf]; omega⟩
        · have q1 : decide ((A.nd i2).key < k) = false := decide_eq_false (by omega)
          have q2 : decide ((A.nd i2).key > k) = true := decide_eq_true (by omega)
          have q3 : decide (k < (A.nd i2).key) = true := decide_eq_true (by omega)
          have q4 : ((A.nd i2).key == k) = false := by simp; omega
          rw [if_neg (by omega)] at hg
          clear h
          have HG := Lib.hid hg
          clear hg
          go_wp2_with fail
          refine HEN.out.mono ?_
          rintro e w4 ⟨rfl, hb4⟩
          have hx4 := (hb4.block g HGL.out.2).trans HX.out
          have hB4 := HB3.out.calm hb4
          clear x0 x1 x2 x3 x4 x5 x6 x7 hb4
          have x2 : w4.cell? ⟨g, 2, none⟩ = some (.int .u32 ((A.nd i2).left : Int)) := by rw [cell_of_row _ _ _ _ _ _ hx4]; rfl
          have x3 : w4.cell? ⟨g, 3, none⟩ = some (.int .u32 ((A.nd i2).right : Int)) := by rw [cell_of_row _ _ _ _ _ _ hx4]; rfl
          obtain ⟨c0, c1⟩ := two_ofE hB4.hb
          have f0 := frozen_of_row _ _ 0 _ _ hB4.hb
          have f1 := frozen_of_row _ _ 1 _ _ hB4.hb
          have hgne : g ≠ b := by have := HGL.out; omega
          have hgne2 : b ≠ g := by have := HGL.out; omega
          obtain ⟨X, hX⟩ : ∃ X, o.elim (0 : Int) (·.key) = X := ⟨_, rfl⟩
          obtain ⟨Y, hY⟩ : ∃ Y, o.elim (0 : Int) (·.val) = Y := ⟨_, rfl⟩
          rw [hX] at c0
          rw [hY] at c1
          have HE : Hid (Wayafter I w F (.pointer (some pa)) A rd k false R (rd + (t.ht : Int)) r b U (.bool true) (.int .u32 ((A.nd i2).left : Int)) (.int .i64 ((n + 1 : Nat) : Int)) ((w4.setCell ⟨b, 0, none⟩ (.int .i64 (A.nd i2).key)).setCell ⟨b, 1, none⟩ (.int .i64 (A.nd i2).val))) := ⟨_, n + 1, l2, rd1 + 1, some (ndE (A.nd i2)), rfl, rfl, rfl, HSL.out, HG.out, by have := HR1.out; omega, HR1.out.2.1, HNL.out, hB4.put (ndE (A.nd i2))⟩
          clear hx4 hB4 hX hY HX HB3 HEN HG
          go_wp2_with fail
          exact ⟨by rw [show ((n : Int) + 1) = ((n + 1 : Nat) : Int) by omega]; exact HE.out, by simp [intOf]; omega⟩
end Go.Proofs.YtfihklpofmcfgaaGreat
