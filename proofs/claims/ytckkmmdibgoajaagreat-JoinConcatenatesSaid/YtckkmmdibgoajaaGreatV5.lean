/- Of the proofs of UpdateInserts, UpdateDeletes, JoinJoins, JoinConcatenates, JoinSplits: RotCon, Makes, RefNum, KitTree, SoundP, SlotsAt, RefNode, ArSide, RefNear. -/
import Derived.Test.YtckkmmdibgoajaaGreatV1
import Derived.Test.YtckkmmdibgoajaaGreatV2
import Derived.Test.YtckkmmdibgoajaaGreatV3
import Derived.Test.YtckkmmdibgoajaaGreatV4
import Derived.Laws.Rows
import Derived.Laws.CopyOwn
import Derived.Deep.DeepCutAuto
import Derived.RegionTactic
import Derived.Deep.RegionHeld3
import Derived.OwnWalk
import Derived.Laws.NewBlocks
set_option linter.unusedVariables false
set_option linter.unusedSimpArgs false
namespace Go.Proofs.YtckkmmdibgoajaaGreat
open Go.RowKit
/-- B is A with n new nodes and one reference more, to j; what was there stays -/
structure Turned (A : Ar) (held : Nat → Nat) (B : Ar) (j n : Nat) : Prop where
  kept : A.Kept B
  gen : ∀ i, A.σ.on i = true → B.σ.gen i = A.σ.gen i
  inv : B.Inv [] (more held j)
  agg : B.Agg
  wf : A.Wf → B.Wf
  free : B.σ.free.length + n = A.σ.free.length
def NewIn (A B : Ar) (j : Nat) : Prop := B.σ.on j = true ∧ A.σ.on j = false
def isNd (x e : Nd) (l r : Nat) : Prop := x.key = e.key ∧ x.val = e.val ∧ x.left = l ∧ x.right = r
/-- the nodes that a rotation of i moves have numbers of 64 bits -/
def WfNear (A : Ar) (i : Nat) : Prop := ∀ x, (x = i ∨ x = (A.nd i).left ∨ x = (A.nd i).right ∨ x = (A.nd (A.nd i).left).right ∨ x = (A.nd (A.nd i).right).left) → A.σ.on x = true → i64R (A.nd x).key ∧ i64R (A.nd x).val
/-- does the root have the form that the rotation asks -/
def rform (A : Ar) (k i : Nat) : Bool := A.σ.on i && match k with
  | 0 => (A.nd i).right != 0
  | 1 => (A.nd i).left != 0
  | 2 => (A.nd i).right != 0 && (A.nd (A.nd i).right).left != 0
  | _ => (A.nd i).left != 0 && (A.nd (A.nd i).left).right != 0
def rneed (k : Nat) : Nat := if k < 2 then 2 else 3
def dnodes (A B : Ar) (j : Nat) (p q r : Nd) : Prop :=
  ∃ y z, y ≠ z ∧ NewIn A B j ∧ NewIn A B y ∧ NewIn A B z ∧ isNd (B.nd j) q y z ∧ isNd (B.nd y) p p.left q.left ∧ isNd (B.nd z) r q.right r.right
/-- the nodes of the result -/
def RNodes (A B : Ar) (k i j : Nat) : Prop := match k with
  | 0 => ∃ z, NewIn A B j ∧ NewIn A B z ∧ isNd (B.nd j) (A.nd (A.nd i).right) z (A.nd (A.nd i).right).right ∧ isNd (B.nd z) (A.nd i) (A.nd i).left (A.nd (A.nd i).right).left
  | 1 => ∃ z, NewIn A B j ∧ NewIn A B z ∧ isNd (B.nd j) (A.nd (A.nd i).left) (A.nd (A.nd i).left).left z ∧ isNd (B.nd z) (A.nd i) (A.nd (A.nd i).left).right (A.nd i).right
  | 2 => dnodes A B j (A.nd i) (A.nd (A.nd (A.nd i).right).left) (A.nd (A.nd i).right)
  | _ => dnodes A B j (A.nd (A.nd i).left) (A.nd (A.nd (A.nd i).left).right) (A.nd i)
/-- what a rotation answers, where T says what stands at an arena -/
def RotEnd (A : Ar) (held : Nat → Nat) (k i : Nat) (T : Ar → (Nat → Nat) → Prop) (e : Ending) : Prop :=
  (rform A k i = false ∧ e = .returned (.tuple #[.int .u32 0, .int .i64 1]) ∧ T A held) ∨
  (rform A k i = true ∧ A.σ.free.length < rneed k ∧ e = .returned (.tuple #[.int .u32 0, .int .i64 2]) ∧ T A held) ∨
  (rform A k i = true ∧ rneed k ≤ A.σ.free.length ∧ ∃ B j, Turned A held B j (rneed k) ∧ RNodes A B k i j ∧ e = .returned (.tuple #[.int .u32 (j : Int), .int .i64 0]) ∧ T B (more held j))
def RotRes (I : AImpl) (p : Value) (A : Ar) (rd : Int) (F : Nat → Prop) (held : Nat → Nat) (k i : Nat) (w : World) (e : Ending) (w' : World) : Prop :=
  ∃ F' rd', Alters F F' w w' ∧ rd ≤ rd' ∧ rd' ≤ rd + 4 ∧ RotEnd A held k i (fun B _ => I.Is w' p B rd' F') e
def RotSpec (I : AImpl) (f : FuncId) (k : Nat) : Prop := ∀ {p : Value} {A : Ar} {rd : Int} {F : Nat → Prop} {held : Nat → Nat} {i : Nat} (w : World),
  I.Is w p A rd F → A.Inv [] held → A.Agg → WfNear A i → (∀ j, held j ≤ 1048500) → 0 ≤ rd → rd ≤ 2199023255552 → i < 4294967296 →
  Calls Tryz.prog f #[p, .int .u32 (i : Int)] w (RotRes I p A rd F held k i w)
structure RotImpl (I : AImpl) : Prop where
  left : RotSpec I 128 0
  right : RotSpec I 130 1
  dleft : RotSpec I 129 2
  dright : RotSpec I 131 3
end Go.Proofs.YtckkmmdibgoajaaGreat
set_option linter.unusedVariables false
namespace Go.Proofs.YtckkmmdibgoajaaGreat
/-- B is A with a new node x at i, to which one reference more is held -/
structure Mk (A : Ar) (held : Nat → Nat) (i : Nat) (x : Nd) (B : Ar) : Prop where
  kept : A.Kept B
  gen : ∀ j, A.σ.on j = true → B.σ.gen j = A.σ.gen j
  inv : B.Inv [] (more held i)
  agg : B.Agg
  wf : A.Wf → B.Wf
  free : B.σ.free.length + 1 = A.σ.free.length
  nd : B.nd i = x
  new : NewIn A B i
theorem kept_sz {A B : Ar} (hk : A.Kept B) {i : Nat} (hi : A.Idx i) : B.sz i = A.sz i := by
  unfold Ar.sz
  by_cases h0 : i = 0
  · rw [if_pos h0, if_pos h0]
  · rw [if_neg h0, if_neg h0, hk.nd i (hi.resolve_left h0)]
theorem mk {A : Ar} {held : Nat → Nat} {i : Nat} {t : List Nat} {key val : Int} {l r : Nat} (hv : A.Inv [] held) (ha : A.Agg) (hf : A.σ.free = i :: t) (hk : i64R key) (hx : i64R val) (hl : A.Idx l) (hr : A.Idx r) (hs : (A.node key val l r).size ≤ 2147483647) :
    Mk A held i (A.node key val l r) (A.made i t (A.node key val l r)) := by
  have hi := (hv.ok.free i).1 (by rw [hf]; simp)
  have hne : ∀ j, A.σ.on j = true → j ≠ i := fun j hj e => by subst e; rw [hi.2.2] at hj; cases hj
  refine ⟨Ar.Kept.made _ hv hf, fun j hj => ?_, hv.made hf hl hr, ha.made hv hf hl hr hs, fun hw => hw.made ⟨hk, hx⟩, ?_, if_pos rfl, take_same _ _ _, hi.2.2⟩
  · show (A.σ.take i t).gen j = A.σ.gen j
    unfold St.take
    simp [hne j hj]
  · show (A.σ.take i t).free.length + 1 = _
    rw [hf]
    rfl
/-- a reference that is held to a node which another node has, too, is given back -/
theorem give {A : Ar} {held : Nat → Nat} (hv : A.Inv [] held) (ha : A.Agg) {i : Nat} (h1 : i ≠ 0 → 0 < held i ∧ 2 ≤ A.cnt i) :
    (A.Idx i → A.Inv [i] (mns held i)) ∧ A.Idx i ∧ (A.gone i).Inv [] (mns held i) ∧ (A.gone i).Agg ∧ (A.Wf → (A.gone i).Wf) ∧ A.Kept (A.gone i) ∧ (A.gone i).σ = A.σ ∧ (∀ j, (A.gone i).cnt j = A.cnt j - (if i ≠ 0 ∧ j = i then 1 else 0)) := by
  obtain ⟨g1, g2, g3, g4, g5, g6, g7⟩ := hv.shared h1 ha
  exact ⟨g1, g2, g3, g4, fun hw => hw.gone i, g5, g6, g7⟩
theorem mns_more2 {held : Nat → Nat} {a b : Nat} (ha : a ≠ 0) (h : a ≠ b) : mns (more (more held a) b) a = more held b := by
  funext j
  rw [mns_at]
  unfold more
  by_cases e1 : j = b
  · subst e1
    rw [if_pos rfl, if_pos rfl, if_neg (Ne.symm h), if_neg (fun q => h q.2.symm)]
    omega
  · rw [if_neg e1, if_neg e1]
    by_cases e2 : j = a
    · subst e2; rw [if_pos rfl, if_pos ⟨ha, rfl⟩]; omega
    · rw [if_neg e2, if_neg (fun q => e2 q.2)]; omega
/-- two nodes, the second over the first; then the first one's reference is given back -/
theorem two_nodes {A A1 A2 : Ar} {held : Nat → Nat} {i1 i2 : Nat} {x1 x2 : Nd} (h1 : Mk A held i1 x1 A1) (h2 : Mk A1 (more held i1) i2 x2 A2) (hc : 2 ≤ A2.cnt i1) :
    (A2.Idx i1 → A2.Inv [i1] (mns (more (more held i1) i2) i1)) ∧ A2.Idx i1 ∧ Turned A held (A2.gone i1) i2 2 ∧ NewIn A (A2.gone i1) i1 ∧ NewIn A (A2.gone i1) i2 ∧ (A2.gone i1).nd i1 = x1 ∧ (A2.gone i1).nd i2 = x2 := by
  have hi0 : i1 ≠ 0 := by have := h1.inv.ok.on i1 h1.new.1; omega
  have hne : i1 ≠ i2 := fun e => by have h := h2.new.2; rw [← e, h1.new.1] at h; cases h
  have hh : 0 < more (more held i1) i2 i1 := by unfold more; rw [if_neg hne, if_pos rfl]; omega
  obtain ⟨g1, g2, g3, g4, g5, g6, g7, g8⟩ := give h2.inv h2.agg (i := i1) (fun _ => ⟨hh, hc⟩)
  rw [mns_more2 hi0 hne] at g3
  have hk := (h1.kept.trans h2.kept).trans g6
  have n1 : (A2.gone i1).σ.on i1 = true := by rw [g7]; exact h2.kept.on i1 h1.new.1
  have n2 : (A2.gone i1).σ.on i2 = true := by rw [g7]; exact h2.new.1
  have off2 : A.σ.on i2 = false := by
    cases ho : A.σ.on i2
    · rfl
    · have := h1.kept.on i2 ho; rw [h2.new.2] at this; cases this
  refine ⟨g1, g2, ⟨hk, fun j hj => ?_, g3, g4, fun q => g5 (h2.wf (h1.wf q)), ?_⟩, ⟨n1, h1.new.2⟩, ⟨n2, off2⟩, ?_, ?_⟩
  · rw [g7, h2.gen j (h1.kept.on j hj), h1.gen j hj]
  · rw [g7]
    have f1 := h1.free
    have f2 := h2.free
    omega
  · rw [g6.nd i1 (h2.kept.on i1 h1.new.1), h2.kept.nd i1 h1.new.1, h1.nd]
  · rw [g6.nd i2 h2.new.1, h2.nd]
theorem Mk.off {A B : Ar} {held : Nat → Nat} {i : Nat} {x : Nd} {A0 : Ar} (h : Mk A held i x B) (hk : A0.Kept A) : A0.σ.on i = false := by
  cases ho : A0.σ.on i
  · rfl
  · have := hk.on i ho; rw [h.new.2] at this; cases this
end Go.Proofs.YtckkmmdibgoajaaGreat
set_option linter.unusedVariables false
set_option linter.unusedSimpArgs false
namespace Go.Proofs.YtckkmmdibgoajaaGreat
open Go.RowKit
set_option maxRecDepth 100000 in
theorem refBalanced_any (l r : Int) (w : World) (hl0 : -9223372036854775808 ≤ l) (hl1 : l ≤ 9223372036854775807) (hr0 : -9223372036854775808 ≤ r) (hr1 : r ≤ 9223372036854775807) :
    Calls Tryz.prog 34 #[.int .i64 l, .int .i64 r] w fun e w' => e = .returned (.bool (bal l r)) ∧ w' = w := by
  by_cases h : 0 ≤ l ∧ l ≤ 2147483647 ∧ 0 ≤ r ∧ r ≤ 2147483647
  · obtain ⟨h1, h2, h3, h4⟩ := h
    have HB : Hid (bal l r = (decide (l + 1 ≤ 3 * (r + 1)) && decide (r + 1 ≤ 3 * (l + 1)))) := by
      unfold bal
      rw [← Bool.decide_and]
      exact decide_eq_decide.2 ⟨fun h => ⟨h.2.2.2.2.1, h.2.2.2.2.2⟩, fun h => ⟨h1, h2, h3, h4, h.1, h.2⟩⟩
    have e1 : IntKind.i64.wrap (l + 1) = l + 1 := by rw [IntKind.wrap_i64]; omega
    have e2 : IntKind.i64.wrap (r + 1) = r + 1 := by rw [IntKind.wrap_i64]; omega
    have e3 : IntKind.i64.wrap (3 * (r + 1)) = 3 * (r + 1) := by rw [IntKind.wrap_i64]; omega
    have e4 : IntKind.i64.wrap (3 * (l + 1)) = 3 * (l + 1) := by rw [IntKind.wrap_i64]; omega
    have g1 : decide (l < 0) = false := decide_eq_false (by omega)
    have g2 : decide (2147483647 < l) = false := decide_eq_false (by omega)
    have g3 : decide (r < 0) = false := decide_eq_false (by omega)
    have g4 : decide (2147483647 < r) = false := decide_eq_false (by omega)
    rw [HB.out]
    clear HB hl0 hl1 hr0 hr1 h1 h2 h3 h4
    by_cases hc : l + 1 ≤ 3 * (r + 1)
    · have hc2 := decide_eq_true hc
      go_enter Tryz.func34, Tryz.ntmps34
      go_wp2
      go_ret
      exact ⟨by simp [hc], rfl⟩
    · have hc2 := decide_eq_false hc
      go_enter Tryz.func34, Tryz.ntmps34
      go_wp2
      go_ret
      exact ⟨by simp [hc], rfl⟩
  · have HB : bal l r = false := decide_eq_false fun h2 => h ⟨h2.1, h2.2.1, h2.2.2.1, h2.2.2.2.1⟩
    rw [HB]
    clear HB
    by_cases h1 : l < 0
    · have g1 := decide_eq_true h1
      clear h h1
      go_enter Tryz.func34, Tryz.ntmps34
      go_wp2
      go_ret
      exact ⟨rfl, rfl⟩
    · have g1 := decide_eq_false h1
      by_cases h2 : 2147483647 < l
      · have g2 := decide_eq_true h2
        clear h h1 h2
        go_enter Tryz.func34, Tryz.ntmps34
        go_wp2
        go_ret
        exact ⟨rfl, rfl⟩
      · have g2 := decide_eq_false h2
        by_cases h3 : r < 0
        · have g3 := decide_eq_true h3
          clear h h1 h2 h3
          go_enter Tryz.func34, Tryz.ntmps34
          go_wp2
          go_ret
          exact ⟨rfl, rfl⟩
        · have g3 := decide_eq_false h3
          have g4 : decide (2147483647 < r) = true := decide_eq_true (by omega)
          clear h h1 h2 h3
          go_enter Tryz.func34, Tryz.ntmps34
          go_wp2
          go_ret
          exact ⟨rfl, rfl⟩
theorem below_new7 (w : World) (o : Obj) : Below w.heap.size w (w.alloc o) := (Below.refl _ _).alloc (Nat.le_refl _) _
theorem below_chain7 {a b c : World} (h : Below a.heap.size a b) (h1 : Below b.heap.size b c) : Below a.heap.size a c := h.trans (h1.mono h.size)
def zero81 : Array Value := Array.replicate 81 (.int .i64 0)
/-- the weights up to height h, then zeros -/
def wtv (h : Nat) : Array Value := (Array.range 81).map fun j => .int .i64 (if j ≤ h then (wt j : Int) else 0)
theorem zero81_run : ∀ w, (zeroValue 128).run Tryz.prog w = .ok (.agg zero81) w := by
  have h : (Tryz.prog.info? 128).map (·.zero) = some (some (.agg zero81)) := by kernel_rfl
  intro w
  cases hi : Tryz.prog.info? 128 with
  | none => simp [hi] at h
  | some i =>
    have hz : i.zero = some (.agg zero81) := by simpa [hi] using h
    simp [zeroValue, typeInfo, hi, hz]
theorem wtv_size (h : Nat) : (wtv h).size = 81 := by simp [wtv]
theorem wtv_at (h j : Nat) (hj : j < 81) : (wtv h)[j]? = some (.int .i64 (if j ≤ h then (wt j : Int) else 0)) := by simp [wtv, hj]
theorem wtv_at2 (h j : Nat) : (wtv h)[j]? = if j < 81 then some (.int .i64 (if j ≤ h then (wt j : Int) else 0)) else none := by
  by_cases hj : j < 81
  · rw [if_pos hj]; exact wtv_at h j hj
  · rw [if_neg hj]; exact Array.getElem?_eq_none (by rw [wtv_size]; omega)
theorem zero81_at (j : Nat) : zero81[j]? = if j < 81 then some (.int .i64 0) else none := by
  by_cases hj : j < 81
  · rw [if_pos hj]; simp [zero81, hj]
  · rw [if_neg hj]; exact Array.getElem?_eq_none (by simp [zero81]; omega)
theorem wtv_zero : zero81.setIfInBounds 0 (.int .i64 1) = wtv 0 := by
  apply Array.ext_getElem?
  intro j
  rw [wtv_at2]
  by_cases e : 0 = j
  · subst e
    rw [Array.getElem?_setIfInBounds_self_of_lt (by simp [zero81])]
    rfl
  · rw [Array.getElem?_setIfInBounds_ne e, zero81_at]
    have h2 : ¬ j ≤ 0 := by omega
    rw [if_neg h2]
theorem wtv_step (h : Nat) (hh : h + 1 < 81) (v : Int) (hv : v = (wt (h + 1) : Int)) : (wtv h).setIfInBounds (h + 1) (.int .i64 v) = wtv (h + 1) := by
  subst hv
  apply Array.ext_getElem?
  intro j
  rw [wtv_at2]
  by_cases e : h + 1 = j
  · subst e
    rw [Array.getElem?_setIfInBounds_self_of_lt (by rw [wtv_size]; exact hh), if_pos hh, if_pos (Nat.le_refl _)]
  · rw [Array.getElem?_setIfInBounds_ne e, wtv_at2]
    by_cases e2 : j ≤ h
    · rw [if_pos e2, if_pos (show j ≤ h + 1 by omega)]
    · rw [if_neg e2, if_neg (show ¬ j ≤ h + 1 by omega)]
theorem wtv_one (h : Nat) : (wtv h).all (·.oneCell') = true := by
  rw [Array.all_eq_true]
  intro i h
  simp [wtv, Value.oneCell']
def WRel (w : World) (i : Value) (wr : World) : Prop :=
  ∃ k : Nat, k < 81 ∧ i = .int .i64 ((k : Int) + 1) ∧ wr.heap[w.heap.size]? = some (.cells zero81 128 (0, 0)) ∧ wr.heap[w.heap.size + 1]? = some (.cells (wtv k) 128 (0, 0)) ∧ Below w.heap.size w wr
theorem WRel.drew {w wr : World} {i : Value} (h : WRel w i wr) : WRel w i wr.drew := by
  obtain ⟨k, h1, h2, h3, h4, h5⟩ := h
  exact ⟨k, h1, h2, h3, h4, h5.drew⟩
set_option maxHeartbeats 1000000 in
set_option maxRecDepth 100000 in
theorem weights_any (w : World) : Calls Tryz.prog 87 #[] w fun e w' => e = .returned (.agg (wtv 80)) ∧ Below w.heap.size w w' := by
  have hz := zero81_run
  have hu : (Tryz.prog.underlying 128) = some (.array 81 3) := by kernel_rfl
  have hi : (Tryz.prog.info? 128).map (·.size) = some 81 := by kernel_rfl
  have HU := Lib.hid hu
  have HI := Lib.hid hi
  clear hu hi
  go_enter Tryz.func87, Tryz.ntmps87
  go_upto_region 2 with fail
  have hB0 : Below w.heap.size w ((w.alloc (Obj.cells zero81 128)).alloc (Obj.cells zero81 128)) := ((Below.refl _ _).alloc (Nat.le_refl _) _).alloc (by simp) _
  have h0 := heap_alloc2_old w (Obj.cells zero81 128) (Obj.cells zero81 128)
  have h1 := heap_alloc2_new w (Obj.cells zero81 128) (Obj.cells zero81 128)
  clear hz
  generalize (w.alloc (Obj.cells zero81 128)).alloc (Obj.cells zero81 128) = w1 at hB0 h0 h1 ⊢
  have hc0 : w1.cell? ⟨w.heap.size + 1, 0, none⟩ = some (.int .i64 0) := by rw [cell_of_row _ _ _ _ _ _ h1, zero81_at]; rfl
  have hf0 := frozen_of_row w1 (w.heap.size + 1) 0 zero81 _ h1
  have HR0 : Hid (WRel w (.int .i64 1) (w1.setCell ⟨w.heap.size + 1, 0, none⟩ (.int .i64 1))) := ⟨0, by omega, rfl, by
    rw [heap_setCell_other _ _ _ _ (by show w.heap.size ≠ w.heap.size + 1; omega)]
    exact h0, by rw [← wtv_zero]; exact heap_setCell_same w1 (w.heap.size + 1) 0 zero81 _ _ h1, hB0.setCell (by show w.heap.size ≤ w.heap.size + 1; omega) _⟩
  clear hB0 h0 h1
  go_wp2_with fail
  go_loopw [2] (fun i wr => WRel w i wr) (fun i _ => 81 - (intOf i).toNat)
  case atStart => exact HR0.out
  case round =>
    clear HR0 hc0 hf0
    obtain ⟨k, hk, rfl, h0, h1, hB⟩ := hrel
    by_cases hlt : k < 80
    · have hki : (k : Int) + 1 ≤ 80 := by omega
      have hk0 : (0 : Int) ≤ (k : Int) := by omega
      have HK : Hid (k < 80) := hlt
      have hwl : wt k < 1000000000000 := Nat.lt_of_le_of_lt (wt_mono (show k ≤ 80 by omega)) wt_small
      have hc1 : wr.cell? ⟨w.heap.size + 1, k, none⟩ = some (.int .i64 (wt k : Int)) := by
        rw [cell_of_row _ _ _ _ _ _ h1, wtv_at _ _ (by omega), if_pos (Nat.le_refl k)]
      have hc2 : wr.cell? ⟨w.heap.size + 1, k + 1, none⟩ = some (.int .i64 0) := by
        rw [cell_of_row _ _ _ _ _ _ h1, wtv_at _ _ (by omega), if_neg (by omega)]
      have hf2 := frozen_of_row wr (w.heap.size + 1) (k + 1) (wtv k) _ h1
      have HST : Hid (∀ v : Int, v = (wt (k + 1) : Int) → WRel w (.int .i64 ((k : Int) + 1 + 1)) (wr.setCell ⟨w.heap.size + 1, k + 1, none⟩ (.int .i64 v))) := fun v hv => ⟨k + 1, by omega, by congr 1, by
        rw [heap_setCell_other _ _ _ _ (by show w.heap.size ≠ w.heap.size + 1; omega)]
        exact h0, by rw [← wtv_step k (by omega) v hv]; exact heap_setCell_same wr (w.heap.size + 1) (k + 1) (wtv k) _ _ h1, hB.setCell (by show w.heap.size ≤ w.heap.size + 1; omega) _⟩
      have hw : ((wt (k + 1) : Nat) : Int) = (wt k : Int) + ((wt k : Int) + 2) / 3 := by rw [wt_succ]; omega
      have HW := Lib.hid hw
      clear hw
      generalize wt k = X at hc1 hwl HW
      have hX1 : IntKind.i64.wrap ((X : Int) + 2) = (X : Int) + 2 := by rw [IntKind.wrap_i64]; omega
      have hX2 : IntKind.i64.wrap ((X : Int) + ((X : Int) + 2) / 3) = (X : Int) + ((X : Int) + 2) / 3 := by rw [IntKind.wrap_i64]; omega
      have hk1 : (k : Int) + 1 - 1 = (k : Int) := by omega
      have HWL := Lib.hid hwl
      clear hB h0 h1 hwl hlt hk
      go_upto_region 6 with fail
      go_region
      have hv : wrap64 ((X : Int) + wrap64 (((X : Int) + 2).tdiv 3)) = (wt (k + 1) : Int) := by
        rw [HW.out, Int.tdiv_eq_ediv_of_nonneg (by omega)]
        have := HWL.out
        unfold wrap64
        omega
      have hst := HST.out _ hv
      clear HW HST
      generalize wrap64 ((X : Int) + wrap64 (((X : Int) + 2).tdiv 3)) = v at hst hv ⊢
      have HST := Lib.hid hst
      clear hst hv HWL
      go_wp2_with fail
      exact ⟨HST.out.drew, by simp [intOf]; omega⟩
    · obtain rfl : k = 80 := by omega
      have H0 := Lib.hid h0
      have H1 := Lib.hid h1
      have HB := Lib.hid hB
      clear h0 h1 hB hlt hk
      go_wp2_with (first | refine wpList_load_row rfl 128 (.tmp 1) rfl (w.heap.size + 1) rfl 128 (wtv 80) (0, 0) _ H1.out HU.out rfl (by rw [HI.out, wtv_size]) ?_ | refine wpList_store_row rfl 128 (.tmp 0) (.tmp 21) rfl w.heap.size (wtv 80) rfl rfl 128 zero81 H0.out (by rw [HI.out, wtv_size]) (by rw [wtv_size]; simp [zero81]) (wtv_one _) ?_)
      exact bodyPost_ret (v := .agg (wtv 80)) (results_cell_row rfl _ _ w.heap.size 128 (wtv 80) (0, 0) _ rfl (setRow_heap _ _ _ _ _ _ H0.out) HU.out rfl (by rw [HI.out, wtv_size])) rfl ⟨rfl, below_setRow HB.out (Nat.le_refl _) _⟩
set_option maxHeartbeats 1000000 in
set_option maxRecDepth 100000 in
theorem refMaxHeight_any (n : Int) (w : World) (h0 : -9223372036854775808 ≤ n) (h1 : n ≤ 9223372036854775807) : Calls Tryz.prog 55 #[.int .i64 n] w (Calm w (.int .i64 (xhI n))) := by
  by_cases hr : 0 ≤ n ∧ n ≤ 2147483647
  · obtain ⟨m, rfl⟩ := Int.eq_ofNat_of_zero_le hr.1
    have hm : (m : Int) ≤ 2147483647 := hr.2
    have hM : xhI (m : Int) = (xh m : Int) := by
      unfold xhI
      rw [if_pos hr, Int.toNat_natCast]
    have hg1 : decide ((m : Int) < 0) = false := decide_eq_false (by omega)
    have hg2 : decide ((2147483647 : Int) < (m : Int)) = false := decide_eq_false (by omega)
    have hz := zero81_run
    have hu : (Tryz.prog.underlying 128) = some (.array 81 3) := by kernel_rfl
    have hi : (Tryz.prog.info? 128).map (·.size) = some 81 := by kernel_rfl
    have HU := Lib.hid hu
    have HI := Lib.hid hi
    rw [hM]
    clear hM h0 h1 hr hu hi
    go_enter Tryz.func55, Tryz.ntmps55
    go_wp2_with fail
    refine (weights_any w).mono ?_
    rintro e w1 ⟨rfl, hb⟩
    have hnew := heap_alloc_new w1 (Obj.cells zero81 128)
    have HW1 := Lib.hid hnew
    have HB := Lib.hid (hb.trans ((below_new7 w1 (Obj.cells zero81 128)).mono hb.size))
    have hsz : w.heap.size ≤ w1.heap.size := hb.size
    clear hb hnew
    go_wp2_with (refine wpList_store_row rfl 128 (.tmp 3) (.tmp 11) rfl w1.heap.size (wtv 80) rfl rfl 128 zero81 HW1.out (by rw [HI.out, wtv_size]) (by rw [wtv_size]; simp [zero81]) (wtv_one _) ?_)
    have hrow : ((w1.alloc (Obj.cells zero81 128)).setRow w1.heap.size (wtv 80)).heap[w1.heap.size]? = some (.cells (wtv 80) 128 (0, 0)) := setRow_heap _ _ _ _ _ _ HW1.out
    have HBF : Hid (Below w.heap.size w ((w1.alloc (Obj.cells zero81 128)).setRow w1.heap.size (wtv 80))) := below_setRow HB.out hsz _
    have HROW := Lib.hid hrow
    clear hrow hsz hz
    generalize (w1.alloc (Obj.cells zero81 128)).setRow w1.heap.size (wtv 80) = w2 at HROW HBF ⊢
    generalize w1.heap.size = q at HROW ⊢
    clear HW1 HB
    have HST : Hid (xhF m 80 0 = xh m) := rfl
    go_loopw [4] (fun i wr => ∃ h : Nat, h ≤ 80 ∧ i = .int .i64 (h : Int) ∧ xhF m (80 - h) h = xh m ∧ wr = w2) (fun i _ => 80 - (intOf i).toNat)
    case atStart => exact ⟨0, Nat.zero_le _, rfl, HST.out, rfl⟩
    case round =>
      clear HST
      obtain ⟨h, hh, rfl, hx, rfl⟩ := hrel
      by_cases hlt : h < 80
      · have hc : wr.cell? ⟨q, h + 1, none⟩ = some (.int .i64 (wt (h + 1) : Int)) := by
          rw [cell_of_row _ _ _ _ _ _ HROW.out, wtv_at _ _ (by omega), if_pos (by omega)]
        have hwl : wt (h + 1) < 1000000000000 := Nat.lt_of_le_of_lt (wt_mono (show h + 1 ≤ 80 by omega)) wt_small
        have hwp := wt_pos (h + 1)
        have hd1 : decide ((h : Int) < 80) = true := decide_eq_true (by omega)
        have hhi : (h : Int) + 1 < 81 := by omega
        have hh0 : (0 : Int) ≤ (h : Int) + 1 := by omega
        have hht : ((h : Int) + 1).toNat = h + 1 := by omega
        have hw1 : IntKind.i64.wrap ((wt (h + 1) : Int) - 1) = (wt (h + 1) : Int) - 1 := by rw [IntKind.wrap_i64]; omega
        have HX := Lib.hid hx
        have HLT : Hid (h < 80) := hlt
        have HE : Hid (∀ f, xhF m (f + 1) h = if wt (h + 1) - 1 ≤ m then xhF m f (h + 1) else h) := fun f => rfl
        by_cases hle : wt (h + 1) - 1 ≤ m
        · have hd2 : decide ((wt (h + 1) : Int) - 1 ≤ (m : Int)) = true := decide_eq_true (by omega)
          have HX2 : Hid (xhF m (80 - (h + 1)) (h + 1) = xh m) := by
            have h1 := HE.out (80 - (h + 1))
            rw [if_pos hle] at h1
            rw [show 80 - (h + 1) + 1 = 80 - h by have := HLT.out; omega] at h1
            exact h1.symm.trans HX.out
          clear HX HE hle hwl hwp hlt hh hx
          generalize wt (h + 1) = X at hc hw1 hd2
          go_wp2_with fail
          exact ⟨⟨h + 1, by have := HLT.out; omega, by go_num, HX2.out, by first | rfl | trivial⟩, by have := HLT.out; simp [intOf]; omega⟩
        · have hd2 : decide ((wt (h + 1) : Int) - 1 ≤ (m : Int)) = false := decide_eq_false (by omega)
          have HX2 : Hid (h = xh m) := by
            have h1 := HE.out (80 - (h + 1))
            rw [if_neg hle] at h1
            rw [show 80 - (h + 1) + 1 = 80 - h by have := HLT.out; omega] at h1
            exact h1.symm.trans HX.out
          clear HX HE hle hwl hwp hlt hh hx
          generalize wt (h + 1) = X at hc hw1 hd2
          go_wp2_with fail
          go_ret
          exact ⟨by rw [← HX2.out]; rfl, HBF.out⟩
      · obtain rfl : h = 80 := by omega
        have HX2 : Hid (80 = xh m) := hx
        clear hx hlt hh
        go_wp2_with fail
        go_ret
        exact ⟨by rw [← HX2.out]; rfl, HBF.out⟩
  · have HM : xhI n = -1 := if_neg hr
    rw [HM]
    clear HM
    by_cases hn : n < 0
    · have g1 := decide_eq_true hn
      clear hr hn
      go_enter Tryz.func55, Tryz.ntmps55
      go_wp2
      go_ret
      exact ⟨rfl, Below.refl _ _⟩
    · have g1 := decide_eq_false hn
      have g2 : decide ((2147483647 : Int) < n) = true := decide_eq_true (by omega)
      clear hr hn
      go_enter Tryz.func55, Tryz.ntmps55
      go_wp2
      go_ret
      exact ⟨rfl, Below.refl _ _⟩
end Go.Proofs.YtckkmmdibgoajaaGreat
set_option linter.unusedVariables false
set_option linter.unusedSimpArgs false
namespace Go.Proofs.YtckkmmdibgoajaaGreat
open Go.RowKit
theorem least_any (n : Nat) (w : World) (hn : n ≤ 2147483647) : Calls Tryz.prog 102 #[.int .i64 (n : Int)] w fun e w' => e = .returned (.int .i64 ((n / 4 : Nat) : Int)) ∧ w = w' := by
  have hm : max (0 : Int) (n : Int) = (n : Int) := by omega
  have hq : (n : Int).tdiv 4 = ((n / 4 : Nat) : Int) := by rw [Int.tdiv_eq_ediv_of_nonneg (by omega)]; omega
  have hw : wrap64 ((n : Int).tdiv 4) = ((n / 4 : Nat) : Int) := by rw [hq]; unfold wrap64; omega
  have hni : (n : Int) ≤ 2147483647 := by omega
  have hn0 : (0 : Int) ≤ (n : Int) := by omega
  have HW := Lib.hid hw
  clear hq hw
  go_enter Tryz.func102, Tryz.ntmps102
  go_wp2_with fail
  all_goals
    go_ret
    exact ⟨by first | rfl | (simp; omega), rfl⟩
theorem bal_between {lo n p : Int} (h : bal lo (n - 1 - lo) = true) (h1 : lo ≤ p) (h2 : p ≤ n - 1 - lo) (hn : n ≤ 2147483647) : bal p (n - 1 - p) = true := by
  unfold bal at h ⊢
  have := of_decide_eq_true h
  exact decide_eq_true (by omega)
set_option maxHeartbeats 2000000 in
set_option maxRecDepth 100000 in
theorem pivot_any (n : Nat) (tilt : Int) (w : World) (h1 : 1 ≤ n) (hn : n ≤ 2147483647) (ht0 : 0 ≤ tilt) (ht1 : tilt < 18446744073709551616) :
    Calls Tryz.prog 76 #[.int .i64 (n : Int), .int .u64 tilt] w fun e w' => (∃ p : Nat, e = .returned (.int .i64 (p : Int)) ∧ p < n ∧ bal (p : Int) ((n : Int) - 1 - (p : Int)) = true) ∧ w = w' := by
  have hni : (n : Int) ≤ 2147483647 := by omega
  have hn1 : (1 : Int) ≤ (n : Int) := by omega
  have HN : Hid (1 ≤ n ∧ n ≤ 2147483647) := ⟨h1, hn⟩
  have HT : Hid (0 ≤ tilt ∧ tilt < 18446744073709551616) := ⟨ht0, ht1⟩
  have hw1 : IntKind.i64.wrap ((n : Int) - 1) = (n : Int) - 1 := by rw [IntKind.wrap_i64]; omega
  have HW1 := Lib.hid hw1
  clear h1 hn ht0 ht1 hw1
  go_enter Tryz.func76, Tryz.ntmps76
  go_wp2_with fail
  refine (least_any n w HN.out.2).mono ?_
  rintro e w7 ⟨rfl, rfl⟩
  go_wp2_with fail
  go_loopw [5] (fun x wr => ∃ lo : Nat, x = .int .i64 (lo : Int) ∧ 2 * lo ≤ n - 1 ∧ w = wr) (fun x _ => (intOf x).toNat)
  case atStart => exact ⟨n / 4, rfl, by have := HN.out; omega, rfl⟩
  case round =>
    obtain ⟨lo, rfl, hlo, rfl⟩ := hrel
    have HLO := Lib.hid hlo
    by_cases h0 : lo = 0
    · have hlt1 : decide ((0 : Int) < (lo : Int)) = false := decide_eq_false (by omega)
      have hlt0 : ¬ (0 : Int) < (lo : Int) := by omega
      clear hlo h0
      go_wp2_with fail
      go_loopw [5] (fun x wr => ∃ lo : Nat, x = .int .i64 (lo : Int) ∧ 2 * lo ≤ n - 1 ∧ w = wr) (fun x _ => n - (intOf x).toNat)
      case atStart => exact ⟨lo, rfl, HLO.out, rfl⟩
      case round =>
        clear HLO
        obtain ⟨lo, rfl, hlo, rfl⟩ := hrel
        have HLO := Lib.hid hlo
        have hw1 := HW1.out
        by_cases hl : lo < n - 1
        · obtain ⟨li, hli⟩ : ∃ Y : Int, (lo : Int) = Y := ⟨_, rfl⟩
          have HLI := Lib.hid hli
          rw [hli]
          have hw2 : IntKind.i64.wrap ((n : Int) - 1 - li) = (n : Int) - 1 - li := by rw [IntKind.wrap_i64]; omega
          have hlt1 : decide (li < (n : Int) - 1) = true := decide_eq_true (by omega)
          have HL2 : Hid (lo < n - 1) := hl
          clear hli hl hlo
          go_wp2_with fail
          refine (refBalanced_any li ((n : Int) - 1 - li) w (by have := HLI.out; omega) (by have := HLI.out; have := HLO.out; have := HN.out; omega) (by have := HLI.out; have := HLO.out; have := HN.out; omega) (by have := HLI.out; have := HLO.out; have := HN.out; omega)).mono ?_
          rintro e w8 ⟨rfl, h8⟩
          have h9 := h8.symm
          clear h8
          subst h9
          cases hb : bal li ((n : Int) - 1 - li)
          · have hw5 : IntKind.i64.wrap (li + 1) = li + 1 := by have := HLI.out; have := HLO.out; have := HN.out; rw [IntKind.wrap_i64]; omega
            have HST : Hid (2 * (lo + 1) ≤ n - 1) := by
              show 2 * (lo + 1) ≤ n - 1
              have h3 := HLI.out; have h4 := HLO.out; have h5 := HN.out
              unfold bal at hb
              have h6 := of_decide_eq_false hb
              omega
            clear hb
            go_wp2_with fail
            exact ⟨⟨lo + 1, by have := HLI.out; congr 1; omega, HST.out, by first | rfl | trivial⟩, by have := HLI.out; have := HL2.out; simp [intOf]; omega⟩
          · have HBL : Hid (bal (lo : Int) ((n : Int) - 1 - (lo : Int)) = true) := by
              show bal (lo : Int) ((n : Int) - 1 - (lo : Int)) = true
              rw [HLI.out]; exact hb
            rw [← HLI.out] at hw2 hlt1 ⊢
            clear hb hw2 hlt1 HLI HL2
            obtain ⟨li, hli⟩ : ∃ Y : Int, (lo : Int) = Y := ⟨_, rfl⟩
            rw [hli] at HBL ⊢
            try (rw [hli] at hlt1 hlt0)
            have HLI := Lib.hid hli
            have hh1 : 2 * li ≤ (n : Int) - 1 := by have := HLO.out; have := HN.out; omega
            have hl0 : 0 ≤ li := by omega
            have hw2 : IntKind.i64.wrap ((n : Int) - 1 - li) = (n : Int) - 1 - li := by rw [IntKind.wrap_i64]; omega
            have hw3 : IntKind.i64.wrap ((n : Int) - 1 - li - li) = (n : Int) - 1 - li - li := by rw [IntKind.wrap_i64]; omega
            have hw4 : IntKind.i64.wrap ((n : Int) - 1 - li - li + 1) = (n : Int) - 1 - li - li + 1 := by rw [IntKind.wrap_i64]; omega
            have hw5 : IntKind.u64.wrap ((n : Int) - 1 - li - li + 1) = (n : Int) - 1 - li - li + 1 := by rw [IntKind.wrap_u64]; omega
            have hlt2 : decide ((n : Int) - 1 - li < li) = false := decide_eq_false (by omega)
            have hlt3 : ¬ (n : Int) - 1 - li < li := by omega
            have hw1 := HW1.out
            have k1 := Int.emod_nonneg tilt (b := (n : Int) - 1 - li - li + 1) (by omega)
            have k2 := Int.emod_lt_of_pos tilt (b := (n : Int) - 1 - li - li + 1) (by omega)
            have hmt : tilt.tmod ((n : Int) - 1 - li - li + 1) = tilt % ((n : Int) - 1 - li - li + 1) := Int.tmod_eq_emod_of_nonneg HT.out.1
            have hdne : ¬ (n : Int) - 1 - li - li + 1 = 0 := by omega
            have hd0 : (0 : Int) < (n : Int) - 1 - li - li + 1 := by omega
            generalize hD : (n : Int) - 1 - li - li + 1 = D at hw4 hw5 k1 k2 hmt hdne hd0
            have HD := Lib.hid hD
            have HK2 := Lib.hid (And.intro k1 k2)
            have HMT := Lib.hid hmt
            have hw6 : IntKind.i64.wrap (tilt.tmod D) = tilt % D := by rw [hmt, IntKind.wrap_i64]; omega
            have hw7 : IntKind.i64.wrap (li + tilt % D) = li + tilt % D := by rw [IntKind.wrap_i64]; omega
            have hw8 : IntKind.i64.wrap (tilt % D) = tilt % D := by rw [IntKind.wrap_i64]; omega
            have hw9 : IntKind.u64.wrap (tilt % D) = tilt % D := by rw [IntKind.wrap_u64]; omega
            have hh2 : li < 4294967296 := by omega
            clear hli hh1 k1 k2 hD
            go_wp2_with fail
            go_ret
            refine ⟨⟨(li + tilt % D).toNat, ?_, ?_, ?_⟩, rfl⟩
            · have h3 := HK2.out
              rw [show (((li + tilt % D).toNat : Nat) : Int) = li + tilt % D by omega]
              refine congrArg (fun x => Ending.returned (Value.int .i64 x)) ?_
              have h4 := HD.out; have h5 := HLI.out; have h6 := HN.out
              rw [HD.out, HMT.out]
              unfold wrap64
              omega
            · have h3 := HK2.out; have h4 := HD.out; have h5 := HLI.out; omega
            · have h3 := HK2.out; have h4 := HD.out; have h5 := HLI.out; have h6 := HN.out
              rw [show (((li + tilt % D).toNat : Nat) : Int) = li + tilt % D by omega]
              exact bal_between HBL.out (by omega) (by omega) (by omega)
        · have HBL : Hid (bal (lo : Int) ((n : Int) - 1 - (lo : Int)) = true) := by
            show bal (lo : Int) ((n : Int) - 1 - (lo : Int)) = true
            have h3 := HN.out
            exact decide_eq_true (by omega)
          have hlt1 : decide ((lo : Int) < (n : Int) - 1) = false := decide_eq_false (by omega)
          have hlt0 : ¬ (lo : Int) < (n : Int) - 1 := by omega
          clear hl hlo
          obtain ⟨li, hli⟩ : ∃ Y : Int, (lo : Int) = Y := ⟨_, rfl⟩
          rw [hli] at HBL ⊢
          try (rw [hli] at hlt1 hlt0)
          have HLI := Lib.hid hli
          have hh1 : 2 * li ≤ (n : Int) - 1 := by have := HLO.out; have := HN.out; omega
          have hl0 : 0 ≤ li := by omega
          have hw2 : IntKind.i64.wrap ((n : Int) - 1 - li) = (n : Int) - 1 - li := by rw [IntKind.wrap_i64]; omega
          have hw3 : IntKind.i64.wrap ((n : Int) - 1 - li - li) = (n : Int) - 1 - li - li := by rw [IntKind.wrap_i64]; omega
          have hw4 : IntKind.i64.wrap ((n : Int) - 1 - li - li + 1) = (n : Int) - 1 - li - li + 1 := by rw [IntKind.wrap_i64]; omega
          have hw5 : IntKind.u64.wrap ((n : Int) - 1 - li - li + 1) = (n : Int) - 1 - li - li + 1 := by rw [IntKind.wrap_u64]; omega
          have hlt2 : decide ((n : Int) - 1 - li < li) = false := decide_eq_false (by omega)
          have hlt3 : ¬ (n : Int) - 1 - li < li := by omega
          have hw1 := HW1.out
          have k1 := Int.emod_nonneg tilt (b := (n : Int) - 1 - li - li + 1) (by omega)
          have k2 := Int.emod_lt_of_pos tilt (b := (n : Int) - 1 - li - li + 1) (by omega)
          have hmt : tilt.tmod ((n : Int) - 1 - li - li + 1) = tilt % ((n : Int) - 1 - li - li + 1) := Int.tmod_eq_emod_of_nonneg HT.out.1
          have hdne : ¬ (n : Int) - 1 - li - li + 1 = 0 := by omega
          have hd0 : (0 : Int) < (n : Int) - 1 - li - li + 1 := by omega
          generalize hD : (n : Int) - 1 - li - li + 1 = D at hw4 hw5 k1 k2 hmt hdne hd0
          have HD := Lib.hid hD
          have HK2 := Lib.hid (And.intro k1 k2)
          have HMT := Lib.hid hmt
          have hw6 : IntKind.i64.wrap (tilt.tmod D) = tilt % D := by rw [hmt, IntKind.wrap_i64]; omega
          have hw7 : IntKind.i64.wrap (li + tilt % D) = li + tilt % D := by rw [IntKind.wrap_i64]; omega
          have hw8 : IntKind.i64.wrap (tilt % D) = tilt % D := by rw [IntKind.wrap_i64]; omega
          have hw9 : IntKind.u64.wrap (tilt % D) = tilt % D := by rw [IntKind.wrap_u64]; omega
          have hh2 : li < 4294967296 := by omega
          clear hli hh1 k1 k2 hD
          go_wp2_with fail
          go_ret
          refine ⟨⟨(li + tilt % D).toNat, ?_, ?_, ?_⟩, rfl⟩
          · have h3 := HK2.out
            rw [show (((li + tilt % D).toNat : Nat) : Int) = li + tilt % D by omega]
            refine congrArg (fun x => Ending.returned (Value.int .i64 x)) ?_
            have h4 := HD.out; have h5 := HLI.out; have h6 := HN.out
            rw [HD.out, HMT.out]
            unfold wrap64
            omega
          · have h3 := HK2.out; have h4 := HD.out; have h5 := HLI.out; omega
          · have h3 := HK2.out; have h4 := HD.out; have h5 := HLI.out; have h6 := HN.out
            rw [show (((li + tilt % D).toNat : Nat) : Int) = li + tilt % D by omega]
            exact bal_between HBL.out (by omega) (by omega) (by omega)
    · obtain ⟨li, hli⟩ : ∃ Y : Int, (lo : Int) = Y := ⟨_, rfl⟩
      have HLI := Lib.hid hli
      rw [hli]
      have hw2 : IntKind.i64.wrap (li - 1) = li - 1 := by have := HN.out; rw [IntKind.wrap_i64]; omega
      have hw3 : IntKind.i64.wrap ((n : Int) - li) = (n : Int) - li := by have := HN.out; rw [IntKind.wrap_i64]; omega
      have hlt1 : decide ((0 : Int) < li) = true := decide_eq_true (by omega)
      have HL0 : Hid (lo ≠ 0) := h0
      clear hli hlo h0
      go_wp2_with fail
      refine (refBalanced_any (li - 1) ((n : Int) - li) w (by have := HLI.out; omega) (by have := HLI.out; have := HLO.out; have := HN.out; omega) (by have := HLI.out; have := HLO.out; have := HN.out; omega) (by have := HLI.out; have := HLO.out; have := HN.out; omega)).mono ?_
      rintro e w8 ⟨rfl, h8⟩
      have h9 := h8.symm
      clear h8
      subst h9
      cases hb : bal (li - 1) ((n : Int) - li)
      · clear hb hw2 hw3 hlt1
        rw [← HLI.out]
        clear HLI
        go_wp2_with fail
        go_loopw [5] (fun x wr => ∃ lo : Nat, x = .int .i64 (lo : Int) ∧ 2 * lo ≤ n - 1 ∧ w = wr) (fun x _ => n - (intOf x).toNat)
        case atStart => exact ⟨lo, rfl, HLO.out, rfl⟩
        case round =>
          clear HLO
          obtain ⟨lo, rfl, hlo, rfl⟩ := hrel
          have HLO := Lib.hid hlo
          have hw1 := HW1.out
          by_cases hl : lo < n - 1
          · obtain ⟨li, hli⟩ : ∃ Y : Int, (lo : Int) = Y := ⟨_, rfl⟩
            have HLI := Lib.hid hli
            rw [hli]
            have hw2 : IntKind.i64.wrap ((n : Int) - 1 - li) = (n : Int) - 1 - li := by rw [IntKind.wrap_i64]; omega
            have hlt1 : decide (li < (n : Int) - 1) = true := decide_eq_true (by omega)
            have HL2 : Hid (lo < n - 1) := hl
            clear hli hl hlo
            go_wp2_with fail
            refine (refBalanced_any li ((n : Int) - 1 - li) w (by have := HLI.out; omega) (by have := HLI.out; have := HLO.out; have := HN.out; omega) (by have := HLI.out; have := HLO.out; have := HN.out; omega) (by have := HLI.out; have := HLO.out; have := HN.out; omega)).mono ?_
            rintro e w8 ⟨rfl, h8⟩
            have h9 := h8.symm
            clear h8
            subst h9
            cases hb : bal li ((n : Int) - 1 - li)
            · have hw5 : IntKind.i64.wrap (li + 1) = li + 1 := by have := HLI.out; have := HLO.out; have := HN.out; rw [IntKind.wrap_i64]; omega
              have HST : Hid (2 * (lo + 1) ≤ n - 1) := by
                show 2 * (lo + 1) ≤ n - 1
                have h3 := HLI.out; have h4 := HLO.out; have h5 := HN.out
                unfold bal at hb
                have h6 := of_decide_eq_false hb
                omega
              clear hb
              go_wp2_with fail
              exact ⟨⟨lo + 1, by have := HLI.out; congr 1; omega, HST.out, by first | rfl | trivial⟩, by have := HLI.out; have := HL2.out; simp [intOf]; omega⟩
            · have HBL : Hid (bal (lo : Int) ((n : Int) - 1 - (lo : Int)) = true) := by
                show bal (lo : Int) ((n : Int) - 1 - (lo : Int)) = true
                rw [HLI.out]; exact hb
              rw [← HLI.out] at hw2 hlt1 ⊢
              clear hb hw2 hlt1 HLI HL2
              obtain ⟨li, hli⟩ : ∃ Y : Int, (lo : Int) = Y := ⟨_, rfl⟩
              rw [hli] at HBL ⊢
              try (rw [hli] at hlt1 hlt0)
              have HLI := Lib.hid hli
              have hh1 : 2 * li ≤ (n : Int) - 1 := by have := HLO.out; have := HN.out; omega
              have hl0 : 0 ≤ li := by omega
              have hw2 : IntKind.i64.wrap ((n : Int) - 1 - li) = (n : Int) - 1 - li := by rw [IntKind.wrap_i64]; omega
              have hw3 : IntKind.i64.wrap ((n : Int) - 1 - li - li) = (n : Int) - 1 - li - li := by rw [IntKind.wrap_i64]; omega
              have hw4 : IntKind.i64.wrap ((n : Int) - 1 - li - li + 1) = (n : Int) - 1 - li - li + 1 := by rw [IntKind.wrap_i64]; omega
              have hw5 : IntKind.u64.wrap ((n : Int) - 1 - li - li + 1) = (n : Int) - 1 - li - li + 1 := by rw [IntKind.wrap_u64]; omega
              have hlt2 : decide ((n : Int) - 1 - li < li) = false := decide_eq_false (by omega)
              have hlt3 : ¬ (n : Int) - 1 - li < li := by omega
              have hw1 := HW1.out
              have k1 := Int.emod_nonneg tilt (b := (n : Int) - 1 - li - li + 1) (by omega)
              have k2 := Int.emod_lt_of_pos tilt (b := (n : Int) - 1 - li - li + 1) (by omega)
              have hmt : tilt.tmod ((n : Int) - 1 - li - li + 1) = tilt % ((n : Int) - 1 - li - li + 1) := Int.tmod_eq_emod_of_nonneg HT.out.1
              have hdne : ¬ (n : Int) - 1 - li - li + 1 = 0 := by omega
              have hd0 : (0 : Int) < (n : Int) - 1 - li - li + 1 := by omega
              generalize hD : (n : Int) - 1 - li - li + 1 = D at hw4 hw5 k1 k2 hmt hdne hd0
              have HD := Lib.hid hD
              have HK2 := Lib.hid (And.intro k1 k2)
              have HMT := Lib.hid hmt
              have hw6 : IntKind.i64.wrap (tilt.tmod D) = tilt % D := by rw [hmt, IntKind.wrap_i64]; omega
              have hw7 : IntKind.i64.wrap (li + tilt % D) = li + tilt % D := by rw [IntKind.wrap_i64]; omega
              have hw8 : IntKind.i64.wrap (tilt % D) = tilt % D := by rw [IntKind.wrap_i64]; omega
              have hw9 : IntKind.u64.wrap (tilt % D) = tilt % D := by rw [IntKind.wrap_u64]; omega
              have hh2 : li < 4294967296 := by omega
              clear hli hh1 k1 k2 hD
              go_wp2_with fail
              go_ret
              refine ⟨⟨(li + tilt % D).toNat, ?_, ?_, ?_⟩, rfl⟩
              · have h3 := HK2.out
                rw [show (((li + tilt % D).toNat : Nat) : Int) = li + tilt % D by omega]
                refine congrArg (fun x => Ending.returned (Value.int .i64 x)) ?_
                have h4 := HD.out; have h5 := HLI.out; have h6 := HN.out
                rw [HD.out, HMT.out]
                unfold wrap64
                omega
              · have h3 := HK2.out; have h4 := HD.out; have h5 := HLI.out; omega
              · have h3 := HK2.out; have h4 := HD.out; have h5 := HLI.out; have h6 := HN.out
                rw [show (((li + tilt % D).toNat : Nat) : Int) = li + tilt % D by omega]
                exact bal_between HBL.out (by omega) (by omega) (by omega)
          · have HBL : Hid (bal (lo : Int) ((n : Int) - 1 - (lo : Int)) = true) := by
              show bal (lo : Int) ((n : Int) - 1 - (lo : Int)) = true
              have h3 := HN.out
              exact decide_eq_true (by omega)
            have hlt1 : decide ((lo : Int) < (n : Int) - 1) = false := decide_eq_false (by omega)
            have hlt0 : ¬ (lo : Int) < (n : Int) - 1 := by omega
            clear hl hlo
            obtain ⟨li, hli⟩ : ∃ Y : Int, (lo : Int) = Y := ⟨_, rfl⟩
            rw [hli] at HBL ⊢
            try (rw [hli] at hlt1 hlt0)
            have HLI := Lib.hid hli
            have hh1 : 2 * li ≤ (n : Int) - 1 := by have := HLO.out; have := HN.out; omega
            have hl0 : 0 ≤ li := by omega
            have hw2 : IntKind.i64.wrap ((n : Int) - 1 - li) = (n : Int) - 1 - li := by rw [IntKind.wrap_i64]; omega
            have hw3 : IntKind.i64.wrap ((n : Int) - 1 - li - li) = (n : Int) - 1 - li - li := by rw [IntKind.wrap_i64]; omega
            have hw4 : IntKind.i64.wrap ((n : Int) - 1 - li - li + 1) = (n : Int) - 1 - li - li + 1 := by rw [IntKind.wrap_i64]; omega
            have hw5 : IntKind.u64.wrap ((n : Int) - 1 - li - li + 1) = (n : Int) - 1 - li - li + 1 := by rw [IntKind.wrap_u64]; omega
            have hlt2 : decide ((n : Int) - 1 - li < li) = false := decide_eq_false (by omega)
            have hlt3 : ¬ (n : Int) - 1 - li < li := by omega
            have hw1 := HW1.out
            have k1 := Int.emod_nonneg tilt (b := (n : Int) - 1 - li - li + 1) (by omega)
            have k2 := Int.emod_lt_of_pos tilt (b := (n : Int) - 1 - li - li + 1) (by omega)
            have hmt : tilt.tmod ((n : Int) - 1 - li - li + 1) = tilt % ((n : Int) - 1 - li - li + 1) := Int.tmod_eq_emod_of_nonneg HT.out.1
            have hdne : ¬ (n : Int) - 1 - li - li + 1 = 0 := by omega
            have hd0 : (0 : Int) < (n : Int) - 1 - li - li + 1 := by omega
            generalize hD : (n : Int) - 1 - li - li + 1 = D at hw4 hw5 k1 k2 hmt hdne hd0
            have HD := Lib.hid hD
            have HK2 := Lib.hid (And.intro k1 k2)
            have HMT := Lib.hid hmt
            have hw6 : IntKind.i64.wrap (tilt.tmod D) = tilt % D := by rw [hmt, IntKind.wrap_i64]; omega
            have hw7 : IntKind.i64.wrap (li + tilt % D) = li + tilt % D := by rw [IntKind.wrap_i64]; omega
            have hw8 : IntKind.i64.wrap (tilt % D) = tilt % D := by rw [IntKind.wrap_i64]; omega
            have hw9 : IntKind.u64.wrap (tilt % D) = tilt % D := by rw [IntKind.wrap_u64]; omega
            have hh2 : li < 4294967296 := by omega
            clear hli hh1 k1 k2 hD
            go_wp2_with fail
            go_ret
            refine ⟨⟨(li + tilt % D).toNat, ?_, ?_, ?_⟩, rfl⟩
            · have h3 := HK2.out
              rw [show (((li + tilt % D).toNat : Nat) : Int) = li + tilt % D by omega]
              refine congrArg (fun x => Ending.returned (Value.int .i64 x)) ?_
              have h4 := HD.out; have h5 := HLI.out; have h6 := HN.out
              rw [HD.out, HMT.out]
              unfold wrap64
              omega
            · have h3 := HK2.out; have h4 := HD.out; have h5 := HLI.out; omega
            · have h3 := HK2.out; have h4 := HD.out; have h5 := HLI.out; have h6 := HN.out
              rw [show (((li + tilt % D).toNat : Nat) : Int) = li + tilt % D by omega]
              exact bal_between HBL.out (by omega) (by omega) (by omega)
      · clear hb
        go_wp2_with fail
        exact ⟨⟨lo - 1, by have := HLI.out; have := HL0.out; congr 1; omega, by have := HLO.out; omega, by first | rfl | trivial⟩, by have := HLI.out; have := HL0.out; simp [intOf]; omega⟩
end Go.Proofs.YtckkmmdibgoajaaGreat
set_option linter.unusedVariables false
set_option linter.unusedSimpArgs false
namespace Go.Proofs.YtckkmmdibgoajaaGreat
open Go.RowKit
section
variable {F F' F'' G : Nat → Prop} {w w' w'' : World} {B : Nat}
theorem EnsAt.alters {a : Option Addr} {l : List En} (h : EnsAt w a l) (ha : Alters F F' w w') (hF : ∀ b off, a = some ⟨b, off, none⟩ → ¬ F b) : EnsAt w' a l := by
  refine ⟨fun j e he => ?_, h.wf⟩
  obtain ⟨b, off, hab, hlt, h1, h2⟩ := h.cell j e he
  have hb := ha.block b hlt (hF b off hab)
  exact ⟨b, off, hab, Nat.lt_of_lt_of_le hlt ha.size, by rw [← h1]; exact World.cell?_of_block (a := ⟨b, off + j * 2, none⟩) hb, by rw [← h2]; exact World.cell?_of_block (a := ⟨b, off + j * 2 + 1, none⟩) hb⟩
theorem EnsAt.two {b off k : Nat} {key val : Int} {l : List En} (h : EnsAt w (some ⟨b, off, none⟩) l) (he : l[k]? = some ⟨key, val⟩) : w.cell? ⟨b, off + k * 2, none⟩ = some (.int .i64 key) ∧ w.cell? ⟨b, off + k * 2 + 1, none⟩ = some (.int .i64 val) := by
  obtain ⟨b', off', hab, hlt, h1, h2⟩ := h.cell k ⟨key, val⟩ he
  simp at hab
  obtain ⟨rfl, rfl⟩ := hab
  exact ⟨h1, h2⟩
theorem EnsAt.take {a : Option Addr} {l : List En} (h : EnsAt w a l) (p : Nat) : EnsAt w a (l.take p) :=
  ⟨fun j e he => h.cell j e (by rw [List.getElem?_take] at he; split at he; exact he; cases he), fun e he => h.wf e (List.mem_of_mem_take he)⟩
theorem EnsAt.drop {b off : Nat} {l : List En} (h : EnsAt w (some ⟨b, off, none⟩) l) (p : Nat) : EnsAt w (some ⟨b, off + p * 2, none⟩) (l.drop p) :=
  ⟨fun j e he => by
    rw [List.getElem?_drop] at he
    obtain ⟨b', off', hab, hlt, h1, h2⟩ := h.cell (p + j) e he
    simp at hab
    obtain ⟨rfl, rfl⟩ := hab
    refine ⟨_, _, rfl, hlt, ?_, ?_⟩
    · rw [show off + p * 2 + j * 2 = off + (p + j) * 2 by omega]; exact h1
    · rw [show off + p * 2 + j * 2 + 1 = off + (p + j) * 2 + 1 by omega]; exact h2, fun e he => h.wf e (List.mem_of_mem_drop he)⟩
end
def PlantRes (I : AImpl) (A : Ar) (rd : Int) (F : Nat → Prop) (held : Nat → Nat) (l : List En) (p : Value) (w : World) (e : Ending) (w' : World) : Prop :=
  ∃ (A' : Ar) (i : Nat) (t : Tr) (F' : Nat → Prop), Planted A held l A' i t ∧ e = .returned (.tuple #[.int .u32 (i : Int), .bool true]) ∧ Alters F F' w w' ∧ I.Is w' p A' rd F'
def PlantSpec (I : AImpl) (n : Nat) : Prop := ∀ (l : List En) (a : Option Addr) (c : Nat) (tilt : Int) (p : Value) (A : Ar) (rd : Int) (F : Nat → Prop) (held : Nat → Nat) (w : World),
  l.length = n → I.Is w p A rd F → A.Inv [] held → A.Agg → (∀ j, held j + 2 * n ≤ 1048576) → n ≤ A.σ.free.length → EnsAt w a l → (n ≠ 0 → ∀ b off, a = some ⟨b, off, none⟩ → ¬ F b) → n ≤ c → c ≤ maxLen → 0 ≤ tilt → tilt < 18446744073709551616 →
  Calls Tryz.prog 45 #[p, .slice a n c, .int .u64 tilt] w (PlantRes I A rd F held l p w)
theorem u64_in (x : Int) : 0 ≤ IntKind.u64.wrap x ∧ IntKind.u64.wrap x < 18446744073709551616 := by rw [IntKind.wrap_u64]; omega
theorem split_at {l : List En} {k : Nat} {en : En} (h : l[k]? = some en) : l = l.take k ++ en :: l.drop (k + 1) := by
  obtain ⟨hk, he⟩ := List.getElem?_eq_some_iff.1 h
  rw [← he, ← List.drop_eq_getElem_cons hk, List.take_append_drop]
theorem make_call (I : AImpl) {p : Value} {A : Ar} {rd : Int} {F : Nat → Prop} {key val : Int} {il ir i : Nat} {fr : List Nat} {held : Nat → Nat} {w : World} (hI : I.Is w p A rd F) (hv : A.Inv [] held) (ha : A.Agg) (hh : ∀ j, held j ≤ 1048576) (hk : i64R key ∧ i64R val) (hl : A.Idx il) (hr : A.Idx ir) (hs : (A.node key val il ir).size ≤ 2147483647) (hf : A.σ.free = i :: fr) :
    Calls Tryz.prog 77 #[p, .int .i64 key, .int .i64 val, .int .u32 (il : Int), .int .u32 (ir : Int)] w fun e w' => e = .returned (.tuple #[.int .u32 (i : Int), .int .i64 0]) ∧ ∃ F', Alters F F' w w' ∧ I.Is w' p (A.made i fr (A.node key val il ir)) rd F' := by
  have h4 : ∀ x, A.Idx x → x < 4294967296 := fun x hx => by
    rcases hx with h | h
    · omega
    · have := hv.ok.on x h; have := hv.ok.cap2; omega
  refine (I.make p A rd F key val il ir held w hI hv ha hh hk.1.1 hk.1.2 hk.2.1 hk.2.2 (h4 il hl) (h4 ir hr)).mono ?_
  rintro e w1 ⟨F', hal, _, _, h6⟩
  obtain ⟨rfl, h7⟩ := h6 ⟨hl, hr, hs⟩ i fr hf
  exact ⟨rfl, F', hal, h7⟩
theorem release_call (I : AImpl) {p : Value} {A : Ar} {rd : Int} {F : Nat → Prop} {i : Nat} {held : Nat → Nat} {w : World} (hI : I.Is w p A rd F) (hok : A.σ.Ok) (hv : A.Idx i → A.Inv [i] held) (hi : A.Idx i) :
    Calls Tryz.prog 72 #[p, .int .u32 (i : Int)] w fun e w' => (∃ m : Nat, e = .returned (.tuple #[.int .i64 (m : Int), .int .i64 0])) ∧ ∃ F', Alters F F' w w' ∧ I.Is w' p (A.gone i) rd F' := by
  have h4 : i < 4294967296 := by
    rcases hi with h | h
    · omega
    · have := hok.on i h; have := hok.cap2; omega
  refine (I.release p A rd F i held w hI h4 hv).mono ?_
  rintro e w1 ⟨F', hal, _, h6⟩
  obtain ⟨rfl, h7⟩ := h6 hi
  exact ⟨⟨_, rfl⟩, F', hal, h7⟩
set_option maxHeartbeats 8000000 in
set_option maxRecDepth 100000 in
theorem plant_step (I : AImpl) (n : Nat) (ih : ∀ m, m < n → PlantSpec I m) : PlantSpec I n := by
  intro l a c tilt p A rd F held w hn hI hInv hAg hh hf hE hd hc hcm ht0 ht1
  obtain ⟨pa, rfl⟩ := I.ptr hI
  have HIH := Lib.hid ih
  have HI := Lib.hid hI
  have HINV := Lib.hid hInv
  have HAG := Lib.hid hAg
  have HH := Lib.hid hh
  have HF := Lib.hid hf
  have HE := Lib.hid hE
  have HD := Lib.hid hd
  have HN := Lib.hid hn
  have hcap := hInv.ok.len
  have hcap2 := hInv.ok.cap2
  have hn6 : n ≤ 65536 := by omega
  have HC : Hid (n ≤ c ∧ c ≤ maxLen ∧ n ≤ 65536) := ⟨hc, hcm, hn6⟩
  have HT : Hid (0 ≤ tilt ∧ tilt < 18446744073709551616) := ⟨ht0, ht1⟩
  clear ih hI hInv hAg hh hf hE hd hn hcap hcap2
  by_cases h0 : n = 0
  · subst h0
    have hl : l = [] := List.eq_nil_of_length_eq_zero HN.out
    have HP : Hid (PlantRes I A rd F held l (.pointer (some pa)) w (.returned (.tuple #[.int .u32 ((0 : Nat) : Int), .bool true])) w) := ⟨A, 0, .nil, F, by rw [hl]; exact .nil HINV.out HAG.out, rfl, .refl w F, HI.out⟩
    clear hl HIH hc hcm hn6 ht0 ht1
    go_enter Tryz.func45, Tryz.ntmps45
    go_wp2_with fail
    go_ret2
    exact HP.out
  · have hne : ((n : Int) == 0) = false := by simp; exact h0
    have hni : (n : Int) ≤ 65536 := by omega
    have hn1 : (1 : Int) ≤ (n : Int) := by omega
    have hn0 : 1 ≤ n := by omega
    have HN0 := Lib.hid hn0
    have hci : (n : Int) ≤ (c : Int) := by omega
    have hcx : (c : Int) ≤ 9223372036854775807 := by unfold maxLen at hcm; omega
    obtain ⟨b, off, rfl⟩ : ∃ b off, a = some ⟨b, off, none⟩ := by
      obtain ⟨b, off, h1, _⟩ := HE.out.cell 0 (l[0]'(by have := HN.out; omega)) (List.getElem?_eq_getElem _)
      exact ⟨b, off, h1⟩
    have hFb := HD.out h0 b off rfl
    have HFB := Lib.hid hFb
    have hwc : IntKind.i64.wrap (n : Int) = (n : Int) := by rw [IntKind.wrap_i64]; omega
    clear h0 hn0 hc hcm hn6 hFb HD hwc
    go_enter Tryz.func45, Tryz.ntmps45
    go_wp2_with fail
    refine (pivot_any n tilt w HN0.out (by have := HC.out; omega) HT.out.1 HT.out.2).mono ?_
    rintro e w1 ⟨⟨k, rfl, hk, hbal⟩, rfl⟩
    have HK := Lib.hid hk
    have HBAL := Lib.hid hbal
    have hki : (k : Int) < (n : Int) := by omega
    have hk0 : (0 : Int) ≤ (k : Int) := by omega
    have hkw : IntKind.i64.wrap ((k : Int) + 1) = ((k + 1 : Nat) : Int) := by rw [IntKind.wrap_i64]; omega
    have hk1 : ((k + 1 : Nat) : Int) ≤ (n : Int) := by omega
    have hkt : (((k + 1 : Nat) : Int)).toNat = k + 1 := Int.toNat_natCast _
    have hk10 : (0 : Int) ≤ (k : Int) + 1 := by omega
    clear hk hbal
    go_wp2_with fail
    have hlk : (l.take k).length = k := by rw [List.length_take]; have := HN.out; have := HK.out; omega
    refine (HIH.out k HK.out (l.take k) _ c _ _ A rd F held w hlk HI.out HINV.out HAG.out (fun j => by have := HH.out j; have := HK.out; omega) (by have := HF.out; have := HK.out; omega) (HE.out.take k) (fun _ b' off' h => by simp at h; rw [← h.1]; exact HFB.out) (by have := HC.out; have := HK.out; omega) HC.out.2.1 (u64_in _).1 (u64_in _).2).mono ?_
    rintro e w2 ⟨A1, il, tl, F1, hP1, rfl, hal1, hI1⟩
    have HP1 := Lib.hid hP1
    have HAL1 := Lib.hid hal1
    have HI1 := Lib.hid hI1
    clear hP1 hal1 hI1 hlk ht0 ht1
    have hE2 := HE.out.alters HAL1.out (fun b' off' h => by simp at h; rw [← h.1]; exact HFB.out)
    have HE2 := Lib.hid hE2
    have hFB1 : ∀ k, k < w.heap.size → k = b → k < w2.heap.size ∧ ¬ F1 k := fun k hk e => HAL1.out.apart (G := fun j => j = b ∧ j < w.heap.size) (fun j hj => ⟨hj.2, by rw [hj.1]; exact HFB.out⟩) k ⟨e, hk⟩
    have hlb : b < w.heap.size := by
      obtain ⟨b', off', h1, h2, _⟩ := HE.out.cell 0 (l[0]'(by have := HN.out; have := HN0.out; omega)) (List.getElem?_eq_getElem _)
      simp at h1
      rw [h1.1]; exact h2
    have HFB1 := Lib.hid (hFB1 b hlb rfl)
    have hld : (l.drop (k + 1)).length = n - (k + 1) := by rw [List.length_drop]; have := HN.out; omega
    have HLD := Lib.hid hld
    clear hE2 hFB1 hlb hld
    go_wp2_with fail
    all_goals (
      refine (HIH.out (n - (k + 1)) (by have := HN0.out; omega) (l.drop (k + 1)) _ _ _ _ A1 rd F1 (pls held il) w2 HLD.out HI1.out HP1.out.inv HP1.out.agg (fun j => by rw [pls_at]; have := HH.out j; have := HK.out; split <;> omega) (by have h1 := HP1.out.free; have h2 := HF.out; have h3 := HK.out; rw [List.length_take, HN.out] at h1; omega) ?_ (fun _ b' off' h => by cases h; exact HFB1.out.2) (by have := HC.out; omega) (by have := HC.out; unfold maxLen at *; omega) (u64_in _).1 (u64_in _).2).mono ?_
      first
        | exact HE2.out.drop (k + 1)
        | (have e : l.drop (k + 1) = [] := List.eq_nil_of_length_eq_zero (by have := HC.out; have := HLD.out; omega); rw [e]; exact EnsAt.nil _ _)
      rintro e w3 ⟨A2, ir, tr, F2, hP2, rfl, hal2, hI2⟩
      have HP2 := Lib.hid hP2
      have HAL2 := Lib.hid hal2
      have HI2 := Lib.hid hI2
      clear hP2 hal2 hI2
      obtain ⟨fr0, hfr0⟩ : ∃ x, A2.σ.free = x := ⟨_, rfl⟩
      cases fr0 with
      | nil => exact absurd (congrArg List.length hfr0) (by have h1 := HP2.out.free; have h2 := HP1.out.free; have h3 := HF.out; have h4 := HLD.out; have h5 := HK.out; rw [List.length_take, HN.out] at h2; simp only [List.length_nil]; omega)
      | cons i fr =>
        have HFR := Lib.hid hfr0
        clear hfr0
        have hE3 := HE2.out.alters HAL2.out (fun b' off' h => by simp at h; rw [← h.1]; exact HFB1.out.2)
        have hkl : k < l.length := by have := HN.out; have := HK.out; omega
        obtain ⟨en, hen⟩ : ∃ en, l[k]? = some en := ⟨_, List.getElem?_eq_getElem hkl⟩
        have hspl := split_at hen
        obtain ⟨b', off', hbb, hbl, c0, c1⟩ := hE3.cell k en hen
        simp only [Option.some.injEq, Addr.mk.injEq, and_true] at hbb
        obtain ⟨rfl, rfl⟩ := hbb
        have hwf := hE3.wf en (List.mem_of_getElem? hen)
        have HE3 := Lib.hid hE3
        have HKL := Lib.hid hkl
        have HSPL := Lib.hid hspl
        have HWF := Lib.hid hwf
        have HEN := Lib.hid hen
        have hF2b := (HAL2.out.apart (G := fun j => j = b) (fun j hj => by rw [hj]; exact HFB1.out) b rfl)
        have HF2B := Lib.hid hF2b
        have hlt := HLD.out
        have hb2 : bal ((l.take k).length : Int) ((l.drop (k + 1)).length : Int) = true := by
          rw [HLD.out, List.length_take, HN.out, Nat.min_eq_left (Nat.le_of_lt HK.out)]
          have := HBAL.out
          rw [show ((n - (k + 1) : Nat) : Int) = (n : Int) - 1 - (k : Int) by have := HK.out; omega]
          exact this
        have hnode := Planted.node (e := en) HP1.out HP2.out HFR.out rfl hb2 (by rw [HLD.out, List.length_take, HN.out]; have := HC.out; omega)
        have HNODE := Lib.hid hnode
        have hsl := HP1.out.sub.kept HP2.out.kept
        have hov := over_ok rfl HP2.out.inv HP2.out.agg HFR.out hsl.idx HP2.out.sub.idx hnode.2
        have HOV := Lib.hid hov
        have HIL : Hid (A2.Idx il ∧ A2.Idx ir) := ⟨hsl.idx, HP2.out.sub.idx⟩
        clear hE3 hkl hen hspl hwf hF2b hlt hb2 hnode hsl hov
        obtain ⟨key, val⟩ := en
        have hH : ∀ j, pls (pls held il) ir j ≤ 1048576 := fun j => by rw [pls_at, pls_at]; have := HH.out j; have := HN0.out; split <;> split <;> omega
        have HHH := Lib.hid hH
        clear hH
        go_upto_region 10 with fail
        go_cut [13, 14] (fun s13 s14 wx => s13 = .int .u32 (i : Int) ∧ s14 = .int .i64 0 ∧ ∃ F3, Alters F2 F3 w3 wx ∧ I.Is wx (.pointer (some pa)) (A2.made i fr (A2.node key val il ir)) rd F3)
        case first =>
          go_region_held3 (fun w' => w'.cell? ⟨b, off + k * 2, none⟩ = some (.int .i64 key) ∧ w'.cell? ⟨b, off + k * 2 + 1, none⟩ = some (.int .i64 val)) (go_keep) ((go_at_call 77; refine (make_call I (I.below HI2.out (Below.refl _ _).drew) HP2.out.inv HP2.out.agg HHH.out HWF.out HIL.out.1 HIL.out.2 HNODE.out.2 HFR.out).mono ?_; rintro e wx ⟨rfl, F3, hal3, hI3⟩; have t1x := (EnsAt.alters (HE3.out.below (Below.refl _ _).drew) hal3 (fun b' off' h => by simp at h; rw [← h.1]; exact HF2B.out.2)).two HEN.out; obtain ⟨t1, t2⟩ := t1x))
          all_goals (go_wp2_with fail; go_meet; exact ⟨rfl, rfl, F3, (Alters.of_below (Below.refl _ _).drew).trans hal3, hI3⟩)
        case' rest =>
          rename World => w4
          obtain ⟨rfl, rfl, F3, hal3, hI3⟩ := hcut
          obtain ⟨o1, o2, o3, o4, o5, o6, o7, o8, o9, o10⟩ := HOV.out
          have HOK4 := Lib.hid (o7 o8).ok
          have HOK5 := Lib.hid (o9 o10).ok
          have HO7 := Lib.hid o7
          have HO8 := Lib.hid o8
          have HO9 := Lib.hid o9
          have HO10 := Lib.hid o10
          have HI3 := Lib.hid hI3
          have HA3 : Hid (Alters F F3 w w4) := (HAL1.out.trans HAL2.out).trans hal3
          have hi0 : ((i : Int) == 0) = false := by simp; exact o6
          have HI2 : Hid (((i : Int) != 0) = true) := by
            show ((i : Int) != 0) = true
            simp; exact o6
          clear o1 o2 o3 o4 o5 o6 o7 o8 o9 o10 hal3 hI3 c0 c1
          go_wp2_with fail
          refine (release_call I HI3.out HOK4.out HO7.out HO8.out).mono ?_
          rintro e w5 ⟨⟨m, rfl⟩, F4, hal4, hI4⟩
          have HI4 := Lib.hid hI4
          have HA4 : Hid (Alters F F4 w w5) := HA3.out.trans hal4
          clear hal4 hI4
          go_wp2_with fail
          refine (release_call I HI4.out HOK5.out HO9.out HO10.out).mono ?_
          rintro e w6 ⟨⟨m', rfl⟩, F5, hal5, hI5⟩
          have HR : Hid (PlantRes I A rd F held l (.pointer (some pa)) w (.returned (.tuple #[.int .u32 (i : Int), .bool ((i : Int) != 0)])) w6) := ⟨_, i, _, F5, (by rw [HSPL.out]; exact HNODE.out.1), (by rw [HI2.out]), HA4.out.trans hal5, hI5⟩
          clear hal5 hI5
          go_wp2_with fail
          go_ret2
          exact HR.out)
theorem plant_any (I : AImpl) (n : Nat) : PlantSpec I n := Nat.strongRecOn n fun n ih => plant_step I n ih
end Go.Proofs.YtckkmmdibgoajaaGreat
set_option linter.unusedVariables false
set_option linter.unusedSimpArgs false
namespace Go.Proofs.YtckkmmdibgoajaaGreat
open Go.RowKit
structure Grown (I : AImpl) (m : Nat) (l : List En) (w : World) (p : Value) (A : Ar) (i : Nat) (t : Tr) (F : Nat → Prop) (w' : World) : Prop where
  planted : Planted (Ar.init m) (fun _ => 0) l A i t
  is : I.Is w' p A 0 F
  foot : ∀ k, F k → w.heap.size ≤ k
  below : Below w.heap.size w w'
def GrowRes (I : AImpl) (m : Nat) (l : List En) (w : World) (e : Ending) (w' : World) : Prop :=
  ∃ (p : Value) (A : Ar) (i : Nat) (t : Tr) (F : Nat → Prop), e = .returned (.tuple #[p, .int .u32 (i : Int), .bool true]) ∧ Grown I m l w p A i t F w'
set_option maxHeartbeats 2000000 in
set_option maxRecDepth 100000 in
theorem grow_any (I : AImpl) {l : List En} {a : Option Addr} {n c sp m : Nat} {tilt : Int} {w : World} (hE : EnsAt w a l) (hn : l.length = n) (hc : n ≤ c) (hcm : c ≤ maxLen) (hm : n + sp = m) (h1 : 1 ≤ m) (h2 : m ≤ 65536) (ht0 : 0 ≤ tilt) (ht1 : tilt < 18446744073709551616) :
    Calls Tryz.prog 10 #[.slice a n c, .int .u64 tilt, .int .i64 (sp : Int)] w (GrowRes I m l w) := by
  have hw : IntKind.i64.wrap ((n : Int) + (sp : Int)) = (m : Int) := by rw [IntKind.wrap_i64]; omega
  have HW := Lib.hid hw
  have HE := Lib.hid hE
  have HN := Lib.hid hn
  have HT : Hid (0 ≤ tilt ∧ tilt < 18446744073709551616) := ⟨ht0, ht1⟩
  have HM : Hid (1 ≤ m ∧ m ≤ 65536 ∧ n ≤ m ∧ n ≤ c ∧ c ≤ maxLen ∧ n + sp = m) := ⟨h1, h2, by omega, hc, hcm, hm⟩
  have hni : (n : Int) ≤ 65536 := by omega
  have hsi : (sp : Int) ≤ 65536 := by omega
  clear hw hE hn hc hcm hm h1 h2 ht0 ht1
  go_enter Tryz.func10, Tryz.ntmps10
  go_wp2_with fail
  rw [show (n : Int) + (sp : Int) = (m : Int) by have := HM.out; omega]
  refine (I.new_ok m w HM.out.1 HM.out.2.1).mono ?_
  rintro e w1 ⟨p, F, rfl, hI, hF, hb1⟩
  obtain ⟨pa, rfl⟩ := I.ptr hI
  have HI := Lib.hid hI
  have HF := Lib.hid hF
  have HB1 := Lib.hid hb1
  have HE1 : Hid (EnsAt w1 a l) := HE.out.below hb1
  have HFB : Hid (∀ b off, a = some ⟨b, off, none⟩ → n ≠ 0 → ¬ F b) := fun b off e h0 hFb => by
    obtain ⟨b', off', h1, h2, _⟩ := HE.out.cell 0 (l[0]'(by have := HN.out; omega)) (List.getElem?_eq_getElem _)
    rw [e] at h1
    simp at h1
    have := HF.out b hFb
    omega
  clear hI hF hb1
  go_wp2_with fail
  refine (plant_any I n l a c tilt (.pointer (some pa)) (Ar.init m) 0 F (fun _ => 0) w1 HN.out HI.out (Ar.init_inv HM.out.1 HM.out.2.1) (Ar.init_agg m) (fun j => by have := HM.out; show 0 + _ ≤ _; omega) (by have := HM.out; show n ≤ (St.init m).free.length; simp [St.init]; omega) HE1.out (fun h0 b off e => HFB.out b off e h0) HM.out.2.2.2.1 HM.out.2.2.2.2.1 HT.out.1 HT.out.2).mono ?_
  rintro e w2 ⟨A, i, t, F', hP, rfl, hal, hI2⟩
  have HR : Hid (GrowRes I m l w (.returned (.tuple #[.pointer (some pa), .int .u32 (i : Int), .bool true])) w2) := ⟨_, A, i, t, F', rfl, hP, hI2, hal.from HB1.out.size HF.out, hal.below HB1.out HB1.out.size HF.out⟩
  clear hP hal hI2
  go_wp2_with fail
  go_ret3
  exact HR.out
end Go.Proofs.YtckkmmdibgoajaaGreat
set_option linter.unusedVariables false
namespace Go.Proofs.YtckkmmdibgoajaaGreat
structure Fd where
  kind : Int
  slot : Nat
  want : Int
  have_ : Int
def fdV (f : Fd) : List Value := [.int .i64 f.kind, .int .u32 (f.slot : Int), .int .i64 f.want, .int .i64 f.have_]
def fdsV (l : List Fd) : List Value := l.flatMap fdV
theorem fdsV_snoc (l : List Fd) (f : Fd) : fdsV (l ++ [f]) = fdsV l ++ fdV f := by simp [fdsV]
def opt (b : Bool) (f : Fd) : List Fd := if b = true then [f] else []
theorem opt_le (b : Bool) (f : Fd) : (opt b f).length ≤ 1 := by unfold opt; split <;> simp
section
variable (S : Nat → Sl) (n : Nat) (fr rs : List Nat) (R : Nat → Bool)
def wantFree (i : Nat) : Int := if (S i).on = true then 0 else 1
def F1 (i : Nat) : List Fd := opt (((fr.count (i + 1) : Nat) : Int) != wantFree S i) ⟨1, i + 1, wantFree S i, ((fr.count (i + 1) : Nat) : Int)⟩
def kidF (i t : Nat) : List Fd := opt (!decide (Al S n (kd (S i) t)) && kd (S i) t != 0) ⟨2, i + 1, 0, ((kd (S i) t : Nat) : Int)⟩
/-- the size by the first t children -/
def szF (i : Nat) : Nat → Int
  | 0 => 1
  | t + 1 => if Al S n (kd (S i) t) then IntKind.i64.wrap (szF i t + (S (kd (S i) t - 1)).nd.size) else szF i t
def kidsF (i t : Nat) : List Fd := (List.range t).flatMap (kidF S n i)
def F3 (i : Nat) : List Fd := opt (szF S n i 2 != (S i).nd.size) ⟨3, i + 1, szF S n i 2, (S i).nd.size⟩
def wantCount (i : Nat) : Int := if (S i).on = true then ((eg S n (i + 1) + rs.count (i + 1) : Nat) : Int) else 0
def F4 (i : Nat) : List Fd := opt (wantCount S n rs i != (S i).cnt) ⟨4, i + 1, wantCount S n rs i, (S i).cnt⟩
def F5 (i : Nat) : List Fd := opt ((S i).on && !R i) ⟨5, i + 1, 0, 0⟩
/-- the findings of slot i + 1 -/
def chk1 (i : Nat) : List Fd := F1 S fr i ++ ((if (S i).on = true then kidsF S n i 2 ++ F3 S n i else []) ++ (F4 S n rs i ++ F5 S R i))
def chks (k : Nat) : List Fd := (List.range k).flatMap (chk1 S n fr rs R)
def rngF (x : Nat) : List Fd := opt (decide (x < 1) || decide (n < x)) ⟨6, x, 0, 0⟩
def rootF (x : Nat) : List Fd := opt (x != 0 && !decide (Al S n x)) ⟨7, x, 0, 0⟩
def chk : List Fd := chks S n fr rs R n ++ (fr.flatMap (rngF n) ++ rs.flatMap (rootF S n))
theorem kidsF_succ (i t : Nat) : kidsF S n i (t + 1) = kidsF S n i t ++ kidF S n i t := by simp [kidsF, List.range_succ]
theorem chks_succ (k : Nat) : chks S n fr rs R (k + 1) = chks S n fr rs R k ++ chk1 S n fr rs R k := by simp [chks, List.range_succ]
theorem chk1_le (i : Nat) : (chk1 S n fr rs R i).length ≤ 6 := by
  unfold chk1
  rw [List.length_append, List.length_append, List.length_append]
  have h1 : (F1 S fr i).length ≤ 1 := opt_le _ _
  have h2 : (F4 S n rs i).length ≤ 1 := opt_le _ _
  have h3 : (F5 S R i).length ≤ 1 := opt_le _ _
  have h4 : (if (S i).on = true then kidsF S n i 2 ++ F3 S n i else []).length ≤ 3 := by
    split
    · rw [List.length_append]
      have h5 : (F3 S n i).length ≤ 1 := opt_le _ _
      have h6 : (kidsF S n i 2).length ≤ 2 := by
        rw [kidsF_succ, kidsF_succ]
        simp only [List.length_append]
        have h7 : (kidF S n i 0).length ≤ 1 := opt_le _ _
        have h8 : (kidF S n i 1).length ≤ 1 := opt_le _ _
        have h9 : (kidsF S n i 0).length = 0 := rfl
        omega
      omega
    · simp
  omega
theorem kidsF_le (i t : Nat) : (kidsF S n i t).length ≤ t := by
  induction t with
  | zero => simp [kidsF]
  | succ t ih => rw [kidsF_succ, List.length_append]; have : (kidF S n i t).length ≤ 1 := opt_le _ _; omega
theorem mid_le (i : Nat) : (if (S i).on = true then kidsF S n i 2 ++ F3 S n i else []).length ≤ 3 := by
  split
  · rw [List.length_append]
    have h5 : (F3 S n i).length ≤ 1 := opt_le _ _
    have h6 : (kidsF S n i 2).length ≤ 2 := by
      rw [kidsF_succ, kidsF_succ]
      simp only [List.length_append]
      have h7 : (kidF S n i 0).length ≤ 1 := opt_le _ _
      have h8 : (kidF S n i 1).length ≤ 1 := opt_le _ _
      have h9 : (kidsF S n i 0).length = 0 := rfl
      omega
    omega
  · simp
theorem chks_le (k : Nat) : (chks S n fr rs R k).length ≤ 6 * k := by
  induction k with
  | zero => simp [chks]
  | succ k ih => rw [chks_succ, List.length_append]; have := chk1_le S n fr rs R k; omega
theorem flat_le {l : List Nat} {f : Nat → List Fd} (h : ∀ x, (f x).length ≤ 1) : (l.flatMap f).length ≤ l.length := by
  induction l with
  | nil => simp
  | cons a t ih => rw [List.flatMap_cons, List.length_append, List.length_cons]; have := h a; omega
theorem flat_take {l : List Nat} {f : Nat → List Fd} {k : Nat} (h : k < l.length) : (l.take (k + 1)).flatMap f = (l.take k).flatMap f ++ f (l.getD k 0) := by
  rw [List.take_succ_eq_append_getElem h, List.flatMap_append, List.getD_eq_getElem?_getD, List.getElem?_eq_getElem h]
  simp
end
end Go.Proofs.YtckkmmdibgoajaaGreat
set_option linter.unusedVariables false
namespace Go.Proofs.YtckkmmdibgoajaaGreat
def Ar.sl (A : Ar) (i : Nat) : Sl := ⟨A.σ.on (i + 1), A.cnt (i + 1), A.σ.gen (i + 1), A.nd (i + 1)⟩
theorem al_on {A : Ar} (h : A.σ.Ok) (x : Nat) : Al A.sl A.σ.cap x ↔ A.σ.on x = true := by
  unfold Al Ar.sl
  constructor
  · rintro ⟨h1, h2, h3⟩
    rwa [show x - 1 + 1 = x by omega] at h3
  · intro h1
    have h2 := h.on x h1
    exact ⟨by omega, by omega, by rwa [show x - 1 + 1 = x by omega]⟩
theorem reach_rch {A : Ar} {l : List Nat} (h : A.Inv [] (hof l)) (k : Nat) (hr : A.Reach (hof l) k) : A.σ.on k = true → Rch A.sl A.σ.cap l k := by
  induction hr with
  | root i hi =>
    intro hk
    refine .root i ?_ ((al_on h.ok i).2 hk)
    unfold hof at hi
    split at hi
    · omega
    · exact List.count_pos_iff.1 hi
  | left k hk _ ih =>
    intro hk2
    have h1 := ih hk
    have h2 := h.ok.on k hk
    have h3 : kd (A.sl (k - 1)) 0 = (A.nd k).left := by unfold kd Ar.sl; rw [if_pos rfl, show k - 1 + 1 = k by omega]
    rw [← h3]
    exact .kid k 0 h1 (by decide) ((al_on h.ok _).2 (by rw [h3]; exact hk2))
  | right k hk _ ih =>
    intro hk2
    have h1 := ih hk
    have h2 := h.ok.on k hk
    have h3 : kd (A.sl (k - 1)) 1 = (A.nd k).right := by unfold kd Ar.sl; rw [if_neg (by decide), show k - 1 + 1 = k by omega]
    rw [← h3]
    exact .kid k 1 h1 (by decide) ((al_on h.ok _).2 (by rw [h3]; exact hk2))
theorem nodup_count {l : List Nat} (h : l.Nodup) (x : Nat) : l.count x = if x ∈ l then 1 else 0 := by
  by_cases e : x ∈ l
  · rw [if_pos e, List.nodup_iff_count.1 h |> fun h2 => Nat.le_antisymm (h2 x) (List.count_pos_iff.2 e)]
  · rw [if_neg e]; exact List.count_eq_zero.2 e
theorem eg_refs (A : Ar) (x : Nat) : eg A.sl A.σ.cap x = A.refs x := by
  unfold eg Ar.refs
  rw [List.range'_eq_map_range, List.map_map]
  congr 1
  refine List.map_congr_left fun k _ => ?_
  show ph 2 (A.sl k) x = A.edge (1 + k) x
  unfold ph Ar.edge Ar.sl
  rw [Nat.add_comm 1 k]
  by_cases h : A.σ.on (k + 1) = true
  · rw [if_pos h, if_pos h]; simp [List.range_succ, kd]
  · rw [if_neg h, if_neg h]
theorem wrap_fit {n : Int} (h : -9223372036854775808 ≤ n ∧ n ≤ 9223372036854775807) : IntKind.i64.wrap n = n := by rw [IntKind.wrap_i64]; omega
theorem flat_nil {α : Type} {l : List Nat} {f : Nat → List α} (h : ∀ x ∈ l, f x = []) : l.flatMap f = [] := by
  induction l with
  | nil => rfl
  | cons a t ih => rw [List.flatMap_cons, h a (by simp), ih fun x hx => h x (by simp [hx])]; rfl
theorem chk_sound {A : Ar} {l : List Nat} (h : A.Inv [] (hof l)) (ha : A.Agg) (hl : ∀ x ∈ l, x = 0 ∨ A.σ.on x = true) {R : Nat → Bool} (hR : ∀ j, j < A.σ.cap → (R j = true ↔ Rch A.sl A.σ.cap l (j + 1))) : chk A.sl A.σ.cap A.σ.free l R = [] := by
  unfold chk
  have h1 : A.σ.free.flatMap (rngF A.σ.cap) = [] := flat_nil fun x hx => by
    have := (h.ok.free x).1 hx
    unfold rngF opt
    rw [if_neg (by simp; omega)]
  have h2 : l.flatMap (rootF A.sl A.σ.cap) = [] := flat_nil fun x hx => by
    unfold rootF opt
    rw [if_neg]
    simp
    intro hx0
    rcases hl x hx with h3 | h3
    · exact absurd h3 hx0
    · exact (al_on h.ok x).2 h3
  rw [h1, h2, List.append_nil, List.append_nil]
  unfold chks
  refine flat_nil fun i hi => ?_
  rw [List.mem_range] at hi
  have hsl : (A.sl i).on = A.σ.on (i + 1) := rfl
  have hsn : (A.sl i).nd = A.nd (i + 1) := rfl
  have hsc : (A.sl i).cnt = A.cnt (i + 1) := rfl
  have hF1 : F1 A.sl A.σ.free i = [] := by
    unfold F1 opt
    rw [if_neg]
    simp
    rw [nodup_count h.ok.nodup]
    unfold wantFree
    rw [hsl]
    have hfr := h.ok.free (i + 1)
    by_cases ho : A.σ.on (i + 1) = true
    · rw [if_pos ho, if_neg (fun e => by have := (hfr.1 e).2.2; rw [ho] at this; cases this)]; rfl
    · rw [if_neg ho, if_pos (hfr.2 ⟨by omega, by omega, by simpa using ho⟩)]; rfl
  have hkid : A.σ.on (i + 1) = true → ∀ t, t < 2 → kd (A.sl i) t = 0 ∨ Al A.sl A.σ.cap (kd (A.sl i) t) := fun ho t ht => by
    have hc := h.child (i + 1) ho
    unfold kd
    rw [hsn]
    split
    · rcases hc.1 with h3 | h3
      · exact .inl h3
      · exact .inr ((al_on h.ok _).2 h3)
    · rcases hc.2 with h3 | h3
      · exact .inl h3
      · exact .inr ((al_on h.ok _).2 h3)
  have hF2 : A.σ.on (i + 1) = true → kidsF A.sl A.σ.cap i 2 = [] := fun ho => by
    unfold kidsF
    refine flat_nil fun t ht => ?_
    rw [List.mem_range] at ht
    unfold kidF opt
    rw [if_neg]
    simp
    intro h3
    rcases hkid ho t ht with h4 | h4
    · exact h4
    · exact absurd h4 h3
  have hF3 : A.σ.on (i + 1) = true → F3 A.sl A.σ.cap i = [] := fun ho => by
    have hn := congrArg Nd.size (ha.node (i + 1) ho)
    have hn2 : (A.node (A.nd (i + 1)).key (A.nd (i + 1)).val (A.nd (i + 1)).left (A.nd (i + 1)).right).size = 1 + A.sz (A.nd (i + 1)).left + A.sz (A.nd (i + 1)).right := rfl
    rw [hn2] at hn
    have hst : ∀ t, t < 2 → ∀ s : Int, (if Al A.sl A.σ.cap (kd (A.sl i) t) then IntKind.i64.wrap (s + (A.sl (kd (A.sl i) t - 1)).nd.size) else s) = IntKind.i64.wrap (s + A.sz (kd (A.sl i) t)) ∨ A.sz (kd (A.sl i) t) = 0 ∧ (if Al A.sl A.σ.cap (kd (A.sl i) t) then IntKind.i64.wrap (s + (A.sl (kd (A.sl i) t - 1)).nd.size) else s) = s := fun t ht s => by
      by_cases hal : Al A.sl A.σ.cap (kd (A.sl i) t)
      · rw [if_pos hal]
        have h5 := hal.1
        have h6 : (A.sl (kd (A.sl i) t - 1)).nd.size = A.sz (kd (A.sl i) t) := by
          unfold Ar.sz
          rw [if_neg (by omega)]
          show (A.nd (kd (A.sl i) t - 1 + 1)).size = _
          rw [show kd (A.sl i) t - 1 + 1 = kd (A.sl i) t by omega]
        exact .inl (by rw [h6])
      · rw [if_neg hal]
        rcases hkid ho t ht with h7 | h7
        · exact .inr ⟨by rw [h7]; rfl, rfl⟩
        · exact absurd h7 hal
    have hz : ∀ y, (y = 0 ∨ A.σ.on y = true) → 0 ≤ A.sz y ∧ A.sz y ≤ 2147483647 := fun y hy => by
      unfold Ar.sz
      split
      · exact ⟨Int.le_refl 0, by decide⟩
      · rcases hy with hy | hy
        · contradiction
        · have := ha.size y hy; omega
    have hc := h.child (i + 1) ho
    have hzl := hz _ hc.1
    have hzr := hz _ hc.2
    have k0 : kd (A.sl i) 0 = (A.nd (i + 1)).left := rfl
    have k1 : kd (A.sl i) 1 = (A.nd (i + 1)).right := rfl
    have e1 : szF A.sl A.σ.cap i 1 = 1 + A.sz (A.nd (i + 1)).left := by
      show (if Al A.sl A.σ.cap (kd (A.sl i) 0) then IntKind.i64.wrap (1 + (A.sl (kd (A.sl i) 0 - 1)).nd.size) else 1) = _
      rcases hst 0 (by decide) 1 with h8 | ⟨h8, h9⟩
      · rw [h8, k0]; exact wrap_fit (by omega)
      · rw [h9]; rw [k0] at h8; omega
    have e2 : szF A.sl A.σ.cap i 2 = 1 + A.sz (A.nd (i + 1)).left + A.sz (A.nd (i + 1)).right := by
      show (if Al A.sl A.σ.cap (kd (A.sl i) 1) then IntKind.i64.wrap (szF A.sl A.σ.cap i 1 + (A.sl (kd (A.sl i) 1 - 1)).nd.size) else szF A.sl A.σ.cap i 1) = _
      rcases hst 1 (by decide) (szF A.sl A.σ.cap i 1) with h8 | ⟨h8, h9⟩
      · rw [h8, k1, e1]; exact wrap_fit (by omega)
      · rw [h9, e1]; rw [k1] at h8; omega
    unfold F3 opt
    rw [if_neg]
    simp
    rw [e2, hsn]
    exact hn.symm
  have hF4 : F4 A.sl A.σ.cap l i = [] := by
    unfold F4 opt
    rw [if_neg]
    simp
    unfold wantCount
    rw [hsl, hsc]
    by_cases ho : A.σ.on (i + 1) = true
    · rw [if_pos ho, h.cnt (i + 1) ho, eg_refs]
      have : hof l (i + 1) = l.count (i + 1) := by unfold hof; rw [if_neg (by omega)]
      rw [this]
      simp
    · rw [if_neg ho, (h.off (i + 1) (by simpa using ho)).1]
  have hF5 : F5 A.sl R i = [] := by
    unfold F5 opt
    rw [if_neg]
    simp
    intro ho
    rw [hsl] at ho
    have hre := Ar.reach_all h ha 2147483648 (i + 1) ho (by have := (ha.size (i + 1) ho).1; omega)
    exact (hR i hi).2 (reach_rch h _ hre ho)
  unfold chk1
  rw [hF1, hF4, hF5]
  by_cases ho : A.σ.on (i + 1) = true
  · rw [hsl, if_pos ho, hF2 ho, hF3 ho]; rfl
  · rw [hsl, if_neg ho]; rfl
end Go.Proofs.YtckkmmdibgoajaaGreat
set_option linter.unusedVariables false
namespace Go.Proofs.YtckkmmdibgoajaaGreat
open Go.RowKit
theorem flat_at {α : Type} {f : α → List Value} {m : Nat} (hm : ∀ x, (f x).length = m) : ∀ (l : List α) (i j : Nat) (x : α), l[i]? = some x → j < m → (l.flatMap f)[i * m + j]? = (f x)[j]?
  | [], i, j, x, h, hj => by simp at h
  | a :: t, 0, j, x, h, hj => by
    simp at h
    subst h
    rw [List.flatMap_cons, Nat.zero_mul, Nat.zero_add, List.getElem?_append_left (by rw [hm]; exact hj)]
  | a :: t, i + 1, j, x, h, hj => by
    simp at h
    rw [List.flatMap_cons, List.getElem?_append_right (by rw [hm, Nat.succ_mul]; omega), hm, show (i + 1) * m + j - m = i * m + j by rw [Nat.succ_mul]; omega]
    exact flat_at hm t i j x h hj
/-- a dump's row of slots, read -/
theorem slots_at {w : World} {B c : Nat} {a : Option Addr} {A : Ar} {st : List Nat} {held : Nat → Nat} (hI : A.Inv st held) (h : w.ownsRow B 90 11 (.slice a A.σ.cap c) A.σ.cap (slotsV A)) : SlotsAt w a A.σ.cap A.sl := by
  have hcap := hI.ok.cap2
  refine ⟨fun i hi => ?_, fun i hi => ?_⟩
  · rcases h.2 with ⟨hv, hn⟩ | ⟨g, cap, cur, hv, hB, hc, hn, hcm, hs, ht⟩
    · omega
    · simp only [Value.slice.injEq] at hv
      obtain ⟨rfl, _, _⟩ := hv
      refine ⟨g, 0, rfl, (Array.getElem?_eq_some_iff.1 hc).1, fun j v hv => ?_⟩
      have hj : j < 11 := by have := (List.getElem?_eq_some_iff.1 hv).1; simpa [slV] using this
      rw [Nat.zero_add, h.cellAt (i * 11 + j) (by omega)]
      have h1 := flat_at (f := slotV A) (m := 11) (fun x => rfl) (List.range' 1 A.σ.cap) i j (i + 1) (by rw [List.getElem?_range' hi]; simp; omega) hj
      show ((List.range' 1 A.σ.cap).flatMap (slotV A))[i * 11 + j]? = some v
      rw [h1]
      exact hv
  · show (A.nd (i + 1)).left < _ ∧ (A.nd (i + 1)).right < _
    by_cases ho : A.σ.on (i + 1) = true
    · have hc := hI.child (i + 1) ho
      have key : ∀ y, (y = 0 ∨ A.σ.on y = true) → y < 4294967296 := fun y hy => by
        rcases hy with hy | hy
        · omega
        · have := hI.ok.on y hy; omega
      exact ⟨key _ hc.1, key _ hc.2⟩
    · rw [(hI.off (i + 1) (by simpa using ho)).2]
      exact ⟨by decide, by decide⟩
theorem row_u32 {w : World} {B c : Nat} {a : Option Addr} {l : List Nat} (h : w.ownsRow B 30 1 (.slice a l.length c) l.length (u32s l)) (hl : ∀ y ∈ l, y < 4294967296) : U32At w a l := by
  refine ⟨fun j hj => ?_, hl⟩
  obtain ⟨g, rfl, hg, hc⟩ := row_cell h hj
  refine ⟨g, 0, rfl, hg, ?_⟩
  rw [Nat.zero_add, hc]
  simp [u32s, List.getD_eq_getElem?_getD, hj]
end Go.Proofs.YtckkmmdibgoajaaGreat
set_option linter.unusedVariables false
set_option linter.unusedSimpArgs false
namespace Go.Proofs.YtckkmmdibgoajaaGreat
open Go.RowKit
/-- the node at an index; a zero node where there is none -/
def Ar.nz (A : Ar) (i : Nat) : Nd := if A.σ.on i = true then A.nd i else Nd.zero
def ndRow (x : Nd) : Array Value := #[.int .i64 x.key, .int .i64 x.val, .int .u32 (x.left : Int), .int .u32 (x.right : Int), .int .i64 x.size, .int .i64 x.sum, .int .i64 x.mn, .int .i64 x.mx]
theorem ndRow_one (x : Nd) : (ndRow x).all (·.oneCell') = true := by simp [ndRow, Value.oneCell']
set_option maxHeartbeats 1000000 in
set_option maxRecDepth 100000 in
theorem refNode_any {w : World} {a b : Option Addr} {N c m d i : Nat} {A : Ar} (h : SlotsAt w a N A.sl) (hok : A.σ.Ok) (hN : A.σ.cap = N) (hi : i < 4294967296) :
    Calls Tryz.prog 61 #[.agg #[.slice a N c, .slice b m d], .int .u32 (i : Int)] w (Calm w (.agg (ndRow (A.nz i)))) := by
  have hcap := hok.cap2
  have hz : ∀ w, (zeroValue 64).run Tryz.prog w = .ok (.agg (ndRow Nd.zero)) w := by
    have h : (Tryz.prog.info? 64).map (·.zero) = some (some (.agg (ndRow Nd.zero))) := by kernel_rfl
    intro w
    cases hi : Tryz.prog.info? 64 with
    | none => simp [hi] at h
    | some i =>
      have hz : i.zero = some (.agg (ndRow Nd.zero)) := by simpa [hi] using h
      simp [zeroValue, typeInfo, hi, hz]
  have hin : (Tryz.prog.info? 64).map (·.size) = some 8 := by kernel_rfl
  have HI := Lib.hid hin
  have hal := al_on hok i
  obtain ⟨w1, hw1⟩ : ∃ w1, w1 = (w.alloc (Obj.cells #[Value.slice a N c, Value.slice b m d] 41)).alloc (Obj.cells (ndRow Nd.zero) 64) := ⟨_, rfl⟩
  have hb1 : Below w.heap.size w w1 := by rw [hw1]; exact ((Below.refl _ _).alloc (Nat.le_refl _) _).alloc (by simp) _
  have HB1 := Lib.hid hb1
  have hrow1 : w1.heap[w.heap.size + 1]? = some (.cells (ndRow Nd.zero) 64 (0, 0)) := by rw [hw1]; exact heap_alloc2_new w _ _
  have HR1 := Lib.hid hrow1
  have hbox : w1.heap[w.heap.size]? = some (.cells #[Value.slice a N c, Value.slice b m d] 41 (0, 0)) := by rw [hw1]; exact heap_alloc2_old w _ _
  obtain ⟨hc0, hc1⟩ := two_cells hbox
  have hs1 := h.below hb1
  have HS1 := Lib.hid hs1
  have HBOX := Lib.hid hbox
  have hcall := dallocated_any (b := b) (m := m) (d := d) (c := c) hs1 (by omega) hi
  have HC : Hid (Calls Tryz.prog 89 #[.agg #[.slice a N c, .slice b m d], .int .u32 (i : Int)] w1 (Calm w1 (.bool (A.σ.on i)))) := by
    have e : decide (1 ≤ i ∧ i ≤ N ∧ (A.sl (i - 1)).on = true) = A.σ.on i := by
      rw [← hN]
      have h2 : (1 ≤ i ∧ i ≤ A.σ.cap ∧ (A.sl (i - 1)).on = true) ↔ A.σ.on i = true := hal
      cases ho : A.σ.on i
      · exact decide_eq_false fun h3 => by rw [h2, ho] at h3; cases h3
      · exact decide_eq_true (h2.2 ho)
    rw [e] at hcall
    exact hcall
  clear hcall hal hs1 hrow1 hb1 hbox hin
  go_enter Tryz.func61, Tryz.ntmps61
  go_upto_region 1 with fail
  rw [← hw1]
  have HU : Hid _ := Lib.hid Tryz.underlying64
  have hq : w.heap.size + 1 < w1.heap.size := (Array.getElem?_eq_some_iff.1 HR1.out).1
  have hsz1 : w.heap.size ≤ w1.heap.size := by omega
  clear hw1 hz h
  go_wp2_with fail
  refine HC.out.mono ?_
  rintro e w2 ⟨rfl, hb2⟩
  have HR2 : Hid (w2.heap[w.heap.size + 1]? = some (.cells (ndRow Nd.zero) 64 (0, 0))) := (hb2.block _ hq).trans HR1.out
  have HB2 : Hid (Below w.heap.size w w2) := HB1.out.trans (hb2.mono hsz1)
  have hbox2 := (hb2.block w.heap.size (by omega)).trans HBOX.out
  obtain ⟨hc0, hc1⟩ := two_cells hbox2
  have hS2 := HS1.out.below hb2
  clear hbox2 hb2 hsz1 hq
  cases ho : A.σ.on i
  · have hnz : A.nz i = Nd.zero := by unfold Ar.nz; rw [ho]; rfl
    have HNZ := Lib.hid hnz
    clear hnz hS2 ho
    go_wp2_with (refine wpList_store_row rfl 64 (.tmp 4) (.tmp 9) rfl (w.heap.size + 1) (ndRow Nd.zero) rfl rfl 64 _ HR2.out HI.out rfl (ndRow_one _) ?_)
    exact bodyPost_ret (v := .agg (ndRow Nd.zero)) (results_cell_row rfl _ _ (w.heap.size + 1) 64 (ndRow Nd.zero) (0, 0) _ rfl (setRow_heap _ _ _ _ _ _ HR2.out) HU.out rfl HI.out) rfl ⟨by rw [HNZ.out], below_setRow HB2.out (Nat.le_succ _) _⟩
  · have hnz : A.nz i = A.nd i := by unfold Ar.nz; rw [ho]; rfl
    have h1 := hok.on i ho
    rw [hN] at h1
    obtain ⟨j, rfl⟩ : ∃ j, i = j + 1 := ⟨i - 1, by omega⟩
    obtain ⟨b', off, rfl, hlb, _, _, _, d3, d4, d5, d6, d7, d8, d9, d10⟩ := hS2.all (show j < N by omega)
    have e : (A.sl j).nd = A.nd (j + 1) := rfl
    rw [e] at d3 d4 d5 d6 d7 d8 d9 d10
    generalize A.nd (j + 1) = x at d3 d4 d5 d6 d7 d8 d9 d10 hnz
    have HNZ := Lib.hid hnz
    have hX1 : (1 : Int) ≤ ((j + 1 : Nat) : Int) := by omega
    obtain ⟨Xi, hXi⟩ : ∃ Y : Int, ((j + 1 : Nat) : Int) = Y := ⟨_, rfl⟩
    have hXw : IntKind.u32.wrap (Xi - 1) = Xi - 1 := by rw [IntKind.wrap_u32']; omega
    have hX2 : (Xi - 1).toNat = j := by omega
    have hX4 : Xi - 1 < (N : Int) := by omega
    have hX5 : (0 : Int) ≤ Xi - 1 := by omega
    rw [hXi] at hX1 ⊢
    clear hXi hnz hS2 ho h1 e hi
    go_wp2_with (refine wpList_store_row rfl 64 (.tmp 4) (.tmp 16) rfl (w.heap.size + 1) (ndRow x) rfl rfl 64 _ HR2.out HI.out rfl (ndRow_one _) ?_)
    exact bodyPost_ret (v := .agg (ndRow x)) (results_cell_row rfl _ _ (w.heap.size + 1) 64 (ndRow x) (0, 0) _ rfl (setRow_heap _ _ _ _ _ _ HR2.out) HU.out rfl HI.out) rfl ⟨by rw [HNZ.out], below_setRow HB2.out (Nat.le_succ _) _⟩
end Go.Proofs.YtckkmmdibgoajaaGreat
set_option linter.unusedVariables false
set_option linter.unusedSimpArgs false
namespace Go.Proofs.YtckkmmdibgoajaaGreat
open Go.RowKit
/-- keys ascending, plain -/
theorem up_asc : ∀ (l : List En) (s : Option Int), Up l → (∀ k, s = some k → ∀ y ∈ l, k < y.key) → Asc s (l.map (·.key))
  | [], s, h, hs => by cases s <;> trivial
  | x :: t, s, h, hs => by
    unfold Up at h
    rw [List.pairwise_cons] at h
    have ih := up_asc t (some x.key) h.2 (fun k hk y hy => by cases hk; exact h.1 y hy)
    cases s with
    | none => exact ih
    | some k => exact ⟨hs k rfl x (by simp), ih⟩
def Keeps (G : Nat → Prop) (w w' : World) : Prop := ∀ k, G k → w'.heap[k]? = w.heap[k]?
end Go.Proofs.YtckkmmdibgoajaaGreat
set_option linter.unusedVariables false
set_option linter.unusedSimpArgs false
namespace Go.Proofs.YtckkmmdibgoajaaGreat
open Go.RowKit
def rankE (l : List En) (k : Int) : Nat := l.countP fun e => decide (e.key < k)
def getE (l : List En) (k : Int) : Option En := l.find? fun e => decide (e.key = k)
def selE (l : List En) (i : Int) : Option En := if 0 ≤ i then l[i.toNat]? else none
def floorE (l : List En) (k : Int) : Option En := if (getE l k).isSome then selE l (rankE l k) else selE l ((rankE l k : Int) - 1)
def ceilE (l : List En) (k : Int) : Option En := selE l (rankE l k)
def belowE (l : List En) (k : Int) : Option En := selE l ((rankE l k : Int) - 1)
/-- the cells of an entry, of none zeros -/
def enA (o : Option En) : Array Value := #[.int .i64 (o.elim 0 (·.key)), .int .i64 (o.elim 0 (·.val))]
theorem rankE_le (l : List En) (k : Int) : rankE l k ≤ l.length := List.countP_le_length
theorem getE_step {l : List En} {j : Nat} {e : En} (h : l[j]? = some e) (k : Int) : getE (l.drop j) k = if e.key = k then some e else getE (l.drop (j + 1)) k := by
  obtain ⟨hj, he⟩ := List.getElem?_eq_some_iff.1 h
  unfold getE
  rw [List.drop_eq_getElem_cons hj, he, List.find?_cons]
  by_cases hk : e.key = k <;> simp [hk]
theorem below_newL (w : World) (o : Obj) : Below w.heap.size w (w.alloc o) := (Below.refl _ _).alloc (Nat.le_refl _) _
theorem EnsAt.at {w : World} {a : Option Addr} {l : List En} {j : Nat} {e : En} (h : EnsAt w a l) (he : l[j]? = some e) : ∃ b off, a = some ⟨b, off, none⟩ ∧ b < w.heap.size ∧ w.cell? ⟨b, off + j * 2, none⟩ = some (.int .i64 e.key) ∧ w.cell? ⟨b, off + j * 2 + 1, none⟩ = some (.int .i64 e.val) := h.cell j e he
set_option maxHeartbeats 1000000 in
set_option maxRecDepth 100000 in
theorem get_any {w : World} {a : Option Addr} {n c : Nat} {l : List En} (k : Int) (h : EnsAt w a l) (hn : l.length = n) (hl : n ≤ 1000000) :
    Calls Tryz.prog 14 #[.slice a n c, .int .i64 k] w fun e w' => e = .returned (.tuple #[.int .i64 ((getE l k).elim 0 (·.val)), .bool (getE l k).isSome]) ∧ w' = w := by
  have HE := Lib.hid h
  have HN := Lib.hid hn
  have hni : (n : Int) ≤ 1000000 := by omega
  clear h hn hl
  go_enter Tryz.func14, Tryz.ntmps14
  go_wp2_with fail
  go_loopw [6] (fun i wr => ∃ j : Nat, i = .int .i64 (j : Int) ∧ getE (l.drop j) k = getE l k ∧ j ≤ n ∧ wr = w) (fun i _ => n - (intOf i).toNat)
  case atStart => exact ⟨0, rfl, rfl, Nat.zero_le _, rfl⟩
  case round =>
    obtain ⟨j, rfl, hg, hj, rfl⟩ := hrel
    have HG := Lib.hid hg
    have HJ := Lib.hid hj
    have hj0 : (0 : Int) ≤ (j : Int) := by omega
    by_cases hlt : j < n
    · have hji : (j : Int) < (n : Int) := by omega
      obtain ⟨e, he⟩ : ∃ e, l[j]? = some e := ⟨_, List.getElem?_eq_getElem (by have := HN.out; omega)⟩
      obtain ⟨b, off, rfl, hb, c0, c1⟩ := HE.out.at he
      have hs := getE_step he k
      have HS := Lib.hid hs
      have HLT := Lib.hid hlt
      by_cases hk : e.key = k
      · have hkd : (e.key == k) = true := by simp; exact hk
        have HK : Hid (getE l k = some e) := by show _ = _; rw [← HG.out, HS.out, if_pos hk]
        clear hj hlt hs he hk hb hg
        go_wp2_with fail
        go_ret2
        exact ⟨by rw [HK.out]; rfl, rfl⟩
      · have hkd : (e.key == k) = false := by simp; exact hk
        have HK : Hid (getE (l.drop (j + 1)) k = getE l k) := by show _ = _; rw [← HG.out, HS.out, if_neg hk]
        clear hj hlt hs he hk hb c1 hg
        go_wp2_with fail
        exact ⟨⟨j + 1, by go_num, HK.out, by have := HLT.out; omega, trivial⟩, by have := HLT.out; simp [intOf]; omega⟩
    · have hji : ¬ (j : Int) < (n : Int) := by omega
      have HK : Hid (getE l k = none) := by show _ = _; rw [← HG.out, List.drop_of_length_le (by have := HN.out; omega)]; rfl
      clear hj hlt hg
      go_wp2_with fail
      go_ret2
      exact ⟨by rw [HK.out]; rfl, rfl⟩
end Go.Proofs.YtckkmmdibgoajaaGreat
set_option linter.unusedVariables false
set_option linter.unusedSimpArgs false
namespace Go.Proofs.YtckkmmdibgoajaaGreat
open Go.RowKit
theorem two_ofE {w : World} {g : Nat} {x y : Int} {ty : TypeId} (h : w.heap[g]? = some (.cells #[.int .i64 x, .int .i64 y] ty (0, 0))) : w.cell? ⟨g, 0, none⟩ = some (.int .i64 x) ∧ w.cell? ⟨g, 1, none⟩ = some (.int .i64 y) := by
  constructor <;> (rw [cell_of_row _ _ _ _ _ _ h]; rfl)
end Go.Proofs.YtckkmmdibgoajaaGreat
