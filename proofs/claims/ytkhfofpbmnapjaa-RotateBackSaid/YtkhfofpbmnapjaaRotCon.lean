/- What is asked of the program's rotations, stated, not proved here; the example of the chapter. -/
import Derived.Test.YtkhfofpbmnapjaaArenaLaw
import Derived.Test.YtkhfofpbmnapjaaWf
set_option linter.unusedVariables false
set_option linter.unusedSimpArgs false
namespace Go.Proofs.Ytkhfofpbmnapjaa
open Go.RowKit
/-- B is A with n new nodes and one reference more, to j; what was there stays -/
structure Turned (A : Ar) (held : Nat → Nat) (B : Ar) (j n : Nat) : Prop where
  kept : A.Kept B
  gen : ∀ i, A.σ.on i = true → B.σ.gen i = A.σ.gen i
  inv : B.Inv [] (more held j)
  agg : B.Agg
  wf : B.Wf
  free : B.σ.free.length + n = A.σ.free.length
def NewIn (A B : Ar) (j : Nat) : Prop := B.σ.on j = true ∧ A.σ.on j = false
def isNd (x e : Nd) (l r : Nat) : Prop := x.key = e.key ∧ x.val = e.val ∧ x.left = l ∧ x.right = r
/-- does the root have the form that the rotation asks -/
def rform (A : Ar) (k i : Nat) : Bool := A.σ.on i && match k with
  | 0 => (A.nd i).right != 0
  | 1 => (A.nd i).left != 0
  | 2 => (A.nd i).right != 0 && (A.nd (A.nd i).right).left != 0
  | _ => (A.nd i).left != 0 && (A.nd (A.nd i).left).right != 0
def rneed (k : Nat) : Nat := if k < 2 then 2 else 3
def dnodes (A B : Ar) (j : Nat) (p q r : Nd) : Prop :=
  ∃ y z, y ≠ z ∧ NewIn A B j ∧ NewIn A B y ∧ NewIn A B z ∧ isNd (B.nd j) q y z ∧ isNd (B.nd y) p p.left q.left ∧ isNd (B.nd z) r q.right r.right
/-- the nodes of the result -/
def RNodes (A B : Ar) (k i j : Nat) : Prop := match k with
  | 0 => ∃ z, NewIn A B j ∧ NewIn A B z ∧ isNd (B.nd j) (A.nd (A.nd i).right) z (A.nd (A.nd i).right).right ∧ isNd (B.nd z) (A.nd i) (A.nd i).left (A.nd (A.nd i).right).left
  | 1 => ∃ z, NewIn A B j ∧ NewIn A B z ∧ isNd (B.nd j) (A.nd (A.nd i).left) (A.nd (A.nd i).left).left z ∧ isNd (B.nd z) (A.nd i) (A.nd (A.nd i).left).right (A.nd i).right
  | 2 => dnodes A B j (A.nd i) (A.nd (A.nd (A.nd i).right).left) (A.nd (A.nd i).right)
  | _ => dnodes A B j (A.nd (A.nd i).left) (A.nd (A.nd (A.nd i).left).right) (A.nd i)
/-- what a rotation answers, where T says what stands at an arena -/
def RotEnd (A : Ar) (held : Nat → Nat) (k i : Nat) (T : Ar → (Nat → Nat) → Prop) (e : Ending) : Prop :=
  (rform A k i = false ∧ e = .returned (.tuple #[.int .u32 0, .int .i64 1]) ∧ T A held) ∨
  (rform A k i = true ∧ A.σ.free.length < rneed k ∧ e = .returned (.tuple #[.int .u32 0, .int .i64 2]) ∧ T A held) ∨
  (rform A k i = true ∧ rneed k ≤ A.σ.free.length ∧ ∃ B j, Turned A held B j (rneed k) ∧ RNodes A B k i j ∧ e = .returned (.tuple #[.int .u32 (j : Int), .int .i64 0]) ∧ T B (more held j))
def RotRes (I : AImpl) (p : Value) (A : Ar) (rd : Int) (F : Nat → Prop) (held : Nat → Nat) (k i : Nat) (w : World) (e : Ending) (w' : World) : Prop :=
  ∃ F' rd', Alters F F' w w' ∧ rd ≤ rd' ∧ rd' ≤ rd + 64 ∧ RotEnd A held k i (fun B _ => I.Is w' p B rd' F') e
def RotSpec (I : AImpl) (f : FuncId) (k : Nat) : Prop := ∀ {p : Value} {A : Ar} {rd : Int} {F : Nat → Prop} {held : Nat → Nat} {i : Nat} (w : World),
  I.Is w p A rd F → A.Inv [] held → A.Agg → A.Wf → (∀ j, held j ≤ 1048000) → 0 ≤ rd → rd ≤ 1099511627776 → i < 4294967296 →
  Calls Try.prog f #[p, .int .u32 (i : Int)] w (RotRes I p A rd F held k i w)
structure RotImpl (I : AImpl) : Prop where
  left : RotSpec I 27 0
  right : RotSpec I 26 1
  dleft : RotSpec I 32 2
  dright : RotSpec I 33 3
/-- what a rotation leaves of an arena that the caller made -/
def RotA (I : AImpl) (B : Nat) (w0 : World) (p : Value) (A : Ar) (rd : Int) (held : Nat → Nat) (k i : Nat) (e : Ending) (w' : World) : Prop :=
  ∃ rd', rd ≤ rd' ∧ rd' ≤ rd + 64 ∧ RotEnd A held k i (fun A' held' => TA I B w0 w' p A' rd' held') e
theorem ta_rot {I : AImpl} {B : Nat} {w w0 : World} {p : Value} {A : Ar} {rd : Int} {held : Nat → Nat} {f : FuncId} {k i : Nat} {N : Int} (hf : RotSpec I f k) (h : TA I B w0 w p A rd held) (hN : N = (i : Int)) (hwf : A.Wf) (hm : ∀ j, held j ≤ 1048000) (h0 : 0 ≤ rd) (h1 : rd ≤ 1099511627776) (hi : i < 4294967296) :
    Calls Try.prog f #[p, .int .u32 N] w (RotA I B w0 p A rd held k i) := by
  subst hN
  obtain ⟨F, h2, hF⟩ := h.has
  refine (hf w h2 h.inv h.agg hwf hm h0 h1 hi).mono ?_
  rintro e w1 ⟨F', rd', hal, hr0, hr1, hq⟩
  refine ⟨rd', hr0, hr1, ?_⟩
  rcases hq with ⟨q1, q2, q3⟩ | ⟨q1, q2, q3, q4⟩ | ⟨q1, q2, C, j, q3, q4, q5, q6⟩
  · exact .inl ⟨q1, q2, h.step hF hal q3 h.inv h.agg⟩
  · exact .inr (.inl ⟨q1, q2, q3, h.step hF hal q4 h.inv h.agg⟩)
  · exact .inr (.inr ⟨q1, q2, C, j, q3, q4, q5, h.step hF hal q6 q3.inv q3.agg⟩)
theorem awake12_any (I : AImpl) (K : RotImpl I) (w : World) : Calls Try.prog 8 #[] w (Calm w (.bool true)) := by
  have HK := Lib.hid K
  clear K
  go_enter Try.func8, Try.ntmps8
  go_wp2_with fail
  refine (ta_new I 4 4 _ (by decide) (by decide) rfl).mono ?_
  rintro e w1 ⟨a, rfl, h⟩
  go_wp2_with fail
  refine (ta_make h (fun _ => Nat.zero_le _) (l := 0) (r := 0) (i := 1) (t := [2, 3, 4]) rfl rfl ⟨by decide, by decide, by decide, by decide⟩ (.inl rfl) (.inl rfl) (by decide) rfl).mono ?_
  rintro e w2 ⟨rfl, h2⟩
  clear h
  go_wp2_with fail
  refine (ta_make h2 (fun j => Nat.le_trans (more_small (m := 0) (fun _ => Nat.le_refl _) 1 j) (by decide)) (l := 1) (r := 0) (i := 2) (t := [3, 4]) rfl rfl ⟨by decide, by decide, by decide, by decide⟩ (.inr rfl) (.inl rfl) (by decide) rfl).mono ?_
  rintro e w3 ⟨rfl, h3⟩
  clear h2
  have HM : Hid (∀ j, more (more (fun _ => 0) 1) 2 j ≤ 2) := fun j => more_small (m := 1) (fun j => more_small (m := 0) (fun _ => Nat.le_refl _) 1 j) 2 j
  have HA : Hid (rform (Ar.made ((Ar.init 4).made 1 [2, 3, 4] ((Ar.init 4).node 1 1 0 0)) 2 [3, 4] (Ar.node ((Ar.init 4).made 1 [2, 3, 4] ((Ar.init 4).node 1 1 0 0)) 2 2 1 0)) 1 2 = true) := by show _ = _; rfl
  have HWF : Hid (Ar.made ((Ar.init 4).made 1 [2, 3, 4] ((Ar.init 4).node 1 1 0 0)) 2 [3, 4] (Ar.node ((Ar.init 4).made 1 [2, 3, 4] ((Ar.init 4).node 1 1 0 0)) 2 2 1 0)).Wf := ((Ar.wf_init 4).made ⟨⟨by decide, by decide⟩, ⟨by decide, by decide⟩⟩).made ⟨⟨by decide, by decide⟩, ⟨by decide, by decide⟩⟩
  generalize hA : Ar.made ((Ar.init 4).made 1 [2, 3, 4] ((Ar.init 4).node 1 1 0 0)) 2 [3, 4] (Ar.node ((Ar.init 4).made 1 [2, 3, 4] ((Ar.init 4).node 1 1 0 0)) 2 2 1 0) = A2 at h3 HA HWF ⊢
  have HN : Hid (A2.σ.free.length = 2 ∧ A2.σ.on 2 = true ∧ (A2.nd 2).left = 1 ∧ (A2.nd 2).right = 0 ∧ (A2.nd 1).key = 1 ∧ (A2.nd 1).left = 0 ∧ (A2.nd 1).right = 0) := by rw [← hA]; exact ⟨rfl, rfl, rfl, rfl, rfl, rfl, rfl⟩
  clear hA
  go_wp2_with fail
  refine (ta_rot HK.out.right h3 (i := 2) rfl HWF.out (fun j => Nat.le_trans (HM.out j) (by decide)) (by decide) (by decide) (by decide)).mono ?_
  rintro e w4 ⟨rd4, h40, h41, hq⟩
  rcases hq with ⟨q1, -⟩ | ⟨q1, q2, -⟩ | ⟨q1, q2, B, j, ht, hn, rfl, h4⟩
  · exact absurd (HA.out.symm.trans q1) (by decide)
  · exact absurd q2 (by rw [HN.out.1]; decide)
  have HT := Lib.hid ht
  have HRN := Lib.hid hn
  have HR4 : Hid (0 ≤ rd4 ∧ rd4 ≤ 64) := ⟨by omega, by omega⟩
  clear h3 q1 q2 ht hn h40 h41
  have HB : Hid (rform B 0 2 = false) := by
    show rform B 0 2 = false
    unfold rform
    rw [HT.out.kept.on 2 HN.out.2.1, HT.out.kept.nd 2 HN.out.2.1, HN.out.2.2.2.1]
    rfl
  go_wp2_with fail
  refine (ta_rot HK.out.left h4 (i := 2) rfl HT.out.wf (fun j' => Nat.le_trans (more_small HM.out j j') (by decide)) HR4.out.1 (by have := HR4.out; omega) (by decide)).mono ?_
  rintro e w5 ⟨rd5, h50, h51, hq⟩
  rcases hq with ⟨-, rfl, h5⟩ | ⟨q1, -⟩ | ⟨q1, -⟩
  rotate_left
  · exact absurd (HB.out.symm.trans q1) (by decide)
  · exact absurd (HB.out.symm.trans q1) (by decide)
  have HR5 : Hid (0 ≤ rd5 ∧ rd5 ≤ 128) := ⟨by have := HR4.out; omega, by have := HR4.out; omega⟩
  obtain ⟨z, ⟨j1, -⟩, ⟨z1, -⟩, ⟨k1, k2, k3, k4⟩, ⟨k5, k6, k7, k8⟩⟩ := HRN.out
  rw [HN.out.2.2.1] at k1 k2 k3 k7
  have hz : (B.nd z).size = 1 := by
    have e := congrArg Nd.size (HT.out.agg.node z z1)
    rw [e, k7, k8, HN.out.2.2.2.1, HN.out.2.2.2.2.2.2]
    rfl
  have hz0 : z ≠ 0 := by have := HT.out.inv.ok.on z z1; omega
  have hsz : (B.nd j).size = 2 := by
    have e := congrArg Nd.size (HT.out.agg.node j j1)
    rw [e, k3, k4, HN.out.2.2.2.2.2.1]
    show 1 + B.sz 0 + B.sz z = 2
    unfold Ar.sz
    rw [if_pos rfl, if_neg hz0, hz]
    rfl
  have HJ : Hid (B.σ.on j = true) := j1
  have HND : Hid (∃ x0 x1 x2 x3 x4, (ndV (B.nd j)).toArray = #[Value.int .i64 1, .int .i64 x0, .int .u32 0, .int .u32 x1, .int .i64 2, .int .i64 x2, .int .i64 x3, .int .i64 x4]) := by
    refine ⟨(B.nd j).val, ((B.nd j).right : Int), (B.nd j).sum, (B.nd j).mn, (B.nd j).mx, ?_⟩
    unfold ndV
    rw [hsz, k1, k3, HN.out.2.2.2.2.1, HN.out.2.2.2.2.2.1]
    rfl
  clear h4 h50 h51 j1 z1 k1 k2 k3 k4 k5 k6 k7 k8 hz hz0 hsz
  go_wp2_with fail
  refine (ta_node h5 (i := j) rfl HR5.out.1 (by have := HR5.out; omega) HJ.out).mono ?_
  rintro e w6 ⟨rfl, h6⟩
  clear h5
  obtain ⟨x0, x1, x2, x3, x4, hnd⟩ := HND.out
  rw [hnd]
  clear hnd
  have hb := (h6.calm ((Below.refl w6.heap.size w6).alloc (Nat.le_refl _) (Obj.cells #[Value.int .i64 1, .int .i64 x0, .int .u32 0, .int .u32 x1, .int .i64 2, .int .i64 x2, .int .i64 x3, .int .i64 x4] 40))).below
  clear h6
  go_wp2
  go_ret
  exact ⟨rfl, hb⟩
end Go.Proofs.Ytkhfofpbmnapjaa
