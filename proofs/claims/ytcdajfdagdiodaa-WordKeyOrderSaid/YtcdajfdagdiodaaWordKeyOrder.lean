/-
  For all int64 j and k: AppendKey writes 8 bytes for each, and the bytewise order of the two strings is the order of j and k, asked both ways round; the examples of the chapter hold. No condition.
-/
import Derived.Test.YtcdajfdagdiodaaRows
import Derived.Test.YtcdajfdagdiodaaOpen
import Derived.WalkKit
import Derived.ProofKit
import Derived.OpenShut
import Derived.ShutString
import Derived.ChangeOld
import Derived.Below
import Derived.SizedLaws
set_option linter.unusedSimpArgs false
namespace Go.Proofs.Ytcdajfdagdiodaa.wordKeyOrder
open Go.ChangeShapes Go.WideShapes Go.ChangeAt Go.RowKit
open Go.ChangeMaps (open_string shut_string)
set_option linter.unusedVariables false

theorem own : ownKnob Try.prog.godebug = none := by kernel_rfl

set_option maxHeartbeats 1000000 in
theorem walk (a0 : Int) (a1 : Int) (w0 : (Lit.int .i64 a0).wf = true) (w1 : (Lit.int .i64 a1).wf = true) (w : World) :
    Calls Try.prog 10 #[.int .i64 a0, .int .i64 a1] w fun e w' => e = .returned (.bool true) ∧ Below w.heap.size w w' := by
  obtain ⟨hb1, hb2⟩ := wf_i64 w0
  obtain ⟨hu1, hu2⟩ := wf_i64 w1
  obtain ⟨hx1, hx2⟩ := kw_bd a0 hb1 hb2
  obtain ⟨hy1, hy2⟩ := kw_bd a1 hu1 hu2
  have HA := Lib.hid (show decide (kw a0 < kw a1) = decide (a0 < a1) from decide_eq_decide.2 (by unfold kw; omega))
  have HB := Lib.hid (show decide (kw a1 < kw a0) = decide (a1 < a0) from decide_eq_decide.2 (by unfold kw; omega))
  go_enter Try.func10, Try.ntmps10
  go_wp2_with fail
  refine (appendKey_any none 0 0 [] a0 _ (Bs.nil_ _) hb1 hb2 (by decide)).mono ?_
  rintro e w1 ⟨rfl, ho1, hb1'⟩
  go_wp2_with fail
  refine (appendKey_any none 0 0 [] a1 _ (Bs.nil_ _) hu1 hu2 (by decide)).mono ?_
  rintro e w2 ⟨rfl, ho2, hb2'⟩
  have hc1 : Bs w2 (some ⟨w.heap.size, 0, none⟩) 8 8 (be 8 (kw a0)) := (Bs.own (zs := be 8 (kw a0)) ho1 (be_byt _ _)).below hb2'
  have hc2 : Bs w2 (some ⟨w1.heap.size, 0, none⟩) 8 8 (be 8 (kw a1)) := Bs.own (zs := be 8 (kw a1)) ho2 (be_byt _ _)
  have hbw : Below w.heap.size w w2 := hb1'.trans (hb2'.mono hb1'.size)
  clear ho1 ho2 hb1' hb2'
  go_wp2_with fail
  refine (awake_any _).mono ?_
  rintro e w3 ⟨rfl, hb3⟩
  have hd1 := hc1.below hb3
  have hd2 := hc2.below hb3
  have hbw3 : Below w.heap.size w w3 := hbw.trans (hb3.mono hbw.size)
  clear hc1 hc2 hbw hb3
  go_wp2_with fail
  refine (less_any _ _ _ _ (kw a0) (kw a1) _ hx1 hx2 hy1 hy2 hd1 hd2).mono ?_
  rintro e w4 ⟨rfl, q, rfl⟩
  rw [HA.out]
  go_wp2_with fail
  refine (less_any _ _ _ _ (kw a1) (kw a0) _ hy1 hy2 hx1 hx2 (hd2.drewN q) (hd1.drewN q)).mono ?_
  rintro e w4 ⟨rfl, q2, rfl⟩
  rw [HB.out]
  go_wp2
  go_ret
  exact ⟨rfl, below_drewN hbw3 _⟩

set_option maxRecDepth 100000 in
theorem lifted (os : Os) (started : os.Started) (H : Type) (enc : TypeId × Value → H) :
    ReturnsInHanded {} Try.checked os 10 .any (Rows.wordKeyOrderSpec.pre6 enc Try.prog Try.f10 Rows.wordKeyOrderRow.domain false) (Rows.wordKeyOrderSpec.post enc Try.prog Try.f10 false true false false) := by
  refine returnsInHanded_of_change (C := Try.checked) own started (by kernel_rfl) Try.func10
    (ChangeSpec.witness6 (enc := enc) (C := Try.checked) false ⟨#[], #[.int .i64 0, .int .i64 0], []⟩ 8 (by kernel_rfl) (by kernel_rfl) (by kernel_rfl) (by kernel_rfl)) ?_
  intro W base args ds gs before hval0 hW hcnd _
  have hval : ∀ (j : Nat) t v, Try.f10.params[j]? = some t → args[j]? = some v → Value.okWide Try.prog W .any base t v := hval0
  have hW' := hW
  obtain ⟨p, q, hA0, hV, rfl, hfz, hnd⟩ := hW
  have hA : DataW.TrodAll enc Try.prog W 0 (fun _ => true) true Try.f10.params.toList args.toList ds p := hA0
  rw [Try.params10] at hA hval
  obtain ⟨v0, vs0, d0, ds0, p0, q0, hargs, rfl, rfl, h0, r0⟩ := trodAll_cons hA
  obtain ⟨v1, vs1, d1, ds1, p1, q1, rfl, rfl, rfl, h1, r1⟩ := trodAll_cons r0
  obtain ⟨rfl, rfl, rfl⟩ := trodAll_nil r1
  obtain rfl : args = #[v0, v1] := by cases args; simp_all
  obtain ⟨rfl, rfl⟩ := trodVars_none hV
  obtain ⟨a0, rfl, rfl, rfl, w0⟩ := open_int Try.underlying2 (hval 0 2 v0 rfl rfl) h0
  obtain ⟨a1, rfl, rfl, rfl, w1⟩ := open_int Try.underlying2 (hval 1 2 v1 rfl rfl) h1
  clear hA0 hval0
  refine (walk a0 a1 w0 w1 W).mono fun e W' ⟨he, bel⟩ => ?_
  subst he
  exact ⟨_, rfl, _, _, _, [], _, [], hW', (trodAll_cons_mk (shut_bool Try.underlying4 _) trodAll_mk0), (trodAll_cons_mk (shut_int Try.underlying2 w0) (trodAll_cons_mk (shut_int Try.underlying2 w1) trodAll_mk0)), rfl, bel.frame _, fun h => by cases h⟩

theorem over : Rows.wordKeyOrderRow.holds Try.pinned (OpenSpec.ofChange Rows.wordKeyOrderSpec) :=
  OpenClaim.holds_of_wide 10 Try.f10 rfl rfl rfl rfl rfl rfl rfl ⟨rfl, rfl, rfl, rfl, rfl⟩ rfl rfl rfl rfl rfl (by kernel_rfl) Try.func10 (by kernel_rfl)
    (of_decide_eq_true (by kernel_rfl)) (by unfold Func.isWrapper; first | (rw [if_pos (by decide +kernel)]; kernel_rfl) | (rw [if_neg (by decide +kernel)]; exact ⟨rfl, rfl⟩))
    (fun os started H enc _ => lifted os started H enc)

theorem proved : Rows.WordKeyOrderSaid :=
  over
end Go.Proofs.Ytcdajfdagdiodaa.wordKeyOrder
