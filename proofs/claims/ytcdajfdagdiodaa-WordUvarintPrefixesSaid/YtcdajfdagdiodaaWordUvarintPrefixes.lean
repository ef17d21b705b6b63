/-
  For every uint64 u: the varint of u cut off anywhere before its end is reported as truncated by Uvarint at index 0, with 0 and 0; the examples of the chapter hold. No condition.
-/
import Derived.Test.YtcdajfdagdiodaaRows
import Derived.Test.YtcdajfdagdiodaaOpen
import Derived.Test.YtcdajfdagdiodaaDec
import Derived.WalkKit
import Derived.ProofKit
import Derived.OpenShut
import Derived.ShutString
import Derived.ChangeOld
import Derived.Below
import Derived.SizedLaws
set_option linter.unusedSimpArgs false
namespace Go.Proofs.Ytcdajfdagdiodaa.wordUvarintPrefixes
open Go.ChangeShapes Go.WideShapes Go.ChangeAt Go.RowKit
open Go.ChangeMaps (open_string shut_string)
set_option linter.unusedVariables false

theorem own : ownKnob Try.prog.godebug = none := by kernel_rfl

set_option maxHeartbeats 1000000 in
theorem walk (a0 : Int) (a1 : Int) (w0 : (Lit.int .u64 a0).wf = true) (w1 : (Lit.int .i64 a1).wf = true) (w : World) :
    Calls Try.prog 8 #[.int .u64 a0, .int .i64 a1] w fun e w' => e = .returned (.bool true) ∧ Below w.heap.size w w' := by
  obtain ⟨hu1, hu2⟩ := wf_u64 w0
  obtain ⟨hc1, hc2⟩ := wf_i64 w1
  go_enter Try.func8, Try.ntmps8
  go_wp2_with fail
  refine (varint_any a0 _ hu1 hu2).mono ?_
  rintro e w1 ⟨g, cap, rfl, ho, hbl⟩
  have hby := vs9_byt a0 hu1 hu2
  obtain ⟨hl1, hl2⟩ := vs_len 9 a0
  have HCUT := Lib.hid (fun j hj => dec_cut 9 0 0 a0 j rfl (Rest.zero hu1 hu2) hj)
  have hbs := Bs.own ho hby
  clear ho hby
  generalize vs 9 a0 = L at hbs hl1 hl2 HCUT
  go_wp2_with fail
  refine (mod_any a1 _ _ hc1 hc2 (by omega) (by omega)).mono ?_
  rintro e w2 ⟨rfl, rfl⟩
  obtain ⟨j, hj⟩ := Int.eq_ofNat_of_zero_le (Int.emod_nonneg a1 (b := (L.length : Int)) (by omega))
  have hj2 := Int.emod_lt_of_pos a1 (b := (L.length : Int)) (by omega)
  rw [hj]
  rw [hj] at hj2
  have HJ := Lib.hid hj
  clear hj
  have hj3 : j < L.length := by omega
  have hlc : L.length ≤ cap := hbs.2.1
  have hjc : j ≤ cap := by omega
  have hpart : Bs w1 (some ⟨g, 0, none⟩) j cap (L.take j) := by simpa using hbs.part (i := 0) (j := j) (c := cap) (by omega) (by omega) (by omega)
  have HV : Hid (uvV (uvD (L.take j) 0) = .tuple #[.int .u64 0, .int .i64 0, .int .i64 12]) := uvV_err (zs := L.take j) (p := 0) (x := 12) (by omega) (by decide) (HCUT.out j hj3)
  clear HCUT hbs
  go_wp2_with fail
  refine (uv_any _ _ _ 0 (L.take j) _ hpart (by omega)).mono ?_
  rintro e w2 ⟨rfl, rfl⟩
  rw [HV.out]
  go_wp2_with fail
  refine (awake_any _).mono ?_
  rintro e w2 ⟨rfl, hb2⟩
  have hb3 : Below w.heap.size w w2 := hbl.trans (hb2.mono hbl.size)
  go_wp2
  go_ret
  exact ⟨rfl, hb3⟩

set_option maxRecDepth 100000 in
theorem lifted (os : Os) (started : os.Started) (H : Type) (enc : TypeId × Value → H) :
    ReturnsInHanded {} Try.checked os 8 .any (Rows.wordUvarintPrefixesSpec.pre6 enc Try.prog Try.f8 Rows.wordUvarintPrefixesRow.domain false) (Rows.wordUvarintPrefixesSpec.post enc Try.prog Try.f8 false true false false) := by
  refine returnsInHanded_of_change (C := Try.checked) own started (by kernel_rfl) Try.func8
    (ChangeSpec.witness6 (enc := enc) (C := Try.checked) false ⟨#[], #[.int .u64 0, .int .i64 0], []⟩ 8 (by kernel_rfl) (by kernel_rfl) (by kernel_rfl) (by kernel_rfl)) ?_
  intro W base args ds gs before hval0 hW hcnd _
  have hval : ∀ (j : Nat) t v, Try.f8.params[j]? = some t → args[j]? = some v → Value.okWide Try.prog W .any base t v := hval0
  have hW' := hW
  obtain ⟨p, q, hA0, hV, rfl, hfz, hnd⟩ := hW
  have hA : DataW.TrodAll enc Try.prog W 0 (fun _ => true) true Try.f8.params.toList args.toList ds p := hA0
  rw [Try.params8] at hA hval
  obtain ⟨v0, vs0, d0, ds0, p0, q0, hargs, rfl, rfl, h0, r0⟩ := trodAll_cons hA
  obtain ⟨v1, vs1, d1, ds1, p1, q1, rfl, rfl, rfl, h1, r1⟩ := trodAll_cons r0
  obtain ⟨rfl, rfl, rfl⟩ := trodAll_nil r1
  obtain rfl : args = #[v0, v1] := by cases args; simp_all
  obtain ⟨rfl, rfl⟩ := trodVars_none hV
  obtain ⟨a0, rfl, rfl, rfl, w0⟩ := open_int Try.underlying22 (hval 0 22 v0 rfl rfl) h0
  obtain ⟨a1, rfl, rfl, rfl, w1⟩ := open_int Try.underlying3 (hval 1 3 v1 rfl rfl) h1
  clear hA0 hval0
  refine (walk a0 a1 w0 w1 W).mono fun e W' ⟨he, bel⟩ => ?_
  subst he
  exact ⟨_, rfl, _, _, _, [], _, [], hW', (trodAll_cons_mk (shut_bool Try.underlying4 _) trodAll_mk0), (trodAll_cons_mk (shut_int Try.underlying22 w0) (trodAll_cons_mk (shut_int Try.underlying3 w1) trodAll_mk0)), rfl, bel.frame _, fun h => by cases h⟩

theorem over : Rows.wordUvarintPrefixesRow.holds Try.pinned (OpenSpec.ofChange Rows.wordUvarintPrefixesSpec) :=
  OpenClaim.holds_of_wide 8 Try.f8 rfl rfl rfl rfl rfl rfl rfl ⟨rfl, rfl, rfl, rfl, rfl⟩ rfl rfl rfl rfl rfl (by kernel_rfl) Try.func8 (by kernel_rfl)
    (of_decide_eq_true (by kernel_rfl)) (by unfold Func.isWrapper; first | (rw [if_pos (by decide +kernel)]; kernel_rfl) | (rw [if_neg (by decide +kernel)]; exact ⟨rfl, rfl⟩))
    (fun os started H enc _ => lifted os started H enc)

theorem proved : Rows.WordUvarintPrefixesSaid :=
  over
end Go.Proofs.Ytcdajfdagdiodaa.wordUvarintPrefixes
