/-
  For every n and every byte: Append accepts a payload of a length around MaxFrame exactly if it is at most MaxFrame, and Next reads it back; the example of the chapter holds. No condition.
-/
import Derived.Test.YtdaenfhedepiaaaRows
import Derived.Test.YtdaenfhedepiaaaAwake2
import Derived.WalkKit
import Derived.ProofKit
import Derived.OpenShut
import Derived.ShutString
import Derived.ChangeOld
import Derived.Below
import Derived.SizedLaws
set_option linter.unusedSimpArgs false
namespace Go.Proofs.Ytdaenfhedepiaaa.frameLimit
open Go.ChangeShapes Go.WideShapes Go.ChangeAt Go.RowKit
open Go.ChangeMaps (open_string shut_string)
set_option linter.unusedVariables false

theorem own : ownKnob Try.prog.godebug = none := by kernel_rfl

set_option maxHeartbeats 1000000 in
theorem walk (a0 : Int) (a1 : Int) (w0 : (Lit.int .i64 a0).wf = true) (w1 : (Lit.int .u8 a1).wf = true) (w : World) :
    Calls Try.prog 8 #[.int .i64 a0, .int .u8 a1] w fun e w' => e = .returned (.bool true) ∧ Below w.heap.size w w' := by
  obtain ⟨hp1, hp2⟩ := wf_i64 w0
  have hcb := wf_u8 w1
  obtain ⟨hc1, hc2⟩ := hcb
  obtain ⟨i0, hi, hz0, hz1, hz2⟩ := info_parts byteInfo
  obtain ⟨r, hr⟩ := Int.eq_ofNat_of_zero_le (Int.emod_nonneg a0 (b := 5) (by omega))
  have hr2 := Int.emod_lt_of_pos a0 (b := 5) (by omega)
  rw [hr] at hr2
  have HR := Lib.hid hr
  obtain ⟨M, hM⟩ : ∃ M : Nat, M = 1048574 + r := ⟨_, rfl⟩
  have HM : Hid ((1048574 : Int) + (r : Int) = (M : Int)) := by rw [hM]; exact (Int.natCast_add 1048574 r).symm
  have hM4 : 4 ≤ M := by omega
  have hM5 : M ≤ 1048578 := by omega
  have hr5 : (r : Int) < 5 := hr2
  clear hr hM hr2
  go_enter Try.func8, Try.ntmps8
  go_wp2_with fail
  refine (mod_any a0 5 _ hp1 hp2 (by decide) (by decide)).mono ?_
  rintro e w1 ⟨rfl, rfl⟩
  rw [HR.out]
  go_wp2_with (at_make; refine wpList_make_full _ rfl _ _ 22 rfl w.heap.size 5 i0 (.int .u8 0) 1 Try.underlying22 hi hz0 hz1 _ _ _ _ M rfl rfl ?c1 ?c2 ?b2 ?b3 (Nat.le_refl _) ?_)
  case c1 => exact HM.out
  case c2 => exact HM.out
  case b2 => rw [hz2]; omega
  case b3 => unfold maxLen; omega
  intro w0 hown0 hgrow0
  rw [HM.out]
  have hown1 : w0.ownsRow w.heap.size 5 1 (.slice (some ⟨w.heap.size, 0, none⟩) M M) M (U8 (List.replicate M 0)) := by
    have e : (madeCells #[Value.int .u8 0] M).toList = U8 (List.replicate M 0) := by
      rw [toList_madeCells_one]; simp [U8]
    rw [e] at hown0; exact hown0
  clear hown0
  have hb0 : Below w.heap.size w w0 := (Below.refl _ _).grown hgrow0 (Nat.le_refl _) (fun k h => by cases h)
  clear hgrow0
  go_wp2
  go_loopw [7] (fun i wr => ∃ (k : Nat) (P : List Int), k ≤ 4 ∧ i = .int .i64 k ∧ (∀ j, j < k → P[j]? = some a1) ∧ Byt P ∧ P.length = M ∧
      wr.ownsRow w.heap.size 5 1 (.slice (some ⟨w.heap.size, 0, none⟩) M M) M (U8 P) ∧ Below w.heap.size w wr)
    (fun i _ => 4 - (intOf i).toNat)
  case atStart => exact ⟨0, List.replicate M 0, by omega, rfl, by omega, fun z hz => by (have := List.eq_of_mem_replicate hz; omega), by simp, hown1, hb0⟩
  case round =>
    obtain ⟨k, P, hk, rfl, hP, hPb, hPl, hown, hbl⟩ := hrel
    have HP := Lib.hid hP
    have HPL := Lib.hid hPl
    clear hP hown1 hPl
    by_cases hlt : k < 4
    · have hkM : (k : Int) < (M : Int) := by omega
      have hf := hown.frozenAt k
      have hcl : wr.cell? ⟨w.heap.size, k, none⟩ = some (.int .u8 (P[k]?.getD 0)) := by
        rw [hown.cellAt k (by omega)]
        unfold U8
        rw [List.getElem?_map, List.getElem?_eq_getElem (by rw [HPL.out]; omega)]
        rfl
      generalize P[k]?.getD 0 = z0 at hcl
      go_wp2
      have hs := (hown.stored k (Value.int IntKind.u8 a1)).1
      rw [u8_set] at hs
      refine ⟨⟨k + 1, P.set k a1, by omega, by go_num, fun j hj => ?_, fun z hz => ?_, by rw [List.length_set]; exact HPL.out, hs, hbl.setCell (Nat.le_refl _) _⟩, by simp [intOf]; omega⟩
      · by_cases hjk : j = k
        · subst hjk
          rw [List.getElem?_set_self (by rw [HPL.out]; omega)]
        · rw [List.getElem?_set_ne (by omega)]
          exact HP.out j (by omega)
      · rcases List.mem_or_eq_of_mem_set hz with hz | rfl
        · exact hPb z hz
        · exact ⟨hc1, hc2⟩
    · obtain rfl : k = 4 := by omega
      have hrd := Bs.own hown hPb
      have hP3 : Hid (P.getD 3 0 = a1) := by
        rw [List.getD_eq_getElem?_getD, HP.out 3 (by omega)]; rfl
      clear HP hown
      by_cases hbig : 1048576 < M
      · have hbig' : (1048576 : Int) < (M : Int) := by omega
        go_wp2_with fail
        refine (append_ok none _ 0 0 _ _ [] P _ (Bs.nil_ _) hrd (by decide) (by omega)).mono ?_
        rintro e w1 ⟨_, h2, hb⟩
        obtain rfl := h2 (by rw [HPL.out]; exact hbig)
        have hb1 : Below w.heap.size w w1 := hbl.trans (hb.mono hbl.size)
        clear hb hbl h2
        go_wp2_with fail
        refine (awake_any _).mono ?_
        rintro e w2 ⟨rfl, hb2⟩
        have hb3 : Below w.heap.size w w2 := hb1.trans (hb2.mono hb1.size)
        go_wp2
        go_ret
        exact ⟨rfl, hb3⟩
      · have hbig' : (M : Int) ≤ 1048576 := by omega
        go_wp2_with fail
        refine (append_ok none _ 0 0 _ _ [] P _ (Bs.nil_ _) hrd (by decide) (by omega)).mono ?_
        rintro e w1 ⟨h1, _, hb⟩
        obtain ⟨g, cap, rfl, hx⟩ := h1 (by rw [HPL.out]; omega)
        have hb1 : Below w.heap.size w w1 := hbl.trans (hb.mono hbl.size)
        have hfl := fr_le P
        have HN : Hid (nx (fr P) 0 = (0, P, ((fr P).length : Int))) := by
          have h := nx_back [] P [] (by rw [HPL.out]; omega)
          rw [List.nil_append, List.append_nil, List.length_nil, Nat.zero_add] at h
          exact h
        simp only [List.length_nil, Nat.zero_add, List.nil_append] at hx ⊢
        clear hb hbl h1 hrd
        go_wp2_with fail
        refine (next_ok _ _ _ 0 (fr P) _ hx (by rw [HPL.out] at hfl; omega) (by decide) (by decide)).mono ?_
        rintro e w2 ⟨a, cp, rfl, hq, hb2⟩
        rw [HN.out] at hq ⊢
        dsimp only at hq ⊢
        rw [HPL.out] at hq ⊢
        have hb3 : Below w.heap.size w w2 := hb1.trans (hb2.mono hb1.size)
        obtain ⟨b, off, rfl, hbb, hcell⟩ := hq.at_ (by omega)
        have h3 := hcell 3 (by omega)
        rw [hP3.out] at h3
        generalize (fr P).length = F at hx hfl ⊢
        clear hcell hq hb2 hb1 hx HN hfl
        go_wp2_with fail
        refine (awake_any _).mono ?_
        rintro e w3 ⟨rfl, hb4⟩
        have h4 : w3.cell? ⟨b, off + 3, none⟩ = some (.int .u8 a1) := (hb4.cell hbb).trans h3
        have hb5 : Below w.heap.size w w3 := hb3.trans (hb4.mono hb3.size)
        clear h3 hb4 hb3
        go_wp2
        go_ret
        exact ⟨rfl, hb5⟩

set_option maxRecDepth 100000 in
theorem lifted (os : Os) (started : os.Started) (H : Type) (enc : TypeId × Value → H) :
    ReturnsInHanded {} Try.checked os 8 .any (Rows.frameLimitSpec.pre6 enc Try.prog Try.f8 Rows.frameLimitRow.domain false) (Rows.frameLimitSpec.post enc Try.prog Try.f8 false true false false) := by
  refine returnsInHanded_of_change (C := Try.checked) own started (by kernel_rfl) Try.func8
    (ChangeSpec.witness6 (enc := enc) (C := Try.checked) false ⟨#[], #[.int .i64 0, .int .u8 0], []⟩ 8 (by kernel_rfl) (by kernel_rfl) (by kernel_rfl) (by kernel_rfl)) ?_
  intro W base args ds gs before hval0 hW hcnd _
  have hval : ∀ (j : Nat) t v, Try.f8.params[j]? = some t → args[j]? = some v → Value.okWide Try.prog W .any base t v := hval0
  have hW' := hW
  obtain ⟨p, q, hA0, hV, rfl, hfz, hnd⟩ := hW
  have hA : DataW.TrodAll enc Try.prog W 0 (fun _ => true) true Try.f8.params.toList args.toList ds p := hA0
  rw [Try.params8] at hA hval
  obtain ⟨v0, vs0, d0, ds0, p0, q0, hargs, rfl, rfl, h0, r0⟩ := trodAll_cons hA
  obtain ⟨v1, vs1, d1, ds1, p1, q1, rfl, rfl, rfl, h1, r1⟩ := trodAll_cons r0
  obtain ⟨rfl, rfl, rfl⟩ := trodAll_nil r1
  obtain rfl : args = #[v0, v1] := by cases args; simp_all
  obtain ⟨rfl, rfl⟩ := trodVars_none hV
  obtain ⟨a0, rfl, rfl, rfl, w0⟩ := open_int Try.underlying3 (hval 0 3 v0 rfl rfl) h0
  obtain ⟨a1, rfl, rfl, rfl, w1⟩ := open_int Try.underlying5 (hval 1 5 v1 rfl rfl) h1
  clear hA0 hval0
  refine (walk a0 a1 w0 w1 W).mono fun e W' ⟨he, bel⟩ => ?_
  subst he
  exact ⟨_, rfl, _, _, _, [], _, [], hW', (trodAll_cons_mk (shut_bool Try.underlying4 _) trodAll_mk0), (trodAll_cons_mk (shut_int Try.underlying3 w0) (trodAll_cons_mk (shut_int Try.underlying5 w1) trodAll_mk0)), rfl, bel.frame _, fun h => by cases h⟩

theorem over : Rows.frameLimitRow.holds Try.pinned (OpenSpec.ofChange Rows.frameLimitSpec) :=
  OpenClaim.holds_of_wide 8 Try.f8 rfl rfl rfl rfl rfl rfl rfl ⟨rfl, rfl, rfl, rfl, rfl⟩ rfl rfl rfl rfl rfl (by kernel_rfl) Try.func8 (by kernel_rfl)
    (of_decide_eq_true (by kernel_rfl)) (by unfold Func.isWrapper; first | (rw [if_pos (by decide +kernel)]; kernel_rfl) | (rw [if_neg (by decide +kernel)]; exact ⟨rfl, rfl⟩))
    (fun os started H enc _ => lifted os started H enc)

theorem proved : Rows.FrameLimitSaid :=
  over
end Go.Proofs.Ytdaenfhedepiaaa.frameLimit
