/-
  For every slice and payload of at most 600 bytes, every index, byte and kind: Next gives what the reference gives, on the slice, and on the payload's frame with one byte replaced, removed, inserted, or cut off; the example of the chapter holds, for longer ones too. No condition.
-/
import Derived.Test.YtdaenfhedepiaaaRows
import Derived.Test.YtdaenfhedepiaaaAwake2
import Derived.WalkKit
import Derived.ProofKit
import Derived.OpenShut
import Derived.ShutString
import Derived.ChangeOld
import Derived.Below
import Derived.SizedLaws
import Derived.Deep.RegionWith
set_option linter.unusedSimpArgs false
namespace Go.Proofs.Ytdaenfhedepiaaa.frameDecodes
open Go.ChangeShapes Go.WideShapes Go.ChangeAt Go.RowKit
open Go.ChangeMaps (open_string shut_string)
set_option linter.unusedVariables false

theorem own : ownKnob Try.prog.godebug = none := by kernel_rfl
theorem laidOut : laidOutB Try.prog = true := by kernel_rfl

def IsRow (k : IntKind) (w : World) (a : Option Addr) (len cap : Nat) (zs : List Int) : Prop :=
  (a = none ∧ len = 0 ∧ cap = 0 ∧ zs = []) ∨
  ∃ x, a = some x ∧ len ≤ cap ∧ cap ≤ maxLen ∧ zs.length = cap ∧ (∀ i, i < zs.length → w.cell? (x.add i) = some (.int k (zs.getD i 0))) ∧ ∀ n ∈ zs, (Lit.int k n).wf = true

set_option maxHeartbeats 3000000 in
theorem walk (a0 : Option Addr) (len0 cap0 : Nat) (z0 : List Int) (a1 : Option Addr) (len1 cap1 : Nat) (z1 : List Int) (a2 : Int) (a3 : Int) (a4 : Int) (w : World) (w0 : IsRow .u8 w a0 len0 cap0 z0) (w1 : IsRow .u8 w a1 len1 cap1 z1) (w2 : (Lit.int .i64 a2).wf = true) (w3 : (Lit.int .u8 a3).wf = true) (w4 : (Lit.int .u8 a4).wf = true) (hr0 : cap0 ≤ 140737488351232) (hr1 : cap1 ≤ 140737488351232) :
    Calls Try.prog 9 #[.slice a0 len0 cap0, .slice a1 len1 cap1, .int .i64 a2, .int .u8 a3, .int .u8 a4] w fun e w' => e = .returned (.bool true) ∧ Below w.heap.size w w' := by
  have hbs := bs_of_row w0
  have hbt := bs_of_row w1
  obtain ⟨hp1, hp2⟩ := wf_i64 w2
  obtain ⟨hc1, hc2⟩ := wf_u8 w3
  obtain ⟨hk1, hk2⟩ := wf_u8 w4
  generalize z0.take len0 = L at hbs
  generalize z1.take len1 = T at hbt
  clear w0 w1
  by_cases hlen : 600 < len0
  · clear hbs hbt
    have hle : (600 : Int) < (len0 : Int) := by omega
    go_enter Try.func9, Try.ntmps9
    go_wp2_with fail
    refine (awake_any _).mono ?_
    rintro e w1 ⟨rfl, hb⟩
    go_wp2
    go_ret
    exact ⟨rfl, hb⟩
  by_cases hlen1 : 600 < len1
  · clear hbs hbt
    have hle : (len0 : Int) ≤ 600 := by omega
    have hle1 : (600 : Int) < (len1 : Int) := by omega
    go_enter Try.func9, Try.ntmps9
    go_wp2_with fail
    refine (awake_any _).mono ?_
    rintro e w1 ⟨rfl, hb⟩
    go_wp2
    go_ret
    exact ⟨rfl, hb⟩
  have hle : (len0 : Int) ≤ 600 := by omega
  have hle1 : (len1 : Int) ≤ 600 := by omega
  have hl1 := hbt.len
  have hfl := fr_le T
  have hfb := fr_byt hbt.byt (by omega)
  rw [hl1] at hfl
  obtain ⟨hf1, hf2⟩ := hfl
  clear hlen hlen1 hl1
  go_enter Try.func9, Try.ntmps9
  go_wp2_with fail
  refine (refFrame_any _ _ _ T _ hbt (by omega)).mono ?_
  rintro e W1 ⟨g, cp, rfl, ho, hbl⟩
  have hx := Bs.own ho hfb
  have hb1 := hbs.below hbl
  clear hbs hbt ho
  generalize hXX : fr T = X at hx hf1 hf2 hfb
  clear hXX
  obtain ⟨F, hF⟩ : ∃ F, F = X.length := ⟨_, rfl⟩
  rw [← hF] at hx hf1 hf2 ⊢
  have HF := Lib.hid hF
  clear hF
  have hxc : F ≤ cp := hx.2.1
  go_wp2_with fail
  refine (mod_any a2 _ _ hp1 hp2 (by omega) (by omega)).mono ?_
  rintro e W2 ⟨rfl, rfl⟩
  obtain ⟨k, hk⟩ := Int.eq_ofNat_of_zero_le (Int.emod_nonneg a2 (b := (F : Int)) (by omega))
  have hk3 := Int.emod_lt_of_pos a2 (b := (F : Int)) (by omega)
  rw [hk] at hk3 ⊢
  clear hk
  have hkF : k < F := by omega
  have hkc : k < cp := by omega
  have hkc2 : (k : Int) ≤ (cp : Int) := by omega
  go_wp2_with fail
  have HL := Lib.hid (hb1.len)
  have hA := (hx.part (i := 0) (j := k) (c := cp) (by omega) (by omega) (by omega))
  simp only [Nat.add_zero, Nat.sub_zero, List.drop_zero] at hA
  have hal : Below W1.heap.size W1 (W1.alloc (Obj.cells #[Value.int IntKind.u8 a3] 5)) := (Below.refl _ _).alloc (Nat.le_refl _) _
  refine (join_any _ _ _ _ _ _ _ [a3] _ (hA.below hal) (bs_new W1 _ _ [a3] rfl (Byt.one hc1 hc2) 1 rfl) (by omega)).mono ?_
  rintro e W2 ⟨rfl, ho2, hb2⟩
  have hal2 := hal.trans (hb2.mono hal.size)
  have hY := Bs.own ho2 (hA.byt.app (Byt.one hc1 hc2))
  have hX := hx.below hal2
  have hB := hb1.below hal2
  have hW : Below w.heap.size w W2 := hbl.trans (hal2.mono hbl.size)
  generalize (W1.alloc (Obj.cells #[Value.int IntKind.u8 a3] 5)).heap.size = gy at hY ⊢
  clear hA hal ho2 hb2 hal2 hx hb1 hbl
  by_cases k0 : a4 % 4 = 0
  · have n0 : (a4 % 4 == 0) = true := by simpa using k0
    clear k0
    have hkF1 : (k : Int) + 1 ≤ (F : Int) := by omega
    have hkF1n : k + 1 ≤ F := by omega
    by_cases hkc1 : cp = k + 1
    · subst hkc1
      have hP : Bs W2 (some ⟨g, 0, none⟩) 0 0 (X.drop (k + 1)) := bs_empty _ _ _ _ _ rfl (List.drop_eq_nil_of_le (by rw [← HF.out]; omega))
      go_wp2_with fail
      refine (join_any _ _ _ _ _ _ _ _ _ hY hP (by omega)).mono ?_
      rintro e W3 ⟨rfl, ho3, hb3⟩
      simp only [Nat.add_zero] at ho3 ⊢
      have hYn : k + 1 ≤ 1000 := by omega
      have hY3 := Bs.own ho3 (hY.byt.app hP.byt)
      have hB3 := hB.below hb3
      have hW3 := hW.trans (hb3.mono hW.size)
      clear hY hX hB hW hP ho3 hb3
      have hY := hY3
      have hB := hB3
      have hW := hW3
      clear hY3 hB3 hW3
      have HYN := Lib.hid hY.len
      go_wp2_with fail
      refine (next_ok _ _ _ a2 L _ hB (by omega) hp1 hp2).mono ?_
      rintro e V1 ⟨q1, c1, rfl, hq1, hv1⟩
      obtain ⟨r1, r2, r3, HR⟩ : ∃ r1 r2 r3, Hid (nx L a2 = (r1, r2, r3)) := ⟨_, _, _, rfl⟩
      rw [HR.out] at hq1 ⊢
      dsimp only at hq1 ⊢
      replace hB := hB.below hv1
      replace hY := hY.below hv1
      replace hW := hW.trans (hv1.mono hW.size)
      clear hv1
      go_wp2_with fail
      refine (refNext_any _ _ _ a2 L _ hB (by omega)).mono ?_
      rintro e V2 ⟨q2, c2, rfl, hq2, hv2⟩
      rw [HR.out] at hq2 ⊢
      dsimp only at hq2 ⊢
      replace hY := hY.below hv2
      replace hq1 := hq1.below hv2
      replace hW := hW.trans (hv2.mono hW.size)
      clear hv2 hB
      go_wp2_with fail
      refine (next_ok _ _ _ 0 _ _ hY (by omega) (by decide) (by decide)).mono ?_
      rintro e V3 ⟨q3, c3, rfl, hq3, hv3⟩
      generalize hYL : nx _ 0 = S at hq3 ⊢
      have HS := Lib.hid hYL
      clear hYL
      obtain ⟨s1, s2, s3⟩ := S
      dsimp only at hq3 ⊢
      replace hY := hY.below hv3
      replace hq1 := hq1.below hv3
      replace hq2 := hq2.below hv3
      replace hW := hW.trans (hv3.mono hW.size)
      clear hv3
      go_wp2_with fail
      refine (refNext_any _ _ _ 0 _ _ hY (by omega)).mono ?_
      rintro e V4 ⟨q4, c4, rfl, hq4, hv4⟩
      rw [HS.out] at hq4 ⊢
      dsimp only at hq4 ⊢
      replace hq1 := hq1.below hv4
      replace hq2 := hq2.below hv4
      replace hq3 := hq3.below hv4
      replace hW := hW.trans (hv4.mono hW.size)
      clear hv4 hY
      go_wp2_with fail
      refine (awake_any _).mono ?_
      rintro e V5 ⟨rfl, hv5⟩
      replace hq1 := hq1.below hv5
      replace hq2 := hq2.below hv5
      replace hq3 := hq3.below hv5
      replace hq4 := hq4.below hv5
      replace hW := hW.trans (hv5.mono hW.size)
      clear hv5
      have hr2n := nx_pay_le L a2 600 (by have := HL.out; omega)
      rw [HR.out] at hr2n
      dsimp only at hr2n
      go_wp2_with fail
      refine (same_any _ _ _ _ _ _ _ _ _ hq1 hq2 (by omega)).mono ?_
      rintro e V6 ⟨rfl, d1, rfl⟩
      rw [decide_eq_true rfl]
      have hs2n := nx_pay_le _ 0 1000 (by rw [HYN.out]; exact hYn)
      rw [HS.out] at hs2n
      dsimp only at hs2n
      go_wp2_with fail
      refine (same_any _ _ _ _ _ _ _ _ _ (hq3.drewN d1) (hq4.drewN d1) (by omega)).mono ?_
      rintro e V7 ⟨rfl, d2, rfl⟩
      rw [decide_eq_true rfl]
      clear HS HR HYN hq1 hq2 hq3 hq4
      go_wp2
      go_ret
      exact ⟨rfl, by first | exact below_drewN hW _ | exact below_drewN (below_drewN hW d1) d2⟩
    · have hP := hX.part (i := k + 1) (j := F) (c := cp - (k + 1)) (by omega) (by omega) (by omega)
      rw [Nat.zero_add] at hP
      have hkn : ¬ cp = k + 1 := by omega
      go_wp2_with fail
      refine (join_any _ _ _ _ _ _ _ _ _ hY hP (by omega)).mono ?_
      rintro e W3 ⟨rfl, ho3, hb3⟩
      generalize hN : k + 1 + (F - (k + 1)) = N at ho3 ⊢
      have hYn : N ≤ 1000 := by omega
      clear hN
      have hY3 := Bs.own ho3 (hY.byt.app hP.byt)
      have hB3 := hB.below hb3
      have hW3 := hW.trans (hb3.mono hW.size)
      clear hY hX hB hW hP ho3 hb3
      have hY := hY3
      have hB := hB3
      have hW := hW3
      clear hY3 hB3 hW3
      have HYN := Lib.hid hY.len
      go_wp2_with fail
      refine (next_ok _ _ _ a2 L _ hB (by omega) hp1 hp2).mono ?_
      rintro e V1 ⟨q1, c1, rfl, hq1, hv1⟩
      obtain ⟨r1, r2, r3, HR⟩ : ∃ r1 r2 r3, Hid (nx L a2 = (r1, r2, r3)) := ⟨_, _, _, rfl⟩
      rw [HR.out] at hq1 ⊢
      dsimp only at hq1 ⊢
      replace hB := hB.below hv1
      replace hY := hY.below hv1
      replace hW := hW.trans (hv1.mono hW.size)
      clear hv1
      go_wp2_with fail
      refine (refNext_any _ _ _ a2 L _ hB (by omega)).mono ?_
      rintro e V2 ⟨q2, c2, rfl, hq2, hv2⟩
      rw [HR.out] at hq2 ⊢
      dsimp only at hq2 ⊢
      replace hY := hY.below hv2
      replace hq1 := hq1.below hv2
      replace hW := hW.trans (hv2.mono hW.size)
      clear hv2 hB
      go_wp2_with fail
      refine (next_ok _ _ _ 0 _ _ hY (by omega) (by decide) (by decide)).mono ?_
      rintro e V3 ⟨q3, c3, rfl, hq3, hv3⟩
      generalize hYL : nx _ 0 = S at hq3 ⊢
      have HS := Lib.hid hYL
      clear hYL
      obtain ⟨s1, s2, s3⟩ := S
      dsimp only at hq3 ⊢
      replace hY := hY.below hv3
      replace hq1 := hq1.below hv3
      replace hq2 := hq2.below hv3
      replace hW := hW.trans (hv3.mono hW.size)
      clear hv3
      go_wp2_with fail
      refine (refNext_any _ _ _ 0 _ _ hY (by omega)).mono ?_
      rintro e V4 ⟨q4, c4, rfl, hq4, hv4⟩
      rw [HS.out] at hq4 ⊢
      dsimp only at hq4 ⊢
      replace hq1 := hq1.below hv4
      replace hq2 := hq2.below hv4
      replace hq3 := hq3.below hv4
      replace hW := hW.trans (hv4.mono hW.size)
      clear hv4 hY
      go_wp2_with fail
      refine (awake_any _).mono ?_
      rintro e V5 ⟨rfl, hv5⟩
      replace hq1 := hq1.below hv5
      replace hq2 := hq2.below hv5
      replace hq3 := hq3.below hv5
      replace hq4 := hq4.below hv5
      replace hW := hW.trans (hv5.mono hW.size)
      clear hv5
      have hr2n := nx_pay_le L a2 600 (by have := HL.out; omega)
      rw [HR.out] at hr2n
      dsimp only at hr2n
      go_wp2_with fail
      refine (same_any _ _ _ _ _ _ _ _ _ hq1 hq2 (by omega)).mono ?_
      rintro e V6 ⟨rfl, d1, rfl⟩
      rw [decide_eq_true rfl]
      have hs2n := nx_pay_le _ 0 1000 (by rw [HYN.out]; exact hYn)
      rw [HS.out] at hs2n
      dsimp only at hs2n
      go_wp2_with fail
      refine (same_any _ _ _ _ _ _ _ _ _ (hq3.drewN d1) (hq4.drewN d1) (by omega)).mono ?_
      rintro e V7 ⟨rfl, d2, rfl⟩
      rw [decide_eq_true rfl]
      clear HS HR HYN hq1 hq2 hq3 hq4
      go_wp2
      go_ret
      exact ⟨rfl, by first | exact below_drewN hW _ | exact below_drewN (below_drewN hW d1) d2⟩
  by_cases k1 : a4 % 4 = 1
  · have n0 : (a4 % 4 == 0) = false := by simp; omega
    have n1 : (a4 % 4 == 1) = true := by simpa using k1
    clear k0 k1
    have hA := (hX.part (i := 0) (j := k) (c := cp) (by omega) (by omega) (by omega))
    simp only [Nat.add_zero, Nat.sub_zero, List.drop_zero] at hA
    have hkF1 : (k : Int) + 1 ≤ (F : Int) := by omega
    have hkF1n : k + 1 ≤ F := by omega
    by_cases hkc1 : cp = k + 1
    · subst hkc1
      have hP : Bs W2 (some ⟨g, 0, none⟩) 0 0 (X.drop (k + 1)) := bs_empty _ _ _ _ _ rfl (List.drop_eq_nil_of_le (by rw [← HF.out]; omega))
      go_wp2_with fail
      refine wp_region_any (by kernel_rfl) ?_
      change wpAny _ _ _ _ _ _ _ (World.drew _)
      refine wpAny_take (i := 0) (v := .slice (some ⟨g, 0, none⟩) F (k + 1)) rfl (by kernel_rfl) (by kernel_rfl) (by kernel_rfl) (fun _ _ _ h => h) (Or.inl ⟨by rfl, by intro w; go_simp <;> first | (intro hh; exfalso; omega) | (rw [IntKind.wrap_i64]; omega)⟩) ?_
      go_simp
      refine wpAny_take (i := 1) (v := .int .i64 (k : Int)) rfl (by kernel_rfl) (by kernel_rfl) (by kernel_rfl) (fun _ _ _ h => h) (Or.inl ⟨by rfl, by intro w; go_simp <;> first | (intro hh; exfalso; omega) | (rw [IntKind.wrap_i64]; omega)⟩) ?_
      go_simp
      refine wpAny_take (i := 2) (v := .slice (some ⟨g, 0, none⟩) k (k + 1)) rfl (by kernel_rfl) (by kernel_rfl) (by kernel_rfl) (fun _ _ _ h => h) (Or.inl ⟨by rfl, by intro w; go_simp <;> first | (intro hh; exfalso; omega) | (rw [IntKind.wrap_i64]; omega)⟩) ?_
      go_simp
      refine wpAny_take (i := 3) (v := .slice (some ⟨g, 0, none⟩) F (k + 1)) rfl (by kernel_rfl) (by kernel_rfl) (by kernel_rfl) (fun _ _ _ h => h) (Or.inl ⟨by rfl, by intro w; go_simp <;> first | (intro hh; exfalso; omega) | (rw [IntKind.wrap_i64]; omega)⟩) ?_
      go_simp
      refine wpAny_take (i := 4) (v := .int .i64 (k : Int)) rfl (by kernel_rfl) (by kernel_rfl) (by kernel_rfl) (fun _ _ _ h => h) (Or.inl ⟨by rfl, by intro w; go_simp <;> first | (intro hh; exfalso; omega) | (rw [IntKind.wrap_i64]; omega)⟩) ?_
      go_simp
      refine wpAny_take (i := 5) (v := .int .i64 ((k : Int) + 1)) rfl (by kernel_rfl) (by kernel_rfl) (by kernel_rfl) (fun _ _ _ h => h) (Or.inl ⟨by rfl, by intro w; go_simp <;> first | (intro hh; exfalso; omega) | (rw [IntKind.wrap_i64]; omega)⟩) ?_
      go_simp
      refine wpAny_take (i := 6) (v := .slice (some ⟨g, 0, none⟩) 0 0) rfl (by kernel_rfl) (by kernel_rfl) (by kernel_rfl) (fun _ _ _ h => h) (Or.inl ⟨by rfl, by intro w; go_simp <;> first | (intro hh; exfalso; omega) | (rw [IntKind.wrap_i64]; omega)⟩) ?_
      go_simp
      refine wpAny_ready (rs := [7]) (by kernel_rfl) (by simp) ?_
      refine AllReady.cons rfl (fun K hK => ?_) AllReady.nil
      go_simp
      refine (join_any _ _ _ _ _ _ _ _ _ (Bs.drew hA) (Bs.drew hP) (by omega)).mono ?_
      rintro e W3 ⟨rfl, ho3, hb3⟩
      generalize hN : k + 0 = N at ho3 ⊢
      have hYn : N ≤ 1000 := by omega
      clear hN
      refine hK _ _ ?_
      clear hK K
      refine wpAny_take (i := 8) (v := _) rfl (by kernel_rfl) (by kernel_rfl) (by kernel_rfl) (fun _ _ _ h => h) (Or.inl ⟨by rfl, fun w => rfl⟩) ?_
      go_simp
      refine wpAny_done (by kernel_rfl) ?_ _
      have hY3 := Bs.own ho3 (hA.byt.app hP.byt)
      have hB3 := (Bs.drew hB).below hb3
      have hW3 := hW.drew.trans (hb3.mono hW.size)
      clear hY hX hB hW hP hA ho3 hb3
      have hY := hY3
      have hB := hB3
      have hW := hW3
      clear hY3 hB3 hW3
      have HYN := Lib.hid hY.len
      go_wp2_with fail
      refine (next_ok _ _ _ a2 L _ hB (by omega) hp1 hp2).mono ?_
      rintro e V1 ⟨q1, c1, rfl, hq1, hv1⟩
      obtain ⟨r1, r2, r3, HR⟩ : ∃ r1 r2 r3, Hid (nx L a2 = (r1, r2, r3)) := ⟨_, _, _, rfl⟩
      rw [HR.out] at hq1 ⊢
      dsimp only at hq1 ⊢
      replace hB := hB.below hv1
      replace hY := hY.below hv1
      replace hW := hW.trans (hv1.mono hW.size)
      clear hv1
      go_wp2_with fail
      refine (refNext_any _ _ _ a2 L _ hB (by omega)).mono ?_
      rintro e V2 ⟨q2, c2, rfl, hq2, hv2⟩
      rw [HR.out] at hq2 ⊢
      dsimp only at hq2 ⊢
      replace hY := hY.below hv2
      replace hq1 := hq1.below hv2
      replace hW := hW.trans (hv2.mono hW.size)
      clear hv2 hB
      go_wp2_with fail
      refine (next_ok _ _ _ 0 _ _ hY (by omega) (by decide) (by decide)).mono ?_
      rintro e V3 ⟨q3, c3, rfl, hq3, hv3⟩
      generalize hYL : nx _ 0 = S at hq3 ⊢
      have HS := Lib.hid hYL
      clear hYL
      obtain ⟨s1, s2, s3⟩ := S
      dsimp only at hq3 ⊢
      replace hY := hY.below hv3
      replace hq1 := hq1.below hv3
      replace hq2 := hq2.below hv3
      replace hW := hW.trans (hv3.mono hW.size)
      clear hv3
      go_wp2_with fail
      refine (refNext_any _ _ _ 0 _ _ hY (by omega)).mono ?_
      rintro e V4 ⟨q4, c4, rfl, hq4, hv4⟩
      rw [HS.out] at hq4 ⊢
      dsimp only at hq4 ⊢
      replace hq1 := hq1.below hv4
      replace hq2 := hq2.below hv4
      replace hq3 := hq3.below hv4
      replace hW := hW.trans (hv4.mono hW.size)
      clear hv4 hY
      go_wp2_with fail
      refine (awake_any _).mono ?_
      rintro e V5 ⟨rfl, hv5⟩
      replace hq1 := hq1.below hv5
      replace hq2 := hq2.below hv5
      replace hq3 := hq3.below hv5
      replace hq4 := hq4.below hv5
      replace hW := hW.trans (hv5.mono hW.size)
      clear hv5
      have hr2n := nx_pay_le L a2 600 (by have := HL.out; omega)
      rw [HR.out] at hr2n
      dsimp only at hr2n
      go_wp2_with fail
      refine (same_any _ _ _ _ _ _ _ _ _ hq1 hq2 (by omega)).mono ?_
      rintro e V6 ⟨rfl, d1, rfl⟩
      rw [decide_eq_true rfl]
      have hs2n := nx_pay_le _ 0 1000 (by rw [HYN.out]; exact hYn)
      rw [HS.out] at hs2n
      dsimp only at hs2n
      go_wp2_with fail
      refine (same_any _ _ _ _ _ _ _ _ _ (hq3.drewN d1) (hq4.drewN d1) (by omega)).mono ?_
      rintro e V7 ⟨rfl, d2, rfl⟩
      rw [decide_eq_true rfl]
      clear HS HR HYN hq1 hq2 hq3 hq4
      go_wp2
      go_ret
      exact ⟨rfl, by first | exact below_drewN hW _ | exact below_drewN (below_drewN hW d1) d2⟩
    · have hP := hX.part (i := k + 1) (j := F) (c := cp - (k + 1)) (by omega) (by omega) (by omega)
      rw [Nat.zero_add] at hP
      have hkn : ¬ cp = k + 1 := by omega
      go_wp2_with fail
      refine wp_region_any (by kernel_rfl) ?_
      change wpAny _ _ _ _ _ _ _ (World.drew _)
      refine wpAny_take (i := 0) (v := .slice (some ⟨g, 0, none⟩) F cp) rfl (by kernel_rfl) (by kernel_rfl) (by kernel_rfl) (fun _ _ _ h => h) (Or.inl ⟨by rfl, by intro w; go_simp <;> first | (intro hh; exfalso; omega) | (rw [IntKind.wrap_i64]; omega)⟩) ?_
      go_simp
      refine wpAny_take (i := 1) (v := .int .i64 (k : Int)) rfl (by kernel_rfl) (by kernel_rfl) (by kernel_rfl) (fun _ _ _ h => h) (Or.inl ⟨by rfl, by intro w; go_simp <;> first | (intro hh; exfalso; omega) | (rw [IntKind.wrap_i64]; omega)⟩) ?_
      go_simp
      refine wpAny_take (i := 2) (v := .slice (some ⟨g, 0, none⟩) k cp) rfl (by kernel_rfl) (by kernel_rfl) (by kernel_rfl) (fun _ _ _ h => h) (Or.inl ⟨by rfl, by intro w; go_simp <;> first | (intro hh; exfalso; omega) | (rw [IntKind.wrap_i64]; omega)⟩) ?_
      go_simp
      refine wpAny_take (i := 3) (v := .slice (some ⟨g, 0, none⟩) F cp) rfl (by kernel_rfl) (by kernel_rfl) (by kernel_rfl) (fun _ _ _ h => h) (Or.inl ⟨by rfl, by intro w; go_simp <;> first | (intro hh; exfalso; omega) | (rw [IntKind.wrap_i64]; omega)⟩) ?_
      go_simp
      refine wpAny_take (i := 4) (v := .int .i64 (k : Int)) rfl (by kernel_rfl) (by kernel_rfl) (by kernel_rfl) (fun _ _ _ h => h) (Or.inl ⟨by rfl, by intro w; go_simp <;> first | (intro hh; exfalso; omega) | (rw [IntKind.wrap_i64]; omega)⟩) ?_
      go_simp
      refine wpAny_take (i := 5) (v := .int .i64 ((k : Int) + 1)) rfl (by kernel_rfl) (by kernel_rfl) (by kernel_rfl) (fun _ _ _ h => h) (Or.inl ⟨by rfl, by intro w; go_simp <;> first | (intro hh; exfalso; omega) | (rw [IntKind.wrap_i64]; omega)⟩) ?_
      go_simp
      refine wpAny_take (i := 6) (v := .slice (some ⟨g, k + 1, none⟩) (F - (k + 1)) (cp - (k + 1))) rfl (by kernel_rfl) (by kernel_rfl) (by kernel_rfl) (fun _ _ _ h => h) (Or.inl ⟨by rfl, by intro w; go_simp <;> first | (intro hh; exfalso; omega) | (rw [IntKind.wrap_i64]; omega)⟩) ?_
      go_simp
      refine wpAny_ready (rs := [7]) (by kernel_rfl) (by simp) ?_
      refine AllReady.cons rfl (fun K hK => ?_) AllReady.nil
      go_simp
      refine (join_any _ _ _ _ _ _ _ _ _ (Bs.drew hA) (Bs.drew hP) (by omega)).mono ?_
      rintro e W3 ⟨rfl, ho3, hb3⟩
      generalize hN : k + (F - (k + 1)) = N at ho3 ⊢
      have hYn : N ≤ 1000 := by omega
      clear hN
      refine hK _ _ ?_
      clear hK K
      refine wpAny_take (i := 8) (v := _) rfl (by kernel_rfl) (by kernel_rfl) (by kernel_rfl) (fun _ _ _ h => h) (Or.inl ⟨by rfl, fun w => rfl⟩) ?_
      go_simp
      refine wpAny_done (by kernel_rfl) ?_ _
      have hY3 := Bs.own ho3 (hA.byt.app hP.byt)
      have hB3 := (Bs.drew hB).below hb3
      have hW3 := hW.drew.trans (hb3.mono hW.size)
      clear hY hX hB hW hP hA ho3 hb3
      have hY := hY3
      have hB := hB3
      have hW := hW3
      clear hY3 hB3 hW3
      have HYN := Lib.hid hY.len
      go_wp2_with fail
      refine (next_ok _ _ _ a2 L _ hB (by omega) hp1 hp2).mono ?_
      rintro e V1 ⟨q1, c1, rfl, hq1, hv1⟩
      obtain ⟨r1, r2, r3, HR⟩ : ∃ r1 r2 r3, Hid (nx L a2 = (r1, r2, r3)) := ⟨_, _, _, rfl⟩
      rw [HR.out] at hq1 ⊢
      dsimp only at hq1 ⊢
      replace hB := hB.below hv1
      replace hY := hY.below hv1
      replace hW := hW.trans (hv1.mono hW.size)
      clear hv1
      go_wp2_with fail
      refine (refNext_any _ _ _ a2 L _ hB (by omega)).mono ?_
      rintro e V2 ⟨q2, c2, rfl, hq2, hv2⟩
      rw [HR.out] at hq2 ⊢
      dsimp only at hq2 ⊢
      replace hY := hY.below hv2
      replace hq1 := hq1.below hv2
      replace hW := hW.trans (hv2.mono hW.size)
      clear hv2 hB
      go_wp2_with fail
      refine (next_ok _ _ _ 0 _ _ hY (by omega) (by decide) (by decide)).mono ?_
      rintro e V3 ⟨q3, c3, rfl, hq3, hv3⟩
      generalize hYL : nx _ 0 = S at hq3 ⊢
      have HS := Lib.hid hYL
      clear hYL
      obtain ⟨s1, s2, s3⟩ := S
      dsimp only at hq3 ⊢
      replace hY := hY.below hv3
      replace hq1 := hq1.below hv3
      replace hq2 := hq2.below hv3
      replace hW := hW.trans (hv3.mono hW.size)
      clear hv3
      go_wp2_with fail
      refine (refNext_any _ _ _ 0 _ _ hY (by omega)).mono ?_
      rintro e V4 ⟨q4, c4, rfl, hq4, hv4⟩
      rw [HS.out] at hq4 ⊢
      dsimp only at hq4 ⊢
      replace hq1 := hq1.below hv4
      replace hq2 := hq2.below hv4
      replace hq3 := hq3.below hv4
      replace hW := hW.trans (hv4.mono hW.size)
      clear hv4 hY
      go_wp2_with fail
      refine (awake_any _).mono ?_
      rintro e V5 ⟨rfl, hv5⟩
      replace hq1 := hq1.below hv5
      replace hq2 := hq2.below hv5
      replace hq3 := hq3.below hv5
      replace hq4 := hq4.below hv5
      replace hW := hW.trans (hv5.mono hW.size)
      clear hv5
      have hr2n := nx_pay_le L a2 600 (by have := HL.out; omega)
      rw [HR.out] at hr2n
      dsimp only at hr2n
      go_wp2_with fail
      refine (same_any _ _ _ _ _ _ _ _ _ hq1 hq2 (by omega)).mono ?_
      rintro e V6 ⟨rfl, d1, rfl⟩
      rw [decide_eq_true rfl]
      have hs2n := nx_pay_le _ 0 1000 (by rw [HYN.out]; exact hYn)
      rw [HS.out] at hs2n
      dsimp only at hs2n
      go_wp2_with fail
      refine (same_any _ _ _ _ _ _ _ _ _ (hq3.drewN d1) (hq4.drewN d1) (by omega)).mono ?_
      rintro e V7 ⟨rfl, d2, rfl⟩
      rw [decide_eq_true rfl]
      clear HS HR HYN hq1 hq2 hq3 hq4
      go_wp2
      go_ret
      exact ⟨rfl, by first | exact below_drewN hW _ | exact below_drewN (below_drewN hW d1) d2⟩
  by_cases k2 : a4 % 4 = 2
  · have n0 : (a4 % 4 == 0) = false := by simp; omega
    have n1 : (a4 % 4 == 1) = false := by simp; omega
    have n2 : (a4 % 4 == 2) = true := by simpa using k2
    clear k0 k1 k2
    have hP := hX.part (i := k) (j := F) (c := cp - k) (by omega) (by omega) (by omega)
    rw [Nat.zero_add] at hP
    go_wp2_with fail
    refine (join_any _ _ _ _ _ _ _ _ _ hY hP (by omega)).mono ?_
    rintro e W3 ⟨rfl, ho3, hb3⟩
    generalize hN : k + 1 + (F - k) = N at ho3 ⊢
    have hYn : N ≤ 1000 := by omega
    clear hN
    have hY3 := Bs.own ho3 (hY.byt.app hP.byt)
    have hB3 := hB.below hb3
    have hW3 := hW.trans (hb3.mono hW.size)
    clear hY hX hB hW hP ho3 hb3
    have hY := hY3
    have hB := hB3
    have hW := hW3
    clear hY3 hB3 hW3
    have HYN := Lib.hid hY.len
    go_wp2_with fail
    refine (next_ok _ _ _ a2 L _ hB (by omega) hp1 hp2).mono ?_
    rintro e V1 ⟨q1, c1, rfl, hq1, hv1⟩
    obtain ⟨r1, r2, r3, HR⟩ : ∃ r1 r2 r3, Hid (nx L a2 = (r1, r2, r3)) := ⟨_, _, _, rfl⟩
    rw [HR.out] at hq1 ⊢
    dsimp only at hq1 ⊢
    replace hB := hB.below hv1
    replace hY := hY.below hv1
    replace hW := hW.trans (hv1.mono hW.size)
    clear hv1
    go_wp2_with fail
    refine (refNext_any _ _ _ a2 L _ hB (by omega)).mono ?_
    rintro e V2 ⟨q2, c2, rfl, hq2, hv2⟩
    rw [HR.out] at hq2 ⊢
    dsimp only at hq2 ⊢
    replace hY := hY.below hv2
    replace hq1 := hq1.below hv2
    replace hW := hW.trans (hv2.mono hW.size)
    clear hv2 hB
    go_wp2_with fail
    refine (next_ok _ _ _ 0 _ _ hY (by omega) (by decide) (by decide)).mono ?_
    rintro e V3 ⟨q3, c3, rfl, hq3, hv3⟩
    generalize hYL : nx _ 0 = S at hq3 ⊢
    have HS := Lib.hid hYL
    clear hYL
    obtain ⟨s1, s2, s3⟩ := S
    dsimp only at hq3 ⊢
    replace hY := hY.below hv3
    replace hq1 := hq1.below hv3
    replace hq2 := hq2.below hv3
    replace hW := hW.trans (hv3.mono hW.size)
    clear hv3
    go_wp2_with fail
    refine (refNext_any _ _ _ 0 _ _ hY (by omega)).mono ?_
    rintro e V4 ⟨q4, c4, rfl, hq4, hv4⟩
    rw [HS.out] at hq4 ⊢
    dsimp only at hq4 ⊢
    replace hq1 := hq1.below hv4
    replace hq2 := hq2.below hv4
    replace hq3 := hq3.below hv4
    replace hW := hW.trans (hv4.mono hW.size)
    clear hv4 hY
    go_wp2_with fail
    refine (awake_any _).mono ?_
    rintro e V5 ⟨rfl, hv5⟩
    replace hq1 := hq1.below hv5
    replace hq2 := hq2.below hv5
    replace hq3 := hq3.below hv5
    replace hq4 := hq4.below hv5
    replace hW := hW.trans (hv5.mono hW.size)
    clear hv5
    have hr2n := nx_pay_le L a2 600 (by have := HL.out; omega)
    rw [HR.out] at hr2n
    dsimp only at hr2n
    go_wp2_with fail
    refine (same_any _ _ _ _ _ _ _ _ _ hq1 hq2 (by omega)).mono ?_
    rintro e V6 ⟨rfl, d1, rfl⟩
    rw [decide_eq_true rfl]
    have hs2n := nx_pay_le _ 0 1000 (by rw [HYN.out]; exact hYn)
    rw [HS.out] at hs2n
    dsimp only at hs2n
    go_wp2_with fail
    refine (same_any _ _ _ _ _ _ _ _ _ (hq3.drewN d1) (hq4.drewN d1) (by omega)).mono ?_
    rintro e V7 ⟨rfl, d2, rfl⟩
    rw [decide_eq_true rfl]
    clear HS HR HYN hq1 hq2 hq3 hq4
    go_wp2
    go_ret
    exact ⟨rfl, by first | exact below_drewN hW _ | exact below_drewN (below_drewN hW d1) d2⟩
  have n0 : (a4 % 4 == 0) = false := by simpa using k0
  have n1 : (a4 % 4 == 1) = false := by simpa using k1
  have n2 : (a4 % 4 == 2) = false := by simpa using k2
  clear k0 k1 k2 hY
  replace hY := (hX.part (i := 0) (j := k) (c := cp) (by omega) (by omega) (by omega))
  simp only [Nat.add_zero, Nat.sub_zero, List.drop_zero] at hY
  have hYn : k ≤ 1000 := by omega
  clear hX
  have HYN := Lib.hid hY.len
  go_wp2_with fail
  refine (next_ok _ _ _ a2 L _ hB (by omega) hp1 hp2).mono ?_
  rintro e V1 ⟨q1, c1, rfl, hq1, hv1⟩
  obtain ⟨r1, r2, r3, HR⟩ : ∃ r1 r2 r3, Hid (nx L a2 = (r1, r2, r3)) := ⟨_, _, _, rfl⟩
  rw [HR.out] at hq1 ⊢
  dsimp only at hq1 ⊢
  replace hB := hB.below hv1
  replace hY := hY.below hv1
  replace hW := hW.trans (hv1.mono hW.size)
  clear hv1
  go_wp2_with fail
  refine (refNext_any _ _ _ a2 L _ hB (by omega)).mono ?_
  rintro e V2 ⟨q2, c2, rfl, hq2, hv2⟩
  rw [HR.out] at hq2 ⊢
  dsimp only at hq2 ⊢
  replace hY := hY.below hv2
  replace hq1 := hq1.below hv2
  replace hW := hW.trans (hv2.mono hW.size)
  clear hv2 hB
  go_wp2_with fail
  refine (next_ok _ _ _ 0 _ _ hY (by omega) (by decide) (by decide)).mono ?_
  rintro e V3 ⟨q3, c3, rfl, hq3, hv3⟩
  generalize hYL : nx _ 0 = S at hq3 ⊢
  have HS := Lib.hid hYL
  clear hYL
  obtain ⟨s1, s2, s3⟩ := S
  dsimp only at hq3 ⊢
  replace hY := hY.below hv3
  replace hq1 := hq1.below hv3
  replace hq2 := hq2.below hv3
  replace hW := hW.trans (hv3.mono hW.size)
  clear hv3
  go_wp2_with fail
  refine (refNext_any _ _ _ 0 _ _ hY (by omega)).mono ?_
  rintro e V4 ⟨q4, c4, rfl, hq4, hv4⟩
  rw [HS.out] at hq4 ⊢
  dsimp only at hq4 ⊢
  replace hq1 := hq1.below hv4
  replace hq2 := hq2.below hv4
  replace hq3 := hq3.below hv4
  replace hW := hW.trans (hv4.mono hW.size)
  clear hv4 hY
  go_wp2_with fail
  refine (awake_any _).mono ?_
  rintro e V5 ⟨rfl, hv5⟩
  replace hq1 := hq1.below hv5
  replace hq2 := hq2.below hv5
  replace hq3 := hq3.below hv5
  replace hq4 := hq4.below hv5
  replace hW := hW.trans (hv5.mono hW.size)
  clear hv5
  have hr2n := nx_pay_le L a2 600 (by have := HL.out; omega)
  rw [HR.out] at hr2n
  dsimp only at hr2n
  go_wp2_with fail
  refine (same_any _ _ _ _ _ _ _ _ _ hq1 hq2 (by omega)).mono ?_
  rintro e V6 ⟨rfl, d1, rfl⟩
  rw [decide_eq_true rfl]
  have hs2n := nx_pay_le _ 0 1000 (by rw [HYN.out]; exact hYn)
  rw [HS.out] at hs2n
  dsimp only at hs2n
  go_wp2_with fail
  refine (same_any _ _ _ _ _ _ _ _ _ (hq3.drewN d1) (hq4.drewN d1) (by omega)).mono ?_
  rintro e V7 ⟨rfl, d2, rfl⟩
  rw [decide_eq_true rfl]
  clear HS HR HYN hq1 hq2 hq3 hq4
  go_wp2
  go_ret
  exact ⟨rfl, by first | exact below_drewN hW _ | exact below_drewN (below_drewN hW d1) d2⟩

set_option maxRecDepth 100000 in
theorem lifted (os : Os) (started : os.Started) (H : Type) (enc : TypeId × Value → H) :
    ReturnsInHanded {} Try.checked os 9 .any (Rows.frameDecodesSpec.pre6 enc Try.prog Try.f9 Rows.frameDecodesRow.domain false) (Rows.frameDecodesSpec.post enc Try.prog Try.f9 false true false false) := by
  refine returnsInHanded_of_change_sized (C := Try.checked) own started (by kernel_rfl) Try.func9
    (ChangeSpec.witness6 (enc := enc) (C := Try.checked) false ⟨#[], #[.slice none 0 0, .slice none 0 0, .int .i64 0, .int .u8 0, .int .u8 0], []⟩ 8 (by kernel_rfl) (by kernel_rfl) (by kernel_rfl) (by kernel_rfl)) ?_
  intro W base args ds gs before hval0 hW hcnd hsz0 _
  have hsz : (DataW.weightsEach Try.prog (Try.f9.params.toList ++ Rows.frameDecodesSpec.plain.varTypes Try.prog) (ds ++ gs)).all (· ≤ reachBytes) = true := hsz0
  clear hsz0
  have hval : ∀ (j : Nat) t v, Try.f9.params[j]? = some t → args[j]? = some v → Value.okWide Try.prog W .any base t v := hval0
  have hW' := hW
  obtain ⟨p, q, hA0, hV, rfl, hfz, hnd⟩ := hW
  have hA : DataW.TrodAll enc Try.prog W 0 (fun _ => true) true Try.f9.params.toList args.toList ds p := hA0
  rw [Try.params9] at hA hval hsz
  obtain ⟨v0, vs0, d0, ds0, p0, q0, hargs, rfl, rfl, h0, r0⟩ := trodAll_cons hA
  obtain ⟨v1, vs1, d1, ds1, p1, q1, rfl, rfl, rfl, h1, r1⟩ := trodAll_cons r0
  obtain ⟨v2, vs2, d2, ds2, p2, q2, rfl, rfl, rfl, h2, r2⟩ := trodAll_cons r1
  obtain ⟨v3, vs3, d3, ds3, p3, q3, rfl, rfl, rfl, h3, r3⟩ := trodAll_cons r2
  obtain ⟨v4, vs4, d4, ds4, p4, q4, rfl, rfl, rfl, h4, r4⟩ := trodAll_cons r3
  obtain ⟨rfl, rfl, rfl⟩ := trodAll_nil r4
  obtain rfl : args = #[v0, v1, v2, v3, v4] := by cases args; simp_all
  obtain ⟨rfl, rfl⟩ := trodVars_none hV
  obtain ⟨a0, len0, cap0, rfl⟩ := okWide_slice Try.underlying22 (hval 0 22 v0 rfl rfl)
  have k0 := h0
  have lt0 : ∀ x ∈ p0, x.block < W.heap.size := by obtain ⟨m, hm⟩ := k0; exact DataW.trod_lt m _ _ _ hm
  obtain ⟨z0, w0, hr0⟩ : ∃ zs, IsRow .u8 W a0 len0 cap0 zs ∧ cap0 ≤ 140737488351232 := by
    obtain ⟨fuel, hf⟩ := h0
    rcases open_ints Try.underlying22 Try.underlying5 (by kernel_rfl) hf with ⟨hcs, _⟩ | ⟨x, l, c, zs, hcs, _, hl, hm, hz, hx, hcell, hwz⟩
    · simp [Value.cells] at hcs
      obtain ⟨rfl, rfl, rfl⟩ := hcs
      exact ⟨[], .inl ⟨rfl, rfl, rfl, rfl⟩, by omega⟩
    · simp [Value.cells] at hcs
      obtain ⟨rfl, rfl, rfl⟩ := hcs
      have hd := (Prod.mk.inj hx).1
      have hs := sized_slice hsz (j := 0) (t := 22) (e := 5) rfl (by rw [hd]; rfl) Try.underlying22
      rw [byte5] at hs
      have hz2 : zs.length = cap0 := by simpa using hz
      simp only [lits, List.length_map, List.length_take, List.length_drop, reachBytes] at hs
      exact ⟨zs, .inr ⟨_, rfl, hl, hm, hz2, hcell, hwz⟩, by omega⟩
  obtain ⟨a1, len1, cap1, rfl⟩ := okWide_slice Try.underlying22 (hval 1 22 v1 rfl rfl)
  have k1 := h1
  have lt1 : ∀ x ∈ p1, x.block < W.heap.size := by obtain ⟨m, hm⟩ := k1; exact DataW.trod_lt m _ _ _ hm
  obtain ⟨z1, w1, hr1⟩ : ∃ zs, IsRow .u8 W a1 len1 cap1 zs ∧ cap1 ≤ 140737488351232 := by
    obtain ⟨fuel, hf⟩ := h1
    rcases open_ints Try.underlying22 Try.underlying5 (by kernel_rfl) hf with ⟨hcs, _⟩ | ⟨x, l, c, zs, hcs, _, hl, hm, hz, hx, hcell, hwz⟩
    · simp [Value.cells] at hcs
      obtain ⟨rfl, rfl, rfl⟩ := hcs
      exact ⟨[], .inl ⟨rfl, rfl, rfl, rfl⟩, by omega⟩
    · simp [Value.cells] at hcs
      obtain ⟨rfl, rfl, rfl⟩ := hcs
      have hd := (Prod.mk.inj hx).1
      have hs := sized_slice hsz (j := 1) (t := 22) (e := 5) rfl (by rw [hd]; rfl) Try.underlying22
      rw [byte5] at hs
      have hz2 : zs.length = cap1 := by simpa using hz
      simp only [lits, List.length_map, List.length_take, List.length_drop, reachBytes] at hs
      exact ⟨zs, .inr ⟨_, rfl, hl, hm, hz2, hcell, hwz⟩, by omega⟩
  obtain ⟨a2, rfl, rfl, rfl, w2⟩ := open_int Try.underlying3 (hval 2 3 v2 rfl rfl) h2
  obtain ⟨a3, rfl, rfl, rfl, w3⟩ := open_int Try.underlying5 (hval 3 5 v3 rfl rfl) h3
  obtain ⟨a4, rfl, rfl, rfl, w4⟩ := open_int Try.underlying5 (hval 4 5 v4 rfl rfl) h4
  clear hA0 hval0
  refine (walk a0 len0 cap0 z0 a1 len1 cap1 z1 a2 a3 a4 W w0 w1 w2 w3 w4 hr0 hr1).mono fun e W' ⟨he, bel⟩ => ?_
  subst he
  exact ⟨_, rfl, _, _, _, [], _, [], hW', trodAll_mk1 (shut_bool Try.underlying4 _), (trodAll_cons_mk (Below.trod laidOut (by kernel_rfl) (of_decide_eq_true (by kernel_rfl)) k0 bel lt0) (trodAll_cons_mk (Below.trod laidOut (by kernel_rfl) (of_decide_eq_true (by kernel_rfl)) k1 bel lt1) (trodAll_cons_mk (shut_int Try.underlying3 w2) (trodAll_cons_mk (shut_int Try.underlying5 w3) (trodAll_cons_mk (shut_int Try.underlying5 w4) trodAll_mk0))))), rfl, bel.frame _, fun h => by cases h⟩

theorem over : Rows.frameDecodesRow.holds Try.pinned (OpenSpec.ofChange Rows.frameDecodesSpec) :=
  OpenClaim.holds_of_wide 9 Try.f9 rfl rfl rfl rfl rfl rfl rfl ⟨rfl, rfl, rfl, rfl, rfl⟩ rfl rfl rfl rfl rfl (by kernel_rfl) Try.func9 (by kernel_rfl)
    (of_decide_eq_true (by kernel_rfl)) (by unfold Func.isWrapper; first | (rw [if_pos (by decide +kernel)]; kernel_rfl) | (rw [if_neg (by decide +kernel)]; exact ⟨rfl, rfl⟩))
    (fun os started H enc _ => lifted os started H enc)

theorem proved : Rows.FrameDecodesSaid := over
end Go.Proofs.Ytdaenfhedepiaaa.frameDecodes
