/- ShapeMinimalTrees over contracts. -/
import Derived.Test.YticfihklfnjeoaaShSlim
import Derived.Test.YticfihklfnjeoaaShMeas
set_option linter.unusedVariables false
set_option linter.unusedSimpArgs false
namespace Go.Proofs.Yticfihklfnjeoaa
open Go.RowKit
set_option maxHeartbeats 4000000 in
set_option maxRecDepth 100000 in
theorem minimal_walk (I : AImpl) (N : ShNum) (K : ShMeas I) (x : Int) (w : World) (hx0 : -9223372036854775808 ≤ x) (hx1 : x ≤ 9223372036854775807) :
    Calls Try.prog 9 #[.int .i64 x] w (Calm w (.bool true)) := by
  have HK := Lib.hid K
  have HN := Lib.hid N
  have m1 := Int.emod_nonneg x (b := 15) (by decide)
  have m2 := Int.emod_lt_of_pos x (b := 15) (by decide)
  obtain ⟨h, hh⟩ := Int.eq_ofNat_of_zero_le m1
  have hh14 : h ≤ 14 := by omega
  have HMOD : Hid (∀ wx, Calls Try.prog 16 #[.int .i64 x, .int .i64 15] wx (fun e w' => e = .returned (.int .i64 (h : Int)) ∧ w' = wx)) := fun wx => (mod_any x 15 wx hx0 hx1 (by decide) (by decide)).mono fun e w' ⟨h1, h2⟩ => ⟨by rw [h1, hh], h2.symm⟩
  have hwt : wt h ≤ 115 := Nat.le_trans (wt_mono hh14) (by decide)
  have hwp := wt_pos h
  obtain ⟨M, hM⟩ : ∃ M, wt h - 1 = M := ⟨_, rfl⟩
  have HMI : Hid (mkI (h : Int) = (M : Int)) := by
    show mkI (h : Int) = _
    unfold mkI
    rw [if_pos ⟨by omega, by omega⟩, Int.toNat_natCast]; omega
  have HNUM : Hid (h ≤ 14 ∧ wt h = M + 1 ∧ M + 1 ≤ 115) := ⟨hh14, by omega, by omega⟩
  have hMi : (M : Int) ≤ 115 := by omega
  have hhi : (h : Int) ≤ 14 := by omega
  have hw1 : IntKind.i64.wrap ((M : Int) + 1) = ((M + 1 : Nat) : Int) := by rw [IntKind.wrap_i64]; omega
  clear K N m1 m2 hh hh14 hwt hwp hM hx0 hx1
  go_enter Try.func9, Try.ntmps9
  go_wp2_with fail
  refine (HMOD.out w).mono ?_
  rintro e w1 ⟨rfl, rfl⟩
  clear HMOD
  go_wp2_with fail
  refine (refMinKeys_any (h : Int) w1 (by omega) (by omega)).mono ?_
  rintro e w2 ⟨rfl, hb2⟩
  rw [HMI.out]
  have HB2 := Lib.hid hb2
  clear hb2
  go_wp2_with fail
  refine (I.new_ok (M + 1) w2 (by omega) (by have := HNUM.out; omega)).mono ?_
  rintro e w3 ⟨p, F, rfl, hI, hF, hb3⟩
  obtain ⟨pa, rfl⟩ := I.ptr hI
  have HI := Lib.hid hI
  have HFF := Lib.hid hF
  have HB3 : Hid (Below w1.heap.size w1 w3) := HB2.out.trans (hb3.mono HB2.out.size)
  have HB23 := Lib.hid hb3
  clear hI hF hb3
  go_wp2_with fail
  refine (awake7_any HN.out w3).mono ?_
  rintro e w4 ⟨rfl, hb4⟩
  have HI4 := Lib.hid (I.below HI.out hb4)
  have HB4 : Hid (Below w1.heap.size w1 w4) := HB3.out.trans (hb4.mono HB3.out.size)
  have HF4 : Hid (∀ k, F k → w1.heap.size ≤ k) := fun k hk => Nat.le_trans HB2.out.size (HFF.out k hk)
  clear hb4 HI HB3 HB2 HB23 HFF
  go_wp2_with fail
  refine (slim_any I h HNUM.out.1 (.pointer (some pa)) (Ar.init (M + 1)) 0 F (fun _ => 0) 0 w4 HI4.out (Ar.init_inv (by omega) (by have := HNUM.out; omega)) (Ar.init_agg _) (fun j => by have := HNUM.out; show 0 + _ ≤ _; omega) (by have := HNUM.out; show _ ≤ (St.init (M + 1)).free.length; simp [St.init]; omega) (by decide) (by decide)).mono ?_
  rintro e w5 ⟨A, i, t, F', hP, hht, rfl, hal, hI5⟩
  have hML : (seqE 0 (wt h - 1)).length = M := by rw [seqE_len]; have := HNUM.out; omega
  have HM5 : Hid (MS I w1.heap.size w1 w5 (.pointer (some pa)) A 0 (fun _ => False)) := ⟨⟨0, F', hI5, by omega, by omega, hal.from HB4.out.size HF4.out, fun k hk => hk.elim⟩, hal.below HB4.out HB4.out.size HF4.out, Nat.le_trans HB4.out.size hal.size⟩
  have herr := hP.err (seqE_up _ _)
  have HS : Hid (shK A t = (M : Int) ∧ shH A t = (h : Int) ∧ errT A t = 0) := ⟨by unfold shK; rw [if_pos herr, hP.size, hML], by unfold shH; rw [if_pos herr, hht], herr⟩
  have HP := Lib.hid hP
  have hi4 : i < 4294967296 := by
    rcases hP.sub.idx with h | h
    · omega
    · have := hP.inv.ok.on i h; have := hP.inv.ok.cap2; omega
  have HI5 := Lib.hid hi4
  clear hP hht hal hI5 hML herr hi4 HI4 HB4 HF4
  go_wp2_with fail
  refine (ms_measure HK.out HM5.out (by decide) HP.out.inv HP.out.agg HI5.out).mono ?_
  rintro e w6 ⟨hM6, -, -, he6⟩
  have e4 := he6 t HP.out.sub
  rw [HS.out.1, HS.out.2.1, HS.out.2.2] at e4
  subst e4
  have HM6 := Lib.hid hM6
  clear hM6 he6 HM5
  go_upto_region 8 with fail
  have hB := HM6.out.box (M : Int) (h : Int)
  generalize w6.alloc (Obj.cells #[Value.int .i64 (M : Int), .int .i64 (h : Int)] 42) = w7 at hB ⊢
  generalize w6.heap.size = g at hB ⊢
  obtain ⟨d0, d1⟩ := two_of hB.box
  have hmm : ((M : Int) == (M : Int)) = true := by simp
  have hhh : ((h : Int) == (h : Int)) = true := by simp
  have HBB := Lib.hid hB.ms.below
  clear hB HM6
  go_wp2_with fail
  go_ret
  exact ⟨rfl, HBB.out⟩
end Go.Proofs.Yticfihklfnjeoaa
