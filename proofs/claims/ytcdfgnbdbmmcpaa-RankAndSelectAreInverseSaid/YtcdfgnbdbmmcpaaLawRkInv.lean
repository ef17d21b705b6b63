/- RankAndSelectAreInverse over contracts. -/
import Derived.Test.YtcdfgnbdbmmcpaaRkCon
import Derived.Test.YtcdfgnbdbmmcpaaNear
set_option linter.unusedVariables false
set_option linter.unusedSimpArgs false
namespace Go.Proofs.Ytcdfgnbdbmmcpaa
open Go.RowKit
def InvRel (I : AImpl) (B : Nat) (w0 : World) (p : Value) (A : Ar) (rs : List Row) (L : Nat) (i : Value) (wr : World) : Prop :=
  ∃ (j : Nat) (rd : Int), i = .int .i64 (j : Int) ∧ j ≤ L ∧ 0 ≤ rd ∧ rd ≤ 2000 * (j : Int) ∧ Scn I B w0 wr p A rd rs []
set_option maxHeartbeats 8000000 in
set_option maxRecDepth 100000 in
theorem inverse_walk (I : AImpl) (K : RkImpl I) (KL : LkImpl I) {a : Option Addr} {n c : Nat} {raw : List En} {tilt : Int} {key : Int} {w : World} (hE : EnsAt w a raw) (hn : raw.length = n) (hnm : n ≤ 9223372036854775807) (ht0 : 0 ≤ tilt) (ht1 : tilt < 18446744073709551616) (hkey : i64R key) :
    Calls Try.prog 4 #[.slice a n c, .int .u64 tilt, .int .i64 key] w (Calm w (.bool true)) := by
  have HK := Lib.hid K
  have HKL := Lib.hid KL
  have HKEY := Lib.hid hkey
  clear K KL hkey
  have HWF : Hid (∀ y ∈ listE raw 120, i64R y.key ∧ i64R y.val) := fun y hy => hE.wf y (listE_mem hy)
  have HL := Lib.hid (list_any (c := c) (k := 120) hE hn hnm (by decide))
  have HT : Hid (0 ≤ tilt ∧ tilt < 18446744073709551616) := ⟨ht0, ht1⟩
  have HUP := Lib.hid (listE_up raw 120)
  have HLEN := Lib.hid (listE_len raw 120)
  clear hE hn hnm ht0 ht1
  go_enter Try.func4, Try.ntmps4
  go_wp2_with fail
  refine HL.out.mono ?_
  rintro e w1 ⟨a1, c1, rfl, hr1, hb1⟩
  have HR1 := Lib.hid hr1
  have HB1 := Lib.hid hb1
  clear hr1 hb1 HL
  generalize listE raw 120 = l at HUP HLEN HR1 HWF ⊢
  obtain ⟨L, hL⟩ : ∃ L, l.length = L := ⟨_, rfl⟩
  rw [hL] at HLEN HR1 ⊢
  have HLL := Lib.hid hL
  have hLi : (L : Int) ≤ 120 := by have := HLEN.out; omega
  have HE1 := Lib.hid (ens_row hL HR1.out HWF.out)
  have HC1 := Lib.hid (row_caps HR1.out)
  clear hL
  go_wp2_with fail
  refine (grow_any I (sp := 1) (m := L + 1) HE1.out HLL.out HC1.out.1 HC1.out.2 rfl (by omega) (by have := HLEN.out; omega) HT.out.1 HT.out.2).mono ?_
  rintro e w2 ⟨p, A, ri, t, F, rfl, hg⟩
  obtain ⟨pa, rfl⟩ := I.ptr hg.is
  have HTR := Lib.hid (hg.planted.tree HUP.out)
  have HPL := Lib.hid hg.planted
  have HS2 := Lib.hid (Scn.init hg HB1.out HR1.out)
  clear hg HR1 HE1 HC1 HT
  go_wp2_with fail
  refine (awake10_any I HK.out w2).mono ?_
  rintro e w3 ⟨rfl, hb3⟩
  have HS3 := Lib.hid (HS2.out.calm hb3)
  clear hb3 HS2
  have HMOST : Hid (mostJ L ≤ 492 ∧ 0 ≤ mostJ L) := mostJ_le (by have := HLEN.out; omega)
  have HMOSI : Hid (mostI L ≤ 1000 ∧ 0 ≤ mostI L) := by
    have h1 := (xh_spec (n := L) (by have := HLEN.out; omega)).2.1
    show _ ∧ _
    unfold mostI
    omega
  generalize hrs : [(⟨41, 2, .slice a1 L c1, L, ensV l⟩ : Row)] = rs at HS3
  have HR0 : Hid (InvRel I w.heap.size w (.pointer (some pa)) A rs L (.int .i64 0) w3) := ⟨0, 0, rfl, Nat.zero_le _, by decide, by decide, HS3.out⟩
  clear hrs HS3
  go_wp2_with fail
  go_loopw [11] (fun i wr => InvRel I w.heap.size w (.pointer (some pa)) A rs L i wr) (fun i _ => L - (intOf i).toNat)
  case atStart => exact HR0.out
  case round =>
    clear HR0
    obtain ⟨j, rd, rfl, hj, hrd0, hrd1, hS⟩ := hrel
    have HS := Lib.hid hS
    have HRD : Hid (0 ≤ rd ∧ rd ≤ 2000 * (j : Int) ∧ j ≤ L) := ⟨hrd0, hrd1, hj⟩
    have hj0 : (0 : Int) ≤ (j : Int) := by omega
    clear hS hj hrd0 hrd1
    by_cases hlt : j < L
    · have hji : (j : Int) < (L : Int) := by omega
      obtain ⟨e, he⟩ : ∃ e, l[j]? = some e := ⟨_, List.getElem?_eq_getElem (by have := HLL.out; omega)⟩
      have HSE : Hid (selE l (j : Int) = some e) := (selE_nat l j).trans he
      have HRK : Hid (rankE l e.key = j) := rank_of HUP.out he
      have HEW := Lib.hid (HWF.out e (List.mem_of_getElem? he))
      have HLT := Lib.hid hlt
      have hne : ((j : Int) != (j : Int)) = false := by simp
      clear he hlt
      go_wp2_with fail
      refine (HS.out.call fun F hI => HK.out.select (j : Int) _ hI HTR.out HRD.out.1 (by have := HRD.out; have := HLEN.out; omega) ⟨by omega, by have := HLEN.out; have := HLT.out; omega⟩).mono ?_
      rintro e4 w4 ⟨rfl, rd4, hs4, hr0, hr1⟩
      rw [HLL.out] at hr1
      have HRD4 : Hid (0 ≤ rd4 ∧ rd4 ≤ 2000 * (j : Int) + 500) := by have h1 := HRD.out; have h2 := HMOST.out; exact ⟨by omega, by omega⟩
      rw [HSE.out]
      unfold enR enA
      have hs5 := hs4.box #[.int .i64 e.key, .int .i64 e.val] 41
      clear hs4 hr0 hr1
      go_upto_region 9 with fail
      generalize w4.alloc (Obj.cells #[.int .i64 e.key, .int .i64 e.val] 41) = w5 at hs5 ⊢
      generalize w4.heap.size = g at hs5 ⊢
      obtain ⟨x0, x1, f0, f1⟩ := hs5.two (g := g) (x := e.key) (y := e.val) (t := 41) (by simp)
      have HS5 := Lib.hid hs5
      clear hs5
      go_wp2_with fail
      refine (HS5.out.call fun F hI => HK.out.rank e.key _ hI HTR.out HRD4.out.1 (by have := HRD4.out; have := HLEN.out; have := HLT.out; omega) HEW.out.1).mono ?_
      rintro e6 w6 ⟨rfl, rd6, hs6, hr0, hr1⟩
      rw [HLL.out] at hr1
      rw [HRK.out]
      have HS6 : Hid (Scn I w.heap.size w w6 (.pointer (some pa)) A rd6 rs []) := hs6.less (List.Sublist.refl _) (List.nil_sublist _)
      have HRD6 : Hid (0 ≤ rd6 ∧ rd6 ≤ 2000 * ((j + 1 : Nat) : Int)) := by have h1 := HRD4.out; have h2 := HMOST.out; exact ⟨by omega, by omega⟩
      clear hs6 hr0 hr1 x0 x1 f0 f1
      go_wp2_with fail
      exact ⟨⟨j + 1, rd6, by go_num, by have := HLT.out; omega, HRD6.out.1, HRD6.out.2, HS6.out⟩, by have := HLT.out; simp [intOf]; omega⟩
    · have hji : ¬ (j : Int) < (L : Int) := by omega
      have HRD3 : Hid (0 ≤ rd ∧ rd ≤ 1000000) := by have h1 := HRD.out; have h2 := HLEN.out; exact ⟨h1.1, by omega⟩
      have hrk := rankE_le l key
      rw [HLL.out] at hrk
      obtain ⟨R, hR⟩ : ∃ R, rankE l key = R := ⟨_, rfl⟩
      have HRR : Hid (i64R (R : Int)) := ⟨by omega, by have := HLEN.out; omega⟩
      have HR := Lib.hid hR
      obtain ⟨X, hX⟩ : ∃ X, (ceilE l key).elim (0 : Int) (·.key) = X := ⟨_, rfl⟩
      obtain ⟨Y, hY⟩ : ∃ Y, (ceilE l key).elim (0 : Int) (·.val) = Y := ⟨_, rfl⟩
      obtain ⟨Z, hZ⟩ : ∃ Z, (ceilE l key).isSome = Z := ⟨_, rfl⟩
      have HSE : Hid (enA (selE l (R : Int)) = #[.int .i64 X, .int .i64 Y] ∧ (selE l (R : Int)).isSome = Z) := by
        have h : selE l (R : Int) = ceilE l key := by rw [← hR]; rfl
        rw [h]; unfold enA; rw [hX, hY]; exact ⟨rfl, hZ⟩
      have HCE : Hid (enA (ceilE l key) = #[.int .i64 X, .int .i64 Y] ∧ (ceilE l key).isSome = Z) := by
        unfold enA; rw [hX, hY]; exact ⟨rfl, hZ⟩
      have hxx : (X == X) = true := by simp
      have hyy : (Y == Y) = true := by simp
      have hzz : (Z == Z) = true := by simp
      clear hlt hrk hR hX hY hZ HRD
      go_wp2_with fail
      refine (HS.out.call fun F hI => HK.out.rank key _ hI HTR.out HRD3.out.1 (by have := HRD3.out; omega) HKEY.out).mono ?_
      rintro e4 w4 ⟨rfl, rd4, hs4, hr0, hr1⟩
      rw [HLL.out] at hr1
      rw [HR.out]
      have HS4 := Lib.hid hs4
      have HRD4 : Hid (0 ≤ rd4 ∧ rd4 ≤ 1001000) := by have h1 := HRD3.out; have h2 := HMOST.out; exact ⟨by omega, by omega⟩
      clear hs4 hr0 hr1 HS
      go_wp2_with fail
      refine (HS4.out.call fun F hI => HK.out.select (R : Int) _ hI HTR.out HRD4.out.1 (by have := HRD4.out; omega) HRR.out).mono ?_
      rintro e5 w5 ⟨rfl, rd5, hs5, hr0, hr1⟩
      rw [HLL.out] at hr1
      have HRD5 : Hid (0 ≤ rd5 ∧ rd5 ≤ 1002000) := by have h1 := HRD4.out; have h2 := HMOST.out; exact ⟨by omega, by omega⟩
      unfold enR
      rw [HSE.out.1, HSE.out.2]
      have hs6 := hs5.box #[.int .i64 X, .int .i64 Y] 41
      clear hs5 hr0 hr1 HS4
      go_upto_region 12 with fail
      generalize w5.alloc (Obj.cells #[.int .i64 X, .int .i64 Y] 41) = w6 at hs6 ⊢
      generalize w5.heap.size = gx at hs6 ⊢
      have HS6 := Lib.hid hs6
      clear hs6
      go_wp2_with fail
      refine (HS6.out.call fun F hI => HKL.out.ceiling key _ hI HTR.out HRD5.out.1 (by have := HRD5.out; omega) HKEY.out).mono ?_
      rintro e7 w7 ⟨rfl, rd7, hs7, hr0, hr1⟩
      unfold enR
      rw [HCE.out.1, HCE.out.2]
      have hs8 := hs7.box #[.int .i64 X, .int .i64 Y] 41
      clear hs7 hr0 hr1 HS6
      go_upto_region 13 with fail
      generalize w7.alloc (Obj.cells #[.int .i64 X, .int .i64 Y] 41) = w8 at hs8 ⊢
      generalize w7.heap.size = gy at hs8 ⊢
      obtain ⟨x0, x1, -, -⟩ := hs8.two (g := gx) (x := X) (y := Y) (t := 41) (by simp)
      obtain ⟨y0, y1, -, -⟩ := hs8.two (g := gy) (x := X) (y := Y) (t := 41) (by simp)
      have HB8 := Lib.hid hs8.below
      clear hs8
      go_wp2_with fail
      go_ret
      exact ⟨rfl, HB8.out⟩
end Go.Proofs.Ytcdfgnbdbmmcpaa
